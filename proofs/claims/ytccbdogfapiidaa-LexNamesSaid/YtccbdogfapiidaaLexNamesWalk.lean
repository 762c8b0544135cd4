/-
  The walk of layer 2's statement LexNames: it returns true whatever the strings and the byte are. No conditions.
-/
import Derived.Test.YtccbdogfapiidaaLexAgainWalk
import Derived.Test.YtccbdogfapiidaaLexPure6
import Derived.Test.YtccbdogfapiidaaLawStrs
import Derived.Deep.Cut
namespace Go.Proofs.Ytccbdogfapiidaa
open Go.RowKit

theorem add_block (a : Addr) (n : Nat) : (a.add n).block = a.block := by unfold Addr.add; split <;> rfl
def bytesL (xs : List ByteArray) : List (List UInt8) := xs.map fun x => x.data.toList
theorem rowC_next (C : List UInt8) (xs : List ByteArray) (k : Nat) (h : k < xs.length) : W.rowC C (bytesL (xs.take (k + 1))) = W.rowC C (bytesL (xs.take k)) ++ (W.quoteL (xs.getD k ByteArray.empty).data.toList ++ C) := by
  have e : xs.getD k ByteArray.empty = xs[k] := by simp [List.getD, List.getElem?_eq_getElem h]
  rw [List.take_succ_eq_append_getElem h, e]
  unfold bytesL W.rowC
  rw [List.map_append, List.flatMap_append]
  congr 1
  simp
theorem all40_next {xs : List ByteArray} {k : Nat} (h : k < xs.length) (h1 : ∀ x ∈ xs.take k, x.size ≤ 40) (h2 : (xs.getD k ByteArray.empty).size ≤ 40) : ∀ x ∈ xs.take (k + 1), x.size ≤ 40 := by
  rw [List.take_succ_eq_append_getElem h]
  intro x hx
  rcases List.mem_append.1 hx with hx | hx
  · exact h1 x hx
  · simp at hx; subst hx; simpa [List.getD, List.getElem?_eq_getElem h] using h2
theorem bytes40 {xs : List ByteArray} (h : ∀ x ∈ xs, x.size ≤ 40) : ∀ y ∈ bytesL xs, y.length ≤ 40 := by
  intro y hy
  simp only [bytesL, List.mem_map] at hy
  obtain ⟨x, hx, rfl⟩ := hy
  rw [← Lib.size_eq]; exact h x hx
theorem mk_list (C : ByteArray) : (⟨C.data.toList.toArray⟩ : ByteArray) = C := by simp

/-- The sign that the byte picks. -/
theorem sign_cases (a : Int) : ∃ C : ByteArray, W.SignOk C.data.toList ∧ ((a % 7 = 0 ∧ C = ⟨#[32]⟩) ∨ (a % 7 = 1 ∧ C = ⟨#[123]⟩) ∨ (a % 7 = 2 ∧ C = ⟨#[125]⟩) ∨ (a % 7 = 3 ∧ C = ⟨#[59]⟩) ∨ (a % 7 = 4 ∧ C = ⟨#[10]⟩) ∨ (a % 7 = 5 ∧ C = ⟨#[35, 120, 10]⟩) ∨ (a % 7 = 6 ∧ C = ⟨#[32, 47, 42, 32, 42, 47]⟩)) := by
  have h7 : a % 7 = 0 ∨ a % 7 = 1 ∨ a % 7 = 2 ∨ a % 7 = 3 ∨ a % 7 = 4 ∨ a % 7 = 5 ∨ a % 7 = 6 := by omega
  rcases h7 with h | h | h | h | h | h | h
  · exact ⟨_, W.ok_32, .inl ⟨h, rfl⟩⟩
  · exact ⟨_, W.ok_123, .inr (.inl ⟨h, rfl⟩)⟩
  · exact ⟨_, W.ok_125, .inr (.inr (.inl ⟨h, rfl⟩))⟩
  · exact ⟨_, W.ok_59, .inr (.inr (.inr (.inl ⟨h, rfl⟩)))⟩
  · exact ⟨_, W.ok_10, .inr (.inr (.inr (.inr (.inl ⟨h, rfl⟩))))⟩
  · exact ⟨_, W.ok_line, .inr (.inr (.inr (.inr (.inr (.inl ⟨h, rfl⟩)))))⟩
  · exact ⟨_, W.ok_star, .inr (.inr (.inr (.inr (.inr (.inr ⟨h, rfl⟩)))))⟩

set_option maxRecDepth 100000 in
set_option maxHeartbeats 8000000 in
theorem lexNames_walk (A : Option Addr) (n c : Nat) (xs : List ByteArray) (w : World) (hx : HoldsS w A n xs) (hn : n ≤ maxLen) (hws : ∀ x ∈ xs, x.size ≤ maxLen) (a : Int) (wa : (Lit.int .u8 a).wf = true) :
    Calls Try.prog 8 #[.slice A n c, .int .u8 a] w (TrueS w) := by
  unfold maxLen at hn
  have ha : 0 ≤ a ∧ a ≤ 255 := by have := wa; simp [Lit.wf] at this; exact this
  obtain ⟨ha0, ha1⟩ := ha
  by_cases h20 : n ≤ 20
  · have b20 : decide ((20 : Int) < (n : Int)) = false := by simp; omega
    obtain ⟨C, hok, hcs⟩ := sign_cases a
    have HOK := Lib.hid hok
    have hC6 : C.data.toList.length ≤ 6 := hok.1
    rw [← Lib.size_eq] at hC6
    have HW := Lib.hid hws
    have HXX := Lib.hid hx
    clear hok hws hx
    rcases hcs with ⟨h7, hC⟩ | ⟨h7, hC⟩ | ⟨h7, hC⟩ | ⟨h7, hC⟩ | ⟨h7, hC⟩ | ⟨h7, hC⟩ | ⟨h7, hC⟩
    all_goals
      have HC := Lib.hid hC
      clear hC
      go_enter Try.func8, Try.ntmps8
      go_upto_region 4 with (fail)
      clear h7
      rw [← HC.out]
      generalize hw0 : w.alloc _ = w0
      have hb0 : Below w.heap.size w w0 := by rw [← hw0]; exact (Below.refl _ _).alloc (Nat.le_refl _) _
      have hsz0 := hb0.size
      clear hw0
      go_wp2
      go_loopg [6, 26] n (fun g s i wr => ∃ k : Nat, Hid (k + g = n) ∧ k ≤ n ∧ i = .int .i64 k ∧ s = .string ⟨(W.rowC C.data.toList (bytesL (xs.take k))).toArray⟩ ∧ Below w.heap.size w wr ∧ Hid (∀ x ∈ xs.take k, x.size ≤ 40))
      case atStart => exact ⟨0, Nat.zero_add _, Nat.zero_le _, rfl, by simp [W.rowC, bytesL], hb0, fun x hx => by simp at hx⟩
      case round =>
        obtain ⟨k, HG, hk, rfl, rfl, hb, H40⟩ := hrel
        have hsz := hb.size
        by_cases hlt : k < n
        · have hkx : k < xs.length := by rw [HXX.out.1]; exact hlt
          obtain ⟨ad, rfl, hc⟩ := (HXX.out.below hb).2 k hlt
          obtain ⟨x, hxk⟩ : ∃ x, xs.getD k ByteArray.empty = x := ⟨_, rfl⟩
          rw [hxk] at hc
          have HK := Lib.hid hxk
          have hmx : x ∈ xs := by rw [← hxk]; simp [List.getD, List.getElem?_eq_getElem hkx]
          have hxs := HW.out x hmx
          unfold maxLen at hxs
          clear hxk hmx
          by_cases h40 : x.size ≤ 40
          · obtain ⟨q, hq⟩ : ∃ q, W.quoteL x.data.toList = q := ⟨_, rfl⟩
            have HQ := Lib.hid hq
            obtain ⟨p, hp⟩ : ∃ p, W.rowC C.data.toList (bytesL (xs.take k)) = p := ⟨_, rfl⟩
            have HP := Lib.hid hp
            have hql := (W.quote_len x.data.toList).2
            rw [hq, ← Lib.size_eq] at hql
            have hpl := W.row_len C.data.toList (by rw [← Lib.size_eq]; exact hC6) (bytesL (xs.take k)) (bytes40 H40.out)
            have htl : (bytesL (xs.take k)).length ≤ k := by simp [bytesL]; omega
            rw [hp] at hpl
            rw [hp]
            clear hq hp
            have hpl2 : p.length ≤ 3360 := by omega
            have hql2 : q.length ≤ 162 := by omega
            go_wp2_with fail
            refine (quoteR_is x q _ (by omega) HQ.out).mono ?_
            rintro e w1 ⟨rfl, hb1⟩
            go_wp2
            go_roundg (n - (k + 1))
            case rel => exact ⟨k + 1, (by show _ = _; omega), by omega, by go_num, by rw [rowC_next _ xs k hkx, HK.out, HQ.out, HP.out]; exact congrArg Value.string (ByteArray.ext (by simp [ByteArray.data_append])), hb.trans (hb1.mono hsz), all40_next hkx H40.out (by rw [HK.out]; exact h40)⟩
            case measure => have := HG.out; omega
          · go_wp2_with fail
            refine (awake_any _).mono ?_
            rintro e w2 ⟨rfl, hb2⟩
            go_wp2
            go_ret
            exact ⟨rfl, bthen hb hb2⟩
        · have hxn : xs.take k = xs := List.take_of_length_le (by rw [HXX.out.1]; omega)
          rw [hxn] at H40 ⊢
          clear hxn HG
          obtain ⟨toks, htk, hnm, htl⟩ := W.lex_row C.data.toList HOK.out (bytesL xs) 0 (bytes40 H40.out)
          have hpl := W.row_len C.data.toList (by rw [← Lib.size_eq]; exact hC6) (bytesL xs) (bytes40 H40.out)
          have hbl : (bytesL xs).length = n := by simp [bytesL, HXX.out.1]
          obtain ⟨S, hS⟩ : ∃ S : ByteArray, (⟨(W.rowC C.data.toList (bytesL xs)).toArray⟩ : ByteArray) = S := ⟨_, rfl⟩
          have hSl : W.lexL 0 S.data.toList = .ok toks := by rw [← hS]; exact htk
          have hSs : S.size ≤ 1073741824 := by rw [← hS, byt_size]; omega
          have htn : toks.length ≤ 40 := by omega
          rw [hS]
          have HSL := Lib.hid hSl
          have HNM := Lib.hid hnm
          have HBL := Lib.hid hbl
          clear hSl hnm htk hpl hS hbl htl
          obtain ⟨wo, rfl⟩ : ∃ wo : World, wo = wr := ⟨_, rfl⟩
          go_wp2_with fail
          refine (all_view S toks _ hSs HSL.out).mono ?_
          rintro e w1 ⟨A1, cap1, rfl, hv1, hb1⟩
          have HV1 := Lib.hid hv1
          clear hv1
          go_wp2
          go_loopg [12, 51] toks.length (fun g t i wr => ∃ k j : Nat, Hid (k + g = toks.length) ∧ k ≤ toks.length ∧ j ≤ n ∧ i = .int .i64 k ∧ t = .int .i64 j ∧ Hid (W.names (toks.drop k) = (bytesL xs).drop j) ∧ Below w1.heap.size w1 wr)
          case atStart => exact ⟨0, 0, Nat.zero_add _, Nat.zero_le _, Nat.zero_le _, rfl, rfl, HNM.out, Below.refl _ _⟩
          case round =>
            obtain ⟨i, j, HG, hi, hj, rfl, rfl, HN, hbi⟩ := hrel
            by_cases hil : i < toks.length
            · obtain ⟨g1, rfl, hg1⟩ := HV1.out (by omega)
              obtain ⟨kd, pos, wd, bt, ht⟩ : ∃ kd pos wd bt, toks[i] = ⟨kd, pos, wd, bt⟩ := ⟨_, _, _, _, rfl⟩
              obtain ⟨c0, c1, c2, c3⟩ := HoldsT.cells (hg1.below hbi) hil ht
              by_cases hkd : kd = 1
              · subst hkd
                have hh := W.names_hit hil ht
                rw [HN.out] at hh
                obtain ⟨hjl, hjx, hnx⟩ := W.drop_hit hh
                have hjn : j < n := by rw [HBL.out] at hjl; exact hjl
                obtain ⟨ad, rfl, hc⟩ := (((HXX.out.below hb).below hb1).below hbi).2 j hjn
                have hjx2 : j < xs.length := by rw [HXX.out.1]; exact hjn
                have hxw : (xs.getD j ByteArray.empty) = ⟨wd.toArray⟩ := by
                  have e : (bytesL xs)[j] = xs[j].data.toList := by simp [bytesL]
                  rw [e] at hjx
                  rw [← hjx]
                  simp [List.getD, List.getElem?_eq_getElem hjx2]
                rw [hxw] at hc
                have hadz : ad.block < wr.heap.size := by have := World.block_lt_of_cell? wr _ hc; rwa [add_block] at this
                have bjn : ((j : Int) == (n : Int)) = false := by simp; omega
                have HNX := Lib.hid hnx
                clear hh hnx hxw ht hjx
                have hc2 : ∀ o, (wr.alloc o).cell? (ad.add j) = some (.string ⟨wd.toArray⟩) := fun o => (World.cell?_alloc_lt wr o _ (by rw [add_block]; exact hadz)).trans hc
                go_wp2
                go_big_region
                go_wp2
                go_roundg (toks.length - (i + 1))
                case rel => exact ⟨i + 1, j + 1, (by show _ = _; omega), by omega, by omega, by go_num, by go_num, HNX.out.symm, (hbi.alloc hbi.size _).drew⟩
                case measure => have := HG.out; omega
              · have bkd : (kd != 1) = true := bne_iff_ne.2 hkd
                have HNX := Lib.hid (W.names_skip hil ht hkd)
                clear ht hkd
                go_wp2
                go_roundg (toks.length - (i + 1))
                case rel => exact ⟨i + 1, j, (by show _ = _; omega), by omega, by omega, by go_num, rfl, HNX.out.symm.trans HN.out, hbi.alloc hbi.size _⟩
                case measure => have := HG.out; omega
            · have hjn : j = n := by
                have := HN.out
                rw [List.drop_of_length_le (by omega)] at this
                have h0 : (bytesL xs).drop j = [] := this.symm
                rw [List.drop_eq_nil_iff, HBL.out] at h0
                omega
              have bjn : ((j : Int) == (n : Int)) = true := by rw [hjn]; simp
              clear hjn
              go_wp2_with fail
              refine (awake_any _).mono ?_
              rintro e w2 ⟨rfl, hb2⟩
              go_wp2
              go_ret
              exact ⟨rfl, bthen (bthen (bthen hb hb1) hbi) hb2⟩
  · go_enter Try.func8, Try.ntmps8
    go_wp2_with fail
    refine (awake_any _).mono ?_
    rintro e w1 ⟨rfl, hb1⟩
    go_wp2
    go_ret
    exact ⟨rfl, hb1⟩
end Go.Proofs.Ytccbdogfapiidaa
