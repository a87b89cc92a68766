/-
  copselaw's small functions: pick, num, sameTexts.
-/
import Derived.Deep.QuietTactic
import Derived.BigQuiet
import Derived.Test.YtebfmcafmojlaaaGreatDoorT07
namespace Go.Proofs.YtebfmcafmojlaaaGreatDoor
open Go.RowKit
set_option linter.unusedSimpArgs false
set_option linter.unusedVariables false

def pickI (c : Int) (n : Int) : Int := (if c < 0 then -(c + 1) else c) % n

theorem pickI_lt (c n : Int) (hn : 0 < n) : 0 ≤ pickI c n ∧ pickI c n < n := by
  unfold pickI
  exact ⟨Int.emod_nonneg _ (by omega), Int.emod_lt_of_pos _ hn⟩

set_option maxHeartbeats 400000 in
theorem lawPick (c n : Int) (w : World) (h1 : -9223372036854775808 ≤ c) (h2 : c ≤ 9223372036854775807) (hn : 1 ≤ n) (hn2 : n ≤ 9223372036854775807) :
    Calls Tryz.prog 61 #[.int .i64 c, .int .i64 n] w fun e w' => e = .returned (.int .i64 (pickI c n)) ∧ w' = w := by
  by_cases h0 : c < 0
  · have e : pickI c n = (-(c + 1)) % n := by unfold pickI; rw [if_pos h0]
    rw [e]
    clear e
    go_enter Tryz.func61, Tryz.ntmps61
    go_wp2
    go_ret
    exact ⟨ret_int (by rw [← Int.neg_tmod]; exact Int.tmod_eq_emod_of_nonneg (by omega)), rfl⟩
  · have e : pickI c n = c % n := by unfold pickI; rw [if_neg h0]
    rw [e]
    clear e
    go_enter Tryz.func61, Tryz.ntmps61
    go_wp2
    go_ret
    exact ⟨rfl, rfl⟩

set_option maxHeartbeats 400000 in
theorem lawNum (e0 : Int) (w : World) :
    Calls Tryz.prog 103 #[.int .i64 e0] w fun e w' => e = .returned (.int .i64 e0) ∧ w' = w := by
  go_enter Tryz.func103, Tryz.ntmps103
  go_wp2
  go_ret
  exact ⟨rfl, rfl⟩

set_option maxHeartbeats 1000000 in
set_option maxRecDepth 10000 in
theorem lawSameTexts (l : List ByteArray) (av bv : Value) (w : World) (B : Nat) (ha : Reads B w av (l.map Value.string)) (hb : Reads B w bv (l.map Value.string)) (hl : l.length ≤ 1000000) :
    Calls Tryz.prog 117 #[av, bv] w fun e w' => e = .returned (.bool true) ∧ Below w.heap.size w w' := by
  have hform : ∀ v, Reads B w v (l.map Value.string) → ∃ ao cap, v = .slice ao l.length cap := by
    rintro v (⟨rfl, h⟩ | ⟨b, off, cap, rfl, _⟩)
    · have : l = [] := by simpa using h
      subst this
      exact ⟨_, _, rfl⟩
    · exact ⟨_, _, by rw [List.length_map]⟩
  rcases ha with ⟨rfl, h⟩ | ⟨ab, ao, acap, rfl, _, hac⟩
  · have : l = [] := by simpa using h
    subst this
    obtain ⟨bo, bcap, rfl⟩ := hform bv hb
    clear hform hb
    go_enter Tryz.func117, Tryz.ntmps117
    go_wp2
    go_loop [5] (fun i => i = .int .i64 0) (fun _ => 0)
    case atStart => rfl
    case round =>
      subst hrel
      go_wp2
      go_ret
      exact ⟨rfl, Below.refl _ _⟩
  · rcases hb with ⟨rfl, h⟩ | ⟨bb, bo, bcap, rfl, _, hbc⟩
    · have : l = [] := by simpa using h
      subst this
      clear hform
      go_enter Tryz.func117, Tryz.ntmps117
      go_wp2
      go_loop [5] (fun i => i = .int .i64 0) (fun _ => 0)
      case atStart => rfl
      case round =>
        subst hrel
        go_wp2
        go_ret
        exact ⟨rfl, Below.refl _ _⟩
    · simp only [List.length_map] at hac hbc ⊢
      clear hform
      go_enter Tryz.func117, Tryz.ntmps117
      go_wp2
      go_loopw [5] (fun i wr => ∃ k : Nat, k ≤ l.length ∧ i = .int .i64 k ∧ (∀ p, wr.cell? p = w.cell? p) ∧ Below w.heap.size w wr) (fun i _ => l.length - (intOf i).toNat)
      case atStart => exact ⟨0, Nat.zero_le _, rfl, fun _ => rfl, Below.refl _ _⟩
      case round =>
        obtain ⟨k, hk, rfl, hsame, hbl⟩ := hrel
        by_cases hkl : k < l.length
        · have h1 := (hsame ⟨ab, ao + k, none⟩).trans (hac k hkl)
          have h2 := (hsame ⟨bb, bo + k, none⟩).trans (hbc k hkl)
          obtain ⟨x, hx⟩ : ∃ x, (l.map Value.string).getD k undef = .string x := ⟨l.getD k ByteArray.empty, by simp [hkl]⟩
          rw [hx] at h1 h2
          have HS : Hid _ := hsame
          clear hac hbc hx hsame
          go_wp2
          go_quiet (fail)
          go_wp2
          go_roundw
          case rel => exact ⟨k + 1, by omega, by go_num, fun p => HS.out p, below_drewN hbl _⟩
          case measure => simp [intOf]; omega
        · clear hac hbc hsame
          go_wp2
          go_ret
          exact ⟨rfl, hbl⟩

end Go.Proofs.YtebfmcafmojlaaaGreatDoor

