/-
  graph.Ref's methods; slices.Index at ints.
-/
import Derived.WalkKit
import Derived.WalkSpells
import Derived.WalkLawsBesides
import Derived.Laws.BitsAllLaws
import Derived.Test.YtebfmcafmojlaaaGreatDoorProg
import Derived.Test.YtebfmcafmojlaaaGreatDoorT11
import Derived.Test.YtebfmcafmojlaaaGreatDoorT03
namespace Go.Proofs.YtebfmcafmojlaaaGreatDoor
open Go.RowKit
set_option linter.unusedSimpArgs false
set_option linter.unusedVariables false

def refMax : Nat := 4611686018427387904
def natv (n : Nat) : Value := .int .i64 (n : Int)

theorem retI {k : IntKind} {a b : Int} (h : a = b) : Ending.returned (.int k a) = .returned (.int k b) := by rw [h]
theorem retB {a b : Bool} (h : a = b) : Ending.returned (.bool a) = .returned (.bool b) := by rw [h]

theorem i64_and_nat (a b : Nat) (ha : a < 9223372036854775808) (hb : b < 9223372036854775808) : bits .and .i64 (a : Int) (b : Int) = ((a &&& b : Nat) : Int) := by
  have hx : a &&& b < 2 ^ 63 := Nat.and_lt_two_pow _ (by omega)
  show IntKind.i64.wrap ((BitVec.ofInt 64 (a : Int) &&& BitVec.ofInt 64 (b : Int)).toNat : Int) = _
  rw [BitVec.toNat_and, ofInt_u64 a (by omega), ofInt_u64 b (by omega), IntKind.wrap_i64]
  omega

theorem i64_xor_nat (a b : Nat) (ha : a < 9223372036854775808) (hb : b < 9223372036854775808) : bits .xor .i64 (a : Int) (b : Int) = ((a ^^^ b : Nat) : Int) := by
  have hx : a ^^^ b < 2 ^ 63 := Nat.xor_lt_two_pow (by omega) (by omega)
  show IntKind.i64.wrap ((BitVec.ofInt 64 (a : Int) ^^^ BitVec.ofInt 64 (b : Int)).toNat : Int) = _
  rw [BitVec.toNat_xor, ofInt_u64 a (by omega), ofInt_u64 b (by omega), IntKind.wrap_i64]
  omega

theorem xor_one (a : Nat) : a ^^^ 1 = if a % 2 = 0 then a + 1 else a - 1 := by
  have h1 : (a ^^^ 1) / 2 = a / 2 := by
    rw [Nat.xor_div_two]
    simp
  have h2 : (a ^^^ 1) % 2 = (a % 2 + 1) % 2 := by
    have := Nat.xor_mod_two_pow (a := a) (b := 1) (n := 1)
    rw [Nat.pow_one] at this
    rw [this]
    rcases Nat.mod_two_eq_zero_or_one a with h | h <;> rw [h] <;> rfl
  split <;> omega

theorem ref_not (f : Nat) (hf : f < refMax) : bits .xor .i64 (f : Int) 1 = ((tl f 1 : Nat) : Int) := by
  have := i64_xor_nat f 1 (by unfold refMax at hf; omega) (by omega)
  rw [show ((1 : Nat) : Int) = 1 from rfl] at this
  rw [this, xor_one]
  unfold tl
  simp

theorem ref_low (f : Nat) (hf : f < refMax) : bits .and .i64 (f : Int) 1 = ((f % 2 : Nat) : Int) := by
  have := i64_and_nat f 1 (by unfold refMax at hf; omega) (by omega)
  rw [show ((1 : Nat) : Int) = 1 from rfl] at this
  rw [this, Nat.and_one_is_mod]

theorem ref_turn (f b : Nat) (hf : f < refMax) : bits .xor .i64 (f : Int) ((b % 2 : Nat) : Int) = ((tl f b : Nat) : Int) := by
  have := i64_xor_nat f (b % 2) (by unfold refMax at hf; omega) (by omega)
  rw [this]
  unfold tl
  rcases Nat.mod_two_eq_zero_or_one b with h | h
  · simp [h]
  · rw [h, xor_one]; simp

theorem ref_plain (f : Nat) (hf : f < refMax) : bits .andNot .i64 (f : Int) 1 = ((f - f % 2 : Nat) : Int) := by
  have h1 : (BitVec.ofInt 64 1) = 1#64 := by decide
  show IntKind.i64.wrap ((BitVec.ofInt 64 (f : Int) &&& ~~~ (BitVec.ofInt 64 1)).toNat : Int) = _
  rw [h1]
  have h2 : (BitVec.ofInt 64 (f : Int) &&& ~~~ (1#64)).toNat = f - f % 2 := by
    rw [BitVec.toNat_and, ofInt_u64 f (by unfold refMax at hf; omega)]
    have h3 : (~~~ (1#64)).toNat = 18446744073709551614 := by decide
    rw [h3, nat_hi64_1]
    unfold refMax at hf
    omega
  rw [h2, IntKind.wrap_i64]
  unfold refMax at hf
  omega

theorem refNot_is (f : Nat) (hf : f < refMax) (w : World) : Calls Tryz.prog 59 #[.int .i64 f] w fun e w' => e = .returned (.int .i64 (tl f 1 : Nat)) ∧ w' = w := by
  have hx := ref_not f hf
  go_enter Tryz.func59, Tryz.ntmps59
  go_wp2
  go_ret
  exact ⟨rfl, rfl⟩

theorem refNumber_is (f : Nat) (w : World) : Calls Tryz.prog 149 #[.int .i64 f] w fun e w' => e = .returned (.int .i64 (f / 2 : Nat)) ∧ w' = w := by
  go_enter Tryz.func149, Tryz.ntmps149
  go_wp2
  go_ret
  exact ⟨by first | rfl | (apply retI; omega), rfl⟩

theorem refPlain_is (f : Nat) (hf : f < refMax) (w : World) : Calls Tryz.prog 133 #[.int .i64 f] w fun e w' => e = .returned (.int .i64 (f - f % 2 : Nat)) ∧ w' = w := by
  have hx := ref_plain f hf
  go_enter Tryz.func133, Tryz.ntmps133
  go_wp2
  go_ret
  exact ⟨rfl, rfl⟩

theorem refTurnedLike_is (f b : Nat) (hf : f < refMax) (hb : b < refMax) (w : World) : Calls Tryz.prog 134 #[.int .i64 f, .int .i64 b] w fun e w' => e = .returned (.int .i64 (tl f b : Nat)) ∧ w' = w := by
  have hx := ref_low b hb
  have hy := ref_turn f b hf
  rw [Int.natCast_emod] at hy
  simp only [Int.cast_ofNat_Int] at hy
  go_enter Tryz.func134, Tryz.ntmps134
  go_wp2
  go_ret
  exact ⟨rfl, rfl⟩

theorem refConstant_is (f : Nat) (w : World) : Calls Tryz.prog 140 #[.int .i64 f] w fun e w' => e = .returned (.bool (decide (f / 2 = 0))) ∧ w' = w := by
  have hx : (((f / 2 : Nat) : Int) == 0) = decide (f / 2 = 0) := by
    by_cases h : f / 2 = 0
    · rw [h]; rfl
    · have : ¬ ((f / 2 : Nat) : Int) = 0 := by omega
      simp only [h, decide_false, beq_eq_false_iff_ne, ne_eq]; exact this
  go_enter Tryz.func140, Tryz.ntmps140
  go_wp2_with (go_at_call 149; refine (refNumber_is f _).mono ?_; rintro e w1 ⟨rfl, hq⟩; replace hq := hq.symm; subst hq)
  go_ret
  exact ⟨by first | rfl | exact retB hx, rfl⟩

def idxI (l : List Nat) (v : Nat) : Int := if v ∈ l then (l.idxOf v : Nat) else -1

theorem idx_hit (l : List Nat) (f : Nat) (k : Nat) (h : k < l.length) (hn : ∀ j, j < k → l.getD j 0 ≠ f) (he : l.getD k 0 = f) : idxI l f = k := by
  have hg : l[k] = f := by rw [List.getD_eq_getElem?_getD, List.getElem?_eq_getElem h] at he; exact he
  have hm : f ∈ l := hg ▸ List.getElem_mem h
  unfold idxI
  rw [if_pos hm]
  have hi : l.idxOf f < l.length := List.idxOf_lt_length_of_mem hm
  have h1 := List.getElem_idxOf hi
  have h2 : ¬ l.idxOf f < k := fun hlt => hn _ hlt (by rw [List.getD_eq_getElem?_getD, List.getElem?_eq_getElem hi]; exact h1)
  have h3 : l.idxOf f ≤ k := by
    apply Nat.le_of_not_lt
    intro hlt
    have := List.not_of_lt_findIdx (p := (· == f)) (xs := l) (i := k) hlt
    simp [hg] at this
  have : l.idxOf f = k := by omega
  rw [this]

theorem idx_miss (l : List Nat) (f : Nat) (h : ∀ j, j < l.length → l.getD j 0 ≠ f) : idxI l f = -1 := by
  unfold idxI
  rw [if_neg]
  intro hm
  obtain ⟨j, hj, rfl⟩ := List.mem_iff_getElem.1 hm
  exact h j hj (by rw [List.getD_eq_getElem?_getD, List.getElem?_eq_getElem hj]; rfl)

theorem eq_nat (a b : Nat) : ((a : Int) == (b : Int)) = (a == b) := by
  rw [Bool.eq_iff_iff]
  simp only [beq_iff_eq]
  omega

set_option maxHeartbeats 400000 in
theorem slicesIndex_is (v : Value) (l : List Nat) (f : Nat) (w : World) {B : Nat} (hr : Reads B w v (l.map natv)) (hl : l.length < 1000000000) :
    Calls Tryz.prog 81 #[v, .int .i64 f] w fun e w' => e = .returned (.int .i64 (idxI l f)) ∧ w' = w := by
  rcases hr with ⟨rfl, h0⟩ | ⟨b, off, cap, rfl, hlt, hc⟩
  · have : l = [] := by simpa using h0
    subst this
    go_enter Tryz.func81, Tryz.ntmps81
    go_wp2
    go_loop [8] (fun i => i = .int .i64 0) (fun _ => 0)
    case atStart => rfl
    case round =>
      subst hrel
      go_wp2
      go_ret
      exact ⟨rfl, rfl⟩
  · simp only [List.length_map] at hc ⊢
    have hcx : ∀ i, i < l.length → w.cell? ⟨b, off + i, none⟩ = some (.int .i64 (l.getD i 0 : Nat)) := by
      intro i hi
      rw [hc i hi]
      simp [natv, hi]
    clear hc
    go_enter Tryz.func81, Tryz.ntmps81
    go_wp2
    go_loop [8] (fun i => ∃ k : Nat, k ≤ l.length ∧ i = .int .i64 k ∧ ∀ j, j < k → l.getD j 0 ≠ f) (fun i => l.length - (intOf i).toNat)
    case atStart => exact ⟨0, Nat.zero_le _, rfl, fun j hj => by omega⟩
    case round =>
      obtain ⟨k, hk, rfl, hn⟩ := hrel
      by_cases hlt : k < l.length
      · have hcell := hcx k hlt
        clear hcx
        have HN : Hid (∀ j, j < k → l.getD j 0 ≠ f) := hn
        clear hn
        obtain ⟨x, hx⟩ : ∃ x, x = l.getD k 0 := ⟨_, rfl⟩
        rw [← hx] at hcell
        have HX : Hid (x = l.getD k 0) := hx
        clear hx
        have heq := eq_nat f x
        by_cases he : x = f
        · have HE : Hid (x = f) := he
          have hb : (f == x) = true := by simp [he]
          rw [hb] at heq
          clear he hb
          go_wp2
          go_ret
          exact ⟨retI (idx_hit l f k hlt HN.out (HX.out.symm.trans HE.out)).symm, rfl⟩
        · have HE : Hid (x ≠ f) := he
          have hb : (f == x) = false := by simp; exact fun e => he e.symm
          rw [hb] at heq
          clear he hb
          go_wp2
          go_round
          case rel => exact ⟨k + 1, by omega, by go_num, fun j hj => by
            by_cases h : j < k
            · exact HN.out j h
            · have : j = k := by omega
              subst this; rw [← HX.out]; exact HE.out⟩
          case measure => simp [intOf]; omega
      · have HN : Hid (∀ j, j < k → l.getD j 0 ≠ f) := hn
        clear hn hcx
        go_wp2
        go_ret
        exact ⟨retI (idx_miss l f (fun j hj => HN.out j (by omega))).symm, rfl⟩

end Go.Proofs.YtebfmcafmojlaaaGreatDoor

