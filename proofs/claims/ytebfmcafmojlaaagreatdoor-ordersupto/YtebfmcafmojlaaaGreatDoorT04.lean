/-
  copseref's small functions over tables: bit, Var, Given, Hangs, written.
-/
import Derived.WalkKit
import Derived.WalkSpells
import Derived.WalkLawsBesides
import Derived.Laws.BitsAllLaws
import Derived.Test.YtebfmcafmojlaaaGreatDoorProg
import Derived.Test.YtebfmcafmojlaaaGreatDoorT01
import Derived.Test.YtebfmcafmojlaaaGreatDoorT02
import Derived.Test.YtebfmcafmojlaaaGreatDoorT03
namespace Go.Proofs.YtebfmcafmojlaaaGreatDoor
open Go.RowKit
set_option linter.unusedSimpArgs false
set_option linter.unusedVariables false

theorem ret_int {k : IntKind} {a b : Int} (h : a = b) : Ending.returned (.int k a) = .returned (.int k b) := by rw [h]
theorem ret_bool {a b : Bool} (h : a = b) : Ending.returned (.bool a) = .returned (.bool b) := by rw [h]
theorem maskn (v : Nat) (hv : v < 6) : v = 0 ∨ v = 1 ∨ v = 2 ∨ v = 3 ∨ v = 4 ∨ v = 5 := by omega

theorem tab_lt (f : Tab) : f.toNat < 18446744073709551616 := f.isLt
theorem bits_and_tab (f g : Tab) : bits .and .u64 (f.toNat : Int) (g.toNat : Int) = ((f &&& g).toNat : Int) := by
  rw [u64_and_nat _ _ (tab_lt f) (tab_lt g), BitVec.toNat_and]
theorem bits_or_tab (f g : Tab) : bits .or .u64 (f.toNat : Int) (g.toNat : Int) = ((f ||| g).toNat : Int) := by
  rw [u64_or_nat _ _ (tab_lt f) (tab_lt g), BitVec.toNat_or]
theorem bits_andNot_tab (f g : Tab) : bits .andNot .u64 (f.toNat : Int) (g.toNat : Int) = ((f &&& ~~~ g).toNat : Int) := by
  rw [u64_andNot_nat _ _ (tab_lt f) (tab_lt g), BitVec.toNat_and, BitVec.toNat_not]
theorem bits_xor_tab (f g : Tab) : bits .xor .u64 (f.toNat : Int) (g.toNat : Int) = ((f ^^^ g).toNat : Int) := by
  rw [u64_xor_nat _ _ (tab_lt f) (tab_lt g), BitVec.toNat_xor]
theorem shr_tab (f : Tab) (k d : Nat) (h : d = 2 ^ k) : (f.toNat : Int) / (d : Int) = ((f >>> k).toNat : Int) := by
  subst h
  rw [BitVec.toNat_ushiftRight, Nat.shiftRight_eq_div_pow]; simp
theorem shl_tab (f : Tab) (k d : Nat) (h : d = 2 ^ k) : IntKind.u64.wrap ((f.toNat : Int) * (d : Int)) = ((f <<< k).toNat : Int) := by
  subst h
  rw [IntKind.wrap_u64, BitVec.toNat_shiftLeft, Nat.shiftLeft_eq]
  simp

set_option maxHeartbeats 400000 in
theorem refVar_any (v : Nat) (hv : v < 6) (w : World) :
    Calls Tryz.prog 106 #[.int .i64 v] w fun e w' => e = .returned (.int .u64 ((mask v).toNat : Int)) ∧ Below w.heap.size w w' := by
  rcases maskn v hv with h | h | h | h | h | h <;> subst h
  all_goals
    go_enter Tryz.func106, Tryz.ntmps106
    go_wp2
    go_ret
    exact ⟨rfl, (Below.refl _ _).alloc (Nat.le_refl _) _⟩

def bitT (a : Nat) : Tab := 1#64 <<< a

theorem bitT_eq (a : Nat) (ha : a < 64) : IntKind.u64.wrap (2 ^ a) = ((bitT a).toNat : Int) := by
  rw [IntKind.wrap_u64]
  unfold bitT
  rw [BitVec.toNat_shiftLeft, Nat.shiftLeft_eq]
  simp

set_option maxHeartbeats 400000 in
theorem refBit_any (a : Nat) (ha : a < 64) (w : World) :
    Calls Tryz.prog 153 #[.int .i64 a] w fun e w' => e = .returned (.int .u64 ((bitT a).toNat : Int)) ∧ w' = w := by
  have h := bitT_eq a ha
  go_enter Tryz.func153, Tryz.ntmps153
  go_wp2
  go_ret
  exact ⟨rfl, rfl⟩

theorem given_true_eq (f : Tab) (v : Nat) (d : Int) (hd : d = ((2 ^ (2 ^ v) : Nat) : Int)) :
    bits .or .u64 (bits .and .u64 (f.toNat : Int) ((mask v).toNat : Int)) (bits .and .u64 (f.toNat : Int) ((mask v).toNat : Int) / d) = ((given f v true).toNat : Int) := by
  subst hd
  rw [bits_and_tab, shr_tab _ (2 ^ v) _ rfl, bits_or_tab]
  rfl
theorem given_false_eq (f : Tab) (v : Nat) (d : Int) (hd : d = ((2 ^ (2 ^ v) : Nat) : Int)) :
    bits .or .u64 (bits .andNot .u64 (f.toNat : Int) ((mask v).toNat : Int)) (IntKind.u64.wrap (bits .andNot .u64 (f.toNat : Int) ((mask v).toNat : Int) * d)) = ((given f v false).toNat : Int) := by
  subst hd
  rw [bits_andNot_tab, shl_tab _ (2 ^ v) _ rfl, bits_or_tab]
  rfl

set_option maxHeartbeats 400000 in
theorem refGiven_true (f : Tab) (v : Nat) (hv : v < 6) (w : World) :
    Calls Tryz.prog 152 #[.int .u64 (f.toNat : Int), .int .i64 v, .bool true] w fun e w' => e = .returned (.int .u64 ((given f v true).toNat : Int)) ∧ Below w.heap.size w w' := by
  have hf := tab_lt f
  rcases maskn v hv with h | h | h | h | h | h <;> subst h
  all_goals
    go_enter Tryz.func152, Tryz.ntmps152
    go_wp2_with (go_at_call 106; refine (refVar_any _ hv _).mono ?_; rintro e w' ⟨rfl, hb⟩)
    go_ret
    exact ⟨ret_int (given_true_eq f _ _ rfl), hb⟩

set_option maxHeartbeats 400000 in
theorem refGiven_false (f : Tab) (v : Nat) (hv : v < 6) (w : World) :
    Calls Tryz.prog 152 #[.int .u64 (f.toNat : Int), .int .i64 v, .bool false] w fun e w' => e = .returned (.int .u64 ((given f v false).toNat : Int)) ∧ Below w.heap.size w w' := by
  have hf := tab_lt f
  rcases maskn v hv with h | h | h | h | h | h <;> subst h
  all_goals
    go_enter Tryz.func152, Tryz.ntmps152
    go_wp2_with (go_at_call 106; refine (refVar_any _ hv _).mono ?_; rintro e w' ⟨rfl, hb⟩)
    go_ret
    exact ⟨ret_int (given_false_eq f _ _ rfl), hb⟩

theorem refGiven_any (f : Tab) (v : Nat) (b : Bool) (hv : v < 6) (w : World) :
    Calls Tryz.prog 152 #[.int .u64 (f.toNat : Int), .int .i64 v, .bool b] w fun e w' => e = .returned (.int .u64 ((given f v b).toNat : Int)) ∧ Below w.heap.size w w' := by
  cases b
  · exact refGiven_false f v hv w
  · exact refGiven_true f v hv w

theorem neq_tab (f g : Tab) : ((f.toNat : Int) != (g.toNat : Int)) = (f != g) := by
  rw [Bool.eq_iff_iff]
  simp only [bne_iff_ne, ne_eq, Int.ofNat_inj, BitVec.toNat_inj]

theorem eq_tab (f g : Tab) : ((f.toNat : Int) == (g.toNat : Int)) = (f == g) := by
  rw [Bool.eq_iff_iff]
  simp only [beq_iff_eq, Int.ofNat_inj, BitVec.toNat_inj]

set_option maxHeartbeats 400000 in
theorem refHangs_any (f : Tab) (v : Nat) (hv : v < 6) (w : World) :
    Calls Tryz.prog 170 #[.int .u64 (f.toNat : Int), .int .i64 v] w fun e w' => e = .returned (.bool (hangs f v)) ∧ Below w.heap.size w w' := by
  have hb := Below.refl w.heap.size w
  go_enter Tryz.func170, Tryz.ntmps170
  go_wp2_with (go_at_call 152; refine (refGiven_any _ _ _ hv _).mono ?_; rintro e wn ⟨rfl, hn⟩; replace hb := hb.trans (hn.mono hb.size); clear hn)
  go_ret
  exact ⟨ret_bool (neq_tab (given f v true) (given f v false)), hb⟩

theorem written_test (f : Tab) : (bits .and .u64 (f.toNat : Int) ((bitT 63).toNat : Int) == 0) = !f.getLsbD 63 := by
  rw [bits_and_tab]
  have h0 : ((0 : Nat) : Int) = 0 := rfl
  have : (((f &&& bitT 63).toNat : Int) == 0) = ((f &&& bitT 63) == 0#64) := eq_tab (f &&& bitT 63) 0#64
  rw [this, Bool.eq_iff_iff]
  simp only [beq_iff_eq, Bool.not_eq_true']
  constructor
  · intro h
    have := congrArg (fun x => BitVec.getLsbD x 63) h
    simpa [bitT] using this
  · intro h
    apply tab_ext
    intro a ha
    rw [BitVec.getLsbD_and, BitVec.getLsbD_zero]
    by_cases h63 : a = 63
    · subst h63; rw [h]; rfl
    · have h1 : (bitT 63).getLsbD a = false := by
        unfold bitT
        rw [BitVec.getLsbD_shiftLeft]
        have h2 : a < 63 := by omega
        simp [h2]
      rw [h1, Bool.and_false]

theorem not_tab (f : Tab) : bits .xor .u64 IntKind.u64.max (f.toNat : Int) = ((~~~ f).toNat : Int) := by
  have : (IntKind.u64.max : Int) = ((~~~ (0#64)).toNat : Int) := by decide
  rw [this, bits_xor_tab]
  have h : ~~~ (0#64) ^^^ f = ~~~ f := by
    apply tab_ext; intro a ha
    rw [BitVec.getLsbD_xor, BitVec.getLsbD_not, BitVec.getLsbD_not, BitVec.getLsbD_zero]
    simp only [ha, decide_true, Bool.not_false, Bool.and_self, Bool.true_and, Bool.true_xor]
  rw [h]

set_option maxHeartbeats 400000 in
theorem refWritten_any (f : Tab) (w : World) :
    Calls Tryz.prog 168 #[.int .u64 (f.toNat : Int)] w fun e w' => e = .returned (.tuple #[.int .u64 ((writtenT f).toNat : Int), .bool (!f.getLsbD 63)]) ∧ w' = w := by
  have ht := written_test f
  cases hb : f.getLsbD 63
  · rw [hb] at ht
    have hw : writtenT f = ~~~ f := by unfold writtenT; rw [hb]; rfl
    rw [hw]
    have hn := not_tab f
    go_enter Tryz.func168, Tryz.ntmps168
    go_wp2_with (go_at_call 153; refine (refBit_any 63 (by decide) _).mono ?_; rintro e w' ⟨rfl, rfl⟩)
    go_ret2
    exact ⟨rfl, rfl⟩
  · rw [hb] at ht
    have hw : writtenT f = f := by unfold writtenT; rw [hb]; rfl
    rw [hw]
    go_enter Tryz.func168, Tryz.ntmps168
    go_wp2_with (go_at_call 153; refine (refBit_any 63 (by decide) _).mono ?_; rintro e w' ⟨rfl, rfl⟩)
    go_ret2
    exact ⟨rfl, rfl⟩

end Go.Proofs.YtebfmcafmojlaaaGreatDoor

/-
  copseref over lists of tables: place, top.
-/
namespace Go.Proofs.YtebfmcafmojlaaaGreatDoor
open Go.RowKit
set_option linter.unusedSimpArgs false
set_option linter.unusedVariables false

def tabv (f : Tab) : Value := .int .u64 (f.toNat : Int)
def placeI (l : List Tab) (f : Tab) : Int := if f ∈ l then (l.idxOf f : Nat) else -1

theorem place_hit (l : List Tab) (f : Tab) (k : Nat) (h : k < l.length) (hn : ∀ j, j < k → l.getD j 0 ≠ f) (he : l.getD k 0 = f) : placeI l f = k := by
  induction l generalizing k with
  | nil => simp at h
  | cons x l ih =>
    cases k with
    | zero =>
      simp at he; subst he
      simp [placeI]
    | succ k =>
      have h0 : x ≠ f := by have := hn 0 (by omega); simpa using this
      have := ih k (by simpa using h) (fun j hj => by have := hn (j+1) (by omega); simpa using this) (by simpa using he)
      unfold placeI at this ⊢
      split at this
      · rename_i hm
        rw [if_pos (List.mem_cons_of_mem _ hm), List.idxOf_cons]
        have : (x == f) = false := by simp [h0]
        simp [this]
        omega
      · omega

theorem place_miss (l : List Tab) (f : Tab) (h : ∀ j, j < l.length → l.getD j 0 ≠ f) : placeI l f = -1 := by
  unfold placeI
  rw [if_neg]
  intro hm
  obtain ⟨j, hj, rfl⟩ := List.mem_iff_getElem.1 hm
  exact h j hj (by rw [List.getD_eq_getElem?_getD, List.getElem?_eq_getElem hj]; rfl)

set_option maxHeartbeats 400000 in
theorem refPlace_any (v : Value) (l : List Tab) (f : Tab) (w : World) {B : Nat} (hr : Reads B w v (l.map tabv)) (hl : l.length < 1000000000) :
    Calls Tryz.prog 150 #[v, .int .u64 (f.toNat : Int)] w fun e w' => e = .returned (.int .i64 (placeI l f)) ∧ w' = w := by
  rcases hr with ⟨rfl, h0⟩ | ⟨b, off, cap, rfl, hlt, hc⟩
  · have : l = [] := by simpa using h0
    subst this
    go_enter Tryz.func150, Tryz.ntmps150
    go_wp2
    go_loop [5] (fun i => i = .int .i64 0) (fun _ => 0)
    case atStart => rfl
    case round =>
      subst hrel
      go_wp2
      go_ret
      exact ⟨rfl, rfl⟩
  · simp only [List.length_map] at hc ⊢
    have hcx : ∀ i, i < l.length → w.cell? ⟨b, off + i, none⟩ = some (.int .u64 ((l.getD i 0).toNat : Int)) := by
      intro i hi
      rw [hc i hi]
      simp [tabv, hi]
    clear hc
    go_enter Tryz.func150, Tryz.ntmps150
    go_wp2
    go_loop [5] (fun i => ∃ k : Nat, k ≤ l.length ∧ i = .int .i64 k ∧ ∀ j, j < k → l.getD j 0 ≠ f) (fun i => l.length - (intOf i).toNat)
    case atStart => exact ⟨0, Nat.zero_le _, rfl, fun j hj => by omega⟩
    case round =>
      obtain ⟨k, hk, rfl, hn⟩ := hrel
      by_cases hlt : k < l.length
      · have hcell := hcx k hlt
        clear hcx
        have HN : Hid (∀ j, j < k → l.getD j 0 ≠ f) := hn
        clear hn
        obtain ⟨x, hx⟩ : ∃ x, x = l.getD k 0 := ⟨_, rfl⟩
        rw [← hx] at hcell
        have HX : Hid (x = l.getD k 0) := hx
        clear hx
        have heq := eq_tab x f
        by_cases he : x = f
        · have HE : Hid (x = f) := he
          have hb : (x == f) = true := by simp [he]
          rw [hb] at heq
          clear he hb
          go_wp2
          go_ret
          exact ⟨ret_int (place_hit l f k hlt HN.out (HX.out.symm.trans HE.out)).symm, rfl⟩
        · have HE : Hid (x ≠ f) := he
          have hb : (x == f) = false := by simp [he]
          rw [hb] at heq
          clear he hb
          go_wp2
          go_round
          case rel => exact ⟨k + 1, by omega, by go_num, fun j hj => by
            by_cases h : j < k
            · exact HN.out j h
            · have : j = k := by omega
              subst this; rw [← HX.out]; exact HE.out⟩
          case measure => simp [intOf]; omega
      · have HN : Hid (∀ j, j < k → l.getD j 0 ≠ f) := hn
        clear hn hcx
        go_wp2
        go_ret
        exact ⟨ret_int (place_miss l f (fun j hj => HN.out j (by omega))).symm, rfl⟩

def topI (order : List Nat) (f : Tab) : Int := match topO order f with | some v => (v : Int) | none => -1
def intv (n : Nat) : Value := .int .i64 (n : Int)

theorem top_hit (o : List Nat) (f : Tab) (k : Nat) (h : k < o.length) (hn : ∀ j, j < k → hangs f (o.getD j 0) = false) (he : hangs f (o.getD k 0) = true) : topI o f = (o.getD k 0 : Nat) := by
  have : topO o f = some (o.getD k 0) := by
    unfold topO
    induction o generalizing k with
    | nil => simp at h
    | cons x o ih =>
      cases k with
      | zero => simp at he; simp [he]
      | succ k =>
        have h0 : hangs f x = false := by have := hn 0 (by omega); simpa using this
        rw [List.find?_cons, h0]
        have := ih k (by simpa using h) (fun j hj => by have := hn (j+1) (by omega); simpa using this) (by simpa using he)
        simpa using this
  simp only [topI, this]

theorem top_miss (o : List Nat) (f : Tab) (h : ∀ j, j < o.length → hangs f (o.getD j 0) = false) : topI o f = -1 := by
  have : topO o f = none := by
    unfold topO
    rw [List.find?_eq_none]
    intro x hx
    obtain ⟨j, hj, rfl⟩ := List.mem_iff_getElem.1 hx
    have := h j hj
    rw [List.getD_eq_getElem?_getD, List.getElem?_eq_getElem hj] at this
    simpa using this
  simp only [topI, this]

set_option maxHeartbeats 400000 in
theorem refTop_any (v : Value) (o : List Nat) (f : Tab) (w : World) {B : Nat} (hr : Reads B w v (o.map intv)) (hB : B ≤ w.heap.size) (h6 : ∀ x ∈ o, x < 6) (hl : o.length < 1000000000) :
    Calls Tryz.prog 169 #[v, .int .u64 (f.toNat : Int)] w fun e w' => e = .returned (.int .i64 (topI o f)) ∧ Below w.heap.size w w' := by
  rcases hr with ⟨rfl, h0⟩ | ⟨b, off, cap, rfl, hlt, hc⟩
  · have : o = [] := by simpa using h0
    subst this
    go_enter Tryz.func169, Tryz.ntmps169
    go_wp2
    go_loop [5] (fun i => i = .int .i64 0) (fun _ => 0)
    case atStart => rfl
    case round =>
      subst hrel
      go_wp2
      go_ret
      exact ⟨rfl, Below.refl _ _⟩
  · simp only [List.length_map] at hc ⊢
    have hcx : ∀ i, i < o.length → w.cell? ⟨b, off + i, none⟩ = some (.int .i64 ((o.getD i 0 : Nat) : Int)) := by
      intro i hi
      rw [hc i hi]
      simp [intv, hi]
    clear hc
    have hbb : b < w.heap.size := by omega
    go_enter Tryz.func169, Tryz.ntmps169
    go_wp2
    go_loopw [5] (fun i wr => ∃ k : Nat, k ≤ o.length ∧ i = .int .i64 k ∧ (∀ j, j < k → hangs f (o.getD j 0) = false) ∧ Below w.heap.size w wr) (fun i _ => o.length - (intOf i).toNat)
    case atStart => exact ⟨0, Nat.zero_le _, rfl, fun j hj => by omega, Below.refl _ _⟩
    case round =>
      obtain ⟨k, hk, rfl, hn, hbel⟩ := hrel
      by_cases hlt : k < o.length
      · have hcell : wr.cell? ⟨b, off + k, none⟩ = some (.int .i64 ((o.getD k 0 : Nat) : Int)) := (hbel.cell (p := ⟨b, off + k, none⟩) hbb).trans (hcx k hlt)
        clear hcx
        have HN : Hid (∀ j, j < k → hangs f (o.getD j 0) = false) := hn
        clear hn
        obtain ⟨x, hx⟩ : ∃ x, x = o.getD k 0 := ⟨_, rfl⟩
        have hx6 : x < 6 := by
          rw [hx, List.getD_eq_getElem?_getD, List.getElem?_eq_getElem hlt]
          exact h6 _ (List.getElem_mem hlt)
        rw [← hx] at hcell
        have HX : Hid (x = o.getD k 0) := hx
        clear hx
        cases hh : hangs f x
        · have HE : Hid (hangs f x = false) := hh
          go_wp2_with (go_at_call 170; refine (refHangs_any _ _ hx6 _).mono ?_; rintro e w1 ⟨rfl, hb1⟩; rw [hh]; replace hbel := hbel.trans (hb1.mono hbel.size); clear hb1)
          go_roundw
          case rel => exact ⟨k + 1, by omega, by go_num, fun j hj => by
            by_cases h : j < k
            · exact HN.out j h
            · have : j = k := by omega
              subst this; rw [← HX.out]; exact HE.out, hbel⟩
          case measure => simp [intOf]; omega
        · have HE : Hid (hangs f x = true) := hh
          go_wp2_with (go_at_call 170; refine (refHangs_any _ _ hx6 _).mono ?_; rintro e w1 ⟨rfl, hb1⟩; rw [hh]; have hcell2 := (hb1.cell (p := ⟨b, off + k, none⟩) (by show b < _; have := hbel.size; omega)).trans hcell; replace hbel := hbel.trans (hb1.mono hbel.size); clear hb1)
          go_ret
          exact ⟨ret_int (by rw [HX.out]; exact (top_hit o f k hlt HN.out (by rw [← HX.out]; exact HE.out)).symm), hbel⟩
      · have HN : Hid (∀ j, j < k → hangs f (o.getD j 0) = false) := hn
        clear hn hcx
        go_wp2
        go_ret
        exact ⟨ret_int (top_miss o f (fun j hj => HN.out j (by omega))).symm, hbel⟩

end Go.Proofs.YtebfmcafmojlaaaGreatDoor

/-
  copseref.Nodes, All: the nodes of functions, as tables.
-/
namespace Go.Proofs.YtebfmcafmojlaaaGreatDoor
open Go.RowKit
set_option linter.unusedSimpArgs false
set_option linter.unusedVariables false

theorem Tryz.infoFunc : (Tryz.prog.info? 111).map (fun i => (i.zero, i.size, i.bytes)) = some (some (.int .u64 0), 1, 8) := by kernel_rfl

theorem nodesT_len (o : List Nat) (n : Nat) (l : List Tab) (f : Tab) : (nodesT o n l f).length + 1 ≤ l.length + 2 ^ n := by
  induction n generalizing l f with
  | zero => simp [nodesT]
  | succ n ih =>
    have hp : 0 < 2 ^ n := Nat.two_pow_pos n
    simp only [nodesT]
    split
    · rw [Nat.pow_succ]; omega
    · split
      · rw [Nat.pow_succ]; omega
      · rename_i v _
        have h1 := ih l (given (writtenT f) v true)
        have h2 := ih (nodesT o n l (given (writtenT f) v true)) (given (writtenT f) v false)
        simp only [List.length_append, List.length_singleton, Nat.pow_succ]
        omega

theorem topI_some {o : List Nat} {f : Tab} {v : Nat} (h : topO o f = some v) : topI o f = v := by simp [topI, h]
theorem topI_none {o : List Nat} {f : Tab} (h : topO o f = none) : topI o f = -1 := by simp [topI, h]
theorem placeI_mem {l : List Tab} {f : Tab} (h : f ∈ l) : 0 ≤ placeI l f := by unfold placeI; rw [if_pos h]; omega
theorem placeI_not {l : List Tab} {f : Tab} (h : ¬ f ∈ l) : placeI l f = -1 := by unfold placeI; rw [if_neg h]

theorem one_cell_tab (u : Tab) : ∀ x ∈ [tabv u], x.oneCell' = true := by intro x hx; simp at hx; subst hx; rfl
theorem le_maxLen {n : Nat} (h : n ≤ 1000000000) : n ≤ maxLen := by unfold maxLen; omega
theorem grown_below {w w' : World} {o : Obj} {base : Nat} {e : TypeId} {size : Nat} {v : Value} {n : Nat} {xs : List Value} (hg : (w.alloc o).grownBy w' v.ownBlock) (hown : w.ownsRow base e size v n xs) (hb : base ≤ w.heap.size) : Below base w w' :=
  ((Below.refl base w).alloc hb o).grown hg (by simp; omega) (fun k hk => (hown.lt k hk).1)

set_option maxHeartbeats 1000000000 in
set_option maxRecDepth 10000 in
theorem refNodes_any (o : List Nat) (h6 : ∀ x ∈ o, x < 6) (hl : o.length < 1000000000) (ov : Value) (base : Nat) (n : Nat) :
    ∀ (f : Tab) (l : List Tab) (v : Value) (w : World), hangsOn o f < n → Reads base w ov (o.map intv) → base ≤ w.heap.size → w.ownsRow base 111 1 v l.length (l.map tabv) → l.length + 2 ^ n ≤ 1000000000 →
    Calls Tryz.prog 151 #[ov, v, .int .u64 (f.toNat : Int)] w fun e w' => ∃ v', e = .returned v' ∧ w'.ownsRow base 111 1 v' (nodesT o n l f).length ((nodesT o n l f).map tabv) ∧ Below base w w' := by
  induction n with
  | zero => intro f l v w h; omega
  | succ n ih =>
    intro f l v w hm hro hbase hown hsz
    have IH : Hid _ := ih
    clear ih
    obtain ⟨i0, hi, hz0, hz1, hz2⟩ := info_parts Tryz.infoFunc
    have hll : l.length < 1000000000 := by have : 0 < 2 ^ (n+1) := Nat.two_pow_pos _; omega
    have hrl := reads_of_owns hown
    have hwr := fun w => (refWritten_any f w).mono (fun e w' h => h)
    obtain ⟨u, hu⟩ : ∃ u, u = writtenT f := ⟨_, rfl⟩
    rw [← hu] at hwr
    have HU : Hid (u = writtenT f) := hu
    by_cases hmem : u ∈ l
    · have hN : nodesT o (n+1) l f = l := by simp [nodesT, ← hu, hmem]
      rw [hN]
      clear hN hu
      have hp := placeI_mem hmem
      go_enter Tryz.func151, Tryz.ntmps151
      go_wp2_with (first | (go_at_call 168; refine (hwr _).mono ?_; rintro e w1 ⟨rfl, hq⟩; replace hq := hq.symm; subst hq) | (go_at_call 150; refine (refPlace_any _ l _ _ hrl hll).mono ?_; rintro e w1 ⟨rfl, hq⟩; replace hq := hq.symm; subst hq) | (go_at_call 169; refine (refTop_any _ o _ _ hro hbase h6 hl).mono ?_; rintro e w1 ⟨rfl, hb1⟩))
      go_ret
      exact ⟨_, rfl, owns_below hown hb1 (Nat.le_refl _), hb1.mono hbase⟩
    · have hp := placeI_not hmem
      cases ht : topO o u with
      | none =>
        have hN : nodesT o (n+1) l f = l := by simp [nodesT, ← hu, hmem, ht]
        rw [hN]
        clear hN hu
        have hti := topI_none ht
        go_enter Tryz.func151, Tryz.ntmps151
        go_wp2_with (first | (go_at_call 168; refine (hwr _).mono ?_; rintro e w1 ⟨rfl, hq⟩; replace hq := hq.symm; subst hq) | (go_at_call 150; refine (refPlace_any _ l _ _ hrl hll).mono ?_; rintro e w1 ⟨rfl, hq⟩; replace hq := hq.symm; subst hq) | (go_at_call 169; refine (refTop_any _ o _ _ hro hbase h6 hl).mono ?_; rintro e w1 ⟨rfl, hb1⟩))
        go_ret
        exact ⟨_, rfl, owns_below hown hb1 (Nat.le_refl _), hb1.mono hbase⟩
      | some x =>
        have hN : nodesT o (n+1) l f = nodesT o n (nodesT o n l (given u x true)) (given u x false) ++ [u] := by simp [nodesT, ← hu, hmem, ht]
        rw [hN]
        clear hN
        have hxo : x ∈ o := List.mem_of_find?_eq_some ht
        have hxh : hangs u x = true := List.find?_some ht
        have hx6 := h6 x hxo
        have hm' : hangsOn o u < n + 1 := by rw [hu, hangsOn_written _ _ h6]; exact hm
        have hm1 : hangsOn o (given u x true) < n := by have := hangsOn_given o u x true h6 hxo hxh; omega
        have hm2 : hangsOn o (given u x false) < n := by have := hangsOn_given o u x false h6 hxo hxh; omega
        clear hu hm hm'
        have hlen1 := nodesT_len o n l (given u x true)
        have hlen2 := nodesT_len o n (nodesT o n l (given u x true)) (given u x false)
        have hs1 : l.length + 2 ^ n ≤ 1000000000 := by rw [Nat.pow_succ] at hsz; omega
        have hs2 : (nodesT o n l (given u x true)).length + 2 ^ n ≤ 1000000000 := by rw [Nat.pow_succ] at hsz; omega
        have hs3 : (nodesT o n (nodesT o n l (given u x true)) (given u x false)).length + 1 ≤ 1000000000 := by omega
        have hti := topI_some ht
        have hbel := Below.refl base w
        clear hsz hlen1 hlen2 hxh
        go_enter Tryz.func151, Tryz.ntmps151
        go_wp2_with (first
          | (go_at_call 168; refine (hwr _).mono ?_; rintro e w1 ⟨rfl, hq⟩; replace hq := hq.symm; subst hq)
          | (go_at_call 150; refine (refPlace_any _ l _ _ hrl hll).mono ?_; rintro e w1 ⟨rfl, hq⟩; replace hq := hq.symm; subst hq)
          | (go_at_call 169; refine (refTop_any _ o _ _ hro hbase h6 hl).mono ?_; rintro e wn ⟨rfl, hb1⟩; rw [hti]; replace hown := owns_below hown hb1 (Nat.le_refl _); replace hro := hro.below hb1 hbase; replace hbel := hbel.trans (hb1.mono hbase); replace hbase := Nat.le_trans hbase hb1.size; clear hb1 hrl)
          | (go_at_call 152; go_must (refine (refGiven_any _ _ _ hx6 _).mono ?_); rintro e wn ⟨rfl, hb1⟩; replace hown := owns_below hown hb1 (Nat.le_refl _); replace hro := hro.below hb1 hbase; replace hbel := hbel.trans (hb1.mono hbase); replace hbase := Nat.le_trans hbase hb1.size; clear hb1)
          | (go_at_call 151; go_must (refine (IH.out _ _ _ _ ?_ hro hbase hown ?_).mono ?_; (first | exact hm1 | exact hm2); (first | exact hs1 | exact hs2)); rintro e wn ⟨vn, rfl, hown', hb1⟩; replace hown := hown'; clear hown'; replace hro := hro.below hb1 (Nat.le_refl _); replace hbel := hbel.trans hb1; replace hbase := Nat.le_trans hbase hb1.size; clear hb1)
          | (at_builtin; refine wpList_append_own _ rfl _ _ 175 rfl base 111 i0 (.int .u64 0) 1 8 Tryz.underlying175 hi hz0 hz1 hz2 rfl (by decide) _ _ _ rfl (hown.alloc _) _ 1 1 [tabv u] rfl rfl ?_ ?_ ?_ ?_ ?_ ?_; exact cell_one_new _ _ _; exact one_cell_tab _; exact le_maxLen (by omega); omega; exact Nat.le_trans hbase (by simp); intro v' w1 hown' hgrow _; replace hbel := hbel.trans (grown_below hgrow hown hbase); clear hgrow hown))
        go_ret
        exact ⟨_, rfl, by simpa using hown', hbel⟩

theorem foldl_take_succ (o : List Nat) (n : Nat) (fs : List Tab) (k : Nat) (h : k < fs.length) :
    (fs.take (k + 1)).foldl (nodesT o n) [] = nodesT o n ((fs.take k).foldl (nodesT o n) []) (fs.getD k 0) := by
  rw [List.take_succ_eq_append_getElem h, List.foldl_append]
  simp [List.getD_eq_getElem?_getD, List.getElem?_eq_getElem h]

theorem foldl_len (o : List Nat) (n : Nat) (fs : List Tab) (l : List Tab) : (fs.foldl (nodesT o n) l).length ≤ l.length + fs.length * 2 ^ n := by
  induction fs generalizing l with
  | nil => simp
  | cons f fs ih =>
    have h1 := ih (nodesT o n l f)
    have h2 := nodesT_len o n l f
    simp only [List.foldl_cons, List.length_cons, Nat.add_mul]
    omega

set_option maxHeartbeats 1000000000 in
set_option maxRecDepth 10000 in
theorem refAll_any (o : List Nat) (h6 : ∀ x ∈ o, x < 6) (hl : o.length ≤ 6) (ov fv : Value) (fs : List Tab) (w : World) (hro : Reads w.heap.size w ov (o.map intv)) (hrf : Reads w.heap.size w fv (fs.map tabv)) (hfl : fs.length ≤ 5000000) :
    Calls Tryz.prog 108 #[ov, fv] w fun e w' => ∃ v', e = .returned v' ∧ w'.ownsRow w.heap.size 111 1 v' (allT o fs).length ((allT o fs).map tabv) ∧ Below w.heap.size w w' := by
  rcases hrf with ⟨rfl, h0⟩ | ⟨b, off, cap, rfl, hlt, hc⟩
  · have : fs = [] := by simpa using h0
    subst this
    go_enter Tryz.func108, Tryz.ntmps108
    go_wp2
    go_loop [5, 6] (fun v i => i = .int .i64 0 ∧ v = .slice none 0 0) (fun _ _ => 0)
    case atStart => exact ⟨rfl, rfl⟩
    case round =>
      obtain ⟨rfl, rfl⟩ := hrel
      go_wp2_with fail
      go_ret
      exact ⟨_, rfl, World.ownsRow_nil _ _ _ _, Below.refl _ _⟩
  · simp only [List.length_map] at hc ⊢
    have hcx : ∀ i, i < fs.length → w.cell? ⟨b, off + i, none⟩ = some (.int .u64 ((fs.getD i 0).toNat : Int)) := by
      intro i hi
      rw [hc i hi]
      simp [tabv, hi]
    clear hc
    have hpow : 2 ^ (o.length + 1) ≤ 128 := Nat.le_trans (Nat.pow_le_pow_right (by decide) (by omega : o.length + 1 ≤ 7)) (by decide)
    have hol : o.length < 1000000000 := by omega
    go_enter Tryz.func108, Tryz.ntmps108
    go_wp2
    go_loopw [5, 6] (fun v i wr => ∃ k : Nat, k ≤ fs.length ∧ i = .int .i64 k ∧ wr.ownsRow w.heap.size 111 1 v ((fs.take k).foldl (nodesT o (o.length + 1)) []).length (((fs.take k).foldl (nodesT o (o.length + 1)) []).map tabv) ∧ Below w.heap.size w wr) (fun _ i _ => fs.length - (intOf i).toNat)
    case atStart => exact ⟨0, Nat.zero_le _, rfl, World.ownsRow_nil _ _ _ _, Below.refl _ _⟩
    case round =>
      obtain ⟨k, hk, rfl, hown, hbel⟩ := hrel
      by_cases hkl : k < fs.length
      · have hcell : wr.cell? ⟨b, off + k, none⟩ = some (.int .u64 ((fs.getD k 0).toNat : Int)) := (hbel.cell (p := ⟨b, off + k, none⟩) hlt).trans (hcx k hkl)
        have hlen := foldl_len o (o.length + 1) (fs.take k) []
        have hn := foldl_take_succ o (o.length + 1) fs k hkl
        have hlen2 : ((fs.take k).foldl (nodesT o (o.length + 1)) []).length + 2 ^ (o.length + 1) ≤ 1000000000 := by
          have h2 : (fs.take k).length ≤ 5000000 := by rw [List.length_take]; omega
          have h3 : (fs.take k).length * 2 ^ (o.length + 1) ≤ 5000000 * 128 := Nat.mul_le_mul h2 hpow
          rw [List.length_nil, Nat.zero_add] at hlen
          have h4 := Nat.le_trans hlen h3
          generalize 2 ^ (o.length + 1) = P at *
          omega
        have hro' := hro.below hbel (Nat.le_refl _)
        obtain ⟨x, hx⟩ : ∃ x, x = fs.getD k 0 := ⟨_, rfl⟩
        obtain ⟨l, hll⟩ : ∃ l, l = (fs.take k).foldl (nodesT o (o.length + 1)) [] := ⟨_, rfl⟩
        rw [← hx] at hcell hn
        rw [← hll] at hown hlen2 hn
        have HN : Hid _ := hn
        clear hn hx hll hlen hcx hpow
        have hm : hangsOn o x < o.length + 1 := by have := hangsOn_le o x; omega
        go_wp2_with (go_at_call 151; refine (refNodes_any o h6 hol ov w.heap.size _ _ _ _ _ hm hro' hbel.size hown hlen2).mono ?_; rintro e w1 ⟨v1, rfl, hown1, hb1⟩)
        go_roundw
        case rel => exact ⟨k + 1, by omega, by go_num, by rw [HN.out]; exact hown1, hbel.trans hb1⟩
        case measure => simp [intOf]; omega
      · clear hcx hpow
        have hk' : fs.take k = fs := List.take_of_length_le (by omega)
        rw [hk'] at hown
        clear hk'
        go_wp2_with fail
        go_ret
        exact ⟨_, rfl, hown, hbel⟩

end Go.Proofs.YtebfmcafmojlaaaGreatDoor

/-
  copseref.Copse in memory; named.
-/
namespace Go.Proofs.YtebfmcafmojlaaaGreatDoor
open Go.RowKit
set_option linter.unusedSimpArgs false
set_option linter.unusedVariables false

structure RefS where
  cap : Int
  names : List ByteArray
  order : List Nat
  live : List Tab

/-- copseref's copse S lies at block r, all of it in O. -/
structure RefAt (O : Nat → Prop) (w : World) (r : Nat) (S : RefS) (nv ov lv : Value) : Prop where
  lt : ∀ b, O b → b < w.heap.size
  self : O r
  cells : w.heap[r]? = some (.cells #[.int .i64 S.cap, nv, ov, lv] 177 (0, 0))
  names : Row O w 9 nv (S.names.map Value.string)
  order : Row O w 3 ov (S.order.map intv)
  live : Row O w 111 lv (S.live.map tabv)
  nr : nv.ownBlock ≠ some r
  or : ov.ownBlock ≠ some r
  lr : lv.ownBlock ≠ some r
  no : nv.ownBlock = none ∨ nv.ownBlock ≠ ov.ownBlock
  nl : nv.ownBlock = none ∨ nv.ownBlock ≠ lv.ownBlock

theorem RefAt.keep {O : Nat → Prop} {w w' : World} {r : Nat} {S : RefS} {nv ov lv : Value} (h : RefAt O w r S nv ov lv) (hs : w.heap.size ≤ w'.heap.size) (hb : ∀ k, O k → w'.heap[k]? = w.heap[k]?) : RefAt O w' r S nv ov lv :=
  ⟨fun b hb => Nat.lt_of_lt_of_le (h.lt b hb) hs, h.self, (hb r h.self).trans h.cells, h.names.same (fun k hk => hb k (h.names.2 k hk)), h.order.same (fun k hk => hb k (h.order.2 k hk)), h.live.same (fun k hk => hb k (h.live.2 k hk)), h.nr, h.or, h.lr, h.no, h.nl⟩

theorem RefAt.below {O : Nat → Prop} {w w' : World} {r : Nat} {S : RefS} {nv ov lv : Value} (h : RefAt O w r S nv ov lv) (hb : Below w.heap.size w w') : RefAt O w' r S nv ov lv :=
  h.keep hb.size (fun k hk => hb.block k (h.lt k hk))


set_option maxHeartbeats 400000 in
theorem refNamed_any {O : Nat → Prop} {w : World} {r : Nat} {S : RefS} {nv ov lv : Value} (h : RefAt O w r S nv ov lv) (name : ByteArray) (hl : S.names.length ≤ 6) :
    Calls Tryz.prog 105 #[.pointer (some ⟨r, 0, none⟩), .string name] w fun e w' => e = .returned (.int .i64 (namedI S.names name)) ∧ w' = w := by
  have hN : w.cell? ⟨r, 1, none⟩ = some nv := by rw [cell_of_heap h.cells]; rfl
  have hrd := h.names.reads
  clear h
  rcases hrd with ⟨rfl, h0⟩ | ⟨b, off, cap, rfl, hlt, hc⟩
  · have h0' : S.names = [] := by simpa using h0
    rw [h0']
    clear h0 h0' hl
    go_enter Tryz.func105, Tryz.ntmps105
    go_wp2
    go_loop [5] (fun i => i = .int .i64 0) (fun _ => 0)
    case atStart => rfl
    case round =>
      subst hrel
      go_wp2
      go_ret
      exact ⟨rfl, rfl⟩
  · obtain ⟨l, hll⟩ : ∃ l, l = S.names := ⟨_, rfl⟩
    rw [← hll] at hl hN hc ⊢
    clear hll
    simp only [List.length_map] at hc hN ⊢
    have hcx : ∀ i, i < l.length → w.cell? ⟨b, off + i, none⟩ = some (.string (l.getD i ByteArray.empty)) := by
      intro i hi
      rw [hc i hi]
      simp [hi]
    clear hc
    go_enter Tryz.func105, Tryz.ntmps105
    go_wp2
    go_loop [5] (fun i => ∃ k : Nat, k ≤ l.length ∧ i = .int .i64 k ∧ ∀ j, j < k → ((l.getD j ByteArray.empty).toList == name.toList) = false) (fun i => l.length - (intOf i).toNat)
    case atStart => exact ⟨0, Nat.zero_le _, rfl, fun j hj => by omega⟩
    case round =>
      obtain ⟨k, hk, rfl, hn⟩ := hrel
      have HN : Hid (∀ j, j < k → ((l.getD j ByteArray.empty).toList == name.toList) = false) := hn
      clear hn
      by_cases hlt : k < l.length
      · have hcell := hcx k hlt
        clear hcx
        obtain ⟨x, hx⟩ : ∃ x, x = l.getD k ByteArray.empty := ⟨_, rfl⟩
        rw [← hx] at hcell
        have HX : Hid (x = l.getD k ByteArray.empty) := hx
        clear hx
        cases he : (x.toList == name.toList)
        · have HE : Hid _ := he
          go_wp2
          go_round
          case rel => exact ⟨k + 1, by omega, by go_num, fun j hj => by
            by_cases h : j < k
            · exact HN.out j h
            · have : j = k := by omega
              subst this; rw [← HX.out]; exact HE.out⟩
          case measure => simp [intOf]; omega
        · have HE : Hid _ := he
          go_wp2
          go_ret
          exact ⟨ret_int (named_hit l name k hlt HN.out (by rw [← HX.out]; exact HE.out)).symm, rfl⟩
      · clear hcx
        go_wp2
        go_ret
        exact ⟨ret_int (named_miss l name (fun j hj => HN.out j (by omega))).symm, rfl⟩

end Go.Proofs.YtebfmcafmojlaaaGreatDoor

