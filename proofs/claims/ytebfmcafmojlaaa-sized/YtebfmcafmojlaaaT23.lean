/-
  copse: what is refused: New, Ite, Restrict, Eval.
-/
import Derived.Test.YtebfmcafmojlaaaT22
namespace Go.Proofs.Ytebfmcafmojlaaa
open Go.RowKit Go.Maps
set_option linter.unusedSimpArgs false
set_option linter.unusedVariables false

set_option maxHeartbeats 400000 in
set_option maxRecDepth 10000 in
theorem copseNew_no (cap : Int) (w : World) (h : cap < 1 ∨ 300 < cap) : Calls Try.prog 23 #[.int .i64 cap] w fun e w' => e = .returned (.tuple #[.pointer none, .int .i64 1]) ∧ Below w.heap.size w w' := by
  by_cases h1 : cap < 1
  · clear h
    go_enter Try.func23, Try.ntmps23
    go_wp2
    go_ret2
    exact ⟨rfl, Below.refl _ _⟩
  · have h2 : 300 < cap := h.resolve_left h1
    clear h
    go_enter Try.func23, Try.ntmps23
    go_wp2
    go_ret2
    exact ⟨rfl, Below.refl _ _⟩

set_option maxHeartbeats 400000 in
set_option maxRecDepth 10000 in
theorem copseIte_no {O : Nat → Prop} {w : World} {x : Nat} {C : CopS} (hI : CopI O w x C) (a b c : Int) (za : i64ok a) (zb : i64ok b) (zc : i64ok c) (hn : a < 0 ∨ b < 0 ∨ c < 0) (ha : a < 0 ∨ ∃ f, C.T a.toNat = some f) (hb : b < 0 ∨ ∃ f, C.T b.toNat = some f) :
    Calls Try.prog 25 #[.pointer (some ⟨x, 0, none⟩), .int .i64 a, .int .i64 b, .int .i64 c] w fun e w' => e = .returned (.tuple #[.int .i64 0, .int .i64 4]) ∧ CopStep CopI O w x w' C := by
  have hst := fun w' => hI.step (w' := w')
  have HS : Hid _ := hst
  clear hst
  obtain ⟨cap, names, S, nv, gb, lb, L, Og, rfl, hok, hA⟩ := hI
  by_cases ha0 : a < 0
  · have hc := isLive_no hok.mid hA ha0 za
    clear hok hA ha hb hn ha0 za zb zc
    go_enter Try.func25, Try.ntmps25
    go_wp2_with (go_at_call 35; refine hc.mono ?_; clear hc; rintro e w' ⟨rfl, hb⟩)
    go_ret2
    exact ⟨rfl, HS.out _ hb⟩
  · obtain ⟨fa, hfa⟩ := ha.resolve_left ha0
    obtain ⟨na, hna⟩ : ∃ na : Nat, (na : Int) = a := ⟨a.toNat, by omega⟩
    subst hna
    rw [Int.toNat_natCast] at hfa
    have hc1 := isLive_yes hok.mid hA (copC_T.1 hfa).1
    by_cases hb0 : b < 0
    · have hc2 : ∀ w1, Below w.heap.size w w1 → _ := fun w1 hb => isLive_no hok.mid (hA.below hb) hb0 zb
      have HC2 : Hid _ := hc2
      clear hc2 hok hA ha hb hn ha0 za zb zc hfa hb0
      go_enter Try.func25, Try.ntmps25
      go_wp2_with (first
        | (go_at_call 35; refine hc1.mono ?_; clear hc1; rintro e w1 ⟨rfl, hb1⟩)
        | (go_at_call 35; refine (HC2.out _ hb1).mono ?_; clear HC2; rintro e w2 ⟨rfl, hb2⟩; replace hb2 := hb1.trans (hb2.mono hb1.size); clear hb1))
      go_ret2
      exact ⟨rfl, HS.out _ hb2⟩
    · obtain ⟨fb, hfb⟩ := hb.resolve_left hb0
      obtain ⟨nb, hnb⟩ : ∃ nb : Nat, (nb : Int) = b := ⟨b.toNat, by omega⟩
      subst hnb
      rw [Int.toNat_natCast] at hfb
      have hc0 : c < 0 := by omega
      have hc2 : ∀ w1, Below w.heap.size w w1 → _ := fun w1 hb => isLive_yes hok.mid (hA.below hb) (copC_T.1 hfb).1
      have hc3 : ∀ w1, Below w.heap.size w w1 → _ := fun w1 hb => isLive_no hok.mid (hA.below hb) hc0 zc
      have HC2 : Hid _ := hc2
      have HC3 : Hid _ := hc3
      clear hc2 hc3 hok hA ha hb hn ha0 za zb zc hfa hfb hb0 hc0
      go_enter Try.func25, Try.ntmps25
      go_wp2_with (first
        | (go_at_call 35; refine hc1.mono ?_; clear hc1; rintro e w1 ⟨rfl, hb1⟩)
        | (go_at_call 35; refine (HC2.out _ hb1).mono ?_; clear HC2; rintro e w2 ⟨rfl, hb2⟩; replace hb2 := hb1.trans (hb2.mono hb1.size); clear hb1)
        | (go_at_call 35; refine (HC3.out _ hb2).mono ?_; clear HC3; rintro e w3 ⟨rfl, hb3⟩; replace hb3 := hb2.trans (hb3.mono hb2.size); clear hb2))
      go_ret2
      exact ⟨rfl, HS.out _ hb3⟩

set_option maxHeartbeats 400000 in
set_option maxRecDepth 10000 in
theorem copseRestrict_no {O : Nat → Prop} {w : World} {x : Nat} {C : CopS} (hI : CopI O w x C) (h : Int) (name : ByteArray) (b : Bool) (hh : h < 0) (hz : i64ok h) :
    Calls Try.prog 27 #[.pointer (some ⟨x, 0, none⟩), .int .i64 h, .string name, .bool b] w fun e w' => e = .returned (.tuple #[.int .i64 0, .int .i64 4]) ∧ CopStep CopI O w x w' C := by
  have hst := fun w' => hI.step (w' := w')
  obtain ⟨cap, names, S, nv, gb, lb, L, Og, rfl, hok, hA⟩ := hI
  have hc := isLive_no hok.mid hA hh hz
  have HS : Hid _ := hst
  clear hst hok hA hh hz
  go_enter Try.func27, Try.ntmps27
  go_wp2_with (go_at_call 35; refine hc.mono ?_; clear hc; rintro e w' ⟨rfl, hb⟩)
  go_ret2
  exact ⟨rfl, HS.out _ hb⟩

set_option maxHeartbeats 400000 in
set_option maxRecDepth 10000 in
theorem copseRestrict_name {O : Nat → Prop} {w : World} {x : Nat} {C : CopS} (hI : CopI O w x C) (h : Nat) (f : Tab) (hf : C.T h = some f) (name : ByteArray) (b : Bool) (hn : namedI C.names name = -1) :
    Calls Try.prog 27 #[.pointer (some ⟨x, 0, none⟩), .int .i64 h, .string name, .bool b] w fun e w' => e = .returned (.tuple #[.int .i64 0, .int .i64 2]) ∧ CopStep CopI O w x w' C := by
  have hst := fun w' => hI.step (w' := w')
  obtain ⟨cap, names, S, nv, gb, lb, L, Og, rfl, hok, hA⟩ := hI
  have hc := isLive_yes hok.mid hA (copC_T.1 hf).1
  have hn6 := hok.mid.n6
  have hn' : namedI names name = -1 := hn
  have c1 : ∀ w1, Below w.heap.size w w1 → w1.cell? ⟨x, 1, none⟩ = some nv := fun w1 hb => (hA.below hb).c.2.1
  have hidx : ∀ w1, Below w.heap.size w w1 → Calls Try.prog 29 #[nv, .string name] w1 fun e w' => e = .returned (.int .i64 (-1)) ∧ w' = w1 := by
    intro w1 hb
    have := slicesIndexS_is nv names name w1 (hA.below hb).namesRead (by omega)
    rw [hn'] at this
    exact this
  have HS : Hid _ := hst
  have HX : Hid _ := hidx
  have HC : Hid _ := c1
  clear hst hidx c1 hok hA hf hn hn'
  go_enter Try.func27, Try.ntmps27
  go_wp2_with (first
    | (go_at_call 35; refine hc.mono ?_; clear hc; rintro e w1 ⟨rfl, hb⟩; have q1 := HC.out _ hb)
    | (go_at_call 29; refine (HX.out _ hb).mono ?_; clear HX; rintro e w2 ⟨rfl, hq⟩; replace hq := hq.symm; subst hq))
  go_ret2
  exact ⟨rfl, HS.out _ hb⟩

set_option maxHeartbeats 400000 in
set_option maxRecDepth 10000 in
theorem copseEval_no {O : Nat → Prop} {w : World} {x : Nat} {C : CopS} (hI : CopI O w x C) (h a : Int) (hh : h < 0) (hz : i64ok h) :
    Calls Try.prog 28 #[.pointer (some ⟨x, 0, none⟩), .int .i64 h, .int .i64 a] w fun e w' => e = .returned (.tuple #[.bool false, .int .i64 4]) ∧ CopStep CopI O w x w' C := by
  have hst := fun w' => hI.step (w' := w')
  obtain ⟨cap, names, S, nv, gb, lb, L, Og, rfl, hok, hA⟩ := hI
  have hc := isLive_no hok.mid hA hh hz
  have HS : Hid _ := hst
  clear hst hok hA hh hz
  go_enter Try.func28, Try.ntmps28
  go_wp2_with (go_at_call 35; refine hc.mono ?_; clear hc; rintro e w' ⟨rfl, hb⟩)
  go_ret2
  exact ⟨rfl, HS.out _ hb⟩

end Go.Proofs.Ytebfmcafmojlaaa

/-
  copse: Eval at any number; what Var refuses.
-/
namespace Go.Proofs.Ytebfmcafmojlaaa
open Go.RowKit Go.Maps
set_option linter.unusedSimpArgs false
set_option linter.unusedVariables false

set_option maxHeartbeats 400000 in
set_option maxRecDepth 10000 in
theorem copseEval_out {O : Nat → Prop} {w : World} {x : Nat} {C : CopS} (hI : CopI O w x C) (h : Nat) (f : Tab) (a : Int) (hf : C.T h = some f) (za : i64ok a) (ha : a < 0 ∨ 2 ^ C.names.length ≤ a) :
    Calls Try.prog 28 #[.pointer (some ⟨x, 0, none⟩), .int .i64 h, .int .i64 a] w fun e w' => e = .returned (.tuple #[.bool false, .int .i64 1]) ∧ CopStep CopI O w x w' C := by
  have hst := fun w' => hI.step (w' := w')
  obtain ⟨cap, names, S, nv, gb, lb, L, Og, rfl, hok, hA⟩ := hI
  have hc1 := isLive_yes hok.mid hA (copC_T.1 hf).1
  have hn6 := hok.mid.n6
  have ha' : a < 0 ∨ 2 ^ names.length ≤ a := ha
  obtain ⟨nao, ncap, env⟩ := owns_form hA.names.1
  rw [List.length_map] at env
  subst env
  have c1 : ∀ w1, Below w.heap.size w w1 → w1.cell? ⟨x, 1, none⟩ = some (.slice nao names.length ncap) := fun w1 hb => (hA.below hb).c.2.1
  have HS : Hid _ := hst
  have H2 : Hid _ := c1
  obtain ⟨n, hn⟩ : ∃ n, n = names.length := ⟨_, rfl⟩
  rw [← hn] at H2 hn6 ha'
  have hpw := pow_wrap n hn6
  obtain ⟨P, hPP⟩ : ∃ P, P = 2 ^ n := ⟨_, rfl⟩
  have hPI : (2 : Int) ^ n = (P : Int) := by rw [hPP]; simp
  rw [hPI] at ha'
  rw [← hPP] at hpw
  clear hst c1 hok hA hf hn hPP hPI ha
  by_cases hneg : a < 0
  · clear ha'
    go_enter Try.func28, Try.ntmps28
    go_wp2_with (go_at_call 35; refine hc1.mono ?_; clear hc1; rintro e w1 ⟨rfl, hb1⟩; have q1 := H2.out _ hb1)
    go_ret2
    exact ⟨rfl, HS.out _ hb1⟩
  · have hge : (P : Int) ≤ a := ha'.resolve_left hneg
    clear ha'
    go_enter Try.func28, Try.ntmps28
    go_wp2_with (go_at_call 35; refine hc1.mono ?_; clear hc1; rintro e w1 ⟨rfl, hb1⟩; have q1 := H2.out _ hb1)
    go_ret2
    exact ⟨rfl, HS.out _ hb1⟩

theorem copseEval_is {O : Nat → Prop} {w : World} {x : Nat} {C : CopS} (hI : CopI O w x C) (h : Nat) (f : Tab) (a : Int) (hf : C.T h = some f) (za : i64ok a) :
    Calls Try.prog 28 #[.pointer (some ⟨x, 0, none⟩), .int .i64 h, .int .i64 a] w fun e w' => e = .returned (.tuple #[.bool (evalR C.names.length f a).1, .int .i64 (evalR C.names.length f a).2]) ∧ CopStep CopI O w x w' C := by
  by_cases ha : a < 0 ∨ 2 ^ C.names.length ≤ a
  · have he : evalR C.names.length f a = (false, 1) := by unfold evalR; rw [if_pos ha]
    rw [he]
    exact copseEval_out hI h f a hf za ha
  · have he : evalR C.names.length f a = (f.getLsbD a.toNat, 0) := by unfold evalR; rw [if_neg ha]
    rw [he]
    obtain ⟨n, hn⟩ : ∃ n : Nat, (n : Int) = a := ⟨a.toNat, by omega⟩
    subst hn
    rw [Int.toNat_natCast]
    refine copseEval_yes hI h f n hf ?_
    have : ¬ ((2 : Int) ^ C.names.length ≤ (n : Int)) := fun q => ha (.inr q)
    have h2 : ((2 ^ C.names.length : Nat) : Int) = (2 : Int) ^ C.names.length := by simp
    rw [← h2] at this
    omega

set_option maxHeartbeats 400000 in
set_option maxRecDepth 10000 in
theorem copseVar_no {O : Nat → Prop} {w : World} {x : Nat} {C : CopS} (hI : CopI O w x C) (name : ByteArray) (hsz : name.size ≤ maxLen) (hno : isNameB name = false ∨ 0 ≤ namedI C.names name) :
    Calls Try.prog 24 #[.pointer (some ⟨x, 0, none⟩), .string name] w fun e w' => e = .returned (.tuple #[.int .i64 0, .int .i64 2]) ∧ CopStep CopI O w x w' C := by
  have hst := fun w' => hI.step (w' := w')
  obtain ⟨cap, names, S, nv, gb, lb, L, Og, rfl, hok, hA⟩ := hI
  have hno' : isNameB name = false ∨ 0 ≤ namedI names name := hno
  have hn6 := hok.mid.n6
  have hisn := isName_is name w hsz
  have hcon : ∀ w1, Below w.heap.size w w1 → Calls Try.prog 42 #[nv, .string name] w1 fun e w' => e = .returned (.bool (decide (0 ≤ namedI names name))) ∧ w' = w1 := fun w1 hb => slicesContainsS_is nv names name w1 (hA.below hb).namesRead (by omega)
  have c1 : ∀ w1, Below w.heap.size w w1 → w1.cell? ⟨x, 1, none⟩ = some nv := fun w1 hb => (hA.below hb).c.2.1
  have HS : Hid _ := hst
  have H1 : Hid _ := c1
  clear hst c1 hno hok hsz hn6
  cases hb : isNameB name
  · rw [hb] at hisn
    clear hb hno' hcon hA
    go_enter Try.func24, Try.ntmps24
    go_wp2_with (go_at_call 41; refine hisn.mono ?_; clear hisn; rintro e w1 ⟨rfl, hb1⟩; have q1 := H1.out _ hb1)
    go_ret2
    exact ⟨rfl, HS.out _ hb1⟩
  · rw [hb] at hisn hno'
    have h0 : 0 ≤ namedI names name := hno'.resolve_left (by simp)
    rw [decide_eq_true h0] at hcon
    have HC : Hid _ := hcon
    clear hb hno' h0 hcon hA
    go_enter Try.func24, Try.ntmps24
    go_wp2_with (first
      | (go_at_call 41; refine hisn.mono ?_; clear hisn; rintro e w1 ⟨rfl, hb1⟩; have q1 := H1.out _ hb1)
      | (go_at_call 42; refine (HC.out _ hb1).mono ?_; clear HC; rintro e w2 ⟨rfl, hq⟩; replace hq := hq.symm; subst hq))
    go_ret2
    exact ⟨rfl, HS.out _ hb1⟩

end Go.Proofs.Ytebfmcafmojlaaa

/-
  copse: Var, whatever comes; Nodes of wrong handles.
-/
namespace Go.Proofs.Ytebfmcafmojlaaa
open Go.RowKit Go.Maps
set_option linter.unusedSimpArgs false
set_option linter.unusedVariables false

set_option maxHeartbeats 400000 in
set_option maxRecDepth 10000 in
theorem copseVar_many {O : Nat → Prop} {w : World} {x : Nat} {C : CopS} (hI : CopI O w x C) (name : ByteArray) (hsz : name.size ≤ maxLen) (hnm : isNameB name = true) (hnd : namedI C.names name = -1) (h6 : C.names.length = 6) :
    Calls Try.prog 24 #[.pointer (some ⟨x, 0, none⟩), .string name] w fun e w' => e = .returned (.tuple #[.int .i64 0, .int .i64 3]) ∧ CopStep CopI O w x w' C := by
  have hst := fun w' => hI.step (w' := w')
  obtain ⟨cap, names, S, nv, gb, lb, L, Og, rfl, hok, hA⟩ := hI
  have hnd' : namedI names name = -1 := hnd
  have h6' : names.length = 6 := h6
  have hisn := isName_is name w hsz
  rw [hnm] at hisn
  have hcon : ∀ w1, Below w.heap.size w w1 → Calls Try.prog 42 #[nv, .string name] w1 fun e w' => e = .returned (.bool false) ∧ w' = w1 := by
    intro w1 hb
    have := slicesContainsS_is nv names name w1 (hA.below hb).namesRead (by omega)
    rw [hnd'] at this
    exact this
  have c1 : ∀ w1, Below w.heap.size w w1 → w1.cell? ⟨x, 1, none⟩ = some nv := fun w1 hb => (hA.below hb).c.2.1
  obtain ⟨nao, ncap, env⟩ := owns_form hA.names.1
  rw [List.length_map, h6'] at env
  subst env
  have HS : Hid _ := hst
  have H1 : Hid _ := c1
  have HC : Hid _ := hcon
  clear hst c1 hok hsz hcon hA hnd hnd' h6 h6' hnm
  go_enter Try.func24, Try.ntmps24
  go_wp2_with (first
    | (go_at_call 41; refine hisn.mono ?_; clear hisn; rintro e w1 ⟨rfl, hb1⟩; have q1 := H1.out _ hb1)
    | (go_at_call 42; refine (HC.out _ hb1).mono ?_; clear HC; rintro e w2 ⟨rfl, hq⟩; replace hq := hq.symm; subst hq))
  go_ret2
  exact ⟨rfl, HS.out _ hb1⟩

set_option maxHeartbeats 400000 in
set_option maxRecDepth 10000 in
theorem copseVar_full {O : Nat → Prop} {w : World} {x : Nat} {cap : Nat} {names : List ByteArray} {S : GrS} {nv : Value} {gb lb : Nat} {L : List (Value × Value)} {Og : Nat → Prop} (hok : CopOk cap names S L) (hA : CopAt O w x cap names S nv gb lb L Og) (hst : ∀ w', Below w.heap.size w w' → CopStep CopI O w x w' (copC cap names S L))
    (name : ByteArray) (hsz : name.size ≤ maxLen) (hnm : isNameB name = true) (hnd : namedI names name = -1) (h6 : names.length < 6) (hfull : S.nums.length = cap) :
    Calls Try.prog 24 #[.pointer (some ⟨x, 0, none⟩), .string name] w fun e w' => e = .returned (.tuple #[.int .i64 0, .int .i64 5]) ∧ CopStep CopI O w x w' (copC cap names S L) := by
  have hisn := isName_is name w hsz
  rw [hnm] at hisn
  have hcon : ∀ w1, Below w.heap.size w w1 → Calls Try.prog 42 #[nv, .string name] w1 fun e w' => e = .returned (.bool false) ∧ w' = w1 := by
    intro w1 hb
    have := slicesContainsS_is nv names name w1 (hA.below hb).namesRead (by omega)
    rw [hnd] at this
    exact this
  have hcell : ∀ w1, Below w.heap.size w w1 → w1.cell? ⟨x, 0, none⟩ = some (.int .i64 (cap : Nat)) ∧ w1.cell? ⟨x, 1, none⟩ = some nv ∧ w1.cell? ⟨x, 2, none⟩ = some (.pointer (some ⟨gb, 0, none⟩)) := by
    intro w1 hb
    obtain ⟨a, b, c, d⟩ := (hA.below hb).c
    exact ⟨a, b, c⟩
  have hsize : ∀ w1, Below w.heap.size w w1 → Calls Try.prog 31 #[.pointer (some ⟨gb, 0, none⟩)] w1 fun e w' => e = .returned (.int .i64 (cap : Nat)) ∧ w' = w1 := by
    intro w1 hb
    obtain ⟨_, _, _, _, _, _, _, hG⟩ := (hA.below hb).graph
    have := graphSize_is hG
    rw [hfull] at this
    exact this
  obtain ⟨nao, ncap, env⟩ := owns_form hA.names.1
  rw [List.length_map] at env
  subst env
  obtain ⟨n, hnn⟩ : ∃ n, n = names.length := ⟨_, rfl⟩
  rw [← hnn] at hcon hcell h6
  have hn6 : ((n : Int) == 6) = false := by simp; omega
  have HS : Hid _ := hst
  have HC : Hid _ := hcell
  have HN : Hid _ := hcon
  have HZ : Hid _ := hsize
  clear hst hcell hcon hsize hok hA hnd hnm hsz hnn hfull
  go_enter Try.func24, Try.ntmps24
  go_upto_region 5 with (first
    | (go_at_call 41; refine hisn.mono ?_; clear hisn; rintro e w1 ⟨rfl, hb1⟩; obtain ⟨q0, q1, q2⟩ := HC.out _ hb1)
    | (go_at_call 42; refine (HN.out _ hb1).mono ?_; clear HN; rintro e w2 ⟨rfl, hq⟩; replace hq := hq.symm; subst hq))
  have hs5 := HZ.out _ hb1.drew
  go_region_held (fun w' => w'.cell? ⟨x, 0, none⟩ = some (.int .i64 (cap : Nat)) ∧ w'.cell? ⟨x, 2, none⟩ = some (.pointer (some ⟨gb, 0, none⟩))) (go_keep) (first | (go_at_call 31; refine hs5.mono ?_; clear hs5; rintro e w3 ⟨rfl, rfl⟩))
  all_goals
    go_wp2_with fail
    go_ret2
    exact ⟨rfl, HS.out _ hb1.drew⟩

/-- Var, of a new name, where there are fewer than six. -/
theorem copseVar_all {O : Nat → Prop} {w : World} {x : Nat} {C : CopS} (hI : CopI O w x C) (Lt : List Tab) (hL : Lists C Lt) (name : ByteArray) (hsz : name.size ≤ maxLen) (hnm : isNameB name = true) (hnd : namedI C.names name = -1) (h6 : C.names.length < 6) :
    Calls Try.prog 24 #[.pointer (some ⟨x, 0, none⟩), .string name] w (PostTell CopI O w x C (fullV C Lt) (varC C name) (mask C.names.length)) := by
  have hs8 : name.size ≤ 8 := by
    apply Classical.byContradiction
    intro hn
    have := isName_short name (.inr (by omega))
    rw [hnm] at this
    cases this
  by_cases hf : fullV C Lt
  · have hst := fun w' => hI.step (w' := w')
    obtain ⟨cap, names, S, nv, gb, lb, L, Og, rfl, hok, hA⟩ := hI
    have hc := hok.var_count h6 Lt hL
    have hfull : S.nums.length = cap := by
      have h1 : ((cap : Nat) : Int) < ((allT (S.order ++ [names.length]) (withT Lt [mask names.length])).length : Int) := hf
      rw [hc] at h1
      have := hok.size
      omega
    exact (copseVar_full hok hA hst name hsz hnm hnd h6 hfull).mono (fun e w' h => .inl ⟨hf, h.1, h.2⟩)
  · exact copseVar_is hI Lt hL name (by omega) hnm hnd h6 hf

end Go.Proofs.Ytebfmcafmojlaaa

/-
  copse: Nodes of wrong handles; Live.
-/
namespace Go.Proofs.Ytebfmcafmojlaaa
open Go.RowKit Go.Maps
set_option linter.unusedSimpArgs false
set_option linter.unusedVariables false

set_option maxHeartbeats 400000 in
set_option maxRecDepth 10000 in
theorem copseNodes_no {O : Nat → Prop} {w : World} {x : Nat} {C : CopS} (hI : CopI O w x C) (hs : List Int) (fv : Value) (hr : Reads w.heap.size w fv (hs.map zv)) (hlen : hs.length ≤ 2000000) (hz : ∀ z ∈ hs, i64ok z) (hn : ∃ z ∈ hs, z < 0) :
    Calls Try.prog 19 #[.pointer (some ⟨x, 0, none⟩), fv] w fun e w' => e = .returned (.tuple #[.int .i64 0, .int .i64 4]) ∧ CopStep CopI O w x w' C := by
  have hst := fun w' => hI.step (w' := w')
  obtain ⟨cap, names, S, nv, gb, lb, L, Og, rfl, hok, hA⟩ := hI
  have hare := copseAreLive_is (zs := hs) (fv := fv) hA.c.2.2.2 (hA.lt x hA.self) hA.live hok.mid.agg hr hz (by omega)
  have hare2 : Calls Try.prog 32 #[.pointer (some ⟨x, 0, none⟩), fv] w fun e w' => e = .returned (.bool false) ∧ Below w.heap.size w w' := by
    refine hare.mono ?_
    rintro e w' ⟨b, rfl, h1, h2⟩
    have : b = false := by
      cases b
      · rfl
      · exfalso
        obtain ⟨z, hz1, hz2⟩ := hn
        have hl := h1.1 rfl z hz1
        obtain ⟨r, hr1, hr2⟩ := hok.mid.ents _ hl
        have : (Value.int .i64 z) = natv r := congrArg Prod.fst hr1
        unfold natv at this
        simp at this
        omega
    subst this
    exact ⟨rfl, h2⟩
  have HS : Hid _ := hst
  clear hst hare hok hA hr hz hn hlen
  go_enter Try.func19, Try.ntmps19
  go_wp2_with (go_at_call 32; refine hare2.mono ?_; clear hare2; rintro e w1 ⟨rfl, hb1⟩)
  go_ret2
  exact ⟨rfl, HS.out _ hb1⟩

/-- The nodes of all live handles. -/
theorem CopOk.count_live {cap : Nat} {names : List ByteArray} {S : GrS} {L : List (Value × Value)} (h : CopOk cap names S L) : S.nums.length ≤ cap := h.size

set_option maxHeartbeats 400000 in
theorem copseLive_num {O : Nat → Prop} {w : World} {x cap : Nat} {names : List ByteArray} {S : GrS} {nv : Value} {gb lb : Nat} {L : List (Value × Value)} {Og : Nat → Prop} (hA : CopAt O w x cap names S nv gb lb L Og) :
    Calls Try.prog 22 #[.pointer (some ⟨x, 0, none⟩)] w fun e w' => e = .returned (.int .i64 (S.nums.length : Nat)) ∧ w' = w := by
  have c2 := hA.c.2.2.1
  have hsize : Calls Try.prog 31 #[.pointer (some ⟨gb, 0, none⟩)] w fun e w' => e = .returned (.int .i64 (S.nums.length : Nat)) ∧ w' = w := by
    obtain ⟨_, _, _, _, _, _, _, hG⟩ := hA.graph
    exact graphSize_is hG
  clear hA
  go_enter Try.func22, Try.ntmps22
  go_wp2_with (go_at_call 31; refine hsize.mono ?_; clear hsize; rintro e w1 ⟨rfl, hq⟩; replace hq := hq.symm; subst hq)
  go_ret
  exact ⟨rfl, rfl⟩

end Go.Proofs.Ytebfmcafmojlaaa

/-
  slices.Clone, of numbers and of nodes.
-/
namespace Go.Proofs.Ytebfmcafmojlaaa
open Go.RowKit Go.Maps
set_option linter.unusedSimpArgs false
set_option linter.unusedVariables false

theorem owns_empty (w : World) (e : TypeId) (size : Nat) : (w.alloc (.cells #[] e)).ownsRow w.heap.size e size (.slice (some ⟨w.heap.size, 0, none⟩) 0 0) 0 [] :=
  ⟨by simp, .inr ⟨w.heap.size, 0, #[], rfl, Nat.le_refl _, heap_alloc_new w _, Nat.le_refl _, Nat.zero_le _, by simp, by simp⟩⟩

theorem owned_news {w : World} {e : TypeId} {size g n cap : Nat} {xs : List Value} (h : w.ownsRow 0 e size (.slice (some ⟨g, 0, none⟩) n cap) n xs) (o : Obj) : ∀ j u, xs[j]? = some u → (w.alloc o).cell? ((⟨g, 0, none⟩ : Addr).add j) = some u := by
  intro j u hj
  have hgl := (h.lt g rfl).2
  have h1 := h.cells (g := g) rfl j u hj
  rw [Addr.add_lit] at h1 ⊢
  rw [← h1]
  exact World.cell?_of_block (Below.heap_alloc w o g hgl)

set_option maxHeartbeats 400000 in
set_option maxRecDepth 10000 in
theorem slicesCloneI {w : World} {v : Value} {xs : List Nat} (h : w.ownsRow 0 3 1 v xs.length (xs.map natv)) (hl : xs.length ≤ 100000) :
    Calls Try.prog 70 #[v] w fun e w' => ∃ v', e = .returned v' ∧ w'.ownsRow w.heap.size 3 1 v' xs.length (xs.map natv) ∧ Below w.heap.size w w' := by
  obtain ⟨i0, hi, hz0, hz1, hz2⟩ := info_parts Try.infoIntP
  by_cases hnil : v = .slice none 0 0
  · subst hnil
    have h0 : xs = [] := by
      rcases h.2 with ⟨_, h0⟩ | ⟨g, cap, cur, e, _⟩
      · exact List.eq_nil_of_length_eq_zero h0
      · cases e
    subst h0
    clear h
    go_enter Try.func70, Try.ntmps70
    have hq : ∀ W : World, (binOp BinOp.eql 22 (.slice none 0 0) (.slice none 0 0)).run Try.prog W = .ok (.bool true) W := fun _ => rfl
    go_wp2
    go_ret
    exact ⟨_, rfl, World.ownsRow_nil _ _ _ _, Below.refl _ _⟩
  · obtain ⟨g, cap, rfl⟩ : ∃ g cap, v = .slice (some ⟨g, 0, none⟩) xs.length cap := by
      rcases h.2 with ⟨e, _⟩ | ⟨g, cap, cur, e, _⟩
      · exact absurd e hnil
      · exact ⟨g, cap, e⟩
    clear hnil
    have hnews := owned_news h (.cells #[] 3)
    have hem := owns_empty w 3 1
    have hln : (xs.map natv).length = xs.length * 1 := by simp
    have h1 : ∀ u ∈ xs.map natv, u.oneCell' = true := by
      intro u hu
      obtain ⟨y, _, rfl⟩ := List.mem_map.1 hu
      rfl
    obtain ⟨X, hX⟩ : ∃ X, X = xs.map natv := ⟨_, rfl⟩
    obtain ⟨N, hN⟩ : ∃ N, N = xs.length := ⟨_, rfl⟩
    rw [← hX] at hnews h1
    rw [← hX, ← hN] at hln
    rw [← hX, ← hN]
    rw [← hN] at hl
    have HNW : Hid _ := hnews
    clear h hX hN hnews
    go_enter Try.func70, Try.ntmps70
    have hq : ∀ (W : World) (n : Nat), (binOp BinOp.eql 22 (.slice (some ⟨g, 0, none⟩) n cap) (.slice none 0 0)).run Try.prog W = .ok (.bool false) W := fun _ _ => rfl
    go_wp2_with (at_builtin; refine wpList_append_placed rfl (.tmp 5) (.tmp 6) 22 rfl w.heap.size 3 i0 (.int .i64 0) 1 8 Try.underlying22 hi hz0 hz1 hz2 rfl (by decide) _ 0 [] rfl hem _ N cap X rfl hln HNW.out h1 ?_ ?_ ?_ ?_; (unfold maxLen; omega); omega; simp; intro v' w1 ho hg hp; have hbl := ((Below.refl w.heap.size w).alloc (Nat.le_refl _) (.cells #[] 3)).grown hg (by simp) (fun k hk => (hem.lt k hk).1); rw [Nat.zero_add, List.nil_append] at ho; have HQ : Hid (w1.ownsRow w.heap.size 3 1 v' N X ∧ Below w.heap.size w w1) := ⟨ho, hbl⟩; clear ho hg hp hbl HNW hem)
    go_ret
    exact ⟨_, rfl, HQ.out.1, HQ.out.2⟩

set_option maxHeartbeats 400000 in
set_option maxRecDepth 10000 in
theorem slicesCloneN {w : World} {v : Value} {N : Nat} {X : List Value} (h : w.ownsRow 0 97 3 v N X) (h1 : ∀ u ∈ X, u.oneCell' = true) (hl : N ≤ 100000) :
    Calls Try.prog 71 #[v] w fun e w' => ∃ v', e = .returned v' ∧ w'.ownsRow w.heap.size 97 3 v' N X ∧ Below w.heap.size w w' := by
  obtain ⟨i0, hi, hz0, hz1, hz2⟩ := info_parts Try.infoNode
  by_cases hnil : v = .slice none 0 0
  · subst hnil
    have h0 : N = 0 := by
      rcases h.2 with ⟨_, h0⟩ | ⟨g, cap, cur, e, _⟩
      · exact h0
      · cases e
    have hX : X = [] := List.eq_nil_of_length_eq_zero (by rw [h.1, h0])
    subst h0
    subst hX
    clear h
    go_enter Try.func71, Try.ntmps71
    have hq : ∀ W : World, (binOp BinOp.eql 86 (.slice none 0 0) (.slice none 0 0)).run Try.prog W = .ok (.bool true) W := fun _ => rfl
    go_wp2
    go_ret
    exact ⟨_, rfl, World.ownsRow_nil _ _ _ _, Below.refl _ _⟩
  · obtain ⟨g, cap, rfl⟩ : ∃ g cap, v = .slice (some ⟨g, 0, none⟩) N cap := by
      rcases h.2 with ⟨e, _⟩ | ⟨g, cap, cur, e, _⟩
      · exact absurd e hnil
      · exact ⟨g, cap, e⟩
    clear hnil
    have hnews := owned_news h (.cells #[] 97)
    have hem := owns_empty w 97 3
    have hln : X.length = N * 3 := h.1
    have HNW : Hid _ := hnews
    clear h hnews
    go_enter Try.func71, Try.ntmps71
    have hq : ∀ (W : World) (n : Nat), (binOp BinOp.eql 86 (.slice (some ⟨g, 0, none⟩) n cap) (.slice none 0 0)).run Try.prog W = .ok (.bool false) W := fun _ _ => rfl
    go_wp2_with (at_builtin; refine wpList_append_placed rfl (.tmp 5) (.tmp 6) 86 rfl w.heap.size 97 i0 (.agg #[.int .i64 0, .int .i64 0, .int .i64 0]) 3 24 Try.underlying86 hi hz0 hz1 hz2 rfl (by decide) _ 0 [] rfl hem _ N cap X rfl hln HNW.out h1 ?_ ?_ ?_ ?_; (unfold maxLen; omega); omega; simp; intro v' w1 ho hg hp; have hbl := ((Below.refl w.heap.size w).alloc (Nat.le_refl _) (.cells #[] 97)).grown hg (by simp) (fun k hk => (hem.lt k hk).1); rw [Nat.zero_add, List.nil_append] at ho; have HQ : Hid (w1.ownsRow w.heap.size 97 3 v' N X ∧ Below w.heap.size w w1) := ⟨ho, hbl⟩; clear ho hg hp hbl HNW hem)
    go_ret
    exact ⟨_, rfl, HQ.out.1, HQ.out.2⟩

end Go.Proofs.Ytebfmcafmojlaaa

