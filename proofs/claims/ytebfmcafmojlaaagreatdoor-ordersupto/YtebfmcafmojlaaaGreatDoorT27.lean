/-
  copse: what is refused: New, Ite, Restrict, Eval.
-/
import Derived.Test.YtebfmcafmojlaaaGreatDoorT26
import Derived.Test.YtebfmcafmojlaaaGreatDoorT11
namespace Go.Proofs.YtebfmcafmojlaaaGreatDoor
open Go.RowKit Go.Maps
set_option linter.unusedSimpArgs false
set_option linter.unusedVariables false

set_option maxHeartbeats 400000 in
set_option maxRecDepth 10000 in
theorem copseNew_no (cap : Int) (w : World) (h : cap < 1 ∨ 300 < cap) : Calls Tryz.prog 18 #[.int .i64 cap] w fun e w' => e = .returned (.tuple #[.pointer none, .int .i64 1]) ∧ Below w.heap.size w w' := by
  by_cases h1 : cap < 1
  · clear h
    go_enter Tryz.func18, Tryz.ntmps18
    go_wp2
    go_ret2
    exact ⟨rfl, Below.refl _ _⟩
  · have h2 : 300 < cap := h.resolve_left h1
    clear h
    go_enter Tryz.func18, Tryz.ntmps18
    go_wp2
    go_ret2
    exact ⟨rfl, Below.refl _ _⟩

set_option maxHeartbeats 400000 in
set_option maxRecDepth 10000 in
theorem copseIte_no {O : Nat → Prop} {w : World} {x : Nat} {C : CopS} (hI : CopI O w x C) (a b c : Int) (za : i64ok a) (zb : i64ok b) (zc : i64ok c) (hn : a < 0 ∨ b < 0 ∨ c < 0) (ha : a < 0 ∨ ∃ f, C.T a.toNat = some f) (hb : b < 0 ∨ ∃ f, C.T b.toNat = some f) :
    Calls Tryz.prog 22 #[.pointer (some ⟨x, 0, none⟩), .int .i64 a, .int .i64 b, .int .i64 c] w fun e w' => e = .returned (.tuple #[.int .i64 0, .int .i64 4]) ∧ CopStep CopI O w x w' C := by
  have hst := fun w' => hI.step (w' := w')
  have HS : Hid _ := hst
  clear hst
  obtain ⟨cap, names, S, nv, gb, lb, L, Og, rfl, hok, hA⟩ := hI
  by_cases ha0 : a < 0
  · have hc := isLive_no hok.mid hA ha0 za
    clear hok hA ha hb hn ha0 za zb zc
    go_enter Tryz.func22, Tryz.ntmps22
    go_wp2_with (go_at_call 57; refine hc.mono ?_; clear hc; rintro e w' ⟨rfl, hb⟩)
    go_ret2
    exact ⟨rfl, HS.out _ hb⟩
  · obtain ⟨fa, hfa⟩ := ha.resolve_left ha0
    obtain ⟨na, hna⟩ : ∃ na : Nat, (na : Int) = a := ⟨a.toNat, by omega⟩
    subst hna
    rw [Int.toNat_natCast] at hfa
    have hc1 := isLive_yes hok.mid hA (copC_T.1 hfa).1
    by_cases hb0 : b < 0
    · have hc2 : ∀ w1, Below w.heap.size w w1 → _ := fun w1 hb => isLive_no hok.mid (hA.below hb) hb0 zb
      have HC2 : Hid _ := hc2
      clear hc2 hok hA ha hb hn ha0 za zb zc hfa hb0
      go_enter Tryz.func22, Tryz.ntmps22
      go_wp2_with (first
        | (go_at_call 57; refine hc1.mono ?_; clear hc1; rintro e w1 ⟨rfl, hb1⟩)
        | (go_at_call 57; refine (HC2.out _ hb1).mono ?_; clear HC2; rintro e w2 ⟨rfl, hb2⟩; replace hb2 := hb1.trans (hb2.mono hb1.size); clear hb1))
      go_ret2
      exact ⟨rfl, HS.out _ hb2⟩
    · obtain ⟨fb, hfb⟩ := hb.resolve_left hb0
      obtain ⟨nb, hnb⟩ : ∃ nb : Nat, (nb : Int) = b := ⟨b.toNat, by omega⟩
      subst hnb
      rw [Int.toNat_natCast] at hfb
      have hc0 : c < 0 := by omega
      have hc2 : ∀ w1, Below w.heap.size w w1 → _ := fun w1 hb => isLive_yes hok.mid (hA.below hb) (copC_T.1 hfb).1
      have hc3 : ∀ w1, Below w.heap.size w w1 → _ := fun w1 hb => isLive_no hok.mid (hA.below hb) hc0 zc
      have HC2 : Hid _ := hc2
      have HC3 : Hid _ := hc3
      clear hc2 hc3 hok hA ha hb hn ha0 za zb zc hfa hfb hb0 hc0
      go_enter Tryz.func22, Tryz.ntmps22
      go_wp2_with (first
        | (go_at_call 57; refine hc1.mono ?_; clear hc1; rintro e w1 ⟨rfl, hb1⟩)
        | (go_at_call 57; refine (HC2.out _ hb1).mono ?_; clear HC2; rintro e w2 ⟨rfl, hb2⟩; replace hb2 := hb1.trans (hb2.mono hb1.size); clear hb1)
        | (go_at_call 57; refine (HC3.out _ hb2).mono ?_; clear HC3; rintro e w3 ⟨rfl, hb3⟩; replace hb3 := hb2.trans (hb3.mono hb2.size); clear hb2))
      go_ret2
      exact ⟨rfl, HS.out _ hb3⟩

set_option maxHeartbeats 400000 in
set_option maxRecDepth 10000 in
theorem copseRestrict_no {O : Nat → Prop} {w : World} {x : Nat} {C : CopS} (hI : CopI O w x C) (h : Int) (name : ByteArray) (b : Bool) (hh : h < 0) (hz : i64ok h) :
    Calls Tryz.prog 112 #[.pointer (some ⟨x, 0, none⟩), .int .i64 h, .string name, .bool b] w fun e w' => e = .returned (.tuple #[.int .i64 0, .int .i64 4]) ∧ CopStep CopI O w x w' C := by
  have hst := fun w' => hI.step (w' := w')
  obtain ⟨cap, names, S, nv, gb, lb, L, Og, rfl, hok, hA⟩ := hI
  have hc := isLive_no hok.mid hA hh hz
  have HS : Hid _ := hst
  clear hst hok hA hh hz
  go_enter Tryz.func112, Tryz.ntmps112
  go_wp2_with (go_at_call 57; refine hc.mono ?_; clear hc; rintro e w' ⟨rfl, hb⟩)
  go_ret2
  exact ⟨rfl, HS.out _ hb⟩

set_option maxHeartbeats 400000 in
set_option maxRecDepth 10000 in
theorem copseRestrict_name {O : Nat → Prop} {w : World} {x : Nat} {C : CopS} (hI : CopI O w x C) (h : Nat) (f : Tab) (hf : C.T h = some f) (name : ByteArray) (b : Bool) (hn : namedI C.names name = -1) :
    Calls Tryz.prog 112 #[.pointer (some ⟨x, 0, none⟩), .int .i64 h, .string name, .bool b] w fun e w' => e = .returned (.tuple #[.int .i64 0, .int .i64 2]) ∧ CopStep CopI O w x w' C := by
  have hst := fun w' => hI.step (w' := w')
  obtain ⟨cap, names, S, nv, gb, lb, L, Og, rfl, hok, hA⟩ := hI
  have hc := isLive_yes hok.mid hA (copC_T.1 hf).1
  have hn6 := hok.mid.n6
  have hn' : namedI names name = -1 := hn
  have c1 : ∀ w1, Below w.heap.size w w1 → w1.cell? ⟨x, 1, none⟩ = some nv := fun w1 hb => (hA.below hb).c.2.1
  have hidx : ∀ w1, Below w.heap.size w w1 → Calls Tryz.prog 46 #[nv, .string name] w1 fun e w' => e = .returned (.int .i64 (-1)) ∧ w' = w1 := by
    intro w1 hb
    have := slicesIndexS_is nv names name w1 (hA.below hb).namesRead (by omega)
    rw [hn'] at this
    exact this
  have HS : Hid _ := hst
  have HX : Hid _ := hidx
  have HC : Hid _ := c1
  clear hst hidx c1 hok hA hf hn hn'
  go_enter Tryz.func112, Tryz.ntmps112
  go_wp2_with (first
    | (go_at_call 57; refine hc.mono ?_; clear hc; rintro e w1 ⟨rfl, hb⟩; have q1 := HC.out _ hb)
    | (go_at_call 46; refine (HX.out _ hb).mono ?_; clear HX; rintro e w2 ⟨rfl, hq⟩; replace hq := hq.symm; subst hq))
  go_ret2
  exact ⟨rfl, HS.out _ hb⟩

set_option maxHeartbeats 400000 in
set_option maxRecDepth 10000 in
theorem copseEval_no {O : Nat → Prop} {w : World} {x : Nat} {C : CopS} (hI : CopI O w x C) (h a : Int) (hh : h < 0) (hz : i64ok h) :
    Calls Tryz.prog 93 #[.pointer (some ⟨x, 0, none⟩), .int .i64 h, .int .i64 a] w fun e w' => e = .returned (.tuple #[.bool false, .int .i64 4]) ∧ CopStep CopI O w x w' C := by
  have hst := fun w' => hI.step (w' := w')
  obtain ⟨cap, names, S, nv, gb, lb, L, Og, rfl, hok, hA⟩ := hI
  have hc := isLive_no hok.mid hA hh hz
  have HS : Hid _ := hst
  clear hst hok hA hh hz
  go_enter Tryz.func93, Tryz.ntmps93
  go_wp2_with (go_at_call 57; refine hc.mono ?_; clear hc; rintro e w' ⟨rfl, hb⟩)
  go_ret2
  exact ⟨rfl, HS.out _ hb⟩

end Go.Proofs.YtebfmcafmojlaaaGreatDoor

/-
  copse: Eval at any number; what Var refuses.
-/
namespace Go.Proofs.YtebfmcafmojlaaaGreatDoor
open Go.RowKit Go.Maps
set_option linter.unusedSimpArgs false
set_option linter.unusedVariables false

set_option maxHeartbeats 400000 in
set_option maxRecDepth 10000 in
theorem copseEval_out {O : Nat → Prop} {w : World} {x : Nat} {C : CopS} (hI : CopI O w x C) (h : Nat) (f : Tab) (a : Int) (hf : C.T h = some f) (za : i64ok a) (ha : a < 0 ∨ 2 ^ C.names.length ≤ a) :
    Calls Tryz.prog 93 #[.pointer (some ⟨x, 0, none⟩), .int .i64 h, .int .i64 a] w fun e w' => e = .returned (.tuple #[.bool false, .int .i64 1]) ∧ CopStep CopI O w x w' C := by
  have hst := fun w' => hI.step (w' := w')
  obtain ⟨cap, names, S, nv, gb, lb, L, Og, rfl, hok, hA⟩ := hI
  have hc1 := isLive_yes hok.mid hA (copC_T.1 hf).1
  have hn6 := hok.mid.n6
  have ha' : a < 0 ∨ 2 ^ names.length ≤ a := ha
  obtain ⟨nao, ncap, env⟩ := owns_form hA.names.1
  rw [List.length_map] at env
  subst env
  have c1 : ∀ w1, Below w.heap.size w w1 → w1.cell? ⟨x, 1, none⟩ = some (.slice nao names.length ncap) := fun w1 hb => (hA.below hb).c.2.1
  have HS : Hid _ := hst
  have H2 : Hid _ := c1
  obtain ⟨n, hn⟩ : ∃ n, n = names.length := ⟨_, rfl⟩
  rw [← hn] at H2 hn6 ha'
  have hpw := pow_wrap n hn6
  obtain ⟨P, hPP⟩ : ∃ P, P = 2 ^ n := ⟨_, rfl⟩
  have hPI : (2 : Int) ^ n = (P : Int) := by rw [hPP]; simp
  rw [hPI] at ha'
  rw [← hPP] at hpw
  clear hst c1 hok hA hf hn hPP hPI ha
  by_cases hneg : a < 0
  · clear ha'
    go_enter Tryz.func93, Tryz.ntmps93
    go_wp2_with (go_at_call 57; refine hc1.mono ?_; clear hc1; rintro e w1 ⟨rfl, hb1⟩; have q1 := H2.out _ hb1)
    go_ret2
    exact ⟨rfl, HS.out _ hb1⟩
  · have hge : (P : Int) ≤ a := ha'.resolve_left hneg
    clear ha'
    go_enter Tryz.func93, Tryz.ntmps93
    go_wp2_with (go_at_call 57; refine hc1.mono ?_; clear hc1; rintro e w1 ⟨rfl, hb1⟩; have q1 := H2.out _ hb1)
    go_ret2
    exact ⟨rfl, HS.out _ hb1⟩

theorem copseEval_is {O : Nat → Prop} {w : World} {x : Nat} {C : CopS} (hI : CopI O w x C) (h : Nat) (f : Tab) (a : Int) (hf : C.T h = some f) (za : i64ok a) :
    Calls Tryz.prog 93 #[.pointer (some ⟨x, 0, none⟩), .int .i64 h, .int .i64 a] w fun e w' => e = .returned (.tuple #[.bool (evalR C.names.length f a).1, .int .i64 (evalR C.names.length f a).2]) ∧ CopStep CopI O w x w' C := by
  by_cases ha : a < 0 ∨ 2 ^ C.names.length ≤ a
  · have he : evalR C.names.length f a = (false, 1) := by unfold evalR; rw [if_pos ha]
    rw [he]
    exact copseEval_out hI h f a hf za ha
  · have he : evalR C.names.length f a = (f.getLsbD a.toNat, 0) := by unfold evalR; rw [if_neg ha]
    rw [he]
    obtain ⟨n, hn⟩ : ∃ n : Nat, (n : Int) = a := ⟨a.toNat, by omega⟩
    subst hn
    rw [Int.toNat_natCast]
    refine copseEval_yes hI h f n hf ?_
    have : ¬ ((2 : Int) ^ C.names.length ≤ (n : Int)) := fun q => ha (.inr q)
    have h2 : ((2 ^ C.names.length : Nat) : Int) = (2 : Int) ^ C.names.length := by simp
    rw [← h2] at this
    omega

set_option maxHeartbeats 400000 in
set_option maxRecDepth 10000 in
theorem copseVar_no {O : Nat → Prop} {w : World} {x : Nat} {C : CopS} (hI : CopI O w x C) (name : ByteArray) (hsz : name.size ≤ maxLen) (hno : isNameB name = false ∨ 0 ≤ namedI C.names name) :
    Calls Tryz.prog 19 #[.pointer (some ⟨x, 0, none⟩), .string name] w fun e w' => e = .returned (.tuple #[.int .i64 0, .int .i64 2]) ∧ CopStep CopI O w x w' C := by
  have hst := fun w' => hI.step (w' := w')
  obtain ⟨cap, names, S, nv, gb, lb, L, Og, rfl, hok, hA⟩ := hI
  have hno' : isNameB name = false ∨ 0 ≤ namedI names name := hno
  have hn6 := hok.mid.n6
  have hisn := isName_is name w hsz
  have hcon : ∀ w1, Below w.heap.size w w1 → Calls Tryz.prog 53 #[nv, .string name] w1 fun e w' => e = .returned (.bool (decide (0 ≤ namedI names name))) ∧ w' = w1 := fun w1 hb => slicesContainsS_is nv names name w1 (hA.below hb).namesRead (by omega)
  have c1 : ∀ w1, Below w.heap.size w w1 → w1.cell? ⟨x, 1, none⟩ = some nv := fun w1 hb => (hA.below hb).c.2.1
  have HS : Hid _ := hst
  have H1 : Hid _ := c1
  clear hst c1 hno hok hsz hn6
  cases hb : isNameB name
  · rw [hb] at hisn
    clear hb hno' hcon hA
    go_enter Tryz.func19, Tryz.ntmps19
    go_wp2_with (go_at_call 52; refine hisn.mono ?_; clear hisn; rintro e w1 ⟨rfl, hb1⟩; have q1 := H1.out _ hb1)
    go_ret2
    exact ⟨rfl, HS.out _ hb1⟩
  · rw [hb] at hisn hno'
    have h0 : 0 ≤ namedI names name := hno'.resolve_left (by simp)
    rw [decide_eq_true h0] at hcon
    have HC : Hid _ := hcon
    clear hb hno' h0 hcon hA
    go_enter Tryz.func19, Tryz.ntmps19
    go_wp2_with (first
      | (go_at_call 52; refine hisn.mono ?_; clear hisn; rintro e w1 ⟨rfl, hb1⟩; have q1 := H1.out _ hb1)
      | (go_at_call 53; refine (HC.out _ hb1).mono ?_; clear HC; rintro e w2 ⟨rfl, hq⟩; replace hq := hq.symm; subst hq))
    go_ret2
    exact ⟨rfl, HS.out _ hb1⟩

end Go.Proofs.YtebfmcafmojlaaaGreatDoor

/-
  copse: Var, whatever comes; Nodes of wrong handles.
-/
namespace Go.Proofs.YtebfmcafmojlaaaGreatDoor
open Go.RowKit Go.Maps
set_option linter.unusedSimpArgs false
set_option linter.unusedVariables false

set_option maxHeartbeats 400000 in
set_option maxRecDepth 10000 in
theorem copseVar_many {O : Nat → Prop} {w : World} {x : Nat} {C : CopS} (hI : CopI O w x C) (name : ByteArray) (hsz : name.size ≤ maxLen) (hnm : isNameB name = true) (hnd : namedI C.names name = -1) (h6 : C.names.length = 6) :
    Calls Tryz.prog 19 #[.pointer (some ⟨x, 0, none⟩), .string name] w fun e w' => e = .returned (.tuple #[.int .i64 0, .int .i64 3]) ∧ CopStep CopI O w x w' C := by
  have hst := fun w' => hI.step (w' := w')
  obtain ⟨cap, names, S, nv, gb, lb, L, Og, rfl, hok, hA⟩ := hI
  have hnd' : namedI names name = -1 := hnd
  have h6' : names.length = 6 := h6
  have hisn := isName_is name w hsz
  rw [hnm] at hisn
  have hcon : ∀ w1, Below w.heap.size w w1 → Calls Tryz.prog 53 #[nv, .string name] w1 fun e w' => e = .returned (.bool false) ∧ w' = w1 := by
    intro w1 hb
    have := slicesContainsS_is nv names name w1 (hA.below hb).namesRead (by omega)
    rw [hnd'] at this
    exact this
  have c1 : ∀ w1, Below w.heap.size w w1 → w1.cell? ⟨x, 1, none⟩ = some nv := fun w1 hb => (hA.below hb).c.2.1
  obtain ⟨nao, ncap, env⟩ := owns_form hA.names.1
  rw [List.length_map, h6'] at env
  subst env
  have HS : Hid _ := hst
  have H1 : Hid _ := c1
  have HC : Hid _ := hcon
  clear hst c1 hok hsz hcon hA hnd hnd' h6 h6' hnm
  go_enter Tryz.func19, Tryz.ntmps19
  go_wp2_with (first
    | (go_at_call 52; refine hisn.mono ?_; clear hisn; rintro e w1 ⟨rfl, hb1⟩; have q1 := H1.out _ hb1)
    | (go_at_call 53; refine (HC.out _ hb1).mono ?_; clear HC; rintro e w2 ⟨rfl, hq⟩; replace hq := hq.symm; subst hq))
  go_ret2
  exact ⟨rfl, HS.out _ hb1⟩

set_option maxHeartbeats 400000 in
set_option maxRecDepth 10000 in
theorem copseVar_full {O : Nat → Prop} {w : World} {x : Nat} {cap : Nat} {names : List ByteArray} {S : GrS} {nv : Value} {gb lb : Nat} {L : List (Value × Value)} {Og : Nat → Prop} (hok : CopOk cap names S L) (hA : CopAt O w x cap names S nv gb lb L Og) (hst : ∀ w', Below w.heap.size w w' → CopStep CopI O w x w' (copC cap names S L))
    (name : ByteArray) (hsz : name.size ≤ maxLen) (hnm : isNameB name = true) (hnd : namedI names name = -1) (h6 : names.length < 6) (hfull : S.nums.length = cap) :
    Calls Tryz.prog 19 #[.pointer (some ⟨x, 0, none⟩), .string name] w fun e w' => e = .returned (.tuple #[.int .i64 0, .int .i64 5]) ∧ CopStep CopI O w x w' (copC cap names S L) := by
  have hisn := isName_is name w hsz
  rw [hnm] at hisn
  have hcon : ∀ w1, Below w.heap.size w w1 → Calls Tryz.prog 53 #[nv, .string name] w1 fun e w' => e = .returned (.bool false) ∧ w' = w1 := by
    intro w1 hb
    have := slicesContainsS_is nv names name w1 (hA.below hb).namesRead (by omega)
    rw [hnd] at this
    exact this
  have hcell : ∀ w1, Below w.heap.size w w1 → w1.cell? ⟨x, 0, none⟩ = some (.int .i64 (cap : Nat)) ∧ w1.cell? ⟨x, 1, none⟩ = some nv ∧ w1.cell? ⟨x, 2, none⟩ = some (.pointer (some ⟨gb, 0, none⟩)) := by
    intro w1 hb
    obtain ⟨a, b, c, d⟩ := (hA.below hb).c
    exact ⟨a, b, c⟩
  have hsize : ∀ w1, Below w.heap.size w w1 → Calls Tryz.prog 48 #[.pointer (some ⟨gb, 0, none⟩)] w1 fun e w' => e = .returned (.int .i64 (cap : Nat)) ∧ w' = w1 := by
    intro w1 hb
    obtain ⟨_, _, _, _, _, _, _, hG⟩ := (hA.below hb).graph
    have := graphSize_is hG
    rw [hfull] at this
    exact this
  obtain ⟨nao, ncap, env⟩ := owns_form hA.names.1
  rw [List.length_map] at env
  subst env
  obtain ⟨n, hnn⟩ : ∃ n, n = names.length := ⟨_, rfl⟩
  rw [← hnn] at hcon hcell h6
  have hn6 : ((n : Int) == 6) = false := by simp; omega
  have HS : Hid _ := hst
  have HC : Hid _ := hcell
  have HN : Hid _ := hcon
  have HZ : Hid _ := hsize
  clear hst hcell hcon hsize hok hA hnd hnm hsz hnn hfull
  go_enter Tryz.func19, Tryz.ntmps19
  go_upto_region 5 with (first
    | (go_at_call 52; refine hisn.mono ?_; clear hisn; rintro e w1 ⟨rfl, hb1⟩; obtain ⟨q0, q1, q2⟩ := HC.out _ hb1)
    | (go_at_call 53; refine (HN.out _ hb1).mono ?_; clear HN; rintro e w2 ⟨rfl, hq⟩; replace hq := hq.symm; subst hq))
  have hs5 := HZ.out _ hb1.drew
  go_region_held (fun w' => w'.cell? ⟨x, 0, none⟩ = some (.int .i64 (cap : Nat)) ∧ w'.cell? ⟨x, 2, none⟩ = some (.pointer (some ⟨gb, 0, none⟩))) (go_keep) (first | (go_at_call 48; refine hs5.mono ?_; clear hs5; rintro e w3 ⟨rfl, rfl⟩))
  all_goals
    go_wp2_with fail
    go_ret2
    exact ⟨rfl, HS.out _ hb1.drew⟩

/-- Var, of a new name, where there are fewer than six. -/
theorem copseVar_all {O : Nat → Prop} {w : World} {x : Nat} {C : CopS} (hI : CopI O w x C) (Lt : List Tab) (hL : Lists C Lt) (name : ByteArray) (hsz : name.size ≤ maxLen) (hnm : isNameB name = true) (hnd : namedI C.names name = -1) (h6 : C.names.length < 6) :
    Calls Tryz.prog 19 #[.pointer (some ⟨x, 0, none⟩), .string name] w (PostTell CopI O w x C (fullV C Lt) (varC C name) (mask C.names.length)) := by
  have hs8 : name.size ≤ 8 := by
    apply Classical.byContradiction
    intro hn
    have := isName_short name (.inr (by omega))
    rw [hnm] at this
    cases this
  by_cases hf : fullV C Lt
  · have hst := fun w' => hI.step (w' := w')
    obtain ⟨cap, names, S, nv, gb, lb, L, Og, rfl, hok, hA⟩ := hI
    have hc := hok.var_count h6 Lt hL
    have hfull : S.nums.length = cap := by
      have h1 : ((cap : Nat) : Int) < ((allT (S.order ++ [names.length]) (withT Lt [mask names.length])).length : Int) := hf
      rw [hc] at h1
      have := hok.size
      omega
    exact (copseVar_full hok hA hst name hsz hnm hnd h6 hfull).mono (fun e w' h => .inl ⟨hf, h.1, h.2⟩)
  · exact copseVar_is hI Lt hL name (by omega) hnm hnd h6 hf

end Go.Proofs.YtebfmcafmojlaaaGreatDoor

/-
  copse: Nodes of wrong handles; Live.
-/
namespace Go.Proofs.YtebfmcafmojlaaaGreatDoor
open Go.RowKit Go.Maps
set_option linter.unusedSimpArgs false
set_option linter.unusedVariables false

set_option maxHeartbeats 400000 in
set_option maxRecDepth 10000 in
theorem copseNodes_no {O : Nat → Prop} {w : World} {x : Nat} {C : CopS} (hI : CopI O w x C) (hs : List Int) (fv : Value) (hr : Reads w.heap.size w fv (hs.map zv)) (hlen : hs.length ≤ 2000000) (hz : ∀ z ∈ hs, i64ok z) (hn : ∃ z ∈ hs, z < 0) :
    Calls Tryz.prog 29 #[.pointer (some ⟨x, 0, none⟩), fv] w fun e w' => e = .returned (.tuple #[.int .i64 0, .int .i64 4]) ∧ CopStep CopI O w x w' C := by
  have hst := fun w' => hI.step (w' := w')
  obtain ⟨cap, names, S, nv, gb, lb, L, Og, rfl, hok, hA⟩ := hI
  have hare := copseAreLive_is (zs := hs) (fv := fv) hA.c.2.2.2 (hA.lt x hA.self) hA.live hok.mid.agg hr hz (by omega)
  have hare2 : Calls Tryz.prog 36 #[.pointer (some ⟨x, 0, none⟩), fv] w fun e w' => e = .returned (.bool false) ∧ Below w.heap.size w w' := by
    refine hare.mono ?_
    rintro e w' ⟨b, rfl, h1, h2⟩
    have : b = false := by
      cases b
      · rfl
      · exfalso
        obtain ⟨z, hz1, hz2⟩ := hn
        have hl := h1.1 rfl z hz1
        obtain ⟨r, hr1, hr2⟩ := hok.mid.ents _ hl
        have : (Value.int .i64 z) = natv r := congrArg Prod.fst hr1
        unfold natv at this
        simp at this
        omega
    subst this
    exact ⟨rfl, h2⟩
  have HS : Hid _ := hst
  clear hst hare hok hA hr hz hn hlen
  go_enter Tryz.func29, Tryz.ntmps29
  go_wp2_with (go_at_call 36; refine hare2.mono ?_; clear hare2; rintro e w1 ⟨rfl, hb1⟩)
  go_ret2
  exact ⟨rfl, HS.out _ hb1⟩

/-- The nodes of all live handles. -/
theorem CopOk.count_live {cap : Nat} {names : List ByteArray} {S : GrS} {L : List (Value × Value)} (h : CopOk cap names S L) : S.nums.length ≤ cap := h.size

set_option maxHeartbeats 400000 in
theorem copseLive_num {O : Nat → Prop} {w : World} {x cap : Nat} {names : List ByteArray} {S : GrS} {nv : Value} {gb lb : Nat} {L : List (Value × Value)} {Og : Nat → Prop} (hA : CopAt O w x cap names S nv gb lb L Og) :
    Calls Tryz.prog 21 #[.pointer (some ⟨x, 0, none⟩)] w fun e w' => e = .returned (.int .i64 (S.nums.length : Nat)) ∧ w' = w := by
  have c2 := hA.c.2.2.1
  have hsize : Calls Tryz.prog 48 #[.pointer (some ⟨gb, 0, none⟩)] w fun e w' => e = .returned (.int .i64 (S.nums.length : Nat)) ∧ w' = w := by
    obtain ⟨_, _, _, _, _, _, _, hG⟩ := hA.graph
    exact graphSize_is hG
  clear hA
  go_enter Tryz.func21, Tryz.ntmps21
  go_wp2_with (go_at_call 48; refine hsize.mono ?_; clear hsize; rintro e w1 ⟨rfl, hq⟩; replace hq := hq.symm; subst hq)
  go_ret
  exact ⟨rfl, rfl⟩

end Go.Proofs.YtebfmcafmojlaaaGreatDoor

/-
  The program keeps to what copselaw asks of it.
-/
namespace Go.Proofs.YtebfmcafmojlaaaGreatDoor
open Go.RowKit Go.Maps
set_option linter.unusedSimpArgs false
set_option linter.unusedVariables false

theorem Reads.more {B B' : Nat} {w : World} {v : Value} {xs : List Value} (h : Reads B w v xs) (hB : B ≤ B') : Reads B' w v xs := by
  rcases h with h | ⟨b, off, cap, e, hb, hc⟩
  · exact .inl h
  · exact .inr ⟨b, off, cap, e, Nat.lt_of_lt_of_le hb hB, hc⟩

theorem copseSpec : CopseSpec CopI 1 0 where
  ne := by decide
  cFm := by decide
  cTm := by decide
  lt := fun h => h.lt
  keep := fun h hs hb => h.keep hs hb
  inj := fun h _ _ _ ha hb => h.inj ha hb
  consts := fun h => h.consts
  new_no := fun cap w h => copseNew_no cap w h
  new_yes := fun cap w h1 h3 => by
    obtain ⟨n, hn⟩ : ∃ n : Nat, (n : Int) = cap := ⟨cap.toNat, by omega⟩
    subst hn
    refine (copseNew_yes n w (by omega) (by omega)).mono ?_
    rintro e w' ⟨x, he, O, h1, h2, h3⟩
    exact ⟨x, O, he, h1, h2, h3⟩
  const := fun {O w x C} h b => by
    refine (copseConst_is x b w).mono ?_
    rintro e w' ⟨he, rfl⟩
    refine ⟨?_, Below.refl _ _⟩
    rw [he]
  var_no := fun h name hs hn => copseVar_no h name hs hn
  var_many := fun h name hs h1 h2 h3 => copseVar_many h name hs h1 h2 h3
  var := fun h L hL name hs h1 h2 h3 => copseVar_all h L hL name hs h1 h2 h3
  not_no := fun h a ha hz => copseNot_no h a ha hz
  not := fun h L hL a f hf => copseNot_is h L hL a f hf
  ite_no := fun h a b c za zb zc hn ha hb _ => copseIte_no h a b c za zb zc hn ha hb
  ite := fun h L hL a b c f g d hf hg hh => copseIte_is h L hL a b c f g d hf hg hh
  res_no := fun h a name b ha hz _ => copseRestrict_no h a name b ha hz
  res_name := fun h a f name b hf _ hn => copseRestrict_name h a f hf name b hn
  res := fun h L hL a f name b v hf _ hv => copseRestrict_is h L hL a f name b v hf hv
  eval_no := fun h a b ha hz _ => copseEval_no h a b ha hz
  eval := fun h a f b hf hz => copseEval_is h a f b hf hz
  sup_no := fun h a ha hz => by
    refine (copseSupport_no h a ha hz).mono ?_
    rintro e w' ⟨he, hst⟩
    exact ⟨none, 0, he, hst⟩
  sup := fun {O w x C} h a f hf => by
    refine (copseSupport_is h a f hf).mono ?_
    rintro e w' ⟨ao, cap, he, hrow, hb⟩
    refine ⟨_, he, hrow, only_of_below hb O, O, h.keep hb.size (fun k hk => hb.block k (h.lt k hk)), Grows.refl _ _, ?_⟩
    intro k hk hO
    have := (hrow.lt k hk).1
    have := h.lt k hO
    omega
  nodes_no := fun h hs fv B hr hB hl hz hn _ => copseNodes_no h hs fv (hr.more hB) hl hz hn
  nodes := fun h hs fs fv B hr hB hl hT => copseNodes_is h hs fs fv (hr.more hB) hl hT

end Go.Proofs.YtebfmcafmojlaaaGreatDoor

/-
  A TWIN: the program's copse, the document's, the live handles, each in blocks of its own.
-/
namespace Go.Proofs.YtebfmcafmojlaaaGreatDoor
open Go.RowKit
set_option linter.unusedSimpArgs false
set_option linter.unusedVariables false

structure TwOk (cF cT : Nat) (N : Nat) (C : CopS) (S : RefS) (l : List (Nat × Tab)) : Prop where
  cap : C.cap = S.cap
  names : C.names = S.names
  order : C.order = S.order
  ol : S.order.length ≤ 6
  o6 : ∀ x ∈ S.order, x < 6
  on : S.order.length = S.names.length
  ord : ∀ x ∈ S.order, x < S.names.length
  ll : S.live.length ≤ N
  l2 : 2 ≤ l.length
  lN : l.length ≤ N + 2
  l0 : l.getD 0 (0, 0) = (cF, 0)
  l1 : l.getD 1 (0, 0) = (cT, onesT)
  mem : ∀ h f, C.T h = some f ↔ (h, f) ∈ l
  small : ∀ p ∈ l, p.1 < handleMax
  lists : Lists C S.live

theorem TwOk.ref {cF cT N : Nat} {C : CopS} {S : RefS} {l : List (Nat × Tab)} (h : TwOk cF cT N C S l) (hN : N ≤ 3000000) : RefOk S :=
  ⟨h.ol, h.o6, Nat.le_trans h.ll (by omega), by rw [← h.on]; exact h.ol, h.on⟩

/-- Of a twin all in its place, at the world w. -/
structure TwSt (I : (Nat → Prop) → World → Nat → CopS → Prop) (w : World) (tb x r : Nat) (C : CopS) (S : RefS) (l : List (Nat × Tab)) (av : Value) (OT OX OR : Nat → Prop) : Prop where
  t : TwinAt OT w tb x r l av
  c : I OX w x C
  s : RefIs OR w r S
  d1 : ∀ b, OT b → ¬ OX b
  d2 : ∀ b, OT b → ¬ OR b
  d3 : ∀ b, OX b → ¬ OR b

theorem RefIs.lt {O : Nat → Prop} {w : World} {r : Nat} {S : RefS} (h : RefIs O w r S) : ∀ b, O b → b < w.heap.size := by
  obtain ⟨nv, ov, lv, h⟩ := h
  exact h.lt

theorem RefIs.keep {O : Nat → Prop} {w w' : World} {r : Nat} {S : RefS} (h : RefIs O w r S) (hs : w.heap.size ≤ w'.heap.size) (hb : ∀ k, O k → w'.heap[k]? = w.heap[k]?) : RefIs O w' r S := by
  obtain ⟨nv, ov, lv, h⟩ := h
  exact ⟨nv, ov, lv, h.keep hs hb⟩

theorem TwSt.below {I : (Nat → Prop) → World → Nat → CopS → Prop} {cF cT : Nat} (sp : CopseSpec I cF cT) {w w' : World} {tb x r : Nat} {C : CopS} {S : RefS} {l : List (Nat × Tab)} {av : Value} {OT OX OR : Nat → Prop} (h : TwSt I w tb x r C S l av OT OX OR) (hb : Below w.heap.size w w') : TwSt I w' tb x r C S l av OT OX OR :=
  ⟨h.t.below hb, sp.keep h.c hb.size (fun k hk => hb.block k (sp.lt h.c k hk)), h.s.below hb, h.d1, h.d2, h.d3⟩

theorem TwSt.stepC {I : (Nat → Prop) → World → Nat → CopS → Prop} {cF cT : Nat} (sp : CopseSpec I cF cT) {w w' : World} {tb x r : Nat} {C C' : CopS} {S : RefS} {l : List (Nat × Tab)} {av : Value} {OT OX OR : Nat → Prop} (h : TwSt I w tb x r C S l av OT OX OR) (hs : CopStep I OX w x w' C') : ∃ OX', TwSt I w' tb x r C' S l av OT OX' OR ∧ Only OX w w' ∧ Grows w OX OX' := by
  obtain ⟨ho, OX', hc, hg⟩ := hs
  refine ⟨OX', ⟨?_, hc, ?_, ?_, h.d2, ?_⟩, ho, hg⟩
  · exact h.t.keep ho.size (fun k hk => ho.block k (h.t.lt k hk) (h.d1 k hk))
  · exact h.s.keep ho.size (fun k hk => ho.block k (h.s.lt k hk) (fun e => h.d3 k e hk))
  · intro b hb hx
    rcases hg b hx with e | e
    · exact h.d1 b hb e
    · have := h.t.lt b hb; omega
  · intro b hb hr
    rcases hg b hb with e | e
    · exact h.d3 b e hr
    · have := h.s.lt b hr; omega

theorem TwSt.stepS {I : (Nat → Prop) → World → Nat → CopS → Prop} {cF cT : Nat} (sp : CopseSpec I cF cT) {w w' : World} {tb x r : Nat} {C : CopS} {S S' : RefS} {l : List (Nat × Tab)} {av : Value} {OT OX OR : Nat → Prop} (h : TwSt I w tb x r C S l av OT OX OR) (hs : RefStep OR w r w' S') : ∃ OR', TwSt I w' tb x r C S' l av OT OX OR' ∧ Only OR w w' ∧ Grows w OR OR' := by
  obtain ⟨ho, OR', hr, hg⟩ := hs
  refine ⟨OR', ⟨?_, ?_, hr, h.d1, ?_, ?_⟩, ho, hg⟩
  · exact h.t.keep ho.size (fun k hk => ho.block k (h.t.lt k hk) (h.d2 k hk))
  · exact sp.keep h.c ho.size (fun k hk => ho.block k (sp.lt h.c k hk) (h.d3 k hk))
  · intro b hb hx
    rcases hg b hx with e | e
    · exact h.d2 b hb e
    · have := h.t.lt b hb; omega
  · intro b hb hr'
    rcases hg b hr' with e | e
    · exact h.d3 b hb e
    · have := sp.lt h.c b hb; omega

theorem TwSt.stepT {I : (Nat → Prop) → World → Nat → CopS → Prop} {cF cT : Nat} (sp : CopseSpec I cF cT) {w w' : World} {tb x r : Nat} {C : CopS} {S : RefS} {l l' : List (Nat × Tab)} {av : Value} {OT OX OR : Nat → Prop} (h : TwSt I w tb x r C S l av OT OX OR) (hs : TwinStep OT w tb x r w' l') : ∃ OT' av', TwSt I w' tb x r C S l' av' OT' OX OR ∧ Only OT w w' ∧ Grows w OT OT' := by
  obtain ⟨ho, OT', av', ht, hg⟩ := hs
  refine ⟨OT', av', ⟨ht, ?_, ?_, ?_, ?_, h.d3⟩, ho, hg⟩
  · exact sp.keep h.c ho.size (fun k hk => ho.block k (sp.lt h.c k hk) (fun e => h.d1 k e hk))
  · exact h.s.keep ho.size (fun k hk => ho.block k (h.s.lt k hk) (fun e => h.d2 k e hk))
  · intro b hb hx
    rcases hg b hb with e | e
    · exact h.d1 b e hx
    · have := sp.lt h.c b hx; omega
  · intro b hb hx
    rcases hg b hb with e | e
    · exact h.d2 b e hx
    · have := h.s.lt b hx; omega

/-- A twin in the blocks O, after at most N answers. -/
def TwIs (I : (Nat → Prop) → World → Nat → CopS → Prop) (cF cT : Nat) (O : Nat → Prop) (w : World) (tb : Nat) (N : Nat) : Prop :=
  ∃ x r C S l av OT OX OR, TwSt I w tb x r C S l av OT OX OR ∧ TwOk cF cT N C S l ∧ ∀ b, O b ↔ (OT b ∨ OX b ∨ OR b)

theorem mem_toldL {l : List (Nat × Tab)} {h : Nat} {t : Tab} {p : Nat × Tab} : p ∈ toldL l h t ↔ p ∈ l ∨ (p = (h, t) ∧ l.any (fun q => q.2 == t) = false) := by
  unfold toldL
  split
  · rename_i ha
    constructor
    · exact .inl
    · rintro (h1 | ⟨_, h2⟩)
      · exact h1
      · rw [ha] at h2; cases h2
  · rename_i ha
    rw [List.mem_append]
    constructor
    · rintro (h1 | h1)
      · exact .inl h1
      · simp at h1; exact .inr ⟨h1, Bool.eq_false_iff.2 ha⟩
    · rintro (h1 | ⟨h1, _⟩)
      · exact .inl h1
      · exact .inr (by simp [h1])

theorem getD_mem {l : List (Nat × Tab)} {k : Nat} (h : k < l.length) : l.getD k (0, 0) ∈ l := by
  rw [List.getD_eq_getElem?_getD, List.getElem?_eq_getElem h]
  exact List.getElem_mem h

theorem TwOk.alike {cF cT N : Nat} {C : CopS} {S : RefS} {l : List (Nat × Tab)} (h : TwOk cF cT N C S l) {hd : Nat} {t : Tab} (hf : ∀ f, C.T hd = some f → f = t) (inj : ∀ {a b f}, updT C.T hd t a = some f → updT C.T hd t b = some f → a = b) :
    ∀ k, k < l.length → ((l.getD k (0, 0)).1 = hd ↔ (l.getD k (0, 0)).2 = t) := by
  intro k hk
  have hm := getD_mem hk
  obtain ⟨a, f, e⟩ : ∃ a f, l.getD k (0, 0) = (a, f) := ⟨_, _, rfl⟩
  rw [e] at hm ⊢
  have hT := (h.mem a f).2 hm
  constructor
  · intro ea
    simp only at ea ⊢
    subst ea
    exact hf f hT
  · intro ef
    simp only at ef ⊢
    subst ef
    refine inj (f := f) ?_ ?_
    · unfold updT
      split
      · rfl
      · exact hT
    · simp [updT]

/-- What an answer turns in the lists. -/
theorem TwOk.told {cF cT N : Nat} {C : CopS} {S : RefS} {l : List (Nat × Tab)} (h : TwOk cF cT N C S l) {hd : Nat} {t : Tab} (hm : hd < handleMax) (hf : ∀ f, C.T hd = some f → f = t) (inj : ∀ {a b f}, updT C.T hd t a = some f → updT C.T hd t b = some f → a = b)
    (names : List ByteArray) (order : List Nat) (h1 : order.length ≤ 6) (h2 : ∀ x ∈ order, x < 6) (h3 : order.length = names.length) (h4 : ∀ x ∈ order, x < names.length) :
    TwOk cF cT (N + 1) { C with names := names, order := order, T := updT C.T hd t } { S with names := names, order := order, live := withT S.live [t] } (toldL l hd t) := by
  have hlen : (toldL l hd t).length ≤ l.length + 1 ∧ l.length ≤ (toldL l hd t).length := by unfold toldL; split <;> simp
  have hget : ∀ k, k < l.length → (toldL l hd t).getD k (0, 0) = l.getD k (0, 0) := by
    intro k hk
    unfold toldL
    split
    · rfl
    · rw [List.getD_eq_getElem?_getD, List.getD_eq_getElem?_getD, List.getElem?_append_left hk]
  have hl2 := h.l2
  have hT : ∀ a f, updT C.T hd t a = some f ↔ (a = hd ∧ f = t) ∨ C.T a = some f := by
    intro a f
    unfold updT
    by_cases e : a = hd
    · subst e
      simp only [if_true, Option.some.injEq]
      constructor
      · intro e; exact .inl ⟨trivial, e.symm⟩
      · rintro (⟨_, e⟩ | e)
        · exact e.symm
        · exact (hf f e).symm
    · simp [e]
  refine ⟨h.cap, rfl, rfl, h1, h2, h3, h4, ?_, ?_, ?_, ?_, ?_, ?_, ?_, ?_⟩
  · have := withT_one_len S.live t
    have := h.ll
    show (withT S.live [t]).length ≤ N + 1
    omega
  · omega
  · have := h.lN; omega
  · rw [hget 0 (by omega)]; exact h.l0
  · rw [hget 1 (by omega)]; exact h.l1
  · intro a f
    show updT C.T hd t a = some f ↔ _
    rw [hT, mem_toldL, ← h.mem a f]
    constructor
    · rintro (⟨rfl, rfl⟩ | e)
      · cases ha : l.any (fun q => q.2 == f)
        · exact .inr ⟨rfl, rfl⟩
        · left
          rw [List.any_eq_true] at ha
          obtain ⟨⟨a0, f0⟩, hm0, e0⟩ := ha
          simp at e0
          subst e0
          have hT0 := (h.mem a0 f0).2 hm0
          have : a0 = a := inj (f := f0) ((hT a0 f0).2 (.inr hT0)) ((hT a f0).2 (.inl ⟨rfl, rfl⟩))
          subst this
          exact hT0
      · exact .inl e
    · rintro (e | ⟨e, _⟩)
      · exact .inr e
      · simp at e; exact .inl e
  · intro p hp
    rcases mem_toldL.1 hp with e | ⟨e, _⟩
    · exact h.small p e
    · rw [e]; exact hm
  · intro f
    show (∃ a, updT C.T hd t a = some f) ↔ (f ∈ withT S.live [t] ∨ f = 0 ∨ f = onesT)
    rw [withT_one]
    have hl := h.lists f
    constructor
    · rintro ⟨a, e⟩
      rcases (hT a f).1 e with ⟨_, e⟩ | e
      · exact .inl (.inr e)
      · rcases hl.1 ⟨a, e⟩ with e | e
        · exact .inl (.inl e)
        · exact .inr e
    · rintro ((e | e) | e)
      · obtain ⟨a, e⟩ := hl.2 (.inl e)
        exact ⟨a, (hT a f).2 (.inr e)⟩
      · exact ⟨hd, (hT hd f).2 (.inl ⟨rfl, e⟩)⟩
      · obtain ⟨a, e⟩ := hl.2 (.inr e)
        exact ⟨a, (hT a f).2 (.inr e)⟩

end Go.Proofs.YtebfmcafmojlaaaGreatDoor

