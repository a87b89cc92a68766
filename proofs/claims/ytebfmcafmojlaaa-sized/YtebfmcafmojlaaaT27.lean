/-
  copse: Move.
-/
import Derived.BigQuiet
import Derived.Test.YtebfmcafmojlaaaT26
import Derived.Test.YtebfmcafmojlaaaT22
import Derived.Test.YtebfmcafmojlaaaT01
import Derived.Test.YtebfmcafmojlaaaT06
namespace Go.Proofs.Ytebfmcafmojlaaa
open Go.RowKit Go.Maps
set_option linter.unusedSimpArgs false
set_option linter.unusedVariables false

def fullM (C : CopS) (Lt : List Tab) (v t : Nat) : Prop := C.cap < ((allT (moveO C.order v t) Lt).length : Int)
def moveC (C : CopS) (v t : Nat) : CopS := { C with order := moveO C.order v t }

/-- Behind Move. -/
def PostMove (O : Nat → Prop) (w : World) (x : Nat) (C : CopS) (full : Prop) (C' : CopS) (e : Ending) (w' : World) : Prop :=
  (full ∧ e = .returned (.int .i64 5) ∧ CopStep CopI O w x w' C) ∨ (¬ full ∧ e = .returned (.int .i64 0) ∧ CopStep CopI O w x w' C')

theorem copC_moved {cap : Nat} {names : List ByteArray} {S S2 : GrS} {L : List (Value × Value)} {v t : Nat} (ho : S2.order = moveO S.order v t) (ht : ∀ r, liveH L r → S2.g.tab r = S.g.tab r) : copC cap names S2 L = moveC (copC cap names S L) v t := by
  have : (copC cap names S2 L).T = (copC cap names S L).T := copT_ext (fun r f => by
    rw [copC_T, copC_T]
    constructor
    · rintro ⟨h1, h2⟩; exact ⟨h1, by rw [← ht r h1]; exact h2⟩
    · rintro ⟨h1, h2⟩; exact ⟨h1, by rw [ht r h1]; exact h2⟩)
  unfold moveC
  unfold copC at this ⊢
  simp only [CopS.mk.injEq, true_and]
  exact ⟨ho, this⟩

theorem Lists.same {C C' : CopS} {Lt : List Tab} (h : Lists C Lt) (e : C'.T = C.T) : Lists C' Lt := by
  intro f
  rw [e]
  exact h f

/-- The new graph is taken. -/
theorem move_yes {O : Nat → Prop} {w w1 w2 : World} {x cap : Nat} {names : List ByteArray} {S S2 : GrS} {nv : Value} {gb lb gb2 : Nat} {L : List (Value × Value)} {Og : Nat → Prop} {v t : Nat} (hok : CopOk cap names S L) (hA : CopAt O w x cap names S nv gb lb L Og) (hgb : w.heap.size ≤ gb2) (hb : Below w.heap.size w w1) (hG : GrIs (fun b => w.heap.size ≤ b ∧ b < w1.heap.size) w1 gb2 S2) (hp : CopPre names S2 L) (hr : ∀ i, S2.g.has i → S2.g.Reach (liveH L) i) (ho : S2.order = moveO S.order v t) (ht : ∀ r, liveH L r → S2.g.tab r = S.g.tab r) (hsz : S2.nums.length ≤ cap)
    (e2 : w2 = w1.setCell ⟨x, 2, none⟩ (.pointer (some ⟨gb2, 0, none⟩))) : CopStep CopI O w x w2 (moveC (copC cap names S L) v t) := by
  have hA1 := hA.below hb
  have hxl := hA.lt x hA.self
  have hs1 := hb.size
  have hcx : w2.heap[x]? = some (.cells #[.int .i64 (cap : Nat), nv, .pointer (some ⟨gb2, 0, none⟩), .map (some lb)] 62 (0, 0)) := by
    rw [e2, heap_setCell_at hA1.cells]
    rfl
  have hoth : ∀ k, k ≠ x → w2.heap[k]? = w1.heap[k]? := fun k hk => by rw [e2]; exact Below.heap_setCell _ _ _ _ hk
  have hs2 : w2.heap.size = w1.heap.size := by rw [e2]; simp [World.setCell]
  obtain ⟨n1, n2, n3⟩ := hA1.ne
  refine ⟨?_, fun b => O b ∨ (w.heap.size ≤ b ∧ b < w1.heap.size), ⟨cap, names, S2, nv, gb2, lb, L, (fun b => w.heap.size ≤ b ∧ b < w1.heap.size), (copC_moved ho ht).symm, ⟨hp.mid hr (by have := hok.c300; omega), hok.c1, hok.c300, hsz⟩, ?_⟩, ?_⟩
  · rw [e2]
    exact (only_of_below hb O).setCell (p := ⟨x, 2, none⟩) (.inl hA.self) _
  · refine ⟨?_, .inl hA.self, .inl hA.ol, fun b hb => .inr hb, hcx, ?_, ?_, ?_, fun e => by omega, fun e => by have := hA.lt lb hA.ol; omega, fun b hb' e => by have := hA.lt b (hA.names.2 b hb'); omega⟩
    · rintro b (hb' | hb')
      · have := hA.lt b hb'; omega
      · omega
    · exact (hA1.names.same (fun k hk => hoth k (fun e => by subst e; exact n2 hk))).mono (fun b hb => .inl hb)
    · exact hG.keep (by omega) (fun k hk => hoth k (fun e => by omega))
    · exact hA1.live.same (hoth lb (fun e => n1 e.symm))
  · rintro b (hb' | hb')
    · exact .inl hb'
    · exact .inr hb'.1

theorem named_hit2 {names : List ByteArray} {name : ByteArray} {v : Nat} (hv : names.findIdx? (fun y => y.toList == name.toList) = some v) : namedI names name = (v : Nat) ∧ v < names.length := by
  refine ⟨by unfold namedI; rw [hv], ?_⟩
  rw [List.findIdx?_eq_some_iff_getElem] at hv
  exact hv.1

set_option maxHeartbeats 1000000 in
set_option maxRecDepth 10000 in
theorem copseMove_is {O : Nat → Prop} {w : World} {x : Nat} {C : CopS} (hI : CopI O w x C) (Lt : List Tab) (hL : Lists C Lt) (name : ByteArray) (v t : Nat) (hv : C.names.findIdx? (fun y => y.toList == name.toList) = some v) (ht : t < C.names.length) :
    Calls Try.prog 17 #[.pointer (some ⟨x, 0, none⟩), .string name, .int .i64 (t : Int)] w (PostMove O w x C (fullM C Lt v t) (moveC C v t)) := by
  obtain ⟨cap, names, S, nv, gb, lb, L, Og, rfl, hok, hA⟩ := hI
  obtain ⟨hnI, hvl⟩ := named_hit2 (names := names) hv
  have ht' : t < names.length := ht
  have hn6 := hok.mid.n6
  have hvo : v ∈ S.order := (hok.mid.order v).2 hvl
  have hto : t < S.order.length := by rw [hok.mid.olen]; exact ht'
  obtain ⟨nao, ncap, env⟩ := owns_form hA.names.1
  rw [List.length_map] at env
  have hidx := slicesIndexS_is nv names name w hA.namesRead (by omega)
  rw [hnI] at hidx
  have hmv := copseMoved_is hok hA hvo hto
  have hno : ∀ w1 S2, Below w.heap.size w w1 → CopPre names S2 L → (∀ i, S2.g.has i → S2.g.Reach (liveH L) i) → S2.order = moveO S.order v t → (∀ r, liveH L r → S2.g.tab r = S.g.tab r) → (fullM (copC cap names S L) Lt v t ↔ cap < S2.nums.length) := by
    intro w1 S2 hb hp hr ho htb
    have hc := hp.count (cap := cap) hr (hL.same (C' := copC cap names S2 L) (by rw [copC_moved ho htb]; rfl))
    rw [ho] at hc
    unfold fullM
    show ((cap : Nat) : Int) < ((allT (moveO S.order v t) Lt).length : Int) ↔ _
    rw [hc]
    omega
  have hfin : ∀ w1 e, MovedPost w names S L v t e w1 → ∃ gb2 m : Nat, e = .returned (.pointer (some ⟨gb2, 0, none⟩)) ∧ m ≤ 400000 ∧ Below w.heap.size w w1 ∧ (∀ W, Below w1.heap.size w1 W → Calls Try.prog 31 #[.pointer (some ⟨gb2, 0, none⟩)] W fun e w' => e = .returned (.int .i64 (m : Nat)) ∧ w' = W) ∧
      (cap < m → ∀ W, Below w1.heap.size w1 W → PostMove O w x (copC cap names S L) (fullM (copC cap names S L) Lt v t) (moveC (copC cap names S L) v t) (.returned (.int .i64 5)) W) ∧
      (m ≤ cap → ∀ W, Below w1.heap.size w1 W → PostMove O w x (copC cap names S L) (fullM (copC cap names S L) Lt v t) (moveC (copC cap names S L) v t) (.returned (.int .i64 0)) (W.setCell ⟨x, 2, none⟩ (.pointer (some ⟨gb2, 0, none⟩)))) := by
    rintro w1 e ⟨gb2, S2, rfl, hgb, hb, hG, hp, hr, ho, htb⟩
    have hf := hno w1 S2 hb hp hr ho htb
    refine ⟨gb2, S2.nums.length, rfl, ?_, hb, ?_, ?_, ?_⟩
    · have h1 : S2.nums.length ≤ S2.nl.length := by
        have := List.Nodup.length_le_of_subset (l₂ := List.range S2.nl.length) S2.nums_nodup (fun i hi => by
          obtain ⟨n, hn⟩ := GrS.mem_nums.1 hi
          exact List.mem_range.2 (GrS.node_lt hn))
        rwa [List.length_range] at this
      have := hp.nlen
      omega
    · intro W hW
      obtain ⟨ov, nv', fv, mb, rb, M, R, hAt⟩ := hG.below hW
      exact graphSize_is hAt
    · intro hc W hW
      have hbW := hb.trans (hW.mono hb.size)
      exact .inl ⟨hf.2 hc, rfl, only_of_below hbW O, O, ⟨cap, names, S, nv, gb, lb, L, Og, rfl, hok, hA.below hbW⟩, Grows.refl _ _⟩
    · intro hc W hW
      have hbW := hb.trans (hW.mono hb.size)
      have hsW := hW.size
      exact .inr ⟨fun h => by have := hf.1 h; omega, rfl, move_yes hok hA hgb hbW ((hG.below hW).wide (fun b hb => ⟨hb.1, by omega⟩) (fun b hb => hb.2)) hp hr ho htb hc rfl⟩
  have hxl := hA.lt x hA.self
  have c0 := hA.c.1
  have c1 := hA.c.2.1
  have hcx : ∀ w1, Below w.heap.size w w1 → w1.cell? ⟨x, 0, none⟩ = some (.int .i64 (cap : Nat)) ∧ w1.cell? ⟨x, 2, none⟩ = some (.pointer (some ⟨gb, 0, none⟩)) ∧ w1.frozen? ⟨x, 2, none⟩ = false := fun w1 hb => ⟨(hA.below hb).c.1, (hA.below hb).c.2.2.1, frozen_of_heap (hA.below hb).cells⟩
  have hcap := hok.c300
  have HF : Hid _ := hfin
  have HC : Hid _ := hcx
  subst env
  clear hfin hno hok hA hL hv ht hnI hvo hto hcx
  go_enter Try.func17, Try.ntmps17
  go_upto_region 7 with (first
    | (go_at_call 29; refine hidx.mono ?_; clear hidx; rintro e w0 ⟨rfl, hq⟩; replace hq := hq.symm; subst hq)
    | (go_at_call 30; refine hmv.mono ?_; clear hmv; rintro e w1 hpost; obtain ⟨gb2, m, rfl, hm4, hb1, hsz, hy, hn⟩ := HF.out _ _ hpost; clear HF hpost; obtain ⟨d0, d2, d3⟩ := HC.out _ hb1; clear HC))
  have hszq : ∀ nq, Calls Try.prog 31 #[.pointer (some ⟨gb2, 0, none⟩)] (w1.drewN nq) fun e w' => e = .returned (.int .i64 (m : Nat)) ∧ ∃ mq, w' = w1.drewN mq := by
    intro nq
    refine (hsz _ (below_drewN (Below.refl _ _) nq)).mono ?_
    rintro e w' ⟨he, hw⟩
    exact ⟨he, nq, hw⟩
  clear hsz c0 c1 hb1 hxl
  by_cases hmc : cap < m
  · have hdone := hy hmc
    have e1 : decide ((cap : Int) < (m : Int)) = true := by simpa using hmc
    have HD : Hid _ := hdone
    clear hy hn hdone
    go_quiet (first | (go_at_call 31; exact hszq _))
    all_goals
      clear hszq
      go_wp2_with fail
      go_ret
      exact HD.out _ (below_drewN (Below.refl _ _) _)
  · have hdone := hn (by omega)
    have e1 : decide ((cap : Int) < (m : Int)) = false := by simpa using hmc
    have HD : Hid _ := hdone
    clear hy hn hdone
    go_quiet (first | (go_at_call 31; exact hszq _))
    all_goals
      clear hszq
      go_wp2_with fail
      go_ret
      exact HD.out _ (below_drewN (Below.refl _ _) _)

theorem CopI.ord {O : Nat → Prop} {w : World} {x : Nat} {C : CopS} (hI : CopI O w x C) : C.order.Nodup ∧ ∀ v, v ∈ C.order ↔ v < C.names.length := by
  obtain ⟨cap, names, S, nv, gb, lb, L, Og, rfl, hok, hA⟩ := hI
  exact ⟨hok.mid.k.nodup, hok.mid.order⟩

theorem copseLive_is {O : Nat → Prop} {w : World} {x : Nat} {C : CopS} (hI : CopI O w x C) (Lt : List Tab) (hL : Lists C Lt) :
    Calls Try.prog 22 #[.pointer (some ⟨x, 0, none⟩)] w fun e w' => e = .returned (.int .i64 ((allT C.order Lt).length : Nat)) ∧ w' = w := by
  obtain ⟨cap, names, S, nv, gb, lb, L, Og, rfl, hok, hA⟩ := hI
  have hc := hok.mid.count (cap := cap) (S0 := S) (fs := Lt) rfl (fun q hq => rfl) hL (fun f => by simp)
  have hc' : (allT (copC cap names S L).order Lt).length = S.nums.length := hc
  rw [hc']
  exact copseLive_num hA

end Go.Proofs.Ytebfmcafmojlaaa

/-
  copsekeep: pick, letter; a Wood in memory.
-/
namespace Go.Proofs.Ytebfmcafmojlaaa
open Go.RowKit Go.Maps
set_option linter.unusedSimpArgs false
set_option linter.unusedVariables false

theorem keepPick (c : Int) (n : Nat) (w : World) (hc : i64ok c) (hn : 1 ≤ n) (hn2 : n ≤ 100) :
    Calls Try.prog 8 #[.int .i64 c, .int .i64 (n : Int)] w fun e w' => ∃ k : Nat, k < n ∧ e = .returned (.int .i64 (k : Nat)) ∧ w' = w := by
  unfold i64ok at hc
  obtain ⟨h1, h2⟩ := hc
  have hnI : (1 : Int) ≤ (n : Int) := by omega
  by_cases h0 : c < 0
  · obtain ⟨k, hk⟩ : ∃ k : Nat, (k : Int) = (-(c + 1)) % (n : Int) := ⟨((-(c + 1)) % (n : Int)).toNat, Int.toNat_of_nonneg (Int.emod_nonneg _ (by omega))⟩
    have hlt : k < n := by have := Int.emod_lt_of_pos (-(c + 1)) (by omega : (0 : Int) < n); omega
    go_enter Try.func8, Try.ntmps8
    go_wp2
    go_ret
    exact ⟨k, hlt, retI (by rw [hk, ← Int.neg_tmod]; exact Int.tmod_eq_emod_of_nonneg (by omega)), rfl⟩
  · obtain ⟨k, hk⟩ : ∃ k : Nat, (k : Int) = c % (n : Int) := ⟨(c % (n : Int)).toNat, Int.toNat_of_nonneg (Int.emod_nonneg _ (by omega))⟩
    have hlt : k < n := by have := Int.emod_lt_of_pos c (by omega : (0 : Int) < n); omega
    go_enter Try.func8, Try.ntmps8
    go_wp2
    go_ret
    exact ⟨k, hlt, retI (by rw [hk]; try rfl), rfl⟩

/-- A variable's name. -/
def letS (i : Nat) : ByteArray := ⟨#[UInt8.ofNat (97 + i)]⟩

theorem keepLetter (i : Nat) (h : i < 6) (w : World) : Calls Try.prog 18 #[.int .i64 (i : Int)] w fun e w' => e = .returned (.string (letS i)) ∧ w' = w := by
  have : i = 0 ∨ i = 1 ∨ i = 2 ∨ i = 3 ∨ i = 4 ∨ i = 5 := by omega
  rcases this with rfl | rfl | rfl | rfl | rfl | rfl
  all_goals
    go_enter Try.func18, Try.ntmps18
    go_wp2
    go_ret
    exact ⟨rfl, rfl⟩

end Go.Proofs.Ytebfmcafmojlaaa

/-
  copsekeep: a Wood in memory.
-/
namespace Go.Proofs.Ytebfmcafmojlaaa
open Go.RowKit Go.Maps
set_option linter.unusedSimpArgs false
set_option linter.unusedVariables false

def woodCells (x : Nat) (vars nums : List Nat) (sv : Value) : List Value := [.pointer (some ⟨x, 0, none⟩)] ++ (vars.map natv ++ (nums.map natv ++ [sv, .bool true]))

structure WoodAt (O : Nat → Prop) (w : World) (wb x : Nat) (C : CopS) (vars nums stay : List Nat) (sv : Value) (Oc : Nat → Prop) : Prop where
  lt : ∀ b, O b → b < w.heap.size
  self : O wb
  oc : ∀ b, Oc b → O b
  cells : w.heap[wb]? = some (.cells (woodCells x vars nums sv).toArray 28 (0, 0))
  vl : vars.length = 6
  nl : nums.length = 6
  cop : CopI Oc w x C
  stay : Row O w 3 sv (stay.map natv)
  nw : ¬ Oc wb
  ns : ∀ b, sv.ownBlock = some b → ¬ Oc b

theorem CopI.small {O : Nat → Prop} {w : World} {x : Nat} {C : CopS} (hI : CopI O w x C) {h : Nat} {f : Tab} (hf : C.T h = some f) : h < 160001 := by
  obtain ⟨cap, names, S, nv, gb, lb, L, Og, rfl, hok, hA⟩ := hI
  exact hok.mid.small (hok.mid.liveOk (copC_T.1 hf).1)

theorem CopI.lists {O : Nat → Prop} {w : World} {x : Nat} {C : CopS} (hI : CopI O w x C) : ∃ Lt, Lists C Lt := by
  obtain ⟨cap, names, S, nv, gb, lb, L, Og, rfl, hok, hA⟩ := hI
  classical
  refine ⟨((List.range 160001).filter (fun r => decide (liveH L r))).map S.g.tab, ?_⟩
  intro f
  constructor
  · rintro ⟨h, hf⟩
    left
    obtain ⟨h1, h2⟩ := copC_T.1 hf
    rw [List.mem_map]
    exact ⟨h, List.mem_filter.2 ⟨List.mem_range.2 (hok.mid.small (hok.mid.liveOk h1)), by simpa using h1⟩, h2⟩
  · rintro (h | h | h)
    · obtain ⟨r, h1, h2⟩ := List.mem_map.1 h
      exact ⟨r, copC_T.2 ⟨by simpa using (List.mem_filter.1 h1).2, h2⟩⟩
    · subst h; exact ⟨1, copC_T.2 ⟨hok.mid.c1, hok.mid.k.tab1⟩⟩
    · subst h; exact ⟨0, copC_T.2 ⟨hok.mid.c0, hok.mid.k.tab0⟩⟩

theorem wood_get (x : Nat) (vars nums : List Nat) (sv : Value) (vl : vars.length = 6) (nl : nums.length = 6) :
    (woodCells x vars nums sv)[0]? = some (.pointer (some ⟨x, 0, none⟩)) ∧ (∀ i, i < 6 → (woodCells x vars nums sv)[1 + i]? = some (.int .i64 (vars.getD i 0 : Nat))) ∧ (∀ i, i < 6 → (woodCells x vars nums sv)[7 + i]? = some (.int .i64 (nums.getD i 0 : Nat))) ∧ (woodCells x vars nums sv)[13]? = some sv ∧ (woodCells x vars nums sv)[14]? = some (.bool true) ∧ (woodCells x vars nums sv).length = 15 := by
  match vars, vl with
  | [a, b, c, d, e, f], _ =>
    match nums, nl with
    | [a', b', c', d', e', f'], _ =>
      refine ⟨rfl, ?_, ?_, rfl, rfl, rfl⟩
      · intro i hi
        have : i = 0 ∨ i = 1 ∨ i = 2 ∨ i = 3 ∨ i = 4 ∨ i = 5 := by omega
        rcases this with rfl | rfl | rfl | rfl | rfl | rfl <;> rfl
      · intro i hi
        have : i = 0 ∨ i = 1 ∨ i = 2 ∨ i = 3 ∨ i = 4 ∨ i = 5 := by omega
        rcases this with rfl | rfl | rfl | rfl | rfl | rfl <;> rfl

theorem WoodAt.c {O : Nat → Prop} {w : World} {wb x : Nat} {C : CopS} {vars nums stay : List Nat} {sv : Value} {Oc : Nat → Prop} (h : WoodAt O w wb x C vars nums stay sv Oc) :
    w.cell? ⟨wb, 0, none⟩ = some (.pointer (some ⟨x, 0, none⟩)) ∧ (∀ i, i < 6 → w.cell? ⟨wb, 1 + i, none⟩ = some (.int .i64 (vars.getD i 0 : Nat))) ∧ (∀ i, i < 6 → w.cell? ⟨wb, 7 + i, none⟩ = some (.int .i64 (nums.getD i 0 : Nat))) ∧ w.cell? ⟨wb, 13, none⟩ = some sv ∧ w.cell? ⟨wb, 14, none⟩ = some (.bool true) ∧ ∀ o, w.frozen? ⟨wb, o, none⟩ = false := by
  obtain ⟨a, b, c, d, e, _⟩ := wood_get x vars nums sv h.vl h.nl
  have hh : ∀ o, w.cell? ⟨wb, o, none⟩ = (woodCells x vars nums sv)[o]? := fun o => by rw [cell_of_heap h.cells]; simp
  exact ⟨by rw [hh, a], fun i hi => by rw [hh, b i hi], fun i hi => by rw [hh, c i hi], by rw [hh, d], by rw [hh, e], fun o => frozen_of_heap h.cells⟩

theorem WoodAt.ne {O : Nat → Prop} {w : World} {wb x : Nat} {C : CopS} {vars nums stay : List Nat} {sv : Value} {Oc : Nat → Prop} (h : WoodAt O w wb x C vars nums stay sv Oc) : sv.ownBlock ≠ some wb := by
  intro e
  obtain ⟨cur, hc⟩ := row_block h.stay.1 e
  rw [h.cells] at hc
  simp at hc

theorem WoodAt.keep {O : Nat → Prop} {w w' : World} {wb x : Nat} {C : CopS} {vars nums stay : List Nat} {sv : Value} {Oc : Nat → Prop} (h : WoodAt O w wb x C vars nums stay sv Oc) (hs : w.heap.size ≤ w'.heap.size) (hb : ∀ k, O k → w'.heap[k]? = w.heap[k]?) : WoodAt O w' wb x C vars nums stay sv Oc :=
  { h with
    lt := fun b hb => Nat.lt_of_lt_of_le (h.lt b hb) hs
    cells := (hb wb h.self).trans h.cells
    cop := h.cop.keep hs (fun k hk => hb k (h.oc k hk))
    stay := h.stay.same (fun k hk => hb k (h.stay.2 k hk)) }

theorem WoodAt.below {O : Nat → Prop} {w w' : World} {wb x : Nat} {C : CopS} {vars nums stay : List Nat} {sv : Value} {Oc : Nat → Prop} (h : WoodAt O w wb x C vars nums stay sv Oc) (hb : Below w.heap.size w w') : WoodAt O w' wb x C vars nums stay sv Oc :=
  h.keep hb.size (fun k hk => hb.block k (h.lt k hk))

/-- The copse has gone on. -/
theorem WoodAt.copped {O : Nat → Prop} {w w' : World} {wb x : Nat} {C C' : CopS} {vars nums stay : List Nat} {sv : Value} {Oc : Nat → Prop} (h : WoodAt O w wb x C vars nums stay sv Oc) (hst : CopStep CopI Oc w x w' C') :
    Only O w w' ∧ ∃ O' Oc', WoodAt O' w' wb x C' vars nums stay sv Oc' ∧ Grows w O O' := by
  obtain ⟨ho, Oc', hC, hg⟩ := hst
  have hwl := h.lt wb h.self
  have hn : ∀ b, b < w.heap.size → ¬ Oc b → ¬ Oc' b := fun b hb h1 h2 => by
    rcases hg b h2 with e | e
    · exact h1 e
    · omega
  have hblk : ∀ b, b < w.heap.size → ¬ Oc b → w'.heap[b]? = w.heap[b]? := fun b hb h1 => ho.block b hb h1
  refine ⟨ho.mono h.oc, fun b => O b ∨ Oc' b, Oc', ?_, ?_⟩
  · refine ⟨?_, .inl h.self, fun b hb => .inr hb, (hblk wb hwl h.nw).trans h.cells, h.vl, h.nl, hC, ?_, hn wb hwl h.nw, fun b hb => hn b (h.lt b (h.stay.2 b hb)) (h.ns b hb)⟩
    · rintro b (hb | hb)
      · exact Nat.lt_of_lt_of_le (h.lt b hb) ho.size
      · exact hC.lt b hb
    · exact (h.stay.same (fun b hb => hblk b (h.lt b (h.stay.2 b hb)) (h.ns b hb))).mono (fun b hb => .inl hb)
  · rintro b (hb | hb)
    · exact .inl hb
    · rcases hg b hb with e | e
      · exact .inl (h.oc b e)
      · exact .inr e

theorem array_set_same {a : Array Value} {i : Nat} {v : Value} (h : a[i]? = some v) : a.setIfInBounds i v = a := by
  apply Array.ext_getElem?
  intro j
  rw [Array.getElem?_setIfInBounds]
  split
  · rename_i e
    subst e
    split
    · exact h.symm
    · rename_i hn
      rw [Array.getElem?_eq_none (by omega)] at h
      cases h
  · rfl

/-- 'w.ok = true', where it is. -/
theorem WoodAt.okay {O : Nat → Prop} {w : World} {wb x : Nat} {C : CopS} {vars nums stay : List Nat} {sv : Value} {Oc : Nat → Prop} (h : WoodAt O w wb x C vars nums stay sv Oc) : WoodAt O (w.setCell ⟨wb, 14, none⟩ (.bool true)) wb x C vars nums stay sv Oc ∧ Only O w (w.setCell ⟨wb, 14, none⟩ (.bool true)) := by
  have hw : (w.setCell ⟨wb, 14, none⟩ (.bool true)).heap[wb]? = w.heap[wb]? := by
    rw [heap_setCell_at h.cells, h.cells, array_set_same]
    obtain ⟨a, b, c, d, e, _⟩ := wood_get x vars nums sv h.vl h.nl
    simpa using e
  refine ⟨h.keep (by simp [World.setCell]) (fun k hk => ?_), (Only.refl O w).setCell (p := ⟨wb, 14, none⟩) (.inl h.self) _⟩
  by_cases e : k = wb
  · subst e; exact hw
  · exact Below.heap_setCell _ _ _ _ e

structure WoodOk (C : CopS) (vars nums stay : List Nat) (K : Nat) : Prop where
  vT : ∀ i, i < 6 → C.T (vars.getD i 0) = some (mask (nums.getD i 0))
  n6 : ∀ i, i < 6 → nums.getD i 0 < 6
  ninj : ∀ i j, i < 6 → j < 6 → nums.getD i 0 = nums.getD j 0 → i = j
  cap : C.cap = 300
  order : Ord6 C.order
  nmlen : C.names.length = 6
  names : ∀ i, i < 6 → C.names.findIdx? (fun y => y.toList == (letS i).toList) = some (nums.getD i 0)
  st : ∀ h ∈ stay, ∃ f, C.T h = some f
  few : ∃ F : List Tab, F.length ≤ K ∧ ∀ h f, C.T h = some f → FewOf F f

def WoodI (O : Nat → Prop) (w : World) (wb : Nat) (C : CopS) (vars nums stay : List Nat) (K : Nat) : Prop := ∃ x sv Oc, WoodAt O w wb x C vars nums stay sv Oc ∧ WoodOk C vars nums stay K
def WStep (O : Nat → Prop) (w : World) (wb : Nat) (w' : World) (C' : CopS) (vars nums stay : List Nat) (K : Nat) : Prop := Only O w w' ∧ ∃ O', WoodI O' w' wb C' vars nums stay K ∧ Grows w O O'

def TExt (C C' : CopS) : Prop := ∀ h f, C.T h = some f → C'.T h = some f

/-- A handle of the function t is told. -/
def TellP (O : Nat → Prop) (w : World) (wb : Nat) (C : CopS) (vars nums stay : List Nat) (K : Nat) (t : Tab) (e : Ending) (w' : World) : Prop :=
  ∃ r : Nat, e = .returned (.int .i64 (r : Nat)) ∧ ∃ C', TExt C C' ∧ C'.T r = some t ∧ w'.cell? ⟨wb, 0, none⟩ = w.cell? ⟨wb, 0, none⟩ ∧ WStep O w wb w' C' vars nums stay K

theorem few_room {C : CopS} {vars nums stay : List Nat} {K : Nat} (h : WoodOk C vars nums stay K) (hK : K ≤ 18) {Lt : List Tab} (hL : Lists C Lt) (t : Tab) : ¬ fullC C Lt t := by
  unfold fullC
  rw [h.cap]
  obtain ⟨F, hF, hf⟩ := h.few
  have := all_leO h.order (F ++ [t]) (withT Lt [t]) (by
    intro f hf'
    rw [withT_one] at hf'
    rcases hf' with e | e
    · obtain ⟨r, hr⟩ := (hL f).2 (.inl e)
      rcases hf r f hr with a | a | a
      · exact .inl a
      · exact .inr (.inl (List.mem_append_left _ a))
      · exact .inr (.inr a)
    · subst e; exact .inr (.inl (by simp)))
  rw [List.length_append] at this
  simp only [List.length_cons, List.length_nil] at this
  omega

/-- A call of the copse that tells a function. -/
theorem told_wood {O : Nat → Prop} {w w1 : World} {wb x : Nat} {C : CopS} {vars nums stay : List Nat} {sv : Value} {Oc : Nat → Prop} {K : Nat} {Lt : List Tab} {t : Tab} {e : Ending} (hA : WoodAt O w wb x C vars nums stay sv Oc) (hok : WoodOk C vars nums stay K) (hK : K ≤ 18) (hL : Lists C Lt) (hp : PostTell CopI Oc w x C (fullC C Lt t) (toldC C t) t e w1) :
    ∃ r : Nat, e = .returned (.tuple #[.int .i64 (r : Nat), .int .i64 0]) ∧ w1.cell? ⟨wb, 14, none⟩ = some (.bool true) ∧ w1.frozen? ⟨wb, 14, none⟩ = false ∧ w1.cell? ⟨wb, 0, none⟩ = some (.pointer (some ⟨x, 0, none⟩)) ∧ TellP O w wb C vars nums stay (K + 1) t (.returned (.int .i64 (r : Nat))) (w1.setCell ⟨wb, 14, none⟩ (.bool true)) := by
  rcases hp with ⟨h1, _⟩ | ⟨_, r, hm, hf, rfl, hst⟩
  · exact absurd h1 (few_room hok hK hL t)
  · obtain ⟨ho, O', Oc', hA', hg⟩ := hA.copped hst
    obtain ⟨hA2, ho2⟩ := hA'.okay
    have hext : TExt C (toldC C t r) := by
      intro h f hh
      show updT C.T r t h = some f
      unfold updT
      split
      · rename_i e; subst e; rw [hf f hh]
      · exact hh
    refine ⟨r, rfl, hA'.c.2.2.2.2.1, hA'.c.2.2.2.2.2 14, hA'.c.1, r, rfl, toldC C t r, hext, ?_, hA2.c.1.trans hA.c.1.symm, ho.trans ho2 hg, O', ⟨x, sv, Oc', hA2, ?_⟩, hg⟩
    · show updT C.T r t r = some t
      simp [updT]
    · refine ⟨fun i hi => hext _ _ (hok.vT i hi), hok.n6, hok.ninj, hok.cap, hok.order, hok.nmlen, hok.names, fun h hh => ?_, ?_⟩
      · obtain ⟨f, hf'⟩ := hok.st h hh
        exact ⟨f, hext h f hf'⟩
      · obtain ⟨F, hF, hf'⟩ := hok.few
        refine ⟨F ++ [t], by simp; omega, ?_⟩
        intro h f hh
        have hh' : updT C.T r t h = some f := hh
        unfold updT at hh'
        split at hh'
        · cases hh'
          exact .inr (.inl (by simp))
        · rcases hf' h f hh' with a | a | a
          · exact .inl a
          · exact .inr (.inl (List.mem_append_left _ a))
          · exact .inr (.inr a)

end Go.Proofs.Ytebfmcafmojlaaa

/-
  copsekeep: Wood.ite, not, and, or, given.
-/
namespace Go.Proofs.Ytebfmcafmojlaaa
open Go.RowKit Go.Maps
set_option linter.unusedSimpArgs false
set_option linter.unusedVariables false

theorem WStep.after {O : Nat → Prop} {w w1 w2 : World} {wb : Nat} {C : CopS} {vars nums stay : List Nat} {K : Nat} (h : WStep O w1 wb w2 C vars nums stay K) (hb : Below w.heap.size w w1) : WStep O w wb w2 C vars nums stay K := by
  obtain ⟨ho, O', hI, hg⟩ := h
  exact ⟨below_then_only hb ho, O', hI, fun b hb' => (hg b hb').imp id (fun e => Nat.le_trans hb.size e)⟩

theorem TellP.after {O : Nat → Prop} {w w1 w2 : World} {wb : Nat} {C : CopS} {vars nums stay : List Nat} {K : Nat} {t : Tab} {e : Ending} (h : TellP O w1 wb C vars nums stay K t e w2) (hb : Below w.heap.size w w1) (hw : wb < w.heap.size) : TellP O w wb C vars nums stay K t e w2 := by
  obtain ⟨r, h1, C', h2, h3, hc, h4⟩ := h
  exact ⟨r, h1, C', h2, h3, hc.trans (hb.cell (p := ⟨wb, 0, none⟩) hw), h4.after hb⟩

set_option maxHeartbeats 400000 in
set_option maxRecDepth 10000 in
theorem woodIte {O : Nat → Prop} {w : World} {wb : Nat} {C : CopS} {vars nums stay : List Nat} {K : Nat} (hI : WoodI O w wb C vars nums stay K) (hK : K ≤ 18) (a b c : Nat) (f g h : Tab) (hf : C.T a = some f) (hg : C.T b = some g) (hh : C.T c = some h) :
    Calls Try.prog 12 #[.pointer (some ⟨wb, 0, none⟩), .int .i64 a, .int .i64 b, .int .i64 c] w (TellP O w wb C vars nums stay (K + 1) (iteT f g h)) := by
  obtain ⟨x, sv, Oc, hA, hok⟩ := hI
  obtain ⟨Lt, hL⟩ := hA.cop.lists
  have c0 := hA.c.1
  have hc := (copseIte_is hA.cop Lt hL a b c f g h hf hg hh).mono (fun e w1 hp => told_wood hA hok hK hL hp)
  clear hL hA hok hK hf hg hh
  go_enter Try.func12, Try.ntmps12
  go_wp2_with (go_at_call 25; refine hc.mono ?_; clear hc; rintro e w1 ⟨r, rfl, q1, q2, q3, hp⟩)
  go_ret
  exact hp

set_option maxHeartbeats 400000 in
set_option maxRecDepth 10000 in
theorem woodNot {O : Nat → Prop} {w : World} {wb : Nat} {C : CopS} {vars nums stay : List Nat} {K : Nat} (hI : WoodI O w wb C vars nums stay K) (hK : K ≤ 18) (a : Nat) (f : Tab) (hf : C.T a = some f) :
    Calls Try.prog 9 #[.pointer (some ⟨wb, 0, none⟩), .int .i64 a] w (TellP O w wb C vars nums stay (K + 1) (~~~ f)) := by
  obtain ⟨x, sv, Oc, hA, hok⟩ := hI
  obtain ⟨Lt, hL⟩ := hA.cop.lists
  have c0 := hA.c.1
  have hc := (copseNot_is hA.cop Lt hL a f hf).mono (fun e w1 hp => told_wood hA hok hK hL hp)
  clear hL hA hok hK hf
  go_enter Try.func9, Try.ntmps9
  go_wp2_with (go_at_call 26; refine hc.mono ?_; clear hc; rintro e w1 ⟨r, rfl, q1, q2, q3, hp⟩)
  go_ret
  exact hp

def andT (f g : Tab) : Tab := iteT f g 0
def orT (f g : Tab) : Tab := iteT f onesT g

theorem TellP.val {O : Nat → Prop} {w : World} {wb : Nat} {C : CopS} {vars nums stay : List Nat} {K : Nat} {t : Tab} {e : Ending} {w' : World} (h : TellP O w wb C vars nums stay K t e w') : ∃ r : Nat, e = .returned (.int .i64 (r : Nat)) ∧ TellP O w wb C vars nums stay K t (.returned (.int .i64 (r : Nat))) w' := by
  obtain ⟨r, rfl, h'⟩ := h
  exact ⟨r, rfl, r, rfl, h'⟩

theorem WoodI.consts {O : Nat → Prop} {w : World} {wb : Nat} {C : CopS} {vars nums stay : List Nat} {K : Nat} (hI : WoodI O w wb C vars nums stay K) : C.T 1 = some 0 ∧ C.T 0 = some onesT := by
  obtain ⟨x, sv, Oc, hA, hok⟩ := hI
  exact hA.cop.consts

theorem WoodI.c {O : Nat → Prop} {w : World} {wb : Nat} {C : CopS} {vars nums stay : List Nat} {K : Nat} (hI : WoodI O w wb C vars nums stay K) : ∃ x, w.cell? ⟨wb, 0, none⟩ = some (.pointer (some ⟨x, 0, none⟩)) := by
  obtain ⟨x, sv, Oc, hA, hok⟩ := hI
  exact ⟨x, hA.c.1⟩

set_option maxHeartbeats 400000 in
set_option maxRecDepth 10000 in
theorem woodAnd {O : Nat → Prop} {w : World} {wb : Nat} {C : CopS} {vars nums stay : List Nat} {K : Nat} (hI : WoodI O w wb C vars nums stay K) (hK : K ≤ 18) (a b : Nat) (f g : Tab) (hf : C.T a = some f) (hg : C.T b = some g) :
    Calls Try.prog 7 #[.pointer (some ⟨wb, 0, none⟩), .int .i64 a, .int .i64 b] w (TellP O w wb C vars nums stay (K + 1) (andT f g)) := by
  have hc := (woodIte hI hK a b 1 f g 0 hf hg hI.consts.1).mono (fun e w1 hp => hp.val)
  have hk := fun x => copseConst_is x false w
  obtain ⟨x, c0⟩ := hI.c
  unfold andT
  clear hI hK hf hg
  go_enter Try.func7, Try.ntmps7
  go_wp2_with (first
    | (go_at_call 14; refine (hk _).mono ?_; clear hk; rintro e w1 ⟨rfl, hq⟩; replace hq := hq.symm; subst hq)
    | (go_at_call 12; refine hc.mono ?_; clear hc; rintro e w1 ⟨r, rfl, hp⟩))
  go_ret
  exact hp

set_option maxHeartbeats 400000 in
set_option maxRecDepth 10000 in
theorem woodOr {O : Nat → Prop} {w : World} {wb : Nat} {C : CopS} {vars nums stay : List Nat} {K : Nat} (hI : WoodI O w wb C vars nums stay K) (hK : K ≤ 18) (a b : Nat) (f g : Tab) (hf : C.T a = some f) (hg : C.T b = some g) :
    Calls Try.prog 10 #[.pointer (some ⟨wb, 0, none⟩), .int .i64 a, .int .i64 b] w (TellP O w wb C vars nums stay (K + 1) (orT f g)) := by
  have hc := (woodIte hI hK a 0 b f onesT g hf hI.consts.2 hg).mono (fun e w1 hp => hp.val)
  have hk := fun x => copseConst_is x true w
  obtain ⟨x, c0⟩ := hI.c
  unfold orT
  clear hI hK hf hg
  go_enter Try.func10, Try.ntmps10
  go_wp2_with (first
    | (go_at_call 14; refine (hk _).mono ?_; clear hk; rintro e w1 ⟨rfl, hq⟩; replace hq := hq.symm; subst hq)
    | (go_at_call 12; refine hc.mono ?_; clear hc; rintro e w1 ⟨r, rfl, hp⟩))
  go_ret
  exact hp

set_option maxHeartbeats 400000 in
set_option maxRecDepth 10000 in
theorem woodGiven {O : Nat → Prop} {w : World} {wb : Nat} {C : CopS} {vars nums stay : List Nat} {K : Nat} (hI : WoodI O w wb C vars nums stay K) (hK : K ≤ 18) (a : Nat) (f : Tab) (hf : C.T a = some f) (i : Nat) (hi : i < 6) (b : Bool) :
    Calls Try.prog 13 #[.pointer (some ⟨wb, 0, none⟩), .int .i64 a, .int .i64 i, .bool b] w (TellP O w wb C vars nums stay (K + 1) (given f (nums.getD i 0) b)) := by
  obtain ⟨x, sv, Oc, hA, hok⟩ := hI
  obtain ⟨Lt, hL⟩ := hA.cop.lists
  have c0 := hA.c.1
  have hc : ∀ w1, Below w.heap.size w w1 → Calls Try.prog 27 #[.pointer (some ⟨x, 0, none⟩), .int .i64 a, .string (letS i), .bool b] w1 fun e w2 => ∃ r : Nat, e = .returned (.tuple #[.int .i64 (r : Nat), .int .i64 0]) ∧ w2.cell? ⟨wb, 14, none⟩ = some (.bool true) ∧ w2.frozen? ⟨wb, 14, none⟩ = false ∧ w2.cell? ⟨wb, 0, none⟩ = some (.pointer (some ⟨x, 0, none⟩)) ∧ TellP O w wb C vars nums stay (K + 1) (given f (nums.getD i 0) b) (.returned (.int .i64 (r : Nat))) (w2.setCell ⟨wb, 14, none⟩ (.bool true)) := by
    intro w1 hb
    refine (copseRestrict_is (hA.below hb).cop Lt hL a f (letS i) b (nums.getD i 0) hf (hok.names i hi)).mono ?_
    intro e w2 hp
    obtain ⟨r, h1, h2, h3, h4, h5⟩ := told_wood (hA.below hb) hok hK hL hp
    exact ⟨r, h1, h2, h3, h4, h5.after hb (hA.lt wb hA.self)⟩
  obtain ⟨t, ht⟩ : ∃ t, t = given f (nums.getD i 0) b := ⟨_, rfl⟩
  rw [← ht] at hc ⊢
  have hlt := fun w => keepLetter i hi w
  have HC : Hid _ := hc
  clear hc ht hL hA hok hK hf hi
  go_enter Try.func13, Try.ntmps13
  go_wp2
  go_region_held (fun w' => w'.cell? ⟨wb, 0, none⟩ = some (.pointer (some ⟨x, 0, none⟩))) (go_keep) (first | (go_at_call 18; refine (hlt _).mono ?_; clear hlt; rintro e w1 ⟨rfl, hq⟩; replace hq := hq.symm; subst hq) | (go_at_call 27; refine (HC.out _ (Below.refl _ _).drew).mono ?_; clear HC; rintro e w1 ⟨r, rfl, q1, q2, q3, hp⟩))
  go_wp2
  go_ret
  exact hp

end Go.Proofs.Ytebfmcafmojlaaa

/-
  copsekeep: Wood.clean.
-/
namespace Go.Proofs.Ytebfmcafmojlaaa
open Go.RowKit Go.Maps
set_option linter.unusedSimpArgs false
set_option linter.unusedVariables false

def CleanP (O : Nat → Prop) (w : World) (wb : Nat) (C : CopS) (vars nums stay keep : List Nat) (K : Nat) (e : Ending) (w' : World) : Prop :=
  e = .returned (.tuple #[]) ∧ ∃ C', WStep O w wb w' C' vars nums stay K ∧ (∀ h f, C'.T h = some f → C.T h = some f) ∧ (∀ h, h ∈ vars ∨ h ∈ stay ∨ h ∈ keep → C'.T h = C.T h)

theorem one_cells_nat (l : List Nat) : ∀ u ∈ l.map natv, u.oneCell' = true := by
  intro u hu
  obtain ⟨x, _, rfl⟩ := List.mem_map.1 hu
  rfl

theorem mem_vars {vars : List Nat} (vl : vars.length = 6) {h : Nat} (hh : h ∈ vars) : ∃ i, i < 6 ∧ h = vars.getD i 0 := by
  obtain ⟨i, hi, rfl⟩ := List.mem_iff_getElem.1 hh
  exact ⟨i, by omega, by rw [List.getD_eq_getElem?_getD, List.getElem?_eq_getElem hi]; rfl⟩

theorem var_mem {vars : List Nat} (vl : vars.length = 6) {i : Nat} (hi : i < 6) : vars.getD i 0 ∈ vars := by
  rw [List.getD_eq_getElem?_getD, List.getElem?_eq_getElem (by omega)]
  exact List.getElem_mem _

theorem WoodAt.varsFull {O : Nat → Prop} {w : World} {wb x : Nat} {C : CopS} {vars nums stay : List Nat} {sv : Value} {Oc : Nat → Prop} (h : WoodAt O w wb x C vars nums stay sv Oc) : Full w.heap.size wb w 3 (.slice (some ⟨wb, 1, none⟩) 6 6) (vars.map natv) := by
  refine .inl ⟨1, by simp [h.vl], h.lt wb h.self, ?_⟩
  intro i hi
  rw [List.length_map, h.vl] at hi
  rw [h.c.2.1 i hi]
  have := h.vl
  simp [natv, List.getD_eq_getElem?_getD, List.getElem?_eq_getElem (show i < vars.length by omega)]

/-- What Collect left. -/
theorem cleaned {O : Nat → Prop} {w w1 w2 : World} {wb x : Nat} {C : CopS} {vars nums stay keep : List Nat} {sv : Value} {Oc : Nat → Prop} {K : Nat} {F : List Tab} {e : Ending} (hA : WoodAt O w wb x C vars nums stay sv Oc) (hok : WoodOk C vars nums stay K) (hb : Below w.heap.size w w1) (hF : ∀ h, h ∈ stay ∨ h ∈ keep → ∀ f, C.T h = some f → FewOf F f)
    (hp : CollPost Oc w1 x C (vars ++ stay ++ keep) e w2) :
    e = .returned (.int .i64 0) ∧ w2.cell? ⟨wb, 14, none⟩ = some (.bool true) ∧ w2.frozen? ⟨wb, 14, none⟩ = false ∧ CleanP O w wb C vars nums stay keep F.length (.returned (.tuple #[])) (w2.setCell ⟨wb, 14, none⟩ (.bool true)) := by
  obtain ⟨rfl, hst⟩ := hp
  have hcons := hA.cop.consts
  obtain ⟨ho, O', Oc', hA', hg⟩ := (hA.below hb).copped hst
  obtain ⟨hA2, ho2⟩ := hA'.okay
  have hg' : Grows w O O' := fun b hb' => (hg b hb').imp id (fun h => Nat.le_trans hb.size h)
  have hin : ∀ h, h ∈ vars ∨ h ∈ stay ∨ h ∈ keep → (collC C (vars ++ stay ++ keep)).T h = C.T h := by
    intro h hh
    have hm : h ∈ vars ++ stay ++ keep := by
      simp only [List.mem_append]
      rcases hh with a | a | a
      · exact .inl (.inl a)
      · exact .inl (.inr a)
      · exact .inr a
    unfold collC
    simp only
    rw [if_pos (.inr (.inr hm))]
  refine ⟨rfl, hA'.c.2.2.2.2.1, hA'.c.2.2.2.2.2 14, rfl, collC C (vars ++ stay ++ keep), ⟨below_then_only hb (ho.trans ho2 hg), O', ⟨x, sv, Oc', hA2, ?_⟩, hg'⟩, fun h f hh => (collC_T.1 hh).2, hin⟩
  refine ⟨fun i hi => (hin _ (.inl (var_mem hA.vl hi))).trans (hok.vT i hi), hok.n6, hok.ninj, hok.cap, hok.order, hok.nmlen, hok.names, fun h hh => ?_, F, Nat.le_refl _, ?_⟩
  · obtain ⟨f, hf⟩ := hok.st h hh
    exact ⟨f, (hin h (.inr (.inl hh))).trans hf⟩
  · intro h f hh
    obtain ⟨h1, h2⟩ := collC_T.1 hh
    rcases h1 with rfl | rfl | h1
    · rw [hcons.2] at h2
      cases h2
      exact .inr (.inr (.inr rfl))
    · rw [hcons.1] at h2
      cases h2
      exact .inr (.inr (.inl rfl))
    · simp only [List.mem_append] at h1
      rcases h1 with (h1 | h1) | h1
      · obtain ⟨i, hi, rfl⟩ := mem_vars hA.vl h1
        rw [hok.vT i hi] at h2
        cases h2
        exact .inl ⟨_, hok.n6 i hi, rfl⟩
      · exact hF h (.inl h1) f h2
      · exact hF h (.inr h1) f h2

set_option maxHeartbeats 400000 in
set_option maxRecDepth 10000 in
theorem woodClean {O : Nat → Prop} {w : World} {wb : Nat} {C : CopS} {vars nums stay : List Nat} {K : Nat} (hI : WoodI O w wb C vars nums stay K) (keep : List Nat) (kv : Value) (hk : Reads w.heap.size w kv (keep.map natv)) (hkT : ∀ h ∈ keep, ∃ f, C.T h = some f) (F : List Tab) (hF : ∀ h, h ∈ stay ∨ h ∈ keep → ∀ f, C.T h = some f → FewOf F f) (hlen : stay.length + keep.length ≤ 1000) :
    Calls Try.prog 11 #[.pointer (some ⟨wb, 0, none⟩), kv] w (CleanP O w wb C vars nums stay keep F.length) := by
  obtain ⟨i0, hi, hz0, hz1, hz2⟩ := info_parts Try.infoIntP
  obtain ⟨x, sv, Oc, hA, hok⟩ := hI
  have hfull := hA.varsFull
  have hsr := hA.stay.reads
  have c13 := hA.c.2.2.2.1
  have b1 : (vars.map natv).length + (stay.map natv).length ≤ maxLen := by rw [List.length_map, List.length_map, hA.vl]; unfold maxLen; omega
  have b2 : ((vars.map natv).length + (stay.map natv).length) * 8 ≤ 140737488355328 := by rw [List.length_map, List.length_map, hA.vl]; omega
  have b3 : (vars.map natv ++ stay.map natv).length + (keep.map natv).length ≤ maxLen := by rw [List.length_append, List.length_map, List.length_map, List.length_map, hA.vl]; unfold maxLen; omega
  have b4 : ((vars.map natv ++ stay.map natv).length + (keep.map natv).length) * 8 ≤ 140737488355328 := by rw [List.length_append, List.length_map, List.length_map, List.length_map, hA.vl]; omega
  have c0 : ∀ w1, Below w.heap.size w w1 → w1.cell? ⟨wb, 0, none⟩ = some (.pointer (some ⟨x, 0, none⟩)) := fun w1 hb => (hA.below hb).c.1
  have hco : ∀ w1 v, Below w.heap.size w w1 → Full w.heap.size wb w1 3 v (vars.map natv ++ stay.map natv ++ keep.map natv) → Calls Try.prog 21 #[.pointer (some ⟨x, 0, none⟩), v] w1 fun e w2 => e = .returned (.int .i64 0) ∧ w2.cell? ⟨wb, 14, none⟩ = some (.bool true) ∧ w2.frozen? ⟨wb, 14, none⟩ = false ∧ CleanP O w wb C vars nums stay keep F.length (.returned (.tuple #[])) (w2.setCell ⟨wb, 14, none⟩ (.bool true)) := by
    intro w1 v hb hf
    refine (copseCollect_is (hA.below hb).cop (vars ++ stay ++ keep) ?_ v ?_ ?_ ?_).mono (fun e w2 hp => cleaned hA hok hb hF hp)
    · intro y hy
      simp only [List.mem_append] at hy
      rcases hy with (hy | hy) | hy
      · obtain ⟨i, hi, rfl⟩ := mem_vars hA.vl hy
        exact ⟨_, hok.vT i hi⟩
      · exact hok.st y hy
      · exact hkT y hy
    · have := hf.reads hb.size
      rw [← List.map_append, ← List.map_append] at this
      exact this
    · intro ad n c hv hO
      rcases hf.block ad n c hv with e | e
      · rw [e] at hO; exact hA.nw hO
      · have := hA.lt _ (hA.oc _ hO); omega
    · simp only [List.length_append, hA.vl]
      omega
  have HC0 : Hid (∀ w1, Below w.heap.size w w1 → w1.cell? ⟨wb, 0, none⟩ = some (.pointer (some ⟨x, 0, none⟩))) := c0
  have HCo : Hid _ := hco
  clear c0 hco hA hok hkT hF hlen
  go_enter Try.func11, Try.ntmps11
  go_wp2_with (first
    | (at_builtin; refine wpList_append_full rfl (.tmp 10) (.tmp 14) 22 rfl w.heap.size wb w.heap.size 3 i0 (.int .i64 0) 8 Try.underlying22 hi hz0 hz1 hz2 rfl _ (vars.map natv) rfl hfull _ (stay.map natv) rfl hsr (one_cells_nat _) b1 b2 (Nat.le_refl _) ?_; clear hfull hsr b1 b2; intro v1 w1 hf1 hb1; obtain ⟨ao1, n1, cp1, rfl⟩ := hf1.drew; replace hk := hk.below hb1 (Nat.le_refl _))
    | (at_builtin; refine wpList_append_full rfl (.tmp 16) (.tmp 17) 22 rfl w.heap.size wb w.heap.size 3 i0 (.int .i64 0) 8 Try.underlying22 hi hz0 hz1 hz2 rfl _ (vars.map natv ++ stay.map natv) rfl hf1 _ (keep.map natv) rfl hk (one_cells_nat _) b3 b4 hb1.size ?_; clear b3 b4 hk hf1; intro v2 w2 hf2 hb2; obtain ⟨ao2, n2, cp2, rfl⟩ := hf2.drew; replace hb2 := hb1.trans hb2; clear hb1; have q0 := HC0.out _ hb2)
    | (go_at_call 21; refine (HCo.out _ _ hb2 hf2).mono ?_; clear HCo HC0 hb2 hf2; rintro e w3 ⟨rfl, r1, r2, hp⟩))
  go_end0
  exact hp

end Go.Proofs.Ytebfmcafmojlaaa

/-
  copsekeep: begin: what it makes.
-/
namespace Go.Proofs.Ytebfmcafmojlaaa
open Go.RowKit Go.Maps
set_option linter.unusedSimpArgs false
set_option linter.unusedVariables false

theorem letS_ne : ∀ i j : Fin 6, i ≠ j → ((letS i.1).toList == (letS j.1).toList) = false := by decide +kernel
theorem letS_same (i : Nat) (h : i < 6) : ((letS i).toList == (letS i).toList) = true := by rw [beq_iff_eq]
theorem letS_name : ∀ i : Fin 6, isNameB (letS i.1) = true := by decide +kernel
theorem letS_size (i : Nat) : (letS i).size ≤ 1000 := by show 1 ≤ 1000; decide

structure BegOk (C : CopS) (vars nums left : List Nat) (j : Nat) : Prop where
  len : left.length + j = 6
  vl : vars.length = 6
  nl : nums.length = 6
  nd : left.Nodup
  lt : ∀ v ∈ left, v < 6
  cap : C.cap = 300
  nml : C.names.length = j
  order : C.order = List.range j
  lists : Lists C ((List.range j).map mask)
  vT : ∀ i, i < 6 → i ∉ left → C.T (vars.getD i 0) = some (mask (nums.getD i 0)) ∧ nums.getD i 0 < j ∧ C.names.findIdx? (fun y => y.toList == (letS i).toList) = some (nums.getD i 0)
  ninj : ∀ i i', i < 6 → i' < 6 → i ∉ left → i' ∉ left → nums.getD i 0 = nums.getD i' 0 → i = i'
  new : ∀ i ∈ left, C.names.findIdx? (fun y => y.toList == (letS i).toList) = none

theorem getD_set_eq (l : List Nat) (i v r : Nat) (h : v < l.length) : (l.set v r).getD i 0 = if i = v then r else l.getD i 0 := by
  simp only [List.getD_eq_getElem?_getD, List.getElem?_set]
  by_cases e : i = v
  · subst e; simp [h]
  · have e' : ¬ v = i := fun q => e q.symm
    simp [e, e']

theorem BegOk.start : BegOk ⟨300, [], [], T0 1 0⟩ [0, 0, 0, 0, 0, 0] [0, 0, 0, 0, 0, 0] [0, 1, 2, 3, 4, 5] 0 := by
  refine ⟨rfl, rfl, rfl, by decide, by decide, rfl, rfl, rfl, ?_, ?_, ?_, fun i _ => rfl⟩
  · intro f
    show (∃ h, T0 1 0 h = some f) ↔ _
    simp only [List.range_zero, List.map_nil, List.not_mem_nil, false_or]
    constructor
    · rintro ⟨h, hh⟩
      unfold T0 at hh
      split at hh
      · cases hh; exact .inl rfl
      · split at hh
        · cases hh; exact .inr rfl
        · cases hh
    · rintro (rfl | rfl)
      · exact ⟨1, rfl⟩
      · exact ⟨0, rfl⟩
  · intro i hi hn
    have : i = 0 ∨ i = 1 ∨ i = 2 ∨ i = 3 ∨ i = 4 ∨ i = 5 := by omega
    rcases this with rfl | rfl | rfl | rfl | rfl | rfl <;> simp at hn
  · intro i i' hi _ hn
    have : i = 0 ∨ i = 1 ∨ i = 2 ∨ i = 3 ∨ i = 4 ∨ i = 5 := by omega
    rcases this with rfl | rfl | rfl | rfl | rfl | rfl <;> simp at hn

theorem BegOk.named {C : CopS} {vars nums left : List Nat} {j : Nat} (h : BegOk C vars nums left j) {v : Nat} (hv : v ∈ left) : namedI C.names (letS v) = -1 := by
  unfold namedI
  rw [h.new v hv]

theorem BegOk.room {C : CopS} {vars nums left : List Nat} {j : Nat} (h : BegOk C vars nums left j) (hj : j < 6) : ¬ fullV C ((List.range j).map mask) := by
  unfold fullV
  rw [h.cap, h.order, h.nml]
  have h1 := all_masks (o := List.range j ++ [j]) (by
    intro x hx
    rcases List.mem_append.1 hx with e | e
    · have := List.mem_range.1 e; omega
    · simp at e; omega) (withT ((List.range j).map mask) [mask j]) (by
    intro f hf
    rw [withT_one] at hf
    rcases hf with e | e
    · obtain ⟨v, hv, rfl⟩ := List.mem_map.1 e
      exact .inl ⟨v, by have := List.mem_range.1 hv; omega, rfl⟩
    · exact .inl ⟨j, hj, e⟩)
  have h2 := withT_one_len ((List.range j).map mask) (mask j)
  rw [List.length_map, List.length_range] at h2
  omega

theorem BegOk.step {C : CopS} {vars nums left : List Nat} {j : Nat} (h : BegOk C vars nums left j) {k v : Nat} (hk : k < left.length) (hv : left.getD k 0 = v) (r : Nat) (hr : ∀ f, C.T r = some f → f = mask j) : BegOk (varC C (letS v) r) (vars.set v r) (nums.set v j) (left.take k ++ left.drop (k + 1)) (j + 1) := by
  have hlen := h.len
  have hvl := h.vl
  have hnl := h.nl
  have hvk : left[k] = v := by rw [List.getD_eq_getElem?_getD, List.getElem?_eq_getElem hk] at hv; exact hv
  have hvm : v ∈ left := by rw [← hvk]; exact List.getElem_mem hk
  have hv6 := h.lt v hvm
  have hsplit : left = left.take k ++ v :: left.drop (k + 1) := by rw [← hvk, ← List.drop_eq_getElem_cons hk, List.take_append_drop]
  have hnd := h.nd
  rw [hsplit, List.nodup_append] at hnd
  obtain ⟨n1, n2, n3⟩ := hnd
  obtain ⟨n4, n5⟩ := List.nodup_cons.1 n2
  have hmem : ∀ i, i ∈ left.take k ++ left.drop (k + 1) ↔ i ∈ left ∧ i ≠ v := by
    intro i
    constructor
    · intro hi
      rcases List.mem_append.1 hi with e | e
      · exact ⟨List.mem_of_mem_take e, fun q => n3 i e v (by simp) q⟩
      · exact ⟨List.mem_of_mem_drop e, fun q => n4 (by rw [← q]; exact e)⟩
    · rintro ⟨hi, hne⟩
      rw [hsplit] at hi
      rcases List.mem_append.1 hi with e | e
      · exact List.mem_append_left _ e
      · rcases List.mem_cons.1 e with e | e
        · exact absurd e hne
        · exact List.mem_append_right _ e
  have hnmI : ∀ i, i < 6 → (varC C (letS v) r).names.findIdx? (fun y => y.toList == (letS i).toList) = (C.names.findIdx? (fun y => y.toList == (letS i).toList)).or (if i = v then some j else none) := by
    intro i hi
    show (C.names ++ [letS v]).findIdx? _ = _
    rw [List.findIdx?_append, h.nml]
    congr 1
    by_cases e : i = v
    · subst e
      simp [List.findIdx?_cons, letS_same i hi]
    · have := letS_ne ⟨v, hv6⟩ ⟨i, hi⟩ (by intro q; exact e (Fin.mk.inj q).symm)
      simp only at this
      simp [List.findIdx?_cons, this, e]
  have hjm : mask C.names.length = mask j := by rw [h.nml]
  refine ⟨?_, by simpa using hvl, by simpa using hnl, ?_, fun i hi => h.lt i ((hmem i).1 hi).1, h.cap, ?_, ?_, ?_, ?_, ?_, ?_⟩
  · rw [List.length_append, List.length_take, List.length_drop]; omega
  · rw [List.nodup_append]
    exact ⟨n1, n5, fun a ha b hb => n3 a ha b (by simp [hb])⟩
  · show (C.names ++ [letS v]).length = j + 1
    rw [List.length_append, h.nml]; rfl
  · show C.order ++ [C.names.length] = List.range (j + 1)
    rw [h.order, h.nml, List.range_succ]
  · intro f
    show (∃ q, updT C.T r (mask C.names.length) q = some f) ↔ _
    rw [hjm, List.range_succ, List.map_append, List.mem_append]
    have hl := h.lists f
    constructor
    · rintro ⟨q, hq⟩
      unfold updT at hq
      split at hq
      · cases hq
        exact .inl (.inr (by simp))
      · rcases hl.1 ⟨q, hq⟩ with e | e
        · exact .inl (.inl e)
        · exact .inr e
    · intro hf
      by_cases hfj : f = mask j
      · exact ⟨r, by subst hfj; simp [updT]⟩
      · have : f ∈ (List.range j).map mask ∨ f = 0 ∨ f = onesT := by
          rcases hf with (e | e) | e
          · exact .inl e
          · simp at e; exact absurd e hfj
          · exact .inr e
        obtain ⟨q, hq⟩ := hl.2 this
        refine ⟨q, ?_⟩
        unfold updT
        split
        · rename_i e
          subst e
          exact absurd (hr f hq) hfj
        · exact hq
  · intro i hi hn
    rw [getD_set_eq _ _ _ _ (by omega), getD_set_eq _ _ _ _ (by omega), hnmI i hi]
    by_cases e : i = v
    · subst e
      rw [if_pos rfl, if_pos rfl, if_pos rfl, h.new i hvm]
      refine ⟨?_, by omega, rfl⟩
      show updT C.T r (mask C.names.length) r = _
      rw [hjm]
      simp [updT]
    · rw [if_neg e, if_neg e, if_neg e]
      have hnl' : i ∉ left := fun q => hn ((hmem i).2 ⟨q, e⟩)
      obtain ⟨a, b, c⟩ := h.vT i hi hnl'
      refine ⟨?_, by omega, by rw [c]; rfl⟩
      show updT C.T r (mask C.names.length) _ = _
      rw [hjm]
      unfold updT
      split
      · rename_i e'
        rw [e'] at a
        rw [hr _ a]
      · exact a
  · intro i i' hi hi' hn hn' he
    rw [getD_set_eq _ _ _ _ (by omega), getD_set_eq _ _ _ _ (by omega)] at he
    by_cases e : i = v
    · by_cases e' : i' = v
      · rw [e, e']
      · rw [if_pos e, if_neg e'] at he
        have := (h.vT i' hi' (fun q => hn' ((hmem i').2 ⟨q, e'⟩))).2.1
        omega
    · by_cases e' : i' = v
      · rw [if_neg e, if_pos e'] at he
        have := (h.vT i hi (fun q => hn ((hmem i).2 ⟨q, e⟩))).2.1
        omega
      · rw [if_neg e, if_neg e'] at he
        exact h.ninj i i' hi hi' (fun q => hn ((hmem i).2 ⟨q, e⟩)) (fun q => hn' ((hmem i').2 ⟨q, e'⟩)) he
  · intro i hi
    obtain ⟨a, b⟩ := (hmem i).1 hi
    rw [hnmI i (h.lt i a), h.new i a, if_neg b]
    rfl

theorem BegOk.done {C : CopS} {vars nums left : List Nat} {j : Nat} (h : BegOk C vars nums left j) (h0 : left = []) : WoodOk C vars nums [] 0 := by
  have hlen := h.len
  subst h0
  have hj : j = 6 := by simpa using hlen
  subst hj
  refine ⟨fun i hi => (h.vT i hi (by simp)).1, fun i hi => (h.vT i hi (by simp)).2.1, fun i i' hi hi' he => h.ninj i i' hi hi' (by simp) (by simp) he, h.cap, by rw [h.order]; exact Ord6.range, h.nml, fun i hi => (h.vT i hi (by simp)).2.2, by simp, [], Nat.le_refl _, ?_⟩
  intro q f hq
  rcases (h.lists f).1 ⟨q, hq⟩ with e | e | e
  · obtain ⟨v, hv, rfl⟩ := List.mem_map.1 e
    exact .inl ⟨v, List.mem_range.1 hv, rfl⟩
  · exact .inr (.inr (.inl e))
  · exact .inr (.inr (.inr e))

end Go.Proofs.Ytebfmcafmojlaaa

