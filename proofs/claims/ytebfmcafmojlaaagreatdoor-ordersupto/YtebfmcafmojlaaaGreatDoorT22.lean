/-
  copse: keep, tell.
-/
import Derived.Test.YtebfmcafmojlaaaGreatDoorT21
import Derived.Test.YtebfmcafmojlaaaGreatDoorT18
namespace Go.Proofs.YtebfmcafmojlaaaGreatDoor
open Go.RowKit Go.Maps
set_option linter.unusedSimpArgs false
set_option linter.unusedVariables false

def KeepPost (O : Nat → Prop) (w : World) (x cap : Nat) (names : List ByteArray) (S : GrS) (nv : Value) (gb lb : Nat) (L : List (Value × Value)) (Og : Nat → Prop) (rs : List Nat) (e : Ending) (w' : World) : Prop :=
  (cap < S.nums.length ∧ e = .returned (.int .i64 5) ∧ ∃ O' Og' S' A, ∃ xs : List (RefT S.g), S.Swept S' A ∧ MarkedAll S.g A xs ∧ LiveXs L xs ∧ CopAt O' w' x cap names S' nv gb lb L Og' ∧ Only O w w' ∧ Grows w O O') ∨
  (S.nums.length ≤ cap ∧ e = .returned (.int .i64 0) ∧ ∃ L', (∀ p, p ∈ L' ↔ p ∈ L ∨ ∃ r ∈ rs, p = (natv r, .agg #[])) ∧ CopAt O w' x cap names S nv gb lb L' Og ∧ Only O w w')

theorem KeepPost.val {O : Nat → Prop} {w : World} {x cap : Nat} {names : List ByteArray} {S : GrS} {nv : Value} {gb lb : Nat} {L : List (Value × Value)} {Og : Nat → Prop} {rs : List Nat} {e : Ending} {w' : World} (h : KeepPost O w x cap names S nv gb lb L Og rs e w') : (e = .returned (.int .i64 5) ∧ cap < S.nums.length) ∨ (e = .returned (.int .i64 0) ∧ S.nums.length ≤ cap) := by
  rcases h with ⟨h1, h2, _⟩ | ⟨h1, h2, _⟩
  · exact .inl ⟨h2, h1⟩
  · exact .inr ⟨h2, h1⟩

set_option maxHeartbeats 600000 in
set_option maxRecDepth 10000 in
theorem copseKeep_full {O Og : Nat → Prop} {w : World} {x cap : Nat} {names : List ByteArray} {S : GrS} {nv : Value} {gb lb : Nat} {L : List (Value × Value)} {X : Nat → Prop} (hm : CopMid names S L X) (hA : CopAt O w x cap names S nv gb lb L Og) (hcap : cap ≤ 300) {fv : Value} {rs : List Nat} (hfull : cap < S.nums.length) :
    Calls Tryz.prog 43 #[.pointer (some ⟨x, 0, none⟩), fv] w (KeepPost O w x cap names S nv gb lb L Og rs) := by
  obtain ⟨c0, c1, c2, c3⟩ := hA.c
  have hsize : Calls Tryz.prog 48 #[.pointer (some ⟨gb, 0, none⟩)] w.drew fun e w' => e = .returned (.int .i64 (S.nums.length : Nat)) ∧ w' = w.drew := by
    obtain ⟨_, _, _, _, _, _, _, hG⟩ := (hA.graph.undrew)
    exact graphSize_is hG
  have hb2 : Below w.heap.size w (w.drew.drew.alloc (.cells #[.map (some lb)] 75)) := (Below.refl _ w).drew.drew.alloc (Nat.le_refl _) _
  have hA2 := hA.below hb2
  have hnew : (w.drew.drew.alloc (.cells #[.map (some lb)] 75)).heap[w.heap.size]? = some (.cells #[.map (some lb)] 75 (0, 0)) := heap_alloc_new w.drew.drew _
  have hsw := graphSweep_live (bm := w.heap.size) hm hA2 (by rw [cell_of_heap hnew]; rfl) (by show w.heap.size < (w.heap.push _).size; simp) (fun e => by have := hA.lt _ (hA.og _ e); omega)
  have hpost : ∀ w', SweepPost Og (w.drew.drew.alloc (.cells #[.map (some lb)] 75)) gb S (LiveXs L) (.returned (.tuple #[])) w' → KeepPost O w x cap names S nv gb lb L Og rs (.returned (.int .i64 5)) w' := by
    rintro w' ⟨_, xs, A, S', h1, h2, h3, h4⟩
    obtain ⟨ho, O', Og', hA', hg⟩ := hA2.graphed h4
    exact .inl ⟨hfull, rfl, O', Og', S', A, xs, h3, h2, h1, hA', below_then_only hb2 ho, fun b hb => (hg b hb).imp id (fun e => Nat.le_trans hb2.size e)⟩
  have hval : ∀ e w', SweepPost Og (w.drew.drew.alloc (.cells #[.map (some lb)] 75)) gb S (LiveXs L) e w' → e = .returned (.tuple #[]) ∧ w'.cell? ⟨x, 3, none⟩ = some (.map (some lb)) ∧ w'.cell? ⟨x, 2, none⟩ = some (.pointer (some ⟨gb, 0, none⟩)) := by
    rintro e w' ⟨h, xs, A, S', h1, h2, h3, h4⟩
    obtain ⟨ho, O', Og', hA', hg⟩ := hA2.graphed h4
    exact ⟨h, hA'.c.2.2.2, hA'.c.2.2.1⟩
  have hgt : (cap : Int) < (S.nums.length : Int) := by omega
  have HP : Hid _ := hpost
  have HV : Hid _ := hval
  have hkeys := fun W => mapsKeys_is lb W
  obtain ⟨N, hN⟩ : ∃ N, N = S.nums.length := ⟨_, rfl⟩
  rw [← hN] at hsize hgt
  clear hm hA hfull hb2 hA2 hnew hpost hval c1 hN
  go_enter Tryz.func43, Tryz.ntmps43
  go_upto_region 1 with fail
  go_region_held (fun w' => w'.cell? ⟨x, 0, none⟩ = some (.int .i64 (cap : Nat)) ∧ w'.cell? ⟨x, 2, none⟩ = some (.pointer (some ⟨gb, 0, none⟩))) (go_keep) (first | (go_at_call 48; refine hsize.mono ?_; clear hsize; rintro e w1 ⟨rfl, rfl⟩))
  all_goals
    go_upto_region 2 with fail
    go_region_held (fun w' => w'.cell? ⟨x, 3, none⟩ = some (.map (some lb)) ∧ w'.cell? ⟨x, 2, none⟩ = some (.pointer (some ⟨gb, 0, none⟩))) (go_keep) (first | (go_at_call 89; refine (hkeys _).mono ?_; clear hkeys; rintro e w1 ⟨rfl, rfl⟩) | (go_at_call 88; refine hsw.mono ?_; clear hsw; rintro e w1 hp; obtain ⟨rfl, s3, s2⟩ := HV.out _ _ hp))
    all_goals
      go_wp2_with fail
      go_ret
      exact HP.out _ hp

end Go.Proofs.YtebfmcafmojlaaaGreatDoor

/-
  copse: keep where there is room; tell.
-/
namespace Go.Proofs.YtebfmcafmojlaaaGreatDoor
open Go.RowKit Go.Maps
set_option linter.unusedSimpArgs false
set_option linter.unusedVariables false

/-- Between two rounds: k answers are live. -/
structure KeptTo (O : Nat → Prop) (w : World) (x cap : Nat) (names : List ByteArray) (S : GrS) (nv : Value) (gb lb : Nat) (L : List (Value × Value)) (Og : Nat → Prop) (rs : List Nat) (k : Nat) (wr : World) : Prop where
  at_ : ∃ L', (∀ p, p ∈ L' ↔ p ∈ L ∨ ∃ r ∈ rs.take k, p = (natv r, .agg #[])) ∧ CopAt O wr x cap names S nv gb lb L' Og
  only : Only O w wr
  blk : ∀ b, b < w.heap.size → b ≠ lb → wr.heap[b]? = w.heap[b]?

theorem KeptTo.next {O : Nat → Prop} {w : World} {x cap : Nat} {names : List ByteArray} {S : GrS} {nv : Value} {gb lb : Nat} {L : List (Value × Value)} {Og : Nat → Prop} {rs : List Nat} {k : Nat} {wr : World} (h : KeptTo O w x cap names S nv gb lb L Og rs k wr) (hL : ∀ p ∈ L, p.2 = .agg #[]) (hk : k < rs.length) (hr : rs.getD k 0 < refMax) :
    ∃ w', (Instr.mapUpdate 75 (.map (some lb)) (.int .i64 (rs.getD k 0 : Nat)) (.agg #[])).run Tryz.prog wr = .ok () w' ∧ KeptTo O w x cap names S nv gb lb L Og rs (k + 1) w' := by
  obtain ⟨⟨L', hL', hA⟩, ho, hb⟩ := h
  obtain ⟨w', L2, hrun, h1, h2, h3, _, _⟩ := hA.live.store ref_keyed Tryz.underlying75 (key := .int .i64 (rs.getD k 0 : Nat)) (val := .agg #[]) (ref_key_ok _ (wf_i64_nat _ hr))
  obtain ⟨hA', ho'⟩ := hA.lived h2 h1
  refine ⟨w', hrun, ⟨L2, ?_, hA'⟩, ho.trans ho' (Grows.refl _ _), ?_⟩
  · intro p
    rw [h3, hL', List.take_succ_eq_append_getElem hk]
    have hg : rs.getD k 0 = rs[k] := by rw [List.getD_eq_getElem?_getD, List.getElem?_eq_getElem hk]; rfl
    constructor
    · rintro (e | ⟨e | ⟨r, h4, h5⟩, _⟩)
      · exact .inr ⟨rs[k], List.mem_append_right _ (List.mem_singleton.2 rfl), by rw [e, ← hg]; rfl⟩
      · exact .inl e
      · exact .inr ⟨r, List.mem_append_left _ h4, h5⟩
    · intro h
      by_cases c : p = (.int .i64 (rs.getD k 0 : Nat), .agg #[])
      · exact .inl c
      · right
        have hin : p ∈ L ∨ ∃ r ∈ rs.take k, p = (natv r, .agg #[]) := by
          rcases h with e | ⟨r, h4, h5⟩
          · exact .inl e
          · rcases List.mem_append.1 h4 with e | e
            · exact .inr ⟨r, e, h5⟩
            · simp at e
              subst e
              exact absurd (by rw [h5, hg]; rfl) c
        refine ⟨hin, ?_⟩
        intro e
        refine c (Prod.ext e ?_)
        rcases hin with i1 | ⟨r, _, i2⟩
        · exact hL p i1
        · rw [i2]
  · intro b hb1 hb2
    exact (h2.1.block b (Nat.lt_of_lt_of_le hb1 ho.size) (by simp; exact hb2)).trans (hb b hb1 hb2)

set_option maxHeartbeats 600000 in
set_option maxRecDepth 10000 in
theorem copseKeep_room {O Og : Nat → Prop} {w : World} {x cap : Nat} {names : List ByteArray} {S : GrS} {nv : Value} {gb lb : Nat} {L : List (Value × Value)} {X : Nat → Prop} (hm : CopMid names S L X) (hA : CopAt O w x cap names S nv gb lb L Og) {fv : Value} {rs : List Nat} (hroom : S.nums.length ≤ cap) (hcap : cap ≤ 300)
    (hr : Reads w.heap.size w fv (rs.map natv)) (hrs : ∀ r ∈ rs, r < refMax) (hlen : rs.length ≤ 1000000) :
    Calls Tryz.prog 43 #[.pointer (some ⟨x, 0, none⟩), fv] w (KeepPost O w x cap names S nv gb lb L Og rs) := by
  obtain ⟨c0, c1, c2, c3⟩ := hA.c
  have hsize : Calls Tryz.prog 48 #[.pointer (some ⟨gb, 0, none⟩)] w.drew fun e w' => e = .returned (.int .i64 (S.nums.length : Nat)) ∧ w' = w.drew := by
    obtain ⟨_, _, _, _, _, _, _, hG⟩ := (hA.graph.undrew)
    exact graphSize_is hG
  have hgt : ¬ (cap : Int) < (S.nums.length : Int) := by omega
  have hb1 : Below w.heap.size w w.drew := (Below.refl _ w).drew
  have hst : KeptTo O w x cap names S nv gb lb L Og rs 0 w.drew := ⟨⟨L, by simp, hA.below hb1⟩, only_of_below hb1 O, fun b hb _ => hb1.block b hb⟩
  have hLa : ∀ p ∈ L, p.2 = .agg #[] := fun p hp => by obtain ⟨r, e, _⟩ := hm.ents p hp; rw [e]
  have hstep : ∀ k wr, KeptTo O w x cap names S nv gb lb L Og rs k wr → k < rs.length → wr.cell? ⟨x, 3, none⟩ = some (.map (some lb)) ∧ ∃ w', (Instr.mapUpdate 75 (.map (some lb)) (.int .i64 (rs.getD k 0 : Nat)) (.agg #[])).run Tryz.prog wr = .ok () w' ∧ KeptTo O w x cap names S nv gb lb L Og rs (k + 1) w' := by
    intro k wr h hk
    refine ⟨?_, h.next hLa hk (hrs _ (by rw [List.getD_eq_getElem?_getD, List.getElem?_eq_getElem hk]; exact List.getElem_mem hk))⟩
    obtain ⟨⟨L', _, hA'⟩, _, _⟩ := h
    exact hA'.c.2.2.2
  have hfin : ∀ wr, KeptTo O w x cap names S nv gb lb L Og rs rs.length wr → KeepPost O w x cap names S nv gb lb L Og rs (.returned (.int .i64 0)) wr := by
    rintro wr ⟨⟨L', h1, h2⟩, h3, _⟩
    exact .inr ⟨hroom, rfl, L', by intro p; rw [h1, List.take_length], h2, h3⟩
  have hlmap : ∃ es ck, w.heap[lb]? = some (.map es ck) := by obtain ⟨es, ck, h, _⟩ := hA.live; exact ⟨es, ck, h⟩
  have HS : Hid _ := hstep
  have HF : Hid _ := hfin
  have HT : Hid _ := hst
  obtain ⟨N, hN⟩ : ∃ N, N = S.nums.length := ⟨_, rfl⟩
  rw [← hN] at hsize hgt
  clear hm hA hroom hstep hfin hst hLa hrs c1 c3 hb1 hN
  go_enter Tryz.func43, Tryz.ntmps43
  go_upto_region 1 with fail
  go_region_held (fun w' => w'.cell? ⟨x, 0, none⟩ = some (.int .i64 (cap : Nat)) ∧ w'.cell? ⟨x, 2, none⟩ = some (.pointer (some ⟨gb, 0, none⟩))) (go_keep) (first | (go_at_call 48; refine hsize.mono ?_; clear hsize; rintro e w1 ⟨rfl, rfl⟩))
  all_goals
    rcases hr with ⟨rfl, h0⟩ | ⟨b, off, fcap, rfl, hlt, hc⟩
    · have : rs = [] := by simpa using h0
      subst this
      go_wp2_with fail
      go_loopw [29] (fun i wr => i = .int .i64 0 ∧ KeptTo O w x cap names S nv gb lb L Og [] 0 wr) (fun _ _ => 0)
      case atStart => exact ⟨rfl, HT.out⟩
      case round =>
        obtain ⟨rfl, h⟩ := hrel
        have HH : Hid (KeepPost O w x cap names S nv gb lb L Og [] (.returned (.int .i64 0)) wr) := HF.out wr h
        clear h
        go_wp2
        go_ret
        exact HH.out
    · simp only [List.length_map] at hc ⊢
      have hcx : ∀ k wr, KeptTo O w x cap names S nv gb lb L Og rs k wr → k < rs.length → wr.cell? ⟨b, off + k, none⟩ = some (.int .i64 (rs.getD k 0 : Nat)) := by
        intro k wr h hk
        have h1 : w.cell? ⟨b, off + k, none⟩ = some (.int .i64 (rs.getD k 0 : Nat)) := by
          rw [hc k hk]
          simp [natv, hk]
        have hne : b ≠ lb := by
          intro e
          subst e
          obtain ⟨es, ck, hl⟩ := hlmap
          unfold World.cell? at h1
          simp [hl] at h1
        rw [← h1]
        unfold World.cell?
        simp only [h.blk b hlt hne]
      have HX : Hid _ := hcx
      clear hc hcx hlmap
      go_wp2_with fail
      go_loopw [29] (fun i wr => ∃ k : Nat, k ≤ rs.length ∧ i = .int .i64 k ∧ KeptTo O w x cap names S nv gb lb L Og rs k wr) (fun i _ => rs.length - (intOf i).toNat)
      case atStart => exact ⟨0, Nat.zero_le _, rfl, HT.out⟩
      case round =>
        obtain ⟨k, hk, rfl, h⟩ := hrel
        by_cases hkl : k < rs.length
        · have hcell := HX.out k wr h hkl
          obtain ⟨c3', w', hrun, hn⟩ := HS.out k wr h hkl
          have HN : Hid _ := hn
          clear h hn
          obtain ⟨z, hz⟩ : ∃ z, z = rs.getD k 0 := ⟨_, rfl⟩
          rw [← hz] at hcell hrun
          clear hz
          go_wp2_with fail
          go_roundw
          case rel => exact ⟨k + 1, by omega, congrArg (Value.int .i64) (by omega), HN.out⟩
          case measure => simp [intOf]; omega
        · have hk' : k = rs.length := by omega
          subst hk'
          have HH : Hid (KeepPost O w x cap names S nv gb lb L Og rs (.returned (.int .i64 0)) wr) := HF.out wr h
          clear h
          go_wp2
          go_ret
          exact HH.out

theorem copseKeep_is {O Og : Nat → Prop} {w : World} {x cap : Nat} {names : List ByteArray} {S : GrS} {nv : Value} {gb lb : Nat} {L : List (Value × Value)} {X : Nat → Prop} (hm : CopMid names S L X) (hA : CopAt O w x cap names S nv gb lb L Og) {fv : Value} {rs : List Nat} (hcap : cap ≤ 300)
    (hr : Reads w.heap.size w fv (rs.map natv)) (hrs : ∀ r ∈ rs, r < refMax) (hlen : rs.length ≤ 1000000) :
    Calls Tryz.prog 43 #[.pointer (some ⟨x, 0, none⟩), fv] w (KeepPost O w x cap names S nv gb lb L Og rs) := by
  by_cases h : cap < S.nums.length
  · exact copseKeep_full hm hA hcap h
  · exact copseKeep_room hm hA (by omega) hcap hr hrs hlen

def TellPost (O : Nat → Prop) (w : World) (x cap : Nat) (names : List ByteArray) (S : GrS) (nv : Value) (gb lb : Nat) (L : List (Value × Value)) (Og : Nat → Prop) (r : Nat) (e : Ending) (w' : World) : Prop :=
  (cap < S.nums.length ∧ e = .returned (.tuple #[.int .i64 0, .int .i64 5]) ∧ ∃ O' Og' S' A, ∃ xs : List (RefT S.g), S.Swept S' A ∧ MarkedAll S.g A xs ∧ LiveXs L xs ∧ CopAt O' w' x cap names S' nv gb lb L Og' ∧ Only O w w' ∧ Grows w O O') ∨
  (S.nums.length ≤ cap ∧ e = .returned (.tuple #[.int .i64 (r : Nat), .int .i64 0]) ∧ ∃ L', (∀ p, p ∈ L' ↔ p ∈ L ∨ p = (natv r, .agg #[])) ∧ CopAt O w' x cap names S nv gb lb L' Og ∧ Only O w w')

set_option maxHeartbeats 600000 in
set_option maxRecDepth 10000 in
theorem copseTell_is {O Og : Nat → Prop} {w : World} {x cap : Nat} {names : List ByteArray} {S : GrS} {nv : Value} {gb lb : Nat} {L : List (Value × Value)} {X : Nat → Prop} (hm : CopMid names S L X) (hA : CopAt O w x cap names S nv gb lb L Og) (hcap : cap ≤ 300) (r : Nat) (hr : r < refMax) :
    Calls Tryz.prog 55 #[.pointer (some ⟨x, 0, none⟩), .int .i64 r] w (TellPost O w x cap names S nv gb lb L Og r) := by
  obtain ⟨W0, hW0⟩ : ∃ W0, W0 = w.alloc (.cells #[.int .i64 r] 80) := ⟨_, rfl⟩
  have hb0 : Below w.heap.size w W0 := by rw [hW0]; exact (Below.refl _ w).alloc (Nat.le_refl _) _
  have hs0 : W0.heap.size = w.heap.size + 1 := by rw [hW0]; simp
  have hc0 : W0.cell? ⟨w.heap.size, 0, none⟩ = some (.int .i64 r) := by
    have : W0.heap[w.heap.size]? = some (.cells #[.int .i64 r] 80 (0, 0)) := by rw [hW0]; exact heap_alloc_new w _
    rw [cell_of_heap this]; rfl
  have hkeep := copseKeep_is (rs := [r]) (fv := .slice (some ⟨w.heap.size, 0, none⟩) 1 1) hm (hA.below hb0) hcap (.inr ⟨w.heap.size, 0, 1, rfl, by omega, fun i hi => by
    have : i = 0 := by simpa using hi
    subst this
    exact hc0⟩) (by intro y hy; simp at hy; subst hy; exact hr) (by simp)
  have hfin : ∀ w', (KeepPost O W0 x cap names S nv gb lb L Og [r] (.returned (.int .i64 5)) w' → TellPost O w x cap names S nv gb lb L Og r (.returned (.tuple #[.int .i64 0, .int .i64 5])) w') ∧ (KeepPost O W0 x cap names S nv gb lb L Og [r] (.returned (.int .i64 0)) w' → TellPost O w x cap names S nv gb lb L Og r (.returned (.tuple #[.int .i64 (r : Nat), .int .i64 0])) w') := by
    intro w'
    constructor
    · rintro (⟨h1, h2, O', Og', S', A, xs, h3, h4, h5, h6, h7, h8⟩ | ⟨h1, h2, _⟩)
      · exact .inl ⟨h1, rfl, O', Og', S', A, xs, h3, h4, h5, h6, below_then_only hb0 h7, fun b hb => (h8 b hb).imp id (fun e => Nat.le_trans hb0.size e)⟩
      · simp at h2
    · rintro (⟨h1, h2, _⟩ | ⟨h1, h2, L', h3, h4, h5⟩)
      · simp at h2
      · exact .inr ⟨h1, rfl, L', fun p => by rw [h3]; simp, h4, below_then_only hb0 h5⟩
  have hval : ∀ e w', KeepPost O W0 x cap names S nv gb lb L Og [r] e w' → e = .returned (.int .i64 5) ∨ e = .returned (.int .i64 0) := fun e w' h => h.val.imp (·.1) (·.1)
  have HF : Hid _ := hfin
  have HV : Hid _ := hval
  clear hm hA hb0 hs0 hc0 hfin hval
  go_enter Tryz.func55, Tryz.ntmps55
  go_upto_region 2 with (go_at_call 43; rw [← hW0]; refine hkeep.mono ?_; clear hkeep; rintro e w' hp; rcases HV.out _ _ hp with rfl | rfl)
  · have HP : Hid (TellPost O w x cap names S nv gb lb L Og r (.returned (.tuple #[.int .i64 0, .int .i64 5])) w') := (HF.out w').1 hp
    clear hp HF HV hW0
    go_wp2
    go_ret2
    exact HP.out
  · have HP : Hid (TellPost O w x cap names S nv gb lb L Og r (.returned (.tuple #[.int .i64 (r : Nat), .int .i64 0])) w') := (HF.out w').2 hp
    clear hp HF HV hW0
    go_wp2
    go_ret2
    exact HP.out

end Go.Proofs.YtebfmcafmojlaaaGreatDoor

/-
  copse: what a tell leaves, as the callers see it.
-/
namespace Go.Proofs.YtebfmcafmojlaaaGreatDoor
open Go.RowKit Go.Maps
set_option linter.unusedSimpArgs false
set_option linter.unusedVariables false

theorem CopMid.small {names : List ByteArray} {S : GrS} {L : List (Value × Value)} {X : Nat → Prop} (h : CopMid names S L X) {r : Nat} (hr : S.g.ok r) : r < 160001 := by
  have := h.nlen
  rcases hr with e' | ⟨n, hn⟩
  · omega
  · have := GrS.node_lt hn
    omega

theorem copC_same {cap : Nat} {names : List ByteArray} {S S' : GrS} {L : List (Value × Value)} (ho : S'.order = S.order) (ht : ∀ r, liveH L r → S'.g.tab r = S.g.tab r) : copC cap names S' L = copC cap names S L := by
  have : (copC cap names S' L).T = (copC cap names S L).T := copT_ext (fun r f => by
    rw [copC_T, copC_T]
    constructor
    · rintro ⟨h1, h2⟩; exact ⟨h1, by rw [← ht r h1]; exact h2⟩
    · rintro ⟨h1, h2⟩; exact ⟨h1, by rw [ht r h1]; exact h2⟩)
  unfold copC at this ⊢
  simp only [CopS.mk.injEq, true_and]
  exact ⟨ho, this⟩

theorem told_post {O O1 Og1 : Nat → Prop} {w w1 w' : World} {x cap : Nat} {names : List ByteArray} {S0 S : GrS} {nv : Value} {gb lb : Nat} {L : List (Value × Value)} {r d : Nat} {t : Tab} {e : Ending}
    (hok : CopOk cap names S0 L) (hw : S0.Went S r t d) (ho : Only O w w1) (hg : Grows w O O1) (h : TellPost O1 w1 x cap names S nv gb lb L Og1 r e w') (Lt : List Tab) (hL : Lists (copC cap names S0 L) Lt) :
    PostTell CopI O w x (copC cap names S0 L) (fullC (copC cap names S0 L) Lt t) (toldC (copC cap names S0 L) t) t e w' := by
  have hmid := hok.went hw
  have hlive : ∀ q, liveH L q → S0.g.tab q = S.g.tab q := fun q hq => (hw.made.ext.tab (hok.mid.liveOk hq)).symm
  have hcnt := hmid.count (cap := cap) (S0 := S0) (fs := withT Lt [t]) hw.order.symm hlive hL (fun f => by
    rw [withT_one]
    constructor
    · rintro (e | e)
      · exact .inl e
      · exact .inr ⟨r, rfl, by rw [e]; exact hw.tab⟩
    · rintro (e | ⟨q, e1, e2⟩)
      · exact .inl e
      · subst e1; exact .inr (e2.symm.trans hw.tab))
  have hfull : fullC (copC cap names S0 L) Lt t ↔ cap < S.nums.length := by
    unfold fullC
    show ((cap : Nat) : Int) < ((allT S0.order (withT Lt [t])).length : Int) ↔ _
    rw [hcnt]
    omega
  rcases h with ⟨h1, rfl, O', Og', S', A, xs, h3, h4, h5, h6, h7, h8⟩ | ⟨h1, rfl, L', h3, h4, h5⟩
  · obtain ⟨m', ht', hn'⟩ := swept_copse hmid h3 h4 h5
    have hord : S'.order = S0.order := h3.order.trans hw.order
    have hC : copC cap names S' L = copC cap names S0 L := copC_same hord (fun q hq => by rw [ht', hlive q hq])
    have n1 := m'.count (cap := cap) (S0 := S0) (fs := Lt) hord.symm (fun q hq => by rw [hlive q hq, ht']) hL (fun f => by simp)
    have n2 := hok.mid.count (cap := cap) (S0 := S0) (fs := Lt) rfl (fun q hq => rfl) hL (fun f => by simp)
    refine .inl ⟨hfull.2 h1, rfl, ho.trans h7 hg, O', ⟨cap, names, S', nv, gb, lb, L, Og', hC.symm, ⟨m', hok.c1, hok.c300, ?_⟩, h6⟩, hg.trans h8 ho.size⟩
    have := hok.size
    omega
  · have hr' : liveH L' r := (h3 _).2 (.inr rfl)
    have hl' : ∀ q, liveH L' q ↔ liveH L q ∨ q = r := fun q => by
      unfold liveH
      rw [h3]
      constructor
      · rintro (e | e)
        · exact .inl e
        · exact .inr (natv_inj (congrArg Prod.fst e))
      · rintro (e | e)
        · exact .inl e
        · subst e; exact .inr rfl
    refine .inr ⟨by rw [hfull]; omega, r, ?_, ?_, rfl, ho.trans h5 hg, O1, ⟨cap, names, S, nv, gb, lb, L', Og1, ?_, ⟨⟨hmid.k, hmid.full, ?_, (hl' 0).2 (.inl hmid.c0), (hl' 1).2 (.inl hmid.c1), hmid.order, hmid.olen, hmid.n6, fun _ h => h.elim, ?_, hmid.nlen, hmid.cnt⟩, hok.c1, hok.c300, h1⟩, h4⟩, hg⟩
    · have := hmid.small hw.made.ok
      unfold handleMax
      omega
    · intro f hf
      obtain ⟨q1, q2⟩ := copC_T.1 hf
      rw [← q2, hlive r q1]
      exact hw.tab
    · have hT : (toldC (copC cap names S0 L) t r).T = (copC cap names S L').T := copT_ext (fun q f => by
        rw [copC_T, hl']
        show updT (copC cap names S0 L).T r t q = some f ↔ _
        unfold updT
        by_cases c : q = r
        · subst c
          rw [if_pos rfl]
          constructor
          · intro h; cases h; exact ⟨.inr rfl, hw.tab⟩
          · rintro ⟨_, h⟩; rw [← h, hw.tab]
        · rw [if_neg c, copC_T]
          constructor
          · rintro ⟨q1, q2⟩; exact ⟨.inl q1, by rw [← hlive q q1]; exact q2⟩
          · rintro ⟨q1 | q1, q2⟩
            · exact ⟨q1, by rw [hlive q q1]; exact q2⟩
            · exact absurd q1 c)
      have ho' : S.order = S0.order := hw.order
      unfold toldC copC at hT ⊢
      simp only [CopS.mk.injEq, true_and] at hT ⊢
      exact ⟨ho'.symm, hT⟩
    · intro p hp
      rcases (h3 p).1 hp with e | e
      · exact hmid.ents p e
      · exact ⟨r, e, hw.made.ok⟩
    · intro i hi
      refine (hmid.reach i hi).mono ?_
      rintro q (e | e)
      · exact .inl ((hl' q).2 (.inl e))
      · exact .inl ((hl' q).2 (.inr e))

theorem CopMid.agg {names : List ByteArray} {S : GrS} {L : List (Value × Value)} {X : Nat → Prop} (h : CopMid names S L X) : ∀ p ∈ L, p.2 = .agg #[] := fun p hp => by obtain ⟨r, e, _⟩ := h.ents p hp; rw [e]

/-- isLive, at a live handle. -/
theorem isLive_yes {O Og : Nat → Prop} {w : World} {x cap : Nat} {names : List ByteArray} {S : GrS} {nv : Value} {gb lb : Nat} {L : List (Value × Value)} {X : Nat → Prop} (hm : CopMid names S L X) (hA : CopAt O w x cap names S nv gb lb L Og) {h : Nat} (hl : liveH L h) :
    Calls Tryz.prog 57 #[.pointer (some ⟨x, 0, none⟩), .int .i64 h] w fun e w' => e = .returned (.bool true) ∧ Below w.heap.size w w' := by
  have hs := hm.small (hm.liveOk hl)
  refine (copseIsLive_is hA.c.2.2.2 hA.live hm.agg (h : Int) (by unfold i64ok; omega)).mono ?_
  rintro e w' ⟨b, h1, rfl, h2⟩
  exact ⟨by rw [h1.2 hl], h2⟩

/-- isLive, at a number below 0. -/
theorem isLive_no {O Og : Nat → Prop} {w : World} {x cap : Nat} {names : List ByteArray} {S : GrS} {nv : Value} {gb lb : Nat} {L : List (Value × Value)} {X : Nat → Prop} (hm : CopMid names S L X) (hA : CopAt O w x cap names S nv gb lb L Og) {z : Int} (hz : z < 0) (hz' : i64ok z) :
    Calls Tryz.prog 57 #[.pointer (some ⟨x, 0, none⟩), .int .i64 z] w fun e w' => e = .returned (.bool false) ∧ Below w.heap.size w w' := by
  refine (copseIsLive_is hA.c.2.2.2 hA.live hm.agg z hz').mono ?_
  rintro e w' ⟨b, h1, rfl, h2⟩
  refine ⟨?_, h2⟩
  cases b
  · rfl
  · obtain ⟨r, e, _⟩ := hm.ents _ (h1.1 rfl)
    have := congrArg Prod.fst e
    simp [natv] at this
    omega

end Go.Proofs.YtebfmcafmojlaaaGreatDoor

/-
  graph: Ite, level by level.
-/
namespace Go.Proofs.YtebfmcafmojlaaaGreatDoor
open Go.RowKit Go.Maps
set_option linter.unusedSimpArgs false
set_option linter.unusedVariables false

set_option maxHeartbeats 1000000 in
set_option maxRecDepth 10000 in
theorem graphIte_new (d : Nat) (IH : IteIs d) {O : Nat → Prop} {w : World} {gb : Nat} {S : GrS} {f g h : Nat} {ov nv fv : Value} {mb rb : Nat} {M R : List (Value × Value)} (hA : GrAt O w gb S ov nv fv mb rb M R) (k : S.g.Ok) (hf : S.g.ok f) (hg : S.g.ok g) (hh : S.g.ok h) (z0 : f ≠ 0) (z1 : g ≠ h) (z2 : f ≠ 1) (hno : ∀ u, (key3 f g h, u) ∉ R)
    (kf : S.g.order.length ≤ S.g.lev f + (d + 1)) (kg : S.g.order.length ≤ S.g.lev g + (d + 1)) (kh : S.g.order.length ≤ S.g.lev h + (d + 1)) (hnl : S.nl.length + 2 ^ (d + 1) ≤ 100000) :
    Calls Tryz.prog 58 #[.pointer (some ⟨gb, 0, none⟩), .int .i64 f, .int .i64 g, .int .i64 h] w (WentPost O w gb S (iteT (S.g.tab f) (S.g.tab g) (S.g.tab h)) (2 ^ (d + 1) - 1)) := by
  have hkey := trip_key_ok f g h (by have := hA.small hf; unfold refMax; omega) (by have := hA.small hg; unfold refMax; omega) (by have := hA.small hh; unfold refMax; omega)
  have hb0 := iteW_below w gb f g h
  obtain ⟨q4, q5, q6, q7⟩ := iteW_cells w gb f g h
  have hK := iteK_at w gb f g h
  obtain ⟨W1, hW1⟩ : ∃ W1, W1 = iteK w gb f g h := ⟨_, rfl⟩
  rw [← hW1] at hK
  unfold iteK at hW1
  obtain ⟨W0, hW0⟩ : ∃ W0, W0 = iteW w gb f g h := ⟨_, rfl⟩
  rw [← hW0] at hb0 q4 q5 q6 q7 hW1
  have c4 : W0.cell? ⟨w.heap.size, 0, none⟩ = some (.pointer (some ⟨gb, 0, none⟩)) := by rw [cell_of_heap q4]; rfl
  have c5 : W0.cell? ⟨w.heap.size + 1, 0, none⟩ = some (.int .i64 (f : Int)) := by rw [cell_of_heap q5]; rfl
  have c6 : W0.cell? ⟨w.heap.size + 2, 0, none⟩ = some (.int .i64 (g : Int)) := by rw [cell_of_heap q6]; rfl
  have c7 : W0.cell? ⟨w.heap.size + 3, 0, none⟩ = some (.int .i64 (h : Int)) := by rw [cell_of_heap q7]; rfl
  have s0 : W0.heap.size = w.heap.size + 4 := by rw [hW0]; exact iteW_size w gb f g h
  obtain ⟨e0, e1, e2⟩ := ite_conds z0 z1 z2
  unfold iteW at hW0
  obtain ⟨hbk, x4, x5, x6, x7, y0, y1, y2, s1⟩ := hK
  have hA1 := hA.below hbk
  obtain ⟨d0, d1, d2, d3, d4⟩ := hA1.c
  have hrun : (Instr.lookup 154 (.map (some rb)) (key3 f g h) true).run Tryz.prog W1.drew = .ok (.tuple #[.int .i64 0, .bool false]) W1.drew := by
    rcases (hA1.res.same (w' := W1.drew) rfl).look trip_keyed Tryz.underlying154 (zero_ref _) true hkey with ⟨u, hu, _⟩ | ⟨_, hrun⟩
    · exact absurd hu (hno _)
    · rw [hrun]; rfl
  unfold key3 at hrun
  obtain ⟨nf, hlf⟩ : ∃ n, ∀ wq, Below W1.heap.size W1 wq → Calls Tryz.prog 98 #[.pointer (some ⟨gb, 0, none⟩), .int .i64 f] wq fun e w' => e = .returned (.int .i64 (S.g.lev f : Nat)) ∧ w' = wq.drewN n := graphLevel_n hA1 k f hf
  obtain ⟨ng, hlg⟩ : ∃ n, ∀ wq, Below W1.heap.size W1 wq → Calls Tryz.prog 98 #[.pointer (some ⟨gb, 0, none⟩), .int .i64 g] wq fun e w' => e = .returned (.int .i64 (S.g.lev g : Nat)) ∧ w' = wq.drewN n := graphLevel_n hA1 k g hg
  obtain ⟨nh, hlh⟩ : ∃ n, ∀ wq, Below W1.heap.size W1 wq → Calls Tryz.prog 98 #[.pointer (some ⟨gb, 0, none⟩), .int .i64 h] wq fun e w' => e = .returned (.int .i64 (S.g.lev h : Nat)) ∧ w' = wq.drewN n := graphLevel_n hA1 k h hh
  have l4 : w.heap.size < W1.heap.size := by omega
  have l5 : w.heap.size + 1 < W1.heap.size := by omega
  have l6 : w.heap.size + 2 < W1.heap.size := by omega
  have l7 : w.heap.size + 3 < W1.heap.size := by omega
  obtain ⟨l, hl⟩ : ∃ l, l = min (S.g.lev f) (min (S.g.lev g) (S.g.lev h)) := ⟨_, rfl⟩
  have hlt : l < S.g.order.length := by
    obtain ⟨nd, hnd⟩ := Gr.ok_node hf (by omega)
    have := k.idx_lt hnd
    rw [← Gr.lev_node hnd] at this
    omega
  obtain ⟨v, hv⟩ : ∃ v, v = S.g.order[l] := ⟨_, rfl⟩
  have hvm : v ∈ S.g.order := by rw [hv]; exact List.getElem_mem hlt
  have hvi : S.g.idx v = l := by rw [hv]; exact List.Nodup.idxOf_getElem k.nodup l hlt
  have hst : ∀ wc lb, W1.heap.size ≤ lb → wc.heap[lb]? = some (.cells #[.int .i64 (l : Int)] 3 (0, 0)) → Below W1.heap.size W1 wc → IteSt d O wc gb S f g h l v w.heap.size (w.heap.size + 1) lb (w.heap.size + 2) (w.heap.size + 3) ov := by
    intro wc lb h1 h2 h3
    have hO : ∀ b, w.heap.size ≤ b → ¬ O b := fun b hb ho => by have := hA.lt b ho; omega
    have hl' := (Array.getElem?_eq_some_iff.1 h2).1
    have hs3 := h3.size
    refine ⟨⟨_, _, _, _, _, _, _, hA1.below h3⟩, k, hf, hg, hh, hvm, hvi, by omega, by omega, by omega, by omega, ⟨hO _ (by omega), hO _ (by omega), hO _ (by omega), hO _ (by omega), hO _ (by omega), by omega, by omega, by omega, by omega, by omega, ?_, ?_, ?_, ?_, ?_⟩, hA.eov⟩
    · exact (h3.cell (p := ⟨w.heap.size, 0, none⟩) (by show w.heap.size < _; omega)).trans x4
    · exact (h3.cell (p := ⟨w.heap.size + 1, 0, none⟩) (by show w.heap.size + 1 < _; omega)).trans x5
    · rw [cell_of_heap h2]; rfl
    · exact (h3.cell (p := ⟨w.heap.size + 2, 0, none⟩) (by show w.heap.size + 2 < _; omega)).trans x6
    · exact (h3.cell (p := ⟨w.heap.size + 3, 0, none⟩) (by show w.heap.size + 3 < _; omega)).trans x7
  have HST : Hid _ := hst
  have HB : Hid (Below w.heap.size w W1) := hbk
  have Hl : Hid (l = min (S.g.lev f) (min (S.g.lev g) (S.g.lev h))) := hl
  have Hnl : Hid (S.nl.length + 2 ^ (d + 1) ≤ 100000) := hnl
  have Hl6 : Hid (l < S.g.order.length) := hlt
  have Hk2 : Hid (W1.cell? ⟨w.heap.size + 4, 0, none⟩ = some (.int .i64 (f : Int)) ∧ W1.cell? ⟨w.heap.size + 4, 1, none⟩ = some (.int .i64 (g : Int)) ∧ W1.cell? ⟨w.heap.size + 4, 2, none⟩ = some (.int .i64 (h : Int))) := ⟨y0, y1, y2⟩
  have HA : Hid (GrAt O w gb S ov nv fv mb rb M R) := hA
  have HIH : Hid (IteIs d) := IH
  clear hA k hf hg hh hno hkey hb0 q4 q5 q6 q7 hA1 d0 d1 d2 d3 z0 z1 z2 hbk hst hl hnl hlt kf kg kh hvm hvi hv IH
  go_enter Tryz.func58, Tryz.ntmps58
  go_upto_region 1 with fail
  rw [← hW0]
  clear hW0
  go_upto_region 6 with fail
  rw [← hW1]
  clear hW1
  go_region
  go_upto_region 9 with fail
  clear c4 c5 c6 c7 e0 e1 e2 hrun d4
  have hmin := min3_eq (S.g.lev f) (S.g.lev g) (S.g.lev h)
  rw [← Hl.out] at hmin
  go_cut [12] from 15 (fun b12 wx => ∃ lb, b12 = .pointer (some ⟨lb, 0, none⟩) ∧ W1.heap.size ≤ lb ∧ wx.heap[lb]? = some (.cells #[.int .i64 (l : Int)] 3 (0, 0)) ∧ Below W1.heap.size W1 wx)
  case first =>
    have had : ∀ (w : World) (n : Nat) (o : Obj), (w.drewN n).alloc o = (w.alloc o).drewN n := fun _ _ _ => rfl
    have hsd : ∀ (w : World) (n : Nat) (a : Addr) (v : Value), (w.drewN n).setCell a v = (w.setCell a v).drewN n := fun _ _ _ _ => rfl
    go_region_held (fun w' => w'.cell? ⟨w.heap.size, 0, none⟩ = some (.pointer (some ⟨gb, 0, none⟩)) ∧ w'.cell? ⟨w.heap.size + 1, 0, none⟩ = some (.int .i64 (f : Int)) ∧ w'.cell? ⟨w.heap.size + 2, 0, none⟩ = some (.int .i64 (g : Int)) ∧ w'.cell? ⟨w.heap.size + 3, 0, none⟩ = some (.int .i64 (h : Int))) (go_keep) (first
        | (go_at_call 98; refine (hlf _ ?_).mono ?_; (first | exact ⟨rfl, rfl, rfl, Nat.le_refl _, fun _ _ => rfl⟩ | exact ((Below.refl _ W1).alloc (Nat.le_refl _) _).trans ⟨rfl, rfl, rfl, Nat.le_refl _, fun _ _ => rfl⟩); rintro e w2 ⟨rfl, rfl⟩; clear hlf)
        | (go_at_call 98; refine (hlg _ ?_).mono ?_; (first | exact ⟨rfl, rfl, rfl, Nat.le_refl _, fun _ _ => rfl⟩ | exact ((Below.refl _ W1).alloc (Nat.le_refl _) _).trans ⟨rfl, rfl, rfl, Nat.le_refl _, fun _ _ => rfl⟩); rintro e w2 ⟨rfl, rfl⟩; clear hlg)
        | (go_at_call 98; refine (hlh _ ?_).mono ?_; (first | exact ⟨rfl, rfl, rfl, Nat.le_refl _, fun _ _ => rfl⟩ | exact ((Below.refl _ W1).alloc (Nat.le_refl _) _).trans ⟨rfl, rfl, rfl, Nat.le_refl _, fun _ _ => rfl⟩); rintro e w2 ⟨rfl, rfl⟩; clear hlh))
    all_goals
      go_wp2_with fail
      go_meet
      exact ⟨W1.heap.size, rfl, Nat.le_refl _, heap_alloc_new W1 _, ((Below.refl _ W1).alloc (Nat.le_refl _) _).trans ⟨rfl, rfl, rfl, Nat.le_refl _, fun _ _ => rfl⟩⟩
  case rest =>
    obtain ⟨lb, rfl, h1, h2, h3⟩ := hcut
    have st := HST.out wc lb h1 h2 h3
    obtain ⟨ob, cap, eov, hlN, _, _⟩ := st.reads
    subst eov
    have std := st.drew
    obtain ⟨a4, a0, alb, aob⟩ := std.held
    have hc1 := std.body HIH.out (ite_len0 Hnl.out) true
    have hmf : ∀ (fn : Fn) (first cap : Array Value) (w : World), (Instr.makeFunc fn first cap).run Tryz.prog w = .ok (.func fn first cap) w := fun _ _ _ _ => rfl
    have hv6 : v < 100000 := by have := st.k.lt6 v st.hv; omega
    have HSZ : Hid (w.heap.size + 5 ≤ W1.heap.size) := s1
    have hlN' : (l : Int) < (S.order.length : Int) := by omega
    clear hlf hlg hlh hmin h1 h2 l4 l5 l6 l7 x4 x5 x6 x7 y0 y1 y2 s0 s1 hlN HST
    go_upto_region 11 with fail
    go_region_held (fun w' => w'.cell? ⟨w.heap.size, 0, none⟩ = some (.pointer (some ⟨gb, 0, none⟩)) ∧ w'.cell? ⟨gb, 0, none⟩ = some (.slice (some ⟨ob, 0, none⟩) S.order.length cap) ∧ w'.cell? ⟨lb, 0, none⟩ = some (.int .i64 (l : Int)) ∧ w'.cell? ⟨ob, l, none⟩ = some (.int .i64 (v : Int))) (go_keep) (first
      | (go_at_call 99; refine hc1.mono ?_; clear hc1; rintro e w2 ⟨r1, S1, rfl, ⟨ho1, O1, hG1, hgr1⟩, hw1⟩; have st1 := std.next ho1 hgr1 hG1 hw1; have hc2 := st1.body HIH.out (ite_len1 Hnl.out hw1) false; obtain ⟨k4, k0, klb, kob⟩ := st1.held)
      | (go_at_call 99; refine hc2.mono ?_; clear hc2; rintro e w3 ⟨r2, S2, rfl, ⟨ho2, O2, hG2, hgr2⟩, hw2⟩; have st2 := st1.next ho2 hgr2 hG2 hw2; have hjn := graphJoin_is hG2 v r1 r2 hv6 (hG2.bound (hw2.made.ext.ok hw1.made.ok)) (hG2.bound hw2.made.ok) (ite_len2 Hnl.out hw1 hw2); obtain ⟨m4, m0, mlb, mob⟩ := st2.held)
      | (go_at_call 97; refine hjn.mono ?_; clear hjn; rintro e w4 ⟨r, S3, rfl, ⟨ho3, O3, hG3, hgr3⟩, hj⟩; obtain ⟨hwf, hof, hgf, st3⟩ := std.fin ho1 hgr1 ho2 hgr2 ho3 hgr3 hG3 hw1 hw2 hj; obtain ⟨j4, j0, jlb, job⟩ := st3.held))
    obtain ⟨hk0, hk1, hk2⟩ := Hk2.out
    have hOn : ¬ O (w.heap.size + 4) := fun ho => by have := HA.out.lt _ ho; omega
    have hsz := HSZ.out
    have n0 : w4.cell? ⟨w.heap.size + 4, 0, none⟩ = some (.int .i64 (f : Int)) := (hof.cell (p := ⟨w.heap.size + 4, 0, none⟩) hOn (by have := h3.size; show w.heap.size + 4 < wc.heap.size; omega)).trans ((h3.cell (p := ⟨w.heap.size + 4, 0, none⟩) (by show w.heap.size + 4 < _; omega)).trans hk0)
    have n1 : w4.cell? ⟨w.heap.size + 4, 1, none⟩ = some (.int .i64 (g : Int)) := (hof.cell (p := ⟨w.heap.size + 4, 1, none⟩) hOn (by have := h3.size; show w.heap.size + 4 < wc.heap.size; omega)).trans ((h3.cell (p := ⟨w.heap.size + 4, 1, none⟩) (by show w.heap.size + 4 < _; omega)).trans hk1)
    have n2 : w4.cell? ⟨w.heap.size + 4, 2, none⟩ = some (.int .i64 (h : Int)) := (hof.cell (p := ⟨w.heap.size + 4, 2, none⟩) hOn (by have := h3.size; show w.heap.size + 4 < wc.heap.size; omega)).trans ((h3.cell (p := ⟨w.heap.size + 4, 2, none⟩) (by show w.heap.size + 4 < _; omega)).trans hk2)
    have hrem := graphRemember_is hG3 f g h r st3.of st3.og st3.oh hwf.made.ok (by rw [hwf.tab, hwf.made.ext.tab st.of, hwf.made.ext.tab st.og, hwf.made.ext.tab st.oh])
    have hfin : ∀ w5, GrStep O3 w4 gb w5 S3 → WentPost O w gb S (iteT (S.g.tab f) (S.g.tab g) (S.g.tab h)) (2 ^ (d + 1) - 1) (.returned (.int .i64 (r : Int))) w5 := fun w5 hs5 => ⟨r, S3, rfl, GrStep.pre (HB.out.trans (h3.mono HB.out.size)) (GrStep.pre (Below.refl _ _).drew (GrStep.trans hof hgf hs5)), hwf⟩
    have HF : Hid _ := hfin
    clear hfin hof hgf st3 hwf hj hG3 ho3 hgr3 hw2 hw1 hG2 hG1 ho1 ho2 hgr1 hgr2 st1 st2 std st h3 HSZ hsz hOn hk0 hk1 hk2 HA HB HIH Hnl Hl Hl6 Hk2 a4 a0 alb aob k4 k0 klb kob m4 m0 mlb mob j0 jlb job hmf hv6 hlN'
    go_wp2_with (go_at_call 101; refine hrem.mono ?_; rintro e w5 ⟨rfl, hs5⟩)
    go_ret
    exact HF.out w5 hs5

end Go.Proofs.YtebfmcafmojlaaaGreatDoor

/-
  graph: Ite whole.
-/
namespace Go.Proofs.YtebfmcafmojlaaaGreatDoor
open Go.RowKit Go.Maps
set_option linter.unusedSimpArgs false
set_option linter.unusedVariables false

theorem graphIte_all : ∀ d, IteIs d := by
  intro d
  induction d with
  | zero =>
    intro O w gb S f g h hG k hf hg hh kf kg kh hnl
    have hf2 : f / 2 = 0 := by
      rcases hf with e | ⟨n, e⟩
      · exact e
      · have := k.idx_lt e
        rw [Gr.lev_node e] at kf
        omega
    exact graphIte_short hG k hf hg hh (by omega)
  | succ d IH =>
    intro O w gb S f g h hG k hf hg hh kf kg kh hnl
    by_cases z0 : f = 0
    · exact graphIte_short hG k hf hg hh (.inl z0)
    by_cases z1 : g = h
    · exact graphIte_short hG k hf hg hh (.inr (.inl z1))
    by_cases z2 : f = 1
    · exact graphIte_short hG k hf hg hh (.inr (.inr z2))
    obtain ⟨ov, nv, fv, mb, rb, M, R, hA⟩ := hG
    by_cases hin : ∃ u, (key3 f g h, u) ∈ R
    · obtain ⟨u, hu⟩ := hin
      obtain ⟨f', g', h', r', ep, _⟩ := hA.rok _ hu
      simp only [Prod.mk.injEq] at ep
      obtain ⟨_, rfl⟩ := ep
      exact graphIte_kept hA k hf hg hh z0 z1 z2 hu
    · exact graphIte_new d IH hA k hf hg hh z0 z1 z2 (fun u hu => hin ⟨u, hu⟩) kf kg kh hnl

/-- Ite. -/
theorem graphIte_is {O : Nat → Prop} {w : World} {gb : Nat} {S : GrS} (hG : GrIs O w gb S) (k : S.g.Ok) (f g h : Nat) (hf : S.g.ok f) (hg : S.g.ok g) (hh : S.g.ok h) (hnl : S.nl.length + 64 ≤ 100000) :
    Calls Tryz.prog 58 #[.pointer (some ⟨gb, 0, none⟩), .int .i64 f, .int .i64 g, .int .i64 h] w (WentPost O w gb S (iteT (S.g.tab f) (S.g.tab g) (S.g.tab h)) 63) := by
  have hol := hG.ol
  exact graphIte_all 6 O w gb S f g h hG k hf hg hh (by omega) (by omega) (by omega) (by omega)

end Go.Proofs.YtebfmcafmojlaaaGreatDoor

/-
  copse: Const, Not, Ite.
-/
namespace Go.Proofs.YtebfmcafmojlaaaGreatDoor
open Go.RowKit Go.Maps
set_option linter.unusedSimpArgs false
set_option linter.unusedVariables false

theorem TellPost.val {O : Nat → Prop} {w : World} {x cap : Nat} {names : List ByteArray} {S : GrS} {nv : Value} {gb lb : Nat} {L : List (Value × Value)} {Og : Nat → Prop} {r : Nat} {e : Ending} {w' : World} (h : TellPost O w x cap names S nv gb lb L Og r e w') : ∃ a b : Nat, e = .returned (.tuple #[.int .i64 (a : Nat), .int .i64 (b : Nat)]) := by
  rcases h with ⟨_, h, _⟩ | ⟨_, h, _⟩
  · exact ⟨0, 5, h⟩
  · exact ⟨r, 0, h⟩

theorem copseConst_is (x : Nat) (b : Bool) (w : World) : Calls Tryz.prog 23 #[.pointer (some ⟨x, 0, none⟩), .bool b] w fun e w' => e = .returned (.int .i64 (if b then 0 else 1 : Nat)) ∧ w' = w := by
  cases b
  · go_enter Tryz.func23, Tryz.ntmps23
    go_wp2
    go_ret
    exact ⟨rfl, rfl⟩
  · go_enter Tryz.func23, Tryz.ntmps23
    go_wp2
    go_ret
    exact ⟨rfl, rfl⟩

theorem CopI.step {O : Nat → Prop} {w w' : World} {x : Nat} {C : CopS} (h : CopI O w x C) (hb : Below w.heap.size w w') : CopStep CopI O w x w' C :=
  ⟨only_of_below hb O, O, h.keep hb.size (fun k hk => hb.block k (h.lt k hk)), Grows.refl _ _⟩

set_option maxHeartbeats 400000 in
set_option maxRecDepth 10000 in
theorem copseNot_no {O : Nat → Prop} {w : World} {x : Nat} {C : CopS} (hI : CopI O w x C) (h : Int) (hh : h < 0) (hz : i64ok h) :
    Calls Tryz.prog 24 #[.pointer (some ⟨x, 0, none⟩), .int .i64 h] w fun e w' => e = .returned (.tuple #[.int .i64 0, .int .i64 4]) ∧ CopStep CopI O w x w' C := by
  have hst := fun w' => hI.step (w' := w')
  obtain ⟨cap, names, S, nv, gb, lb, L, Og, rfl, hok, hA⟩ := hI
  have hc := isLive_no hok.mid hA hh hz
  have HS : Hid _ := hst
  clear hst hok hA hh hz
  go_enter Tryz.func24, Tryz.ntmps24
  go_wp2_with (go_at_call 57; refine hc.mono ?_; clear hc; rintro e w' ⟨rfl, hb⟩)
  go_ret2
  exact ⟨rfl, HS.out _ hb⟩

theorem tab_not {G : Gr} (h : Nat) : G.tab (tl h 1) = ~~~ G.tab h := by rw [G.tab_tl]; rfl

set_option maxHeartbeats 400000 in
set_option maxRecDepth 10000 in
theorem copseNot_is {O : Nat → Prop} {w : World} {x : Nat} {C : CopS} (hI : CopI O w x C) (Lt : List Tab) (hL : Lists C Lt) (h : Nat) (f : Tab) (hf : C.T h = some f) :
    Calls Tryz.prog 24 #[.pointer (some ⟨x, 0, none⟩), .int .i64 h] w (PostTell CopI O w x C (fullC C Lt (~~~ f)) (toldC C (~~~ f)) (~~~ f)) := by
  obtain ⟨cap, names, S, nv, gb, lb, L, Og, rfl, hok, hA⟩ := hI
  obtain ⟨hl, htab⟩ := copC_T.1 hf
  have hc := isLive_yes hok.mid hA hl
  have hok' := hok.mid.liveOk hl
  have hs := hok.mid.small hok'
  have hnot := fun W => refNot_is h (by unfold refMax; omega) W
  have hokn : S.g.ok (tl h 1) := Gr.ok_tl.2 hok'
  have hw := GrS.Went.refl hok.mid.k hokn 0
  rw [tab_not, htab] at hw
  have hsn := hok.mid.small hokn
  have htell : ∀ w1, Below w.heap.size w w1 → Calls Tryz.prog 55 #[.pointer (some ⟨x, 0, none⟩), .int .i64 (tl h 1 : Nat)] w1 fun e w' => ∃ a b : Nat, e = .returned (.tuple #[.int .i64 (a : Nat), .int .i64 (b : Nat)]) ∧ PostTell CopI O w x (copC cap names S L) (fullC (copC cap names S L) Lt (~~~ f)) (toldC (copC cap names S L) (~~~ f)) (~~~ f) e w' := by
    intro w1 hb
    refine (copseTell_is (hok.went hw) (hA.below hb) hok.c300 (tl h 1) (by unfold refMax; omega)).mono ?_
    intro e w' hp
    obtain ⟨a, b, he⟩ := hp.val
    exact ⟨a, b, he, told_post hok hw (only_of_below hb O) (Grows.refl _ _) hp Lt hL⟩
  have HT : Hid _ := htell
  clear htell hw hok hA hL hf hl htab hok' hs hokn hsn
  go_enter Tryz.func24, Tryz.ntmps24
  go_wp2_with (first
    | (go_at_call 57; refine hc.mono ?_; clear hc; rintro e w1 ⟨rfl, hb⟩)
    | (go_at_call 59; refine (hnot _).mono ?_; clear hnot; rintro e w2 ⟨rfl, hq⟩; replace hq := hq.symm; subst hq)
    | (go_at_call 55; refine (HT.out _ hb).mono ?_; clear HT; rintro e w3 ⟨a, b, rfl, hp⟩))
  go_ret2
  exact hp

set_option maxHeartbeats 400000 in
set_option maxRecDepth 10000 in
theorem copseIte_is {O : Nat → Prop} {w : World} {x : Nat} {C : CopS} (hI : CopI O w x C) (Lt : List Tab) (hL : Lists C Lt) (a b c : Nat) (f g h : Tab) (hf : C.T a = some f) (hg : C.T b = some g) (hh : C.T c = some h) :
    Calls Tryz.prog 22 #[.pointer (some ⟨x, 0, none⟩), .int .i64 a, .int .i64 b, .int .i64 c] w (PostTell CopI O w x C (fullC C Lt (iteT f g h)) (toldC C (iteT f g h)) (iteT f g h)) := by
  obtain ⟨cap, names, S, nv, gb, lb, L, Og, rfl, hok, hA⟩ := hI
  obtain ⟨hl1, ht1⟩ := copC_T.1 hf
  obtain ⟨hl2, ht2⟩ := copC_T.1 hg
  obtain ⟨hl3, ht3⟩ := copC_T.1 hh
  have hc1 := isLive_yes hok.mid hA hl1
  have hc2 : ∀ w1, Below w.heap.size w w1 → _ := fun w1 hb => isLive_yes hok.mid (hA.below hb) hl2
  have hc3 : ∀ w1, Below w.heap.size w w1 → _ := fun w1 hb => isLive_yes hok.mid (hA.below hb) hl3
  have c2 : ∀ w1, Below w.heap.size w w1 → w1.cell? ⟨x, 2, none⟩ = some (.pointer (some ⟨gb, 0, none⟩)) := fun w1 hb => (hA.below hb).c.2.2.1
  have hite : ∀ w1, Below w.heap.size w w1 → Calls Tryz.prog 58 #[.pointer (some ⟨gb, 0, none⟩), .int .i64 a, .int .i64 b, .int .i64 c] w1 (WentPost Og w1 gb S (iteT f g h) 63) := by
    intro w1 hb
    have := graphIte_is (hA.below hb).graph hok.mid.k a b c (hok.mid.liveOk hl1) (hok.mid.liveOk hl2) (hok.mid.liveOk hl3) (by have := hok.mid.nlen; omega)
    rw [ht1, ht2, ht3] at this
    exact this
  have htell : ∀ w1 w2 r S', Below w.heap.size w w1 → GrStep Og w1 gb w2 S' → S.Went S' r (iteT f g h) 63 → Calls Tryz.prog 55 #[.pointer (some ⟨x, 0, none⟩), .int .i64 (r : Nat)] w2 fun e w' => ∃ a b : Nat, e = .returned (.tuple #[.int .i64 (a : Nat), .int .i64 (b : Nat)]) ∧ PostTell CopI O w x (copC cap names S L) (fullC (copC cap names S L) Lt (iteT f g h)) (toldC (copC cap names S L) (iteT f g h)) (iteT f g h) e w' := by
    intro w1 w2 r S' hb hst hw
    obtain ⟨ho, O', Og', hA', hgr⟩ := (hA.below hb).graphed hst
    have hm := hok.went hw
    refine (copseTell_is hm hA' hok.c300 r (by have := hm.small hw.made.ok; unfold refMax; omega)).mono ?_
    intro e w' hp
    obtain ⟨a, b, he⟩ := hp.val
    exact ⟨a, b, he, told_post hok hw (below_then_only hb ho) (fun q hq => (hgr q hq).imp id (fun e => Nat.le_trans hb.size e)) hp Lt hL⟩
  have HT : Hid _ := htell
  have HI : Hid _ := hite
  have H2 : Hid _ := c2
  have HC2 : Hid _ := hc2
  have HC3 : Hid _ := hc3
  clear htell hite c2 hc2 hc3 hok hA hL hf hg hh hl1 hl2 hl3 ht1 ht2 ht3
  go_enter Tryz.func22, Tryz.ntmps22
  go_wp2_with (first
    | (go_at_call 57; refine hc1.mono ?_; clear hc1; rintro e w1 ⟨rfl, hb1⟩)
    | (go_at_call 57; refine (HC2.out _ hb1).mono ?_; clear HC2; rintro e w2 ⟨rfl, hb2⟩; replace hb2 := hb1.trans (hb2.mono hb1.size); clear hb1)
    | (go_at_call 57; refine (HC3.out _ hb2).mono ?_; clear HC3; rintro e w3 ⟨rfl, hb3⟩; replace hb3 := hb2.trans (hb3.mono hb2.size); clear hb2; have q2 := H2.out _ hb3)
    | (go_at_call 58; refine (HI.out _ hb3).mono ?_; clear HI; rintro e w4 ⟨r, S', rfl, hst, hw⟩; have ht := HT.out _ _ _ _ hb3 hst hw; clear HT hst hw)
    | (go_at_call 55; refine ht.mono ?_; clear ht; rintro e w5 ⟨a', b', rfl, hp⟩))
  go_ret2
  exact hp

end Go.Proofs.YtebfmcafmojlaaaGreatDoor

