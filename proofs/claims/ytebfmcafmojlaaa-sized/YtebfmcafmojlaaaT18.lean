/-
  copse: keep, tell.
-/
import Derived.Test.YtebfmcafmojlaaaT17
import Derived.Test.YtebfmcafmojlaaaT13
namespace Go.Proofs.Ytebfmcafmojlaaa
open Go.RowKit Go.Maps
set_option linter.unusedSimpArgs false
set_option linter.unusedVariables false

def KeepPost (O : Nat → Prop) (w : World) (x cap : Nat) (names : List ByteArray) (S : GrS) (nv : Value) (gb lb : Nat) (L : List (Value × Value)) (Og : Nat → Prop) (rs : List Nat) (e : Ending) (w' : World) : Prop :=
  (cap < S.nums.length ∧ e = .returned (.int .i64 5) ∧ ∃ O' Og' S' A, ∃ xs : List (RefT S.g), S.Swept S' A ∧ MarkedAll S.g A xs ∧ LiveXs L xs ∧ CopAt O' w' x cap names S' nv gb lb L Og' ∧ Only O w w' ∧ Grows w O O') ∨
  (S.nums.length ≤ cap ∧ e = .returned (.int .i64 0) ∧ ∃ L', (∀ p, p ∈ L' ↔ p ∈ L ∨ ∃ r ∈ rs, p = (natv r, .agg #[])) ∧ CopAt O w' x cap names S nv gb lb L' Og ∧ Only O w w')

theorem KeepPost.val {O : Nat → Prop} {w : World} {x cap : Nat} {names : List ByteArray} {S : GrS} {nv : Value} {gb lb : Nat} {L : List (Value × Value)} {Og : Nat → Prop} {rs : List Nat} {e : Ending} {w' : World} (h : KeepPost O w x cap names S nv gb lb L Og rs e w') : (e = .returned (.int .i64 5) ∧ cap < S.nums.length) ∨ (e = .returned (.int .i64 0) ∧ S.nums.length ≤ cap) := by
  rcases h with ⟨h1, h2, _⟩ | ⟨h1, h2, _⟩
  · exact .inl ⟨h2, h1⟩
  · exact .inr ⟨h2, h1⟩

set_option maxHeartbeats 600000 in
set_option maxRecDepth 10000 in
theorem copseKeep_full {O Og : Nat → Prop} {w : World} {x cap : Nat} {names : List ByteArray} {S : GrS} {nv : Value} {gb lb : Nat} {L : List (Value × Value)} {X : Nat → Prop} (hm : CopMid names S L X) (hA : CopAt O w x cap names S nv gb lb L Og) (hcap : cap ≤ 300) {fv : Value} {rs : List Nat} (hfull : cap < S.nums.length) :
    Calls Try.prog 60 #[.pointer (some ⟨x, 0, none⟩), fv] w (KeepPost O w x cap names S nv gb lb L Og rs) := by
  obtain ⟨c0, c1, c2, c3⟩ := hA.c
  have hsize : Calls Try.prog 31 #[.pointer (some ⟨gb, 0, none⟩)] w.drew fun e w' => e = .returned (.int .i64 (S.nums.length : Nat)) ∧ w' = w.drew := by
    obtain ⟨_, _, _, _, _, _, _, hG⟩ := (hA.graph.undrew)
    exact graphSize_is hG
  have hb2 : Below w.heap.size w (w.drew.drew.alloc (.cells #[.map (some lb)] 60)) := (Below.refl _ w).drew.drew.alloc (Nat.le_refl _) _
  have hA2 := hA.below hb2
  have hnew : (w.drew.drew.alloc (.cells #[.map (some lb)] 60)).heap[w.heap.size]? = some (.cells #[.map (some lb)] 60 (0, 0)) := heap_alloc_new w.drew.drew _
  have hsw := graphSweep_live (bm := w.heap.size) hm hA2 (by rw [cell_of_heap hnew]; rfl) (by show w.heap.size < (w.heap.push _).size; simp) (fun e => by have := hA.lt _ (hA.og _ e); omega)
  have hpost : ∀ w', SweepPost Og (w.drew.drew.alloc (.cells #[.map (some lb)] 60)) gb S (LiveXs L) (.returned (.tuple #[])) w' → KeepPost O w x cap names S nv gb lb L Og rs (.returned (.int .i64 5)) w' := by
    rintro w' ⟨_, xs, A, S', h1, h2, h3, h4⟩
    obtain ⟨ho, O', Og', hA', hg⟩ := hA2.graphed h4
    exact .inl ⟨hfull, rfl, O', Og', S', A, xs, h3, h2, h1, hA', below_then_only hb2 ho, fun b hb => (hg b hb).imp id (fun e => Nat.le_trans hb2.size e)⟩
  have hval : ∀ e w', SweepPost Og (w.drew.drew.alloc (.cells #[.map (some lb)] 60)) gb S (LiveXs L) e w' → e = .returned (.tuple #[]) ∧ w'.cell? ⟨x, 3, none⟩ = some (.map (some lb)) ∧ w'.cell? ⟨x, 2, none⟩ = some (.pointer (some ⟨gb, 0, none⟩)) := by
    rintro e w' ⟨h, xs, A, S', h1, h2, h3, h4⟩
    obtain ⟨ho, O', Og', hA', hg⟩ := hA2.graphed h4
    exact ⟨h, hA'.c.2.2.2, hA'.c.2.2.1⟩
  have hgt : (cap : Int) < (S.nums.length : Int) := by omega
  have HP : Hid _ := hpost
  have HV : Hid _ := hval
  have hkeys := fun W => mapsKeys_is lb W
  obtain ⟨N, hN⟩ : ∃ N, N = S.nums.length := ⟨_, rfl⟩
  rw [← hN] at hsize hgt
  clear hm hA hfull hb2 hA2 hnew hpost hval c1 hN
  go_enter Try.func60, Try.ntmps60
  go_upto_region 1 with fail
  go_region_held (fun w' => w'.cell? ⟨x, 0, none⟩ = some (.int .i64 (cap : Nat)) ∧ w'.cell? ⟨x, 2, none⟩ = some (.pointer (some ⟨gb, 0, none⟩))) (go_keep) (first | (go_at_call 31; refine hsize.mono ?_; clear hsize; rintro e w1 ⟨rfl, rfl⟩))
  all_goals
    go_upto_region 2 with fail
    go_region_held (fun w' => w'.cell? ⟨x, 3, none⟩ = some (.map (some lb)) ∧ w'.cell? ⟨x, 2, none⟩ = some (.pointer (some ⟨gb, 0, none⟩))) (go_keep) (first | (go_at_call 39; refine (hkeys _).mono ?_; clear hkeys; rintro e w1 ⟨rfl, rfl⟩) | (go_at_call 38; refine hsw.mono ?_; clear hsw; rintro e w1 hp; obtain ⟨rfl, s3, s2⟩ := HV.out _ _ hp))
    all_goals
      go_wp2_with fail
      go_ret
      exact HP.out _ hp

end Go.Proofs.Ytebfmcafmojlaaa

/-
  copse: keep where there is room; tell.
-/
namespace Go.Proofs.Ytebfmcafmojlaaa
open Go.RowKit Go.Maps
set_option linter.unusedSimpArgs false
set_option linter.unusedVariables false

/-- Between two rounds: k answers are live. -/
structure KeptTo (O : Nat → Prop) (w : World) (x cap : Nat) (names : List ByteArray) (S : GrS) (nv : Value) (gb lb : Nat) (L : List (Value × Value)) (Og : Nat → Prop) (rs : List Nat) (k : Nat) (wr : World) : Prop where
  at_ : ∃ L', (∀ p, p ∈ L' ↔ p ∈ L ∨ ∃ r ∈ rs.take k, p = (natv r, .agg #[])) ∧ CopAt O wr x cap names S nv gb lb L' Og
  only : Only O w wr
  blk : ∀ b, b < w.heap.size → b ≠ lb → wr.heap[b]? = w.heap[b]?

theorem KeptTo.next {O : Nat → Prop} {w : World} {x cap : Nat} {names : List ByteArray} {S : GrS} {nv : Value} {gb lb : Nat} {L : List (Value × Value)} {Og : Nat → Prop} {rs : List Nat} {k : Nat} {wr : World} (h : KeptTo O w x cap names S nv gb lb L Og rs k wr) (hL : ∀ p ∈ L, p.2 = .agg #[]) (hk : k < rs.length) (hr : rs.getD k 0 < refMax) :
    ∃ w', (Instr.mapUpdate 60 (.map (some lb)) (.int .i64 (rs.getD k 0 : Nat)) (.agg #[])).run Try.prog wr = .ok () w' ∧ KeptTo O w x cap names S nv gb lb L Og rs (k + 1) w' := by
  obtain ⟨⟨L', hL', hA⟩, ho, hb⟩ := h
  obtain ⟨w', L2, hrun, h1, h2, h3, _, _⟩ := hA.live.store ref_keyed Try.underlying60 (key := .int .i64 (rs.getD k 0 : Nat)) (val := .agg #[]) (ref_key_ok _ (wf_i64_nat _ hr))
  obtain ⟨hA', ho'⟩ := hA.lived h2 h1
  refine ⟨w', hrun, ⟨L2, ?_, hA'⟩, ho.trans ho' (Grows.refl _ _), ?_⟩
  · intro p
    rw [h3, hL', List.take_succ_eq_append_getElem hk]
    have hg : rs.getD k 0 = rs[k] := by rw [List.getD_eq_getElem?_getD, List.getElem?_eq_getElem hk]; rfl
    constructor
    · rintro (e | ⟨e | ⟨r, h4, h5⟩, _⟩)
      · exact .inr ⟨rs[k], List.mem_append_right _ (List.mem_singleton.2 rfl), by rw [e, ← hg]; rfl⟩
      · exact .inl e
      · exact .inr ⟨r, List.mem_append_left _ h4, h5⟩
    · intro h
      by_cases c : p = (.int .i64 (rs.getD k 0 : Nat), .agg #[])
      · exact .inl c
      · right
        have hin : p ∈ L ∨ ∃ r ∈ rs.take k, p = (natv r, .agg #[]) := by
          rcases h with e | ⟨r, h4, h5⟩
          · exact .inl e
          · rcases List.mem_append.1 h4 with e | e
            · exact .inr ⟨r, e, h5⟩
            · simp at e
              subst e
              exact absurd (by rw [h5, hg]; rfl) c
        refine ⟨hin, ?_⟩
        intro e
        refine c (Prod.ext e ?_)
        rcases hin with i1 | ⟨r, _, i2⟩
        · exact hL p i1
        · rw [i2]
  · intro b hb1 hb2
    exact (h2.1.block b (Nat.lt_of_lt_of_le hb1 ho.size) (by simp; exact hb2)).trans (hb b hb1 hb2)

set_option maxHeartbeats 600000 in
set_option maxRecDepth 10000 in
theorem copseKeep_room {O Og : Nat → Prop} {w : World} {x cap : Nat} {names : List ByteArray} {S : GrS} {nv : Value} {gb lb : Nat} {L : List (Value × Value)} {X : Nat → Prop} (hm : CopMid names S L X) (hA : CopAt O w x cap names S nv gb lb L Og) {fv : Value} {rs : List Nat} (hroom : S.nums.length ≤ cap) (hcap : cap ≤ 300)
    (hr : Reads w.heap.size w fv (rs.map natv)) (hrs : ∀ r ∈ rs, r < refMax) (hlen : rs.length ≤ 1000000) :
    Calls Try.prog 60 #[.pointer (some ⟨x, 0, none⟩), fv] w (KeepPost O w x cap names S nv gb lb L Og rs) := by
  obtain ⟨c0, c1, c2, c3⟩ := hA.c
  have hsize : Calls Try.prog 31 #[.pointer (some ⟨gb, 0, none⟩)] w.drew fun e w' => e = .returned (.int .i64 (S.nums.length : Nat)) ∧ w' = w.drew := by
    obtain ⟨_, _, _, _, _, _, _, hG⟩ := (hA.graph.undrew)
    exact graphSize_is hG
  have hgt : ¬ (cap : Int) < (S.nums.length : Int) := by omega
  have hb1 : Below w.heap.size w w.drew := (Below.refl _ w).drew
  have hst : KeptTo O w x cap names S nv gb lb L Og rs 0 w.drew := ⟨⟨L, by simp, hA.below hb1⟩, only_of_below hb1 O, fun b hb _ => hb1.block b hb⟩
  have hLa : ∀ p ∈ L, p.2 = .agg #[] := fun p hp => by obtain ⟨r, e, _⟩ := hm.ents p hp; rw [e]
  have hstep : ∀ k wr, KeptTo O w x cap names S nv gb lb L Og rs k wr → k < rs.length → wr.cell? ⟨x, 3, none⟩ = some (.map (some lb)) ∧ ∃ w', (Instr.mapUpdate 60 (.map (some lb)) (.int .i64 (rs.getD k 0 : Nat)) (.agg #[])).run Try.prog wr = .ok () w' ∧ KeptTo O w x cap names S nv gb lb L Og rs (k + 1) w' := by
    intro k wr h hk
    refine ⟨?_, h.next hLa hk (hrs _ (by rw [List.getD_eq_getElem?_getD, List.getElem?_eq_getElem hk]; exact List.getElem_mem hk))⟩
    obtain ⟨⟨L', _, hA'⟩, _, _⟩ := h
    exact hA'.c.2.2.2
  have hfin : ∀ wr, KeptTo O w x cap names S nv gb lb L Og rs rs.length wr → KeepPost O w x cap names S nv gb lb L Og rs (.returned (.int .i64 0)) wr := by
    rintro wr ⟨⟨L', h1, h2⟩, h3, _⟩
    exact .inr ⟨hroom, rfl, L', by intro p; rw [h1, List.take_length], h2, h3⟩
  have hlmap : ∃ es ck, w.heap[lb]? = some (.map es ck) := by obtain ⟨es, ck, h, _⟩ := hA.live; exact ⟨es, ck, h⟩
  have HS : Hid _ := hstep
  have HF : Hid _ := hfin
  have HT : Hid _ := hst
  obtain ⟨N, hN⟩ : ∃ N, N = S.nums.length := ⟨_, rfl⟩
  rw [← hN] at hsize hgt
  clear hm hA hroom hstep hfin hst hLa hrs c1 c3 hb1 hN
  go_enter Try.func60, Try.ntmps60
  go_upto_region 1 with fail
  go_region_held (fun w' => w'.cell? ⟨x, 0, none⟩ = some (.int .i64 (cap : Nat)) ∧ w'.cell? ⟨x, 2, none⟩ = some (.pointer (some ⟨gb, 0, none⟩))) (go_keep) (first | (go_at_call 31; refine hsize.mono ?_; clear hsize; rintro e w1 ⟨rfl, rfl⟩))
  all_goals
    rcases hr with ⟨rfl, h0⟩ | ⟨b, off, fcap, rfl, hlt, hc⟩
    · have : rs = [] := by simpa using h0
      subst this
      go_wp2_with fail
      go_loopw [29] (fun i wr => i = .int .i64 0 ∧ KeptTo O w x cap names S nv gb lb L Og [] 0 wr) (fun _ _ => 0)
      case atStart => exact ⟨rfl, HT.out⟩
      case round =>
        obtain ⟨rfl, h⟩ := hrel
        have HH : Hid (KeepPost O w x cap names S nv gb lb L Og [] (.returned (.int .i64 0)) wr) := HF.out wr h
        clear h
        go_wp2
        go_ret
        exact HH.out
    · simp only [List.length_map] at hc ⊢
      have hcx : ∀ k wr, KeptTo O w x cap names S nv gb lb L Og rs k wr → k < rs.length → wr.cell? ⟨b, off + k, none⟩ = some (.int .i64 (rs.getD k 0 : Nat)) := by
        intro k wr h hk
        have h1 : w.cell? ⟨b, off + k, none⟩ = some (.int .i64 (rs.getD k 0 : Nat)) := by
          rw [hc k hk]
          simp [natv, hk]
        have hne : b ≠ lb := by
          intro e
          subst e
          obtain ⟨es, ck, hl⟩ := hlmap
          unfold World.cell? at h1
          simp [hl] at h1
        rw [← h1]
        unfold World.cell?
        simp only [h.blk b hlt hne]
      have HX : Hid _ := hcx
      clear hc hcx hlmap
      go_wp2_with fail
      go_loopw [29] (fun i wr => ∃ k : Nat, k ≤ rs.length ∧ i = .int .i64 k ∧ KeptTo O w x cap names S nv gb lb L Og rs k wr) (fun i _ => rs.length - (intOf i).toNat)
      case atStart => exact ⟨0, Nat.zero_le _, rfl, HT.out⟩
      case round =>
        obtain ⟨k, hk, rfl, h⟩ := hrel
        by_cases hkl : k < rs.length
        · have hcell := HX.out k wr h hkl
          obtain ⟨c3', w', hrun, hn⟩ := HS.out k wr h hkl
          have HN : Hid _ := hn
          clear h hn
          obtain ⟨z, hz⟩ : ∃ z, z = rs.getD k 0 := ⟨_, rfl⟩
          rw [← hz] at hcell hrun
          clear hz
          go_wp2_with fail
          go_roundw
          case rel => exact ⟨k + 1, by omega, congrArg (Value.int .i64) (by omega), HN.out⟩
          case measure => simp [intOf]; omega
        · have hk' : k = rs.length := by omega
          subst hk'
          have HH : Hid (KeepPost O w x cap names S nv gb lb L Og rs (.returned (.int .i64 0)) wr) := HF.out wr h
          clear h
          go_wp2
          go_ret
          exact HH.out

theorem copseKeep_is {O Og : Nat → Prop} {w : World} {x cap : Nat} {names : List ByteArray} {S : GrS} {nv : Value} {gb lb : Nat} {L : List (Value × Value)} {X : Nat → Prop} (hm : CopMid names S L X) (hA : CopAt O w x cap names S nv gb lb L Og) {fv : Value} {rs : List Nat} (hcap : cap ≤ 300)
    (hr : Reads w.heap.size w fv (rs.map natv)) (hrs : ∀ r ∈ rs, r < refMax) (hlen : rs.length ≤ 1000000) :
    Calls Try.prog 60 #[.pointer (some ⟨x, 0, none⟩), fv] w (KeepPost O w x cap names S nv gb lb L Og rs) := by
  by_cases h : cap < S.nums.length
  · exact copseKeep_full hm hA hcap h
  · exact copseKeep_room hm hA (by omega) hcap hr hrs hlen

def TellPost (O : Nat → Prop) (w : World) (x cap : Nat) (names : List ByteArray) (S : GrS) (nv : Value) (gb lb : Nat) (L : List (Value × Value)) (Og : Nat → Prop) (r : Nat) (e : Ending) (w' : World) : Prop :=
  (cap < S.nums.length ∧ e = .returned (.tuple #[.int .i64 0, .int .i64 5]) ∧ ∃ O' Og' S' A, ∃ xs : List (RefT S.g), S.Swept S' A ∧ MarkedAll S.g A xs ∧ LiveXs L xs ∧ CopAt O' w' x cap names S' nv gb lb L Og' ∧ Only O w w' ∧ Grows w O O') ∨
  (S.nums.length ≤ cap ∧ e = .returned (.tuple #[.int .i64 (r : Nat), .int .i64 0]) ∧ ∃ L', (∀ p, p ∈ L' ↔ p ∈ L ∨ p = (natv r, .agg #[])) ∧ CopAt O w' x cap names S nv gb lb L' Og ∧ Only O w w')

set_option maxHeartbeats 600000 in
set_option maxRecDepth 10000 in
theorem copseTell_is {O Og : Nat → Prop} {w : World} {x cap : Nat} {names : List ByteArray} {S : GrS} {nv : Value} {gb lb : Nat} {L : List (Value × Value)} {X : Nat → Prop} (hm : CopMid names S L X) (hA : CopAt O w x cap names S nv gb lb L Og) (hcap : cap ≤ 300) (r : Nat) (hr : r < refMax) :
    Calls Try.prog 44 #[.pointer (some ⟨x, 0, none⟩), .int .i64 r] w (TellPost O w x cap names S nv gb lb L Og r) := by
  obtain ⟨W0, hW0⟩ : ∃ W0, W0 = w.alloc (.cells #[.int .i64 r] 72) := ⟨_, rfl⟩
  have hb0 : Below w.heap.size w W0 := by rw [hW0]; exact (Below.refl _ w).alloc (Nat.le_refl _) _
  have hs0 : W0.heap.size = w.heap.size + 1 := by rw [hW0]; simp
  have hc0 : W0.cell? ⟨w.heap.size, 0, none⟩ = some (.int .i64 r) := by
    have : W0.heap[w.heap.size]? = some (.cells #[.int .i64 r] 72 (0, 0)) := by rw [hW0]; exact heap_alloc_new w _
    rw [cell_of_heap this]; rfl
  have hkeep := copseKeep_is (rs := [r]) (fv := .slice (some ⟨w.heap.size, 0, none⟩) 1 1) hm (hA.below hb0) hcap (.inr ⟨w.heap.size, 0, 1, rfl, by omega, fun i hi => by
    have : i = 0 := by simpa using hi
    subst this
    exact hc0⟩) (by intro y hy; simp at hy; subst hy; exact hr) (by simp)
  have hfin : ∀ w', (KeepPost O W0 x cap names S nv gb lb L Og [r] (.returned (.int .i64 5)) w' → TellPost O w x cap names S nv gb lb L Og r (.returned (.tuple #[.int .i64 0, .int .i64 5])) w') ∧ (KeepPost O W0 x cap names S nv gb lb L Og [r] (.returned (.int .i64 0)) w' → TellPost O w x cap names S nv gb lb L Og r (.returned (.tuple #[.int .i64 (r : Nat), .int .i64 0])) w') := by
    intro w'
    constructor
    · rintro (⟨h1, h2, O', Og', S', A, xs, h3, h4, h5, h6, h7, h8⟩ | ⟨h1, h2, _⟩)
      · exact .inl ⟨h1, rfl, O', Og', S', A, xs, h3, h4, h5, h6, below_then_only hb0 h7, fun b hb => (h8 b hb).imp id (fun e => Nat.le_trans hb0.size e)⟩
      · simp at h2
    · rintro (⟨h1, h2, _⟩ | ⟨h1, h2, L', h3, h4, h5⟩)
      · simp at h2
      · exact .inr ⟨h1, rfl, L', fun p => by rw [h3]; simp, h4, below_then_only hb0 h5⟩
  have hval : ∀ e w', KeepPost O W0 x cap names S nv gb lb L Og [r] e w' → e = .returned (.int .i64 5) ∨ e = .returned (.int .i64 0) := fun e w' h => h.val.imp (·.1) (·.1)
  have HF : Hid _ := hfin
  have HV : Hid _ := hval
  clear hm hA hb0 hs0 hc0 hfin hval
  go_enter Try.func44, Try.ntmps44
  go_upto_region 2 with (go_at_call 60; rw [← hW0]; refine hkeep.mono ?_; clear hkeep; rintro e w' hp; rcases HV.out _ _ hp with rfl | rfl)
  · have HP : Hid (TellPost O w x cap names S nv gb lb L Og r (.returned (.tuple #[.int .i64 0, .int .i64 5])) w') := (HF.out w').1 hp
    clear hp HF HV hW0
    go_wp2
    go_ret2
    exact HP.out
  · have HP : Hid (TellPost O w x cap names S nv gb lb L Og r (.returned (.tuple #[.int .i64 (r : Nat), .int .i64 0])) w') := (HF.out w').2 hp
    clear hp HF HV hW0
    go_wp2
    go_ret2
    exact HP.out

end Go.Proofs.Ytebfmcafmojlaaa

/-
  copse: what a tell leaves, as the callers see it.
-/
namespace Go.Proofs.Ytebfmcafmojlaaa
open Go.RowKit Go.Maps
set_option linter.unusedSimpArgs false
set_option linter.unusedVariables false

theorem CopMid.small {names : List ByteArray} {S : GrS} {L : List (Value × Value)} {X : Nat → Prop} (h : CopMid names S L X) {r : Nat} (hr : S.g.ok r) : r < 160001 := by
  have := h.nlen
  rcases hr with e' | ⟨n, hn⟩
  · omega
  · have := GrS.node_lt hn
    omega

theorem copC_same {cap : Nat} {names : List ByteArray} {S S' : GrS} {L : List (Value × Value)} (ho : S'.order = S.order) (ht : ∀ r, liveH L r → S'.g.tab r = S.g.tab r) : copC cap names S' L = copC cap names S L := by
  have : (copC cap names S' L).T = (copC cap names S L).T := copT_ext (fun r f => by
    rw [copC_T, copC_T]
    constructor
    · rintro ⟨h1, h2⟩; exact ⟨h1, by rw [← ht r h1]; exact h2⟩
    · rintro ⟨h1, h2⟩; exact ⟨h1, by rw [ht r h1]; exact h2⟩)
  unfold copC at this ⊢
  simp only [CopS.mk.injEq, true_and]
  exact ⟨ho, this⟩

theorem told_post {O O1 Og1 : Nat → Prop} {w w1 w' : World} {x cap : Nat} {names : List ByteArray} {S0 S : GrS} {nv : Value} {gb lb : Nat} {L : List (Value × Value)} {r d : Nat} {t : Tab} {e : Ending}
    (hok : CopOk cap names S0 L) (hw : S0.Went S r t d) (ho : Only O w w1) (hg : Grows w O O1) (h : TellPost O1 w1 x cap names S nv gb lb L Og1 r e w') (Lt : List Tab) (hL : Lists (copC cap names S0 L) Lt) :
    PostTell CopI O w x (copC cap names S0 L) (fullC (copC cap names S0 L) Lt t) (toldC (copC cap names S0 L) t) t e w' := by
  have hmid := hok.went hw
  have hlive : ∀ q, liveH L q → S0.g.tab q = S.g.tab q := fun q hq => (hw.made.ext.tab (hok.mid.liveOk hq)).symm
  have hcnt := hmid.count (cap := cap) (S0 := S0) (fs := withT Lt [t]) hw.order.symm hlive hL (fun f => by
    rw [withT_one]
    constructor
    · rintro (e | e)
      · exact .inl e
      · exact .inr ⟨r, rfl, by rw [e]; exact hw.tab⟩
    · rintro (e | ⟨q, e1, e2⟩)
      · exact .inl e
      · subst e1; exact .inr (e2.symm.trans hw.tab))
  have hfull : fullC (copC cap names S0 L) Lt t ↔ cap < S.nums.length := by
    unfold fullC
    show ((cap : Nat) : Int) < ((allT S0.order (withT Lt [t])).length : Int) ↔ _
    rw [hcnt]
    omega
  rcases h with ⟨h1, rfl, O', Og', S', A, xs, h3, h4, h5, h6, h7, h8⟩ | ⟨h1, rfl, L', h3, h4, h5⟩
  · obtain ⟨m', ht', hn'⟩ := swept_copse hmid h3 h4 h5
    have hord : S'.order = S0.order := h3.order.trans hw.order
    have hC : copC cap names S' L = copC cap names S0 L := copC_same hord (fun q hq => by rw [ht', hlive q hq])
    have n1 := m'.count (cap := cap) (S0 := S0) (fs := Lt) hord.symm (fun q hq => by rw [hlive q hq, ht']) hL (fun f => by simp)
    have n2 := hok.mid.count (cap := cap) (S0 := S0) (fs := Lt) rfl (fun q hq => rfl) hL (fun f => by simp)
    refine .inl ⟨hfull.2 h1, rfl, ho.trans h7 hg, O', ⟨cap, names, S', nv, gb, lb, L, Og', hC.symm, ⟨m', hok.c1, hok.c300, ?_⟩, h6⟩, hg.trans h8 ho.size⟩
    have := hok.size
    omega
  · have hr' : liveH L' r := (h3 _).2 (.inr rfl)
    have hl' : ∀ q, liveH L' q ↔ liveH L q ∨ q = r := fun q => by
      unfold liveH
      rw [h3]
      constructor
      · rintro (e | e)
        · exact .inl e
        · exact .inr (natv_inj (congrArg Prod.fst e))
      · rintro (e | e)
        · exact .inl e
        · subst e; exact .inr rfl
    refine .inr ⟨by rw [hfull]; omega, r, ?_, ?_, rfl, ho.trans h5 hg, O1, ⟨cap, names, S, nv, gb, lb, L', Og1, ?_, ⟨⟨hmid.k, hmid.full, ?_, (hl' 0).2 (.inl hmid.c0), (hl' 1).2 (.inl hmid.c1), hmid.order, hmid.olen, hmid.n6, fun _ h => h.elim, ?_, hmid.nlen, hmid.cnt⟩, hok.c1, hok.c300, h1⟩, h4⟩, hg⟩
    · have := hmid.small hw.made.ok
      unfold handleMax
      omega
    · intro f hf
      obtain ⟨q1, q2⟩ := copC_T.1 hf
      rw [← q2, hlive r q1]
      exact hw.tab
    · have hT : (toldC (copC cap names S0 L) t r).T = (copC cap names S L').T := copT_ext (fun q f => by
        rw [copC_T, hl']
        show updT (copC cap names S0 L).T r t q = some f ↔ _
        unfold updT
        by_cases c : q = r
        · subst c
          rw [if_pos rfl]
          constructor
          · intro h; cases h; exact ⟨.inr rfl, hw.tab⟩
          · rintro ⟨_, h⟩; rw [← h, hw.tab]
        · rw [if_neg c, copC_T]
          constructor
          · rintro ⟨q1, q2⟩; exact ⟨.inl q1, by rw [← hlive q q1]; exact q2⟩
          · rintro ⟨q1 | q1, q2⟩
            · exact ⟨q1, by rw [hlive q q1]; exact q2⟩
            · exact absurd q1 c)
      have ho' : S.order = S0.order := hw.order
      unfold toldC copC at hT ⊢
      simp only [CopS.mk.injEq, true_and] at hT ⊢
      exact ⟨ho'.symm, hT⟩
    · intro p hp
      rcases (h3 p).1 hp with e | e
      · exact hmid.ents p e
      · exact ⟨r, e, hw.made.ok⟩
    · intro i hi
      refine (hmid.reach i hi).mono ?_
      rintro q (e | e)
      · exact .inl ((hl' q).2 (.inl e))
      · exact .inl ((hl' q).2 (.inr e))

theorem CopMid.agg {names : List ByteArray} {S : GrS} {L : List (Value × Value)} {X : Nat → Prop} (h : CopMid names S L X) : ∀ p ∈ L, p.2 = .agg #[] := fun p hp => by obtain ⟨r, e, _⟩ := h.ents p hp; rw [e]

/-- isLive, at a live handle. -/
theorem isLive_yes {O Og : Nat → Prop} {w : World} {x cap : Nat} {names : List ByteArray} {S : GrS} {nv : Value} {gb lb : Nat} {L : List (Value × Value)} {X : Nat → Prop} (hm : CopMid names S L X) (hA : CopAt O w x cap names S nv gb lb L Og) {h : Nat} (hl : liveH L h) :
    Calls Try.prog 35 #[.pointer (some ⟨x, 0, none⟩), .int .i64 h] w fun e w' => e = .returned (.bool true) ∧ Below w.heap.size w w' := by
  have hs := hm.small (hm.liveOk hl)
  refine (copseIsLive_is hA.c.2.2.2 hA.live hm.agg (h : Int) (by unfold i64ok; omega)).mono ?_
  rintro e w' ⟨b, h1, rfl, h2⟩
  exact ⟨by rw [h1.2 hl], h2⟩

/-- isLive, at a number below 0. -/
theorem isLive_no {O Og : Nat → Prop} {w : World} {x cap : Nat} {names : List ByteArray} {S : GrS} {nv : Value} {gb lb : Nat} {L : List (Value × Value)} {X : Nat → Prop} (hm : CopMid names S L X) (hA : CopAt O w x cap names S nv gb lb L Og) {z : Int} (hz : z < 0) (hz' : i64ok z) :
    Calls Try.prog 35 #[.pointer (some ⟨x, 0, none⟩), .int .i64 z] w fun e w' => e = .returned (.bool false) ∧ Below w.heap.size w w' := by
  refine (copseIsLive_is hA.c.2.2.2 hA.live hm.agg z hz').mono ?_
  rintro e w' ⟨b, h1, rfl, h2⟩
  refine ⟨?_, h2⟩
  cases b
  · rfl
  · obtain ⟨r, e, _⟩ := hm.ents _ (h1.1 rfl)
    have := congrArg Prod.fst e
    simp [natv] at this
    omega

end Go.Proofs.Ytebfmcafmojlaaa

/-
  copse: Const, Not, Ite.
-/
namespace Go.Proofs.Ytebfmcafmojlaaa
open Go.RowKit Go.Maps
set_option linter.unusedSimpArgs false
set_option linter.unusedVariables false

theorem TellPost.val {O : Nat → Prop} {w : World} {x cap : Nat} {names : List ByteArray} {S : GrS} {nv : Value} {gb lb : Nat} {L : List (Value × Value)} {Og : Nat → Prop} {r : Nat} {e : Ending} {w' : World} (h : TellPost O w x cap names S nv gb lb L Og r e w') : ∃ a b : Nat, e = .returned (.tuple #[.int .i64 (a : Nat), .int .i64 (b : Nat)]) := by
  rcases h with ⟨_, h, _⟩ | ⟨_, h, _⟩
  · exact ⟨0, 5, h⟩
  · exact ⟨r, 0, h⟩

theorem copseConst_is (x : Nat) (b : Bool) (w : World) : Calls Try.prog 14 #[.pointer (some ⟨x, 0, none⟩), .bool b] w fun e w' => e = .returned (.int .i64 (if b then 0 else 1 : Nat)) ∧ w' = w := by
  cases b
  · go_enter Try.func14, Try.ntmps14
    go_wp2
    go_ret
    exact ⟨rfl, rfl⟩
  · go_enter Try.func14, Try.ntmps14
    go_wp2
    go_ret
    exact ⟨rfl, rfl⟩

theorem CopI.step {O : Nat → Prop} {w w' : World} {x : Nat} {C : CopS} (h : CopI O w x C) (hb : Below w.heap.size w w') : CopStep CopI O w x w' C :=
  ⟨only_of_below hb O, O, h.keep hb.size (fun k hk => hb.block k (h.lt k hk)), Grows.refl _ _⟩

set_option maxHeartbeats 400000 in
set_option maxRecDepth 10000 in
theorem copseNot_no {O : Nat → Prop} {w : World} {x : Nat} {C : CopS} (hI : CopI O w x C) (h : Int) (hh : h < 0) (hz : i64ok h) :
    Calls Try.prog 26 #[.pointer (some ⟨x, 0, none⟩), .int .i64 h] w fun e w' => e = .returned (.tuple #[.int .i64 0, .int .i64 4]) ∧ CopStep CopI O w x w' C := by
  have hst := fun w' => hI.step (w' := w')
  obtain ⟨cap, names, S, nv, gb, lb, L, Og, rfl, hok, hA⟩ := hI
  have hc := isLive_no hok.mid hA hh hz
  have HS : Hid _ := hst
  clear hst hok hA hh hz
  go_enter Try.func26, Try.ntmps26
  go_wp2_with (go_at_call 35; refine hc.mono ?_; clear hc; rintro e w' ⟨rfl, hb⟩)
  go_ret2
  exact ⟨rfl, HS.out _ hb⟩

theorem tab_not {G : Gr} (h : Nat) : G.tab (tl h 1) = ~~~ G.tab h := by rw [G.tab_tl]; rfl

set_option maxHeartbeats 400000 in
set_option maxRecDepth 10000 in
theorem copseNot_is {O : Nat → Prop} {w : World} {x : Nat} {C : CopS} (hI : CopI O w x C) (Lt : List Tab) (hL : Lists C Lt) (h : Nat) (f : Tab) (hf : C.T h = some f) :
    Calls Try.prog 26 #[.pointer (some ⟨x, 0, none⟩), .int .i64 h] w (PostTell CopI O w x C (fullC C Lt (~~~ f)) (toldC C (~~~ f)) (~~~ f)) := by
  obtain ⟨cap, names, S, nv, gb, lb, L, Og, rfl, hok, hA⟩ := hI
  obtain ⟨hl, htab⟩ := copC_T.1 hf
  have hc := isLive_yes hok.mid hA hl
  have hok' := hok.mid.liveOk hl
  have hs := hok.mid.small hok'
  have hnot := fun W => refNot_is h (by unfold refMax; omega) W
  have hokn : S.g.ok (tl h 1) := Gr.ok_tl.2 hok'
  have hw := GrS.Went.refl hok.mid.k hokn 0
  rw [tab_not, htab] at hw
  have hsn := hok.mid.small hokn
  have htell : ∀ w1, Below w.heap.size w w1 → Calls Try.prog 44 #[.pointer (some ⟨x, 0, none⟩), .int .i64 (tl h 1 : Nat)] w1 fun e w' => ∃ a b : Nat, e = .returned (.tuple #[.int .i64 (a : Nat), .int .i64 (b : Nat)]) ∧ PostTell CopI O w x (copC cap names S L) (fullC (copC cap names S L) Lt (~~~ f)) (toldC (copC cap names S L) (~~~ f)) (~~~ f) e w' := by
    intro w1 hb
    refine (copseTell_is (hok.went hw) (hA.below hb) hok.c300 (tl h 1) (by unfold refMax; omega)).mono ?_
    intro e w' hp
    obtain ⟨a, b, he⟩ := hp.val
    exact ⟨a, b, he, told_post hok hw (only_of_below hb O) (Grows.refl _ _) hp Lt hL⟩
  have HT : Hid _ := htell
  clear htell hw hok hA hL hf hl htab hok' hs hokn hsn
  go_enter Try.func26, Try.ntmps26
  go_wp2_with (first
    | (go_at_call 35; refine hc.mono ?_; clear hc; rintro e w1 ⟨rfl, hb⟩)
    | (go_at_call 47; refine (hnot _).mono ?_; clear hnot; rintro e w2 ⟨rfl, hq⟩; replace hq := hq.symm; subst hq)
    | (go_at_call 44; refine (HT.out _ hb).mono ?_; clear HT; rintro e w3 ⟨a, b, rfl, hp⟩))
  go_ret2
  exact hp

set_option maxHeartbeats 400000 in
set_option maxRecDepth 10000 in
theorem copseIte_is {O : Nat → Prop} {w : World} {x : Nat} {C : CopS} (hI : CopI O w x C) (Lt : List Tab) (hL : Lists C Lt) (a b c : Nat) (f g h : Tab) (hf : C.T a = some f) (hg : C.T b = some g) (hh : C.T c = some h) :
    Calls Try.prog 25 #[.pointer (some ⟨x, 0, none⟩), .int .i64 a, .int .i64 b, .int .i64 c] w (PostTell CopI O w x C (fullC C Lt (iteT f g h)) (toldC C (iteT f g h)) (iteT f g h)) := by
  obtain ⟨cap, names, S, nv, gb, lb, L, Og, rfl, hok, hA⟩ := hI
  obtain ⟨hl1, ht1⟩ := copC_T.1 hf
  obtain ⟨hl2, ht2⟩ := copC_T.1 hg
  obtain ⟨hl3, ht3⟩ := copC_T.1 hh
  have hc1 := isLive_yes hok.mid hA hl1
  have hc2 : ∀ w1, Below w.heap.size w w1 → _ := fun w1 hb => isLive_yes hok.mid (hA.below hb) hl2
  have hc3 : ∀ w1, Below w.heap.size w w1 → _ := fun w1 hb => isLive_yes hok.mid (hA.below hb) hl3
  have c2 : ∀ w1, Below w.heap.size w w1 → w1.cell? ⟨x, 2, none⟩ = some (.pointer (some ⟨gb, 0, none⟩)) := fun w1 hb => (hA.below hb).c.2.2.1
  have hite : ∀ w1, Below w.heap.size w w1 → Calls Try.prog 46 #[.pointer (some ⟨gb, 0, none⟩), .int .i64 a, .int .i64 b, .int .i64 c] w1 (WentPost Og w1 gb S (iteT f g h) 63) := by
    intro w1 hb
    have := graphIte_is (hA.below hb).graph hok.mid.k a b c (hok.mid.liveOk hl1) (hok.mid.liveOk hl2) (hok.mid.liveOk hl3) (by have := hok.mid.nlen; omega)
    rw [ht1, ht2, ht3] at this
    exact this
  have htell : ∀ w1 w2 r S', Below w.heap.size w w1 → GrStep Og w1 gb w2 S' → S.Went S' r (iteT f g h) 63 → Calls Try.prog 44 #[.pointer (some ⟨x, 0, none⟩), .int .i64 (r : Nat)] w2 fun e w' => ∃ a b : Nat, e = .returned (.tuple #[.int .i64 (a : Nat), .int .i64 (b : Nat)]) ∧ PostTell CopI O w x (copC cap names S L) (fullC (copC cap names S L) Lt (iteT f g h)) (toldC (copC cap names S L) (iteT f g h)) (iteT f g h) e w' := by
    intro w1 w2 r S' hb hst hw
    obtain ⟨ho, O', Og', hA', hgr⟩ := (hA.below hb).graphed hst
    have hm := hok.went hw
    refine (copseTell_is hm hA' hok.c300 r (by have := hm.small hw.made.ok; unfold refMax; omega)).mono ?_
    intro e w' hp
    obtain ⟨a, b, he⟩ := hp.val
    exact ⟨a, b, he, told_post hok hw (below_then_only hb ho) (fun q hq => (hgr q hq).imp id (fun e => Nat.le_trans hb.size e)) hp Lt hL⟩
  have HT : Hid _ := htell
  have HI : Hid _ := hite
  have H2 : Hid _ := c2
  have HC2 : Hid _ := hc2
  have HC3 : Hid _ := hc3
  clear htell hite c2 hc2 hc3 hok hA hL hf hg hh hl1 hl2 hl3 ht1 ht2 ht3
  go_enter Try.func25, Try.ntmps25
  go_wp2_with (first
    | (go_at_call 35; refine hc1.mono ?_; clear hc1; rintro e w1 ⟨rfl, hb1⟩)
    | (go_at_call 35; refine (HC2.out _ hb1).mono ?_; clear HC2; rintro e w2 ⟨rfl, hb2⟩; replace hb2 := hb1.trans (hb2.mono hb1.size); clear hb1)
    | (go_at_call 35; refine (HC3.out _ hb2).mono ?_; clear HC3; rintro e w3 ⟨rfl, hb3⟩; replace hb3 := hb2.trans (hb3.mono hb2.size); clear hb2; have q2 := H2.out _ hb3)
    | (go_at_call 46; refine (HI.out _ hb3).mono ?_; clear HI; rintro e w4 ⟨r, S', rfl, hst, hw⟩; have ht := HT.out _ _ _ _ hb3 hst hw; clear HT hst hw)
    | (go_at_call 44; refine ht.mono ?_; clear ht; rintro e w5 ⟨a', b', rfl, hp⟩))
  go_ret2
  exact hp

end Go.Proofs.Ytebfmcafmojlaaa

/-
  slices.Index, slices.Contains over texts; copse: Restrict, Eval.
-/
namespace Go.Proofs.Ytebfmcafmojlaaa
open Go.RowKit Go.Maps
set_option linter.unusedSimpArgs false
set_option linter.unusedVariables false

theorem beq_swap (a b : ByteArray) : (a.toList == b.toList) = (b.toList == a.toList) := by
  rw [Bool.eq_iff_iff, beq_iff_eq, beq_iff_eq]
  exact ⟨Eq.symm, Eq.symm⟩

theorem pow_wrap0 : wrap64 ((2 : Int) ^ 0) = ((2 ^ 0 : Nat) : Int) := by kernel_rfl
theorem pow_wrap1 : wrap64 ((2 : Int) ^ 1) = ((2 ^ 1 : Nat) : Int) := by kernel_rfl
theorem pow_wrap2 : wrap64 ((2 : Int) ^ 2) = ((2 ^ 2 : Nat) : Int) := by kernel_rfl
theorem pow_wrap3 : wrap64 ((2 : Int) ^ 3) = ((2 ^ 3 : Nat) : Int) := by kernel_rfl
theorem pow_wrap4 : wrap64 ((2 : Int) ^ 4) = ((2 ^ 4 : Nat) : Int) := by kernel_rfl
theorem pow_wrap5 : wrap64 ((2 : Int) ^ 5) = ((2 ^ 5 : Nat) : Int) := by kernel_rfl
theorem pow_wrap6 : wrap64 ((2 : Int) ^ 6) = ((2 ^ 6 : Nat) : Int) := by kernel_rfl
theorem pow_wrap (n : Nat) (hn : n ≤ 6) : wrap64 ((2 : Int) ^ n) = ((2 ^ n : Nat) : Int) := by
  have : n = 0 ∨ n = 1 ∨ n = 2 ∨ n = 3 ∨ n = 4 ∨ n = 5 ∨ n = 6 := by omega
  rcases this with rfl | rfl | rfl | rfl | rfl | rfl | rfl
  · exact pow_wrap0
  · exact pow_wrap1
  · exact pow_wrap2
  · exact pow_wrap3
  · exact pow_wrap4
  · exact pow_wrap5
  · exact pow_wrap6

set_option maxHeartbeats 400000 in
theorem slicesIndexS_is (v : Value) (l : List ByteArray) (name : ByteArray) (w : World) {B : Nat} (hr : Reads B w v (l.map Value.string)) (hl : l.length < 1000000000) :
    Calls Try.prog 29 #[v, .string name] w fun e w' => e = .returned (.int .i64 (namedI l name)) ∧ w' = w := by
  rcases hr with ⟨rfl, h0⟩ | ⟨b, off, cap, rfl, hlt, hc⟩
  · have : l = [] := by simpa using h0
    subst this
    go_enter Try.func29, Try.ntmps29
    go_wp2
    go_loop [8] (fun i => i = .int .i64 0) (fun _ => 0)
    case atStart => rfl
    case round =>
      subst hrel
      go_wp2
      go_ret
      exact ⟨rfl, rfl⟩
  · simp only [List.length_map] at hc ⊢
    have hcx : ∀ i, i < l.length → w.cell? ⟨b, off + i, none⟩ = some (.string (l.getD i ByteArray.empty)) := by
      intro i hi
      rw [hc i hi]
      simp [hi]
    clear hc
    go_enter Try.func29, Try.ntmps29
    go_wp2
    go_loop [8] (fun i => ∃ k : Nat, k ≤ l.length ∧ i = .int .i64 k ∧ ∀ j, j < k → ((l.getD j ByteArray.empty).toList == name.toList) = false) (fun i => l.length - (intOf i).toNat)
    case atStart => exact ⟨0, Nat.zero_le _, rfl, fun j hj => by omega⟩
    case round =>
      obtain ⟨k, hk, rfl, hn⟩ := hrel
      have HN : Hid (∀ j, j < k → ((l.getD j ByteArray.empty).toList == name.toList) = false) := hn
      clear hn
      by_cases hlt : k < l.length
      · have hcell := hcx k hlt
        clear hcx
        obtain ⟨x, hx⟩ : ∃ x, x = l.getD k ByteArray.empty := ⟨_, rfl⟩
        rw [← hx] at hcell
        have HX : Hid (x = l.getD k ByteArray.empty) := hx
        clear hx
        cases he : (name.toList == x.toList)
        · have HE : Hid _ := he
          go_wp2
          go_round
          case rel => exact ⟨k + 1, by omega, by go_num, fun j hj => by
            by_cases h : j < k
            · exact HN.out j h
            · have : j = k := by omega
              subst this; rw [← HX.out, beq_swap]; exact HE.out⟩
          case measure => simp [intOf]; omega
        · have HE : Hid _ := he
          go_wp2
          go_ret
          exact ⟨retI (named_hit l name k hlt HN.out (by rw [← HX.out, beq_swap]; exact HE.out)).symm, rfl⟩
      · clear hcx
        go_wp2
        go_ret
        exact ⟨retI (named_miss l name (fun j hj => HN.out j (by omega))).symm, rfl⟩

set_option maxHeartbeats 400000 in
theorem slicesContainsS_is (v : Value) (l : List ByteArray) (name : ByteArray) (w : World) {B : Nat} (hr : Reads B w v (l.map Value.string)) (hl : l.length < 1000000000) :
    Calls Try.prog 42 #[v, .string name] w fun e w' => e = .returned (.bool (decide (0 ≤ namedI l name))) ∧ w' = w := by
  have hi := slicesIndexS_is v l name w hr hl
  obtain ⟨n, hn⟩ : ∃ n, n = namedI l name := ⟨_, rfl⟩
  rw [← hn] at hi ⊢
  clear hn hr
  go_enter Try.func42, Try.ntmps42
  go_wp2_with (go_at_call 29; refine hi.mono ?_; clear hi; rintro e w' ⟨rfl, rfl⟩)
  go_ret
  exact ⟨rfl, rfl⟩

theorem CopAt.namesRead {O : Nat → Prop} {w : World} {x cap : Nat} {names : List ByteArray} {S : GrS} {nv : Value} {gb lb : Nat} {L : List (Value × Value)} {Og : Nat → Prop} (h : CopAt O w x cap names S nv gb lb L Og) : Reads w.heap.size w nv (names.map Value.string) := h.names.reads

set_option maxHeartbeats 400000 in
set_option maxRecDepth 10000 in
theorem copseRestrict_is {O : Nat → Prop} {w : World} {x : Nat} {C : CopS} (hI : CopI O w x C) (Lt : List Tab) (hL : Lists C Lt) (h : Nat) (f : Tab) (name : ByteArray) (b : Bool) (v : Nat) (hf : C.T h = some f) (hv : C.names.findIdx? (fun y => y.toList == name.toList) = some v) :
    Calls Try.prog 27 #[.pointer (some ⟨x, 0, none⟩), .int .i64 h, .string name, .bool b] w (PostTell CopI O w x C (fullC C Lt (given f v b)) (toldC C (given f v b)) (given f v b)) := by
  obtain ⟨cap, names, S, nv, gb, lb, L, Og, rfl, hok, hA⟩ := hI
  obtain ⟨hl1, ht1⟩ := copC_T.1 hf
  have hnI : namedI names name = (v : Nat) := by
    have hv' : names.findIdx? (fun y => y.toList == name.toList) = some v := hv
    unfold namedI
    rw [hv']
  have hvl : v < names.length := by
    have hv' : names.findIdx? (fun y => y.toList == name.toList) = some v := hv
    rw [List.findIdx?_eq_some_iff_getElem] at hv'
    exact hv'.1
  have hn6 := hok.mid.n6
  have hvo : v ∈ S.g.order := (hok.mid.order v).2 hvl
  have hc1 := isLive_yes hok.mid hA hl1
  have c1 : ∀ w1, Below w.heap.size w w1 → w1.cell? ⟨x, 1, none⟩ = some nv ∧ w1.cell? ⟨x, 2, none⟩ = some (.pointer (some ⟨gb, 0, none⟩)) := fun w1 hb => ⟨(hA.below hb).c.2.1, (hA.below hb).c.2.2.1⟩
  have hidx : ∀ w1, Below w.heap.size w w1 → Calls Try.prog 29 #[nv, .string name] w1 fun e w' => e = .returned (.int .i64 (v : Nat)) ∧ w' = w1 := by
    intro w1 hb
    have := slicesIndexS_is nv names name w1 (hA.below hb).namesRead (by omega)
    rw [hnI] at this
    exact this
  have hres : ∀ w1, Below w.heap.size w w1 → Calls Try.prog 48 #[.pointer (some ⟨gb, 0, none⟩), .int .i64 h, .int .i64 v, .bool b] w1 (WentPost Og w1 gb S (given f v b) 63) := by
    intro w1 hb
    have := graphRestrict_is (hA.below hb).graph hok.mid.k h v b (hok.mid.liveOk hl1) hvo (by have := hok.mid.nlen; omega)
    rw [ht1] at this
    exact this
  have htell : ∀ w1 w2 r S', Below w.heap.size w w1 → GrStep Og w1 gb w2 S' → S.Went S' r (given f v b) 63 → Calls Try.prog 44 #[.pointer (some ⟨x, 0, none⟩), .int .i64 (r : Nat)] w2 fun e w' => ∃ a b' : Nat, e = .returned (.tuple #[.int .i64 (a : Nat), .int .i64 (b' : Nat)]) ∧ PostTell CopI O w x (copC cap names S L) (fullC (copC cap names S L) Lt (given f v b)) (toldC (copC cap names S L) (given f v b)) (given f v b) e w' := by
    intro w1 w2 r S' hb hst hw
    obtain ⟨ho, O', Og', hA', hgr⟩ := (hA.below hb).graphed hst
    have hm := hok.went hw
    refine (copseTell_is hm hA' hok.c300 r (by have := hm.small hw.made.ok; unfold refMax; omega)).mono ?_
    intro e w' hp
    obtain ⟨a, b', he⟩ := hp.val
    exact ⟨a, b', he, told_post hok hw (below_then_only hb ho) (fun q hq => (hgr q hq).imp id (fun e => Nat.le_trans hb.size e)) hp Lt hL⟩
  have HT : Hid _ := htell
  have HI : Hid _ := hres
  have H2 : Hid _ := c1
  have HX : Hid _ := hidx
  clear htell hres c1 hidx hok hA hL hf hv hl1 ht1 hnI hvo
  go_enter Try.func27, Try.ntmps27
  go_wp2_with (first
    | (go_at_call 35; refine hc1.mono ?_; clear hc1; rintro e w1 ⟨rfl, hb1⟩; obtain ⟨q1, q2⟩ := H2.out _ hb1)
    | (go_at_call 29; refine (HX.out _ hb1).mono ?_; clear HX; rintro e w2 ⟨rfl, hq⟩; replace hq := hq.symm; subst hq)
    | (go_at_call 48; refine (HI.out _ hb1).mono ?_; clear HI; rintro e w4 ⟨r, S', rfl, hst, hw⟩; have ht := HT.out _ _ _ _ hb1 hst hw; clear HT hst hw)
    | (go_at_call 44; refine ht.mono ?_; clear ht; rintro e w5 ⟨a', b', rfl, hp⟩))
  go_ret2
  exact hp

set_option maxHeartbeats 400000 in
set_option maxRecDepth 10000 in
theorem copseEval_yes {O : Nat → Prop} {w : World} {x : Nat} {C : CopS} (hI : CopI O w x C) (h : Nat) (f : Tab) (a : Nat) (hf : C.T h = some f) (ha : a < 2 ^ C.names.length) :
    Calls Try.prog 28 #[.pointer (some ⟨x, 0, none⟩), .int .i64 h, .int .i64 a] w fun e w' => e = .returned (.tuple #[.bool (f.getLsbD a), .int .i64 0]) ∧ CopStep CopI O w x w' C := by
  have hst := fun w' => hI.step (w' := w')
  obtain ⟨cap, names, S, nv, gb, lb, L, Og, rfl, hok, hA⟩ := hI
  obtain ⟨hl1, ht1⟩ := copC_T.1 hf
  have hc1 := isLive_yes hok.mid hA hl1
  have hn6 := hok.mid.n6
  obtain ⟨nao, ncap, env⟩ := owns_form hA.names.1
  rw [List.length_map] at env
  have ha' : a < 2 ^ names.length := ha
  have hp6 : 2 ^ names.length ≤ 2 ^ 6 := Nat.pow_le_pow_right (by omega) hn6
  have c1 : ∀ w1, Below w.heap.size w w1 → w1.cell? ⟨x, 1, none⟩ = some (.slice nao names.length ncap) ∧ w1.cell? ⟨x, 2, none⟩ = some (.pointer (some ⟨gb, 0, none⟩)) := fun w1 hb => ⟨by rw [← env]; exact (hA.below hb).c.2.1, (hA.below hb).c.2.2.1⟩
  have hev : ∀ w1, Below w.heap.size w w1 → Calls Try.prog 49 #[.pointer (some ⟨gb, 0, none⟩), .int .i64 h, .int .i64 a] w1 fun e w' => e = .returned (.bool (f.getLsbD a)) ∧ Below w1.heap.size w1 w' := by
    intro w1 hb
    have := graphEval_is (hA.below hb).graph hok.mid.k h a (hok.mid.liveOk hl1) (by omega)
    rw [ht1] at this
    exact this
  have HS : Hid _ := hst
  have HE : Hid _ := hev
  have H2 : Hid _ := c1
  have HP : Hid (a < 2 ^ names.length) := ha'
  obtain ⟨n, hn⟩ : ∃ n, n = names.length := ⟨_, rfl⟩
  rw [← hn] at H2 HP hn6
  have hpw := pow_wrap n hn6
  obtain ⟨P, hPP⟩ : ∃ P, P = 2 ^ n := ⟨_, rfl⟩
  rw [← hPP] at hpw HP
  have hap : (a : Int) < (P : Int) := by have := HP.out; omega
  have han : ¬ (a : Int) < 0 := by omega
  have hap' : ¬ (P : Int) ≤ (a : Int) := by omega
  clear hst hev c1 hok hA hf hl1 ht1 ha ha' hp6 env hn hPP HP
  go_enter Try.func28, Try.ntmps28
  go_upto_region 3 with (go_at_call 35; refine hc1.mono ?_; clear hc1; rintro e w1 ⟨rfl, hb1⟩; obtain ⟨q1, q2⟩ := H2.out _ hb1)
  go_wp2_with (go_at_call 49; refine (HE.out _ hb1).mono ?_; clear HE; rintro e w2 ⟨rfl, hb2⟩)
  go_ret2
  exact ⟨rfl, HS.out _ (hb1.trans (hb2.mono hb1.size))⟩

end Go.Proofs.Ytebfmcafmojlaaa

/-
  copse: Nodes.
-/
namespace Go.Proofs.Ytebfmcafmojlaaa
open Go.RowKit Go.Maps
set_option linter.unusedSimpArgs false
set_option linter.unusedVariables false

theorem marked_count {G : Gr} (k : G.Ok) {A : List Bool} {xs : List (RefT G)} (h : MarkedAll G A xs) : (allT G.order ((xs.map (·.1)).map G.tab)).length = (marksTo A A.length).length := by
  refine k.count (xs.map (·.1)) ?_ (marksTo A A.length) (List.Pairwise.filter _ List.nodup_range) ?_
  · intro r hr
    obtain ⟨x, _, rfl⟩ := List.mem_map.1 hr
    exact x.2.1
  · intro i
    rw [mem_marks]
    constructor
    · intro hi
      obtain ⟨n, hn, _⟩ := h.kids i hi
      exact ⟨⟨n, hn⟩, fun T hT hR => h.least T hT (fun x hx => hR x.1 (List.mem_map.2 ⟨x, hx, rfl⟩)) i hi⟩
    · rintro ⟨_, hr⟩
      refine hr (isM A) ?_ ?_
      · intro j hj n hn
        obtain ⟨n', h1, h2, h3⟩ := h.kids j hj
        rw [hn] at h1
        cases h1
        exact ⟨h2, h3⟩
      · intro r hr
        obtain ⟨x, hx, rfl⟩ := List.mem_map.1 hr
        exact h.self x hx

theorem below_putObj (B : Nat) (W : World) (l : Nat) (o' : Obj) (hl : B ≤ l) : Below B W (W.putObj l o') := by
  refine ⟨rfl, rfl, rfl, by simp [World.putObj], fun k hk => ?_⟩
  simp only [World.putObj]
  rw [Array.getElem?_setIfInBounds_ne (by omega)]

theorem live_refs {G : Gr} {hs : List Nat} (h : ∀ x ∈ hs, G.ok x ∧ x < refMax) : ∃ xs : List (RefT G), xs.map (·.1) = hs := by
  induction hs with
  | nil => exact ⟨[], rfl⟩
  | cons a l ih =>
    obtain ⟨xs, h1⟩ := ih (fun x hx => h x (List.mem_cons_of_mem _ hx))
    exact ⟨⟨a, h a (by simp)⟩ :: xs, by simp [h1]⟩

set_option maxHeartbeats 400000 in
set_option maxRecDepth 100000 in
theorem copseNodes_is {O : Nat → Prop} {w : World} {x : Nat} {C : CopS} (hI : CopI O w x C) (hs : List Nat) (fs : List Tab) (fv : Value) (hr : Reads w.heap.size w fv (hs.map natv)) (hlen : hs.length ≤ 2000000) (hT : hs.map C.T = fs.map some) :
    Calls Try.prog 19 #[.pointer (some ⟨x, 0, none⟩), fv] w fun e w' => e = .returned (.tuple #[.int .i64 ((allT C.order fs).length : Nat), .int .i64 0]) ∧ CopStep CopI O w x w' C := by
  have hst := fun w' => hI.step (w' := w')
  obtain ⟨cap, names, S, nv, gb, lb, L, Og, rfl, hok, hA⟩ := hI
  have hlv : ∀ y ∈ hs, liveH L y := by
    intro y hy
    obtain ⟨i, hi, rfl⟩ := List.getElem_of_mem hy
    have h1 := congrArg (·[i]?) hT
    simp only [List.getElem?_map, List.getElem?_eq_getElem hi, Option.map_some] at h1
    have hfl : fs.length = hs.length := by have := congrArg List.length hT; simpa using this.symm
    rw [List.getElem?_eq_getElem (by omega)] at h1
    simp only [Option.map_some, Option.some.injEq] at h1
    exact (copC_T.1 h1).1
  have hfs : hs.map S.g.tab = fs := by
    apply List.ext_getElem?
    intro i
    have h1 := congrArg (·[i]?) hT
    simp only [List.getElem?_map] at h1 ⊢
    cases ch : hs[i]? with
    | none => rw [ch] at h1; cases cf : fs[i]? with
      | none => rfl
      | some f => rw [cf] at h1; simp at h1
    | some y => rw [ch] at h1; cases cf : fs[i]? with
      | none => rw [cf] at h1; simp at h1
      | some f =>
        rw [cf] at h1
        simp only [Option.map_some, Option.some.injEq] at h1
        simp [(copC_T.1 h1).2]
  have hlok : ∀ y ∈ hs, S.g.ok y ∧ y < refMax := fun y hy => ⟨hok.mid.liveOk (hlv y hy), by have := hok.mid.small (hok.mid.liveOk (hlv y hy)); unfold refMax; omega⟩
  obtain ⟨xs, hxs⟩ := live_refs hlok
  have hare := copseAreLive_is (zs := hs.map (fun n : Nat => (n : Int))) (fv := fv) hA.c.2.2.2 (hA.lt x hA.self) hA.live hok.mid.agg (by rw [List.map_map]; exact hr) (by
    intro z hz
    obtain ⟨y, hy, rfl⟩ := List.mem_map.1 hz
    have := hok.mid.small (hok.mid.liveOk (hlv y hy))
    unfold i64ok
    omega) (by simp; omega)
  have hare2 : Calls Try.prog 32 #[.pointer (some ⟨x, 0, none⟩), fv] w fun e w' => e = .returned (.bool true) ∧ Below w.heap.size w w' := by
    refine hare.mono ?_
    rintro e w' ⟨b, rfl, h1, h2⟩
    rw [h1.2 (fun z hz => by
      obtain ⟨y, hy, rfl⟩ := List.mem_map.1 hz
      exact hlv y hy)]
    exact ⟨rfl, h2⟩
  have c2 : ∀ w1, Below w.heap.size w w1 → w1.cell? ⟨x, 2, none⟩ = some (.pointer (some ⟨gb, 0, none⟩)) := fun w1 hb => (hA.below hb).c.2.2.1
  obtain ⟨fao, fn, fcap, efv⟩ : ∃ ao n cap, fv = .slice ao n cap := by
    rcases hr with ⟨h, _⟩ | ⟨b, off, cap, h, _⟩
    · exact ⟨none, 0, 0, h⟩
    · exact ⟨_, _, _, h⟩
  have hcount : ∀ w1, Below w.heap.size w w1 → Calls Try.prog 33 #[.pointer (some ⟨gb, 0, none⟩), .func (.func 55) #[] #[.pointer (some ⟨w1.heap.size, 0, none⟩)]] (w1.drew.alloc (.cells #[fv] 22)) fun e w' => e = .returned (.int .i64 ((allT S.order fs).length : Nat)) ∧ Below w1.heap.size w1 w' := by
    intro w1 hb
    have hb1 : Below w1.heap.size w1 (w1.drew.alloc (.cells #[fv] 22)) := (Below.refl _ w1).drew.alloc (Nat.le_refl _) _
    have hb2 := hb.trans (hb1.mono hb.size)
    have hsz : (w1.drew.alloc (.cells #[fv] 22)).heap.size = w1.heap.size + 1 := by show (w1.heap.push _).size = _; simp
    have hnew : (w1.drew.alloc (.cells #[fv] 22)).heap[w1.heap.size]? = some (.cells #[fv] 22 (0, 0)) := heap_alloc_new w1.drew _
    have hbs := hb.size
    have hseq := refs_stops (G := S.g) 5 (by omega) xs w1.heap.size fv (w1.drew.alloc (.cells #[fv] 22)) (by rw [cell_of_heap hnew]; rfl) (by omega) (by
      have e : xs.map refCell = hs.map natv := by rw [← hxs, List.map_map]; rfl
      rw [e]
      exact (hr.below hb2 (Nat.le_refl _)).mono (by omega)) (by
      have : xs.length = hs.length := by rw [← hxs, List.length_map]
      omega)
    have hre := graphReach_is (hA.below hb2).graph hok.mid.k (gf := 55) (by intro args w; rfl) hseq (fun h1 h2 => h1.trans h2) (fun W W' _ h => h) (fun W l o o' hl _ _ _ => below_putObj _ W l o' hl)
    refine (graphCount_is hre).mono ?_
    rintro e w' ⟨xs', A, rfl, hm, rfl, hb3⟩
    refine ⟨?_, hb1.trans (hb3.mono hb1.size)⟩
    have := marked_count hok.mid.k hm
    rw [hxs, hfs] at this
    rw [← this]
    rfl
  subst efv
  have HS : Hid _ := hst
  have HC : Hid _ := hcount
  have H2 : Hid _ := c2
  have hrefs := fun W => copseRefs_is fao fn fcap W
  have hN : (copC cap names S L).order = S.order := rfl
  rw [hN]
  obtain ⟨N, hNN⟩ : ∃ N, N = (allT S.order fs).length := ⟨_, rfl⟩
  rw [← hNN] at HC ⊢
  clear hst hcount c2 hare hlv hfs hlok hxs hok hA hr hT hNN hN
  go_enter Try.func19, Try.ntmps19
  go_upto_region 3 with (go_at_call 32; refine hare2.mono ?_; clear hare2; rintro e w1 ⟨rfl, hb1⟩; have q2 := H2.out _ hb1)
  have hcnt := HC.out _ hb1
  go_region_held (fun w' => w'.cell? ⟨x, 2, none⟩ = some (.pointer (some ⟨gb, 0, none⟩))) (go_keep) (first | (go_at_call 34; refine (hrefs _).mono ?_; clear hrefs; rintro e w2 ⟨rfl, rfl⟩) | (go_at_call 33; refine hcnt.mono ?_; clear hcnt; rintro e w3 ⟨rfl, hb3⟩; have q3 := H2.out _ (hb1.trans (hb3.mono hb1.size))))
  all_goals
    go_wp2_with fail
    go_ret2
    exact ⟨rfl, HS.out _ (hb1.trans (hb3.mono hb1.size))⟩

end Go.Proofs.Ytebfmcafmojlaaa

