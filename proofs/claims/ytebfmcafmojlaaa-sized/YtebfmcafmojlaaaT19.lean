/-
  copse: liveConstants, New.
-/
import Derived.Test.YtebfmcafmojlaaaT18
namespace Go.Proofs.Ytebfmcafmojlaaa
open Go.RowKit Go.Maps
set_option linter.unusedSimpArgs false
set_option linter.unusedVariables false

def LiveCPost (w : World) (e : Ending) (w' : World) : Prop :=
  e = .returned (.map (some w.heap.size)) ∧ ∃ L, Below w.heap.size w w' ∧ w.heap.size < w'.heap.size ∧ MapIs Try.prog 72 w' w.heap.size L ∧ ∀ p, p ∈ L ↔ p = (natv 0, .agg #[]) ∨ p = (natv 1, .agg #[])

set_option maxHeartbeats 400000 in
set_option maxRecDepth 10000 in
theorem liveConstants_is (w : World) : Calls Try.prog 37 #[] w (LiveCPost w) := by
  have hm0 := MapIs.made Try.prog 72 w
  have hmm : ∀ (t : TypeId) (w : World), (Instr.makeMap t none).run Try.prog w = .ok (.map (some w.heap.size)) (w.alloc (.map #[] 0)) := fun _ _ => rfl
  obtain ⟨w1, L1, hrun1, a1, t1, q1, _, _⟩ := hm0.store ref_keyed Try.underlying60 (key := .int .i64 0) (val := .agg #[]) (ref_key_ok 0 (by decide))
  obtain ⟨w2, L2, hrun2, a2, t2, q2, _, _⟩ := a1.store ref_keyed Try.underlying60 (key := .int .i64 1) (val := .agg #[]) (ref_key_ok 1 (by decide))
  have hb0 : Below w.heap.size w (w.alloc (.map #[] 0)) := (Below.refl _ w).alloc (Nat.le_refl _) _
  have hs0 : (w.alloc (.map #[] 0)).heap.size = w.heap.size + 1 := by simp
  have hb1 : Below w.heap.size (w.alloc (.map #[] 0)) w1 := ⟨t1.1.os, t1.1.tape, t1.1.output, by rw [t1.2]; exact Nat.le_refl _, fun k hk => t1.1.block k (by omega) (by simp; omega)⟩
  have hb2 : Below w.heap.size w1 w2 := ⟨t2.1.os, t2.1.tape, t2.1.output, by rw [t2.2]; exact Nat.le_refl _, fun k hk => t2.1.block k (by rw [t1.2]; omega) (by simp; omega)⟩
  have hp : LiveCPost w (.returned (.map (some w.heap.size))) w2 := by
    refine ⟨rfl, L2, hb0.trans (hb1.trans hb2), by rw [t2.2, t1.2]; omega, a2, ?_⟩
    intro p
    rw [q2, q1]
    constructor
    · rintro (h | ⟨h | ⟨h, _⟩, _⟩)
      · exact .inr h
      · exact .inl h
      · simp at h
    · rintro (h | h)
      · exact .inr ⟨.inl h, by rw [h]; simp [natv]⟩
      · exact .inl h
  have HP : Hid (LiveCPost w (.returned (.map (some w.heap.size))) w2) := hp
  clear hp hm0 a1 t1 q1 a2 t2 q2 hb0 hs0 hb1 hb2
  go_enter Try.func37, Try.ntmps37
  go_wp2
  go_ret
  exact HP.out

def NewPost (w : World) (cap : Nat) (e : Ending) (w' : World) : Prop :=
  ∃ x, e = .returned (.tuple #[.pointer (some ⟨x, 0, none⟩), .int .i64 0]) ∧ ∃ O, CopI O w' x ⟨cap, [], [], T0 1 0⟩ ∧ (∀ b, O b → w.heap.size ≤ b) ∧ Below w.heap.size w w'

theorem new_post {w w1 w2 w3 : World} {cap gb : Nat} (h1 : 1 ≤ cap) (h3 : cap ≤ 300) (hg : w.heap.size ≤ gb) (hb1 : Below w.heap.size w w1) (hG : GrIs (fun b => w.heap.size ≤ b ∧ b < w1.heap.size) w1 gb S0) (hl : LiveCPost w1 (.returned (.map (some w1.heap.size))) w2)
    (h4 : w3 = w2.alloc (.cells #[.int .i64 (cap : Nat), .slice none 0 0, .pointer (some ⟨gb, 0, none⟩), .map (some w1.heap.size)] 62)) : NewPost w cap (.returned (.tuple #[.pointer (some ⟨w2.heap.size, 0, none⟩), .int .i64 0])) w3 := by
  obtain ⟨_, L, hb2, hs2, hm, hL⟩ := hl
  have hb3 : Below w2.heap.size w2 w3 := by rw [h4]; exact (Below.refl _ w2).alloc (Nat.le_refl _) _
  have hs3 : w3.heap.size = w2.heap.size + 1 := by rw [h4]; simp
  have hc3 : w3.heap[w2.heap.size]? = some (.cells #[.int .i64 (cap : Nat), .slice none 0 0, .pointer (some ⟨gb, 0, none⟩), .map (some w1.heap.size)] 62 (0, 0)) := by rw [h4]; exact heap_alloc_new w2 _
  have hs1 := hb1.size
  have hG2 := (hG.below hb2).below (hb3.mono (Nat.le_refl _))
  refine ⟨w2.heap.size, rfl, fun b => w.heap.size ≤ b ∧ b < w3.heap.size, ⟨cap, [], S0, .slice none 0 0, gb, w1.heap.size, L, fun b => w.heap.size ≤ b ∧ b < w1.heap.size, ?_, ⟨⟨S0_ok, S0_full, ?_, (hL _).2 (.inl rfl), (hL _).2 (.inr rfl), by intro v; simp [S0], rfl, by simp, fun _ h => h.elim, ?_, by simp [S0], by decide⟩, h1, h3, ?_⟩, ?_⟩, fun b hb => hb.1, ?_⟩
  · have hT : T0 1 0 = (copC cap [] S0 L).T := copT_ext (fun r f => by
      have hl : liveH L r ↔ r = 0 ∨ r = 1 := by
        unfold liveH
        rw [hL]
        constructor
        · rintro (e | e)
          · exact .inl (natv_inj (congrArg Prod.fst e))
          · exact .inr (natv_inj (congrArg Prod.fst e))
        · rintro (e | e) <;> subst e
          · exact .inl rfl
          · exact .inr rfl
      rw [copC_T, hl]
      unfold T0
      by_cases e1 : r = 1
      · subst e1
        rw [if_pos rfl, S0_ok.tab1]
        simp
      · rw [if_neg e1]
        by_cases e0 : r = 0
        · subst e0
          rw [if_pos rfl, S0_ok.tab0]
          simp
        · rw [if_neg e0]
          simp [e0, e1])
    unfold copC at hT ⊢
    simp only [CopS.mk.injEq, true_and]
    exact ⟨rfl, hT⟩
  · intro p hp
    rcases (hL p).1 hp with e | e
    · exact ⟨0, e, .inl rfl⟩
    · exact ⟨1, e, .inl rfl⟩
  · rintro i ⟨n, hn⟩
    rw [S0_node] at hn; cases hn
  · have : S0.nums = [] := by
      apply List.eq_nil_iff_forall_not_mem.2
      intro i hi
      obtain ⟨n, hn⟩ := GrS.mem_nums.1 hi
      rw [S0_node] at hn; cases hn
    rw [this]
    simp
  · refine ⟨fun b hb => hb.2, ⟨by omega, by omega⟩, ⟨by omega, by omega⟩, fun b hb => ⟨hb.1, by omega⟩, hc3, ⟨World.ownsRow_nil _ _ _ _, fun k hk => by cases hk⟩, hG2, hm.same (hb3.block _ hs2), fun h => by omega, fun h => by omega, fun b hb => by cases hb⟩
  · exact hb1.trans ((hb2.mono (by omega)).trans (hb3.mono (by omega)))

set_option maxHeartbeats 400000 in
set_option maxRecDepth 10000 in
theorem copseNew_yes (cap : Nat) (w : World) (h1 : 1 ≤ cap) (h3 : cap ≤ 300) : Calls Try.prog 23 #[.int .i64 (cap : Nat)] w (NewPost w cap) := by
  have hg := graphNew_is w
  have hlc := fun W => liveConstants_is W
  have hfin : ∀ w1 w2 gb, w.heap.size ≤ gb → Below w.heap.size w w1 → GrIs (fun b => w.heap.size ≤ b ∧ b < w1.heap.size) w1 gb S0 → LiveCPost w1 (.returned (.map (some w1.heap.size))) w2 → NewPost w cap (.returned (.tuple #[.pointer (some ⟨w2.heap.size, 0, none⟩), .int .i64 0])) (w2.alloc (.cells #[.int .i64 (cap : Nat), .slice none 0 0, .pointer (some ⟨gb, 0, none⟩), .map (some w1.heap.size)] 62)) := fun w1 w2 gb a b c d => new_post h1 h3 a b c d rfl
  have HF : Hid _ := hfin
  have n1 : ¬ (cap : Int) < 1 := by omega
  have n3 : ¬ (300 : Int) < (cap : Int) := by omega
  clear hfin
  go_enter Try.func23, Try.ntmps23
  go_wp2_with (first
    | (go_at_call 40; refine hg.mono ?_; clear hg; rintro e w1 ⟨gb, rfl, hgb, hb1, hG⟩)
    | (go_at_call 37; refine (hlc _).mono ?_; clear hlc; rintro e w2 hp; have hv := hp.1; subst hv))
  go_ret2
  exact HF.out _ _ _ hgb hb1 hG hp

end Go.Proofs.Ytebfmcafmojlaaa

