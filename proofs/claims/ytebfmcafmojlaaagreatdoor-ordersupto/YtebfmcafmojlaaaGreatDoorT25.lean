/-
  copse: Var, where there is room.
-/
import Derived.Deep.RegionHeldLaw
import Derived.Test.YtebfmcafmojlaaaGreatDoorT24
namespace Go.Proofs.YtebfmcafmojlaaaGreatDoor
open Go.RowKit Go.Maps
set_option linter.unusedSimpArgs false
set_option linter.unusedVariables false

theorem Tryz.infoStr : (Tryz.prog.info? 9).map (fun i => (i.zero, i.size, i.bytes)) = some (some (.string ByteArray.empty), 1, 16) := by kernel_rfl
theorem one_cell_s (u : ByteArray) : ∀ x ∈ [Value.string u], x.oneCell' = true := by intro x hx; simp at hx; subst hx; rfl

/-- A call by its contract, as one step of a region that draws. -/
theorem step_call {P : Program} {ops : Array Oper} {o : Oper} {a : Act} {w : World} {K : Act → World → Prop} {Q : Exit → Act → World → Prop} {E : Prop}
    (hg : o.guard = none) (f : FuncId) (args : Array Operand) (tys : Array TypeId) (ho : o.op = Op.call { callee := Callee.value (Operand.func f), args := args, argTypes := tys })
    (vs : Array Value) (hargs : args.map a.eval = vs) (eg : ∀ w, (callFunc f vs).run P w = .ok (.enter f vs) w) {post : Ending → World → Prop} (hc : Calls P f vs w post) (hK : ∀ e w', post e w' → ∃ v, e = .returned v ∧ K (a.put o.dst v) w') :
    if Region.wanted o (yielded ops a.tmps) = true then Oper.wp P o a w K Q else E := by
  have hw : Region.wanted o (yielded ops a.tmps) = true := by simp [Region.wanted, hg]
  rw [if_pos hw]
  unfold Oper.wp execOp
  simp only [ho, resolve, invoke, Act.eval, hargs, Sem.run_bind, Sem.run_pure, Result.andThen_ok, Deferred.ofValue, Array.append_empty, Array.empty_append, eg]
  rw [Oper.upon_enter]
  refine hc.mono ?_
  intro e w' h
  obtain ⟨v, rfl, hk⟩ := hK e w' h
  exact hk

set_option maxHeartbeats 1000000 in
set_option maxRecDepth 10000 in
theorem copseVar_room {O : Nat → Prop} {w : World} {x : Nat} {cap : Nat} {names : List ByteArray} {S : GrS} {nv : Value} {gb lb : Nat} {L : List (Value × Value)} {Og : Nat → Prop} (hok : CopOk cap names S L) (hA : CopAt O w x cap names S nv gb lb L Og)
    (Lt : List Tab) (hL : Lists (copC cap names S L) Lt) (name : ByteArray) (hsz : name.size ≤ 1000) (hnm : isNameB name = true) (hnd : namedI names name = -1) (h6 : names.length < 6) (hroom : S.nums.length ≠ cap) :
    Calls Tryz.prog 19 #[.pointer (some ⟨x, 0, none⟩), .string name] w (PostTell CopI O w x (copC cap names S L) (fullV (copC cap names S L) Lt) (varC (copC cap names S L) name) (mask names.length)) := by
  obtain ⟨i0, hi, hz0, hz1, hz2⟩ := info_parts Tryz.infoStr
  obtain ⟨nao, ncap, env⟩ := owns_form hA.names.1
  rw [List.length_map] at env
  subst env
  have hol := hok.mid.olen
  have hn0 : name.size ≠ 0 := by
    intro e
    have := isName_short name (.inl (by omega))
    rw [hnm] at this
    cases this
  have hisn := isName_is name w (by unfold maxLen; omega)
  rw [hnm] at hisn
  have hcon : ∀ w1, Below w.heap.size w w1 → Calls Tryz.prog 53 #[.slice nao names.length ncap, .string name] w1 fun e w' => e = .returned (.bool false) ∧ w' = w1 := by
    intro w1 hb
    have := slicesContainsS_is (.slice nao names.length ncap) names name w1 (hA.below hb).namesRead (by omega)
    rw [hnd] at this
    exact this
  have hcell : ∀ w1, Below w.heap.size w w1 → w1.cell? ⟨x, 0, none⟩ = some (.int .i64 (cap : Nat)) ∧ w1.cell? ⟨x, 1, none⟩ = some (.slice nao names.length ncap) ∧ w1.cell? ⟨x, 2, none⟩ = some (.pointer (some ⟨gb, 0, none⟩)) ∧ w1.frozen? ⟨x, 1, none⟩ = false := by
    intro w1 hb
    obtain ⟨a, b, c, d⟩ := (hA.below hb).c
    exact ⟨a, b, c, frozen_of_heap (hA.below hb).cells⟩
  have hsize : ∀ w1, Below w.heap.size w w1 → Calls Tryz.prog 48 #[.pointer (some ⟨gb, 0, none⟩)] w1 fun e w' => e = .returned (.int .i64 (S.nums.length : Nat)) ∧ w' = w1 := by
    intro w1 hb
    obtain ⟨_, _, _, _, _, _, _, hG⟩ := (hA.below hb).graph
    exact graphSize_is hG
  have hclone : ∀ w1, Calls Tryz.prog 54 #[.string name] w1 fun e w' => e = .returned (.string name) ∧ Below w1.heap.size w1 w' := fun w1 => stringsClone_is name w1 hn0 hsz
  have hrow : ∀ w1, Below w.heap.size w w1 → w1.ownsRow 0 9 1 (.slice nao names.length ncap) names.length (names.map Value.string) := by
    intro w1 hb
    have := (hA.below hb).names.1
    rw [List.length_map] at this
    exact this
  have happ : ∀ w1 w2 v' (o : Obj), Below w.heap.size w w1 → w2.ownsRow 0 9 1 v' (names.length + 1) (names.map Value.string ++ [Value.string name]) → (w1.alloc o).grownBy w2 (Value.slice nao names.length ncap).ownBlock → Placed (w1.alloc o) (.slice nao names.length ncap) v' →
      (w2.cell? ⟨x, 1, none⟩ = some (.slice nao names.length ncap) ∧ w2.frozen? ⟨x, 1, none⟩ = false ∧ (w2.setCell ⟨x, 1, none⟩ v').cell? ⟨x, 2, none⟩ = some (.pointer (some ⟨gb, 0, none⟩))) ∧
      Calls Tryz.prog 56 #[.pointer (some ⟨gb, 0, none⟩)] (w2.setCell ⟨x, 1, none⟩ v') fun e w' => ∃ r : Nat, e = .returned (.int .i64 (r : Nat)) ∧ Calls Tryz.prog 55 #[.pointer (some ⟨x, 0, none⟩), .int .i64 (r : Nat)] w' fun e w' => ∃ a b' : Nat, e = .returned (.tuple #[.int .i64 (a : Nat), .int .i64 (b' : Nat)]) ∧ PostTell CopI O w x (copC cap names S L) (fullV (copC cap names S L) Lt) (varC (copC cap names S L) name) (mask names.length) e w' := by
    intro w1 w2 v' o hb ho hg hp
    have hA1 := hA.below hb
    obtain ⟨n1, n2, n3⟩ := hA1.ne
    obtain ⟨ho3, O3, hA3, hg3⟩ := hA1.named ho hg hp rfl
    have hx2 : w2.heap[x]? = _ := ((hg.block x (by simp; have := hA1.lt x hA1.self; omega) (fun e => n2 e.symm)).trans ((((Below.refl w1.heap.size w1).alloc (Nat.le_refl _) o).block x (hA1.lt x hA1.self)))).trans hA1.cells
    refine ⟨⟨by rw [cell_of_heap hx2]; rfl, frozen_of_heap hx2, hA3.c.2.2.1⟩, ?_⟩
    have hn : S.order.length ∉ S.order := fun e => by have := (hok.mid.order _).1 e; omega
    refine (graphAddVariable_is hA3.graph hok.mid.k hn (by omega) (by have := hok.mid.nlen; omega)).mono ?_
    rintro e w4 ⟨r, vv, S', rfl, hst, hw⟩
    rw [hol] at hw
    refine ⟨r, rfl, ?_⟩
    obtain ⟨ho4, O4, Og4, hA4, hg4⟩ := hA3.graphed hst
    have hm := (hok.vary h6 name vv).went hw
    refine (copseTell_is hm hA4 hok.c300 r (by have := hm.small hw.made.ok; unfold refMax; omega)).mono ?_
    intro e w5 hpt
    obtain ⟨a, b', he⟩ := hpt.val
    refine ⟨a, b', he, var_post hok h6 hroom hw ((below_then_only hb ho3).trans ho4 ?_) ?_ hpt Lt hL⟩
    · exact fun q hq => (hg3 q hq).imp id (fun e => Nat.le_trans hb.size e)
    · refine Grows.trans (b := w2.setCell ⟨x, 1, none⟩ v') (O' := O3) (fun q hq => (hg3 q hq).imp id (fun e => Nat.le_trans hb.size e)) hg4 ?_
      exact Nat.le_trans hb.size ho3.size
  have hne : ((S.nums.length : Int) == (cap : Int)) = false := by simp; omega
  have hn6 : ((names.length : Int) == 6) = false := by simp; omega
  have HA : Hid _ := happ
  have HC : Hid _ := hcell
  have HS : Hid _ := hsize
  have HR : Hid _ := hrow
  have HN : Hid _ := hcon
  have HCl : Hid _ := hclone
  have hbd : names.length ≤ 5 := by omega
  obtain ⟨N, hN⟩ : ∃ N, N = S.nums.length := ⟨_, rfl⟩
  obtain ⟨n, hnn⟩ : ∃ n, n = names.length := ⟨_, rfl⟩
  rw [← hN] at hne HS
  rw [← hnn] at hn6 hbd HA HC HR HN ⊢
  clear happ hcell hsize hrow hcon hclone hok hA hL hnm hnd h6 hroom hol hn0 hN hnn
  go_enter Tryz.func19, Tryz.ntmps19
  go_upto_region 5 with (first
    | (go_at_call 52; refine hisn.mono ?_; clear hisn; rintro e w1 ⟨rfl, hb1⟩; obtain ⟨q0, q1, q2, q3⟩ := HC.out _ hb1)
    | (go_at_call 53; refine (HN.out _ hb1).mono ?_; clear HN; rintro e w2 ⟨rfl, hq⟩; replace hq := hq.symm; subst hq))
  have hs5 := HS.out _ hb1.drew
  go_region_held (fun w' => w'.cell? ⟨x, 0, none⟩ = some (.int .i64 (cap : Nat)) ∧ w'.cell? ⟨x, 2, none⟩ = some (.pointer (some ⟨gb, 0, none⟩))) (go_keep) (first | (go_at_call 48; refine hs5.mono ?_; clear hs5; rintro e w3 ⟨rfl, rfl⟩))
  all_goals
    go_upto_region 7 with fail
    clear q0 q2 hne hn6
    go_region_law (first
      | (refine step_append_placed rfl (.tmp 40) (.tmp 43) 39 rfl 0 9 i0 (.string ByteArray.empty) 1 16 Tryz.underlying39 hi hz0 hz1 hz2 rfl (by decide) (.slice nao n ncap) n (names.map Value.string) (by simp [Act.eval, Act.put]) ((HR.out _ hb2).alloc _) _ 1 1 [Value.string name] (by simp [Act.eval, Act.put]; rfl) rfl ?_ ?_ ?_ ?_ ?_ ?_; exact cell_one_new _ _ _; exact one_cell_s _; exact le_max5 (by omega); omega; exact Nat.zero_le _; intro v' w3 ho hg hp; obtain ⟨vao, vcap, rfl⟩ := owns_form ho; obtain ⟨⟨a1, a2, a3⟩, hadd⟩ := HA.out _ _ _ _ hb2 ho hg hp; clear ho hg hp HA)
      | (refine step_call rfl 54 #[.tmp 41] #[9] rfl #[.string name] (by simp [Act.eval, Act.put]) (fun _ => rfl) (HCl.out _) ?_; clear HCl; rintro e w2 ⟨rfl, hbc⟩; have hb2 := hb1.drew.drew.trans (hbc.mono hb1.size); clear hbc; obtain ⟨r0, r1, r2, r3⟩ := HC.out _ hb2; clear r0 r2; have r4 := (HC.out _ (hb2.alloc hb2.size (.cells #[.string name] 9))).2.1; refine ⟨_, rfl, ?_⟩))
    all_goals
      clear a1 a2 r1 r3 r4 HC HR HS
      go_wp2_with (first
        | (go_at_call 56; refine hadd.mono ?_; clear hadd; rintro e w4 ⟨r, rfl, ht⟩)
        | (go_at_call 55; refine ht.mono ?_; clear ht; rintro e w5 ⟨a', b', rfl, hp⟩))
      go_ret2
      exact hp

theorem copseVar_is {O : Nat → Prop} {w : World} {x : Nat} {C : CopS} (hI : CopI O w x C) (Lt : List Tab) (hL : Lists C Lt) (name : ByteArray) (hsz : name.size ≤ 1000) (hnm : isNameB name = true) (hnd : namedI C.names name = -1) (h6 : C.names.length < 6) (hroom : ¬ fullV C Lt) :
    Calls Tryz.prog 19 #[.pointer (some ⟨x, 0, none⟩), .string name] w (PostTell CopI O w x C (fullV C Lt) (varC C name) (mask C.names.length)) := by
  obtain ⟨cap, names, S, nv, gb, lb, L, Og, rfl, hok, hA⟩ := hI
  refine copseVar_room hok hA Lt hL name hsz hnm hnd h6 ?_
  intro e
  apply hroom
  unfold fullV
  have := hok.var_count h6 Lt hL
  show ((cap : Nat) : Int) < ((allT (S.order ++ [names.length]) (withT Lt [mask names.length])).length : Int)
  rw [this]
  omega

end Go.Proofs.YtebfmcafmojlaaaGreatDoor

