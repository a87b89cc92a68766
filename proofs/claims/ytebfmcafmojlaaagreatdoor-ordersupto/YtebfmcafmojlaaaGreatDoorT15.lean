/-
  graph: Size, level.
-/
import Derived.BigQuiet
import Derived.Deep.RegionHeld
import Derived.Test.YtebfmcafmojlaaaGreatDoorT14
namespace Go.Proofs.YtebfmcafmojlaaaGreatDoor
open Go.RowKit Go.Maps
set_option linter.unusedSimpArgs false
set_option linter.unusedVariables false

/-- The numbers that have a node. -/
def GrS.nums (S : GrS) : List Nat := (List.range S.nl.length).filter (fun i => (S.nl.getD i none).isSome)

theorem GrS.mem_nums {S : GrS} {i : Nat} : i ∈ S.nums ↔ S.g.has i := by
  unfold GrS.nums Gr.has
  rw [List.mem_filter, List.mem_range]
  constructor
  · rintro ⟨_, h⟩
    obtain ⟨n, hn⟩ := Option.isSome_iff_exists.1 h
    exact ⟨n, hn⟩
  · rintro ⟨n, hn⟩
    exact ⟨GrS.node_lt hn, by have h' : S.nl.getD i none = some n := hn; rw [h']; rfl⟩

theorem GrS.nums_nodup (S : GrS) : S.nums.Nodup := List.Pairwise.filter _ List.nodup_range

theorem natv_inj {a b : Nat} (h : natv a = natv b) : a = b := by
  unfold natv at h
  simp at h
  omega

theorem GrAt.count {O : Nat → Prop} {w : World} {gb : Nat} {S : GrS} {ov nv fv : Value} {mb rb : Nat} {M R : List (Value × Value)} (h : GrAt O w gb S ov nv fv mb rb M R) : M.length = S.nums.length := by
  have h1 := h.nums.nodup
  have h2 : (S.nums.map (fun i => (ndKey ((S.nl.getD i none).getD ⟨0, 0, 0⟩), natv i))).Nodup := by
    rw [List.Nodup, List.pairwise_map]
    exact S.nums_nodup.imp (fun hne e => hne (natv_inj (congrArg Prod.snd e)))
  have h3 := (List.perm_ext_iff_of_nodup h1 h2).2 (by
    intro p
    rw [h.mok, List.mem_map]
    constructor
    · rintro ⟨i, n, hn, rfl⟩
      refine ⟨i, GrS.mem_nums.2 ⟨n, hn⟩, ?_⟩
      have h' : S.nl.getD i none = some n := hn
      rw [h']; rfl
    · rintro ⟨i, hi, rfl⟩
      obtain ⟨n, hn⟩ := GrS.mem_nums.1 hi
      refine ⟨i, n, hn, ?_⟩
      have h' : S.nl.getD i none = some n := hn
      rw [h']; rfl)
  rw [h3.length_eq, List.length_map]

theorem wpList_len_is {P : Program} {w : World} {ops : Array Oper} {rest : List Oper} {o : Oper} {a : Act} {Q : Exit → Act → World → Prop} (hg : o.guard = none) (m : Operand) (t : TypeId) (hop : o.op = Op.call { callee := Callee.builtin Builtin.len, args := #[m], argTypes := #[t] })
    (k e : TypeId) (ht : P.underlying t = some (.map k e)) (b : Nat) (L : List (Value × Value)) (hm : a.eval m = .map (some b)) (hown : MapIs P k w b L)
    (hK : wpList P ops Q rest (a.put o.dst (.int .i64 (L.length : Nat))) w) : wpList P ops Q (o :: rest) a w := by
  refine wpList_plain hg fun K' hK' => ?_
  unfold Oper.wp
  simp [execOp, hop, resolve, invoke, builtin, hm, hown.len ht o.type, Result.andThen]
  exact hK' _ _ hK

theorem graphSize_is {O : Nat → Prop} {w : World} {gb : Nat} {S : GrS} {ov nv fv : Value} {mb rb : Nat} {M R : List (Value × Value)} (h : GrAt O w gb S ov nv fv mb rb M R) :
    Calls Tryz.prog 48 #[.pointer (some ⟨gb, 0, none⟩)] w fun e w' => e = .returned (.int .i64 (S.nums.length : Nat)) ∧ w' = w := by
  have hc := h.count
  obtain ⟨c0, c1, c2, c3, c4⟩ := h.c
  have hm := h.nums
  clear h
  go_enter Tryz.func48, Tryz.ntmps48
  go_wp2_with (at_len; refine wpList_len_is rfl _ 153 rfl 214 3 Tryz.underlying153 mb M rfl hm ?_)
  go_ret
  exact ⟨retI (by omega), rfl⟩

theorem idxI_mem {l : List Nat} {v : Nat} (h : v ∈ l) : idxI l v = (l.idxOf v : Nat) := by unfold idxI; rw [if_pos h]

theorem order_reads {O : Nat → Prop} {w : World} {gb : Nat} {S : GrS} {ov nv fv : Value} {mb rb : Nat} {M R : List (Value × Value)} (h : GrAt O w gb S ov nv fv mb rb M R) : ∃ ao cap, ov = .slice ao S.order.length cap ∧ Reads w.heap.size w (.slice ao S.order.length cap) (S.order.map natv) := by
  obtain ⟨ao, cap, e⟩ := owns_form h.order.1
  rw [List.length_map] at e
  refine ⟨ao, cap, e, ?_⟩
  have := h.order.reads
  rw [e] at this
  exact this

set_option maxHeartbeats 1000000 in
set_option maxRecDepth 10000 in
theorem graphLevel_w {O : Nat → Prop} {w : World} {gb : Nat} {S : GrS} (hG : GrIs O w gb S) (k : S.g.Ok) (r : Nat) (hr : S.g.ok r) :
    Calls Tryz.prog 98 #[.pointer (some ⟨gb, 0, none⟩), .int .i64 r] w fun e w' => e = .returned (.int .i64 (S.g.lev r : Nat)) ∧ w' = (if r / 2 = 0 then w else w.drew) := by
  obtain ⟨ov, nv, fv, mb, rb, M, R, h⟩ := hG
  obtain ⟨c0, c1, c2, c3, c4⟩ := h.c
  obtain ⟨ao, cap, eo, hro⟩ := order_reads h
  subst eo
  have hol := h.ol
  by_cases hz : r / 2 = 0
  · have hcon := refConstant_is r
    have hd : decide (r / 2 = 0) = true := by simp [hz]
    rw [hd] at hcon
    have hlev := Gr.lev_const k hz
    rw [hlev]
    have HL : Hid (S.g.order.length = S.order.length) := rfl
    simp only [hz, if_true]
    clear hr h k
    go_enter Tryz.func98, Tryz.ntmps98
    go_wp2_with (go_at_call 140; refine (hcon _).mono ?_; rintro e w1 ⟨rfl, hq⟩; replace hq := hq.symm; subst hq)
    go_ret
    exact ⟨retI (by rw [HL.out]), rfl⟩
  · obtain ⟨n, hn⟩ := Gr.ok_node hr hz
    have hcon := refConstant_is r
    have hd : decide (r / 2 = 0) = false := by simp [hz]
    rw [hd] at hcon
    obtain ⟨nb, ncap, en, hnb, hob, hnode⟩ := h.nodeAt
    subst en
    obtain ⟨hi, d0, d1, d2⟩ := hnode _ _ hn
    have hlev := Gr.lev_node hn
    rw [hlev]
    have hidx : idxI S.order n.v = (S.g.idx n.v : Nat) := idxI_mem (k.var hn)
    have hix := slicesIndex_is (.slice ao S.order.length cap) S.order n.v
    have hnum := refNumber_is r
    obtain ⟨q, hq⟩ : ∃ q, q = r / 2 := ⟨_, rfl⟩
    rw [← hq] at hi d0 hnum
    have HQ : Hid (q = r / 2) := hq
    simp only [hz, if_false]
    clear hr h k hnode hn hlev hd d1 d2 hq
    go_enter Tryz.func98, Tryz.ntmps98
    go_wp2_with (go_at_call 140; refine (hcon _).mono ?_; rintro e w1 ⟨rfl, hq⟩; replace hq := hq.symm; subst hq)
    go_region_held (fun w' => w'.cell? ⟨gb, 0, none⟩ = some (.slice ao S.order.length cap) ∧ w'.cell? ⟨gb, 1, none⟩ = some (.slice (some ⟨nb, 0, none⟩) S.nl.length ncap) ∧ w'.cell? ⟨nb, q * 3, none⟩ = some (.int .i64 (n.v : Nat))) (go_keep) (first | (go_at_call 149; refine (hnum _).mono ?_; rintro e w1 ⟨rfl, hq⟩; replace hq := hq.symm; subst hq) | (go_at_call 81; refine (hix _ (hro.below (Below.refl _ _).drew (Nat.le_refl _)) (by omega)).mono ?_; rintro e w1 ⟨rfl, hq⟩; replace hq := hq.symm; subst hq))
    all_goals
      go_wp2
      go_ret
      exact ⟨by first | rfl | exact retI hidx, rfl⟩

theorem graphLevel_is {O : Nat → Prop} {w : World} {gb : Nat} {S : GrS} (hG : GrIs O w gb S) (k : S.g.Ok) (r : Nat) (hr : S.g.ok r) :
    Calls Tryz.prog 98 #[.pointer (some ⟨gb, 0, none⟩), .int .i64 r] w fun e w' => e = .returned (.int .i64 (S.g.lev r : Nat)) ∧ Below w.heap.size w w' := by
  refine (graphLevel_w hG k r hr).mono ?_
  rintro e w' ⟨he, hw⟩
  refine ⟨he, ?_⟩
  rw [hw]
  split
  · exact Below.refl _ _
  · exact (Below.refl _ _).drew

end Go.Proofs.YtebfmcafmojlaaaGreatDoor

/-
  graph: branch.
-/
namespace Go.Proofs.YtebfmcafmojlaaaGreatDoor
open Go.RowKit Go.Maps
set_option linter.unusedSimpArgs false
set_option linter.unusedVariables false

theorem neq_nat (a b : Nat) : ((a : Int) != (b : Int)) = (a != b) := by
  rw [Bool.eq_iff_iff]
  simp only [bne_iff_ne]
  omega

theorem Gr.br_node {G : Gr} {r l : Nat} {n : Nd} (b : Bool) (h : G.node (r / 2) = some n) (hl : G.idx n.v = l) : G.br r l b = tl (if b then n.t else n.e) r := by
  unfold Gr.br
  rw [h]
  simp only
  rw [if_pos hl]

theorem Gr.br_self {G : Gr} (k : G.Ok) {r l : Nat} (b : Bool) (hl : G.lev r ≠ l) : G.br r l b = r := by
  unfold Gr.br
  split
  · rename_i n hn
    rw [if_neg]
    rw [Gr.lev_node hn] at hl
    exact hl
  · rfl

set_option maxHeartbeats 1000000 in
set_option maxRecDepth 10000 in
theorem graphBranch_is {O : Nat → Prop} {w : World} {gb : Nat} {S : GrS} (hG : GrIs O w gb S) (k : S.g.Ok) (r l : Nat) (b : Bool) (hr : S.g.ok r) (hl : l < S.g.order.length) :
    Calls Tryz.prog 100 #[.pointer (some ⟨gb, 0, none⟩), .int .i64 r, .int .i64 l, .bool b] w fun e w' => e = .returned (.int .i64 (S.g.br r l b : Nat)) ∧ Below w.heap.size w w' := by
  have hlv := graphLevel_is hG k r hr
  by_cases he : S.g.lev r = l
  · obtain ⟨n, hn⟩ := Gr.lev_ne k hr (by omega)
    have hbr := Gr.br_node (l := l) b hn ((Gr.lev_node hn).symm.trans he)
    rw [hbr]
    rw [he] at hlv
    obtain ⟨ov, nv, fv, mb, rb, M, R, h⟩ := hG
    obtain ⟨c0, c1, c2, c3, c4⟩ := h.c
    obtain ⟨nb, ncap, en, hnb, hob, hnode⟩ := h.nodeAt
    subst en
    obtain ⟨hi, d0, d1, d2⟩ := hnode _ _ hn
    have hgb := h.lt gb h.self
    have hst := h.small hr
    have hsm : n.t < refMax ∧ n.e < refMax ∧ r < refMax := by
      have := h.small (k.tok hn); have := h.small (k.eok hn)
      unfold refMax; omega
    have ht := refTurnedLike_is n.t r hsm.1 hsm.2.2
    have hee := refTurnedLike_is n.e r hsm.2.1 hsm.2.2
    have hnum := refNumber_is r
    obtain ⟨q, hq⟩ : ∃ q, q = r / 2 := ⟨_, rfl⟩
    rw [← hq] at hi d0 d1 d2 hnum
    have HQ : Hid (q = r / 2) := hq
    obtain ⟨v, t, e⟩ := n
    simp only at d0 d1 d2 ht hee ⊢
    have hneq : ((l : Int) != (l : Int)) = false := by simp
    clear hr h k hnode hn hq hbr he hst hsm
    cases b
    · go_enter Tryz.func100, Tryz.ntmps100
      go_wp2_with (go_at_call 98; refine hlv.mono ?_; rintro e' w1 ⟨rfl, hb⟩; have f1 := (hb.cell (p := ⟨gb, 1, none⟩) hgb).trans c1; have g0 := (hb.cell (p := ⟨nb, q * 3, none⟩) hnb).trans d0; have g1 := (hb.cell (p := ⟨nb, q * 3 + 1, none⟩) hnb).trans d1; have g2 := (hb.cell (p := ⟨nb, q * 3 + 2, none⟩) hnb).trans d2)
      go_region_held (fun w' => w'.cell? ⟨gb, 1, none⟩ = some (.slice (some ⟨nb, 0, none⟩) S.nl.length ncap) ∧ w'.cell? ⟨nb, q * 3, none⟩ = some (.int .i64 (v : Nat)) ∧ w'.cell? ⟨nb, q * 3 + 1, none⟩ = some (.int .i64 (t : Nat)) ∧ w'.cell? ⟨nb, q * 3 + 2, none⟩ = some (.int .i64 (e : Nat))) (go_keep) (first | (go_at_call 149; refine (hnum _).mono ?_; rintro e' w1 ⟨rfl, hq⟩; replace hq := hq.symm; subst hq))
      all_goals
        go_wp2_with (go_at_call 134; refine (hee _).mono ?_; rintro e' w1 ⟨rfl, hq⟩; replace hq := hq.symm; subst hq)
        go_ret
        exact ⟨rfl, (hb.alloc hb.size _).drew⟩
    · go_enter Tryz.func100, Tryz.ntmps100
      go_wp2_with (go_at_call 98; refine hlv.mono ?_; rintro e' w1 ⟨rfl, hb⟩; have f1 := (hb.cell (p := ⟨gb, 1, none⟩) hgb).trans c1; have g0 := (hb.cell (p := ⟨nb, q * 3, none⟩) hnb).trans d0; have g1 := (hb.cell (p := ⟨nb, q * 3 + 1, none⟩) hnb).trans d1; have g2 := (hb.cell (p := ⟨nb, q * 3 + 2, none⟩) hnb).trans d2)
      go_region_held (fun w' => w'.cell? ⟨gb, 1, none⟩ = some (.slice (some ⟨nb, 0, none⟩) S.nl.length ncap) ∧ w'.cell? ⟨nb, q * 3, none⟩ = some (.int .i64 (v : Nat)) ∧ w'.cell? ⟨nb, q * 3 + 1, none⟩ = some (.int .i64 (t : Nat)) ∧ w'.cell? ⟨nb, q * 3 + 2, none⟩ = some (.int .i64 (e : Nat))) (go_keep) (first | (go_at_call 149; refine (hnum _).mono ?_; rintro e' w1 ⟨rfl, hq⟩; replace hq := hq.symm; subst hq))
      all_goals
        go_wp2_with (go_at_call 134; refine (ht _).mono ?_; rintro e' w1 ⟨rfl, hq⟩; replace hq := hq.symm; subst hq)
        go_ret
        exact ⟨rfl, (hb.alloc hb.size _).drew⟩
  · rw [Gr.br_self k b he]
    have hneq := neq_nat (S.g.lev r) l
    have hb' : (S.g.lev r != l) = true := by simp [he]
    rw [hb'] at hneq
    clear hb' he
    go_enter Tryz.func100, Tryz.ntmps100
    go_wp2_with (go_at_call 98; refine hlv.mono ?_; rintro e' w1 ⟨rfl, hb⟩)
    go_ret
    exact ⟨rfl, hb⟩

end Go.Proofs.YtebfmcafmojlaaaGreatDoor

