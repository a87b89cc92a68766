/-
  WHAT A CALL MAY TURN: the blocks of a component (a predicate on block numbers), and new ones.
-/
import Derived.Laws.AppendOwnNone
import Derived.Test.YtebfmcafmojlaaaT02
namespace Go.Proofs.Ytebfmcafmojlaaa
open Go.RowKit
set_option linter.unusedSimpArgs false
set_option linter.unusedVariables false

/-- Of the blocks that there were only those of O may have turned. -/
structure Only (O : Nat → Prop) (w w' : World) : Prop where
  os : w'.os = w.os
  tape : w'.tape = w.tape
  output : w'.output = w.output
  size : w.heap.size ≤ w'.heap.size
  block : ∀ k, k < w.heap.size → ¬ O k → w'.heap[k]? = w.heap[k]?

theorem Only.refl (O : Nat → Prop) (w : World) : Only O w w := ⟨rfl, rfl, rfl, Nat.le_refl _, fun _ _ _ => rfl⟩

/-- O' holds blocks of O and new ones alone. -/
def Grows (w : World) (O O' : Nat → Prop) : Prop := ∀ b, O' b → O b ∨ w.heap.size ≤ b

theorem Grows.refl (w : World) (O : Nat → Prop) : Grows w O O := fun b h => .inl h

theorem Only.trans {O O' : Nat → Prop} {a b c : World} (h : Only O a b) (k : Only O' b c) (g : Grows a O O') : Only O a c :=
  ⟨k.os.trans h.os, k.tape.trans h.tape, k.output.trans h.output, Nat.le_trans h.size k.size, fun i hi hn =>
    (k.block i (Nat.lt_of_lt_of_le hi h.size) (fun ho => (g i ho).elim hn (fun hh => by omega))).trans (h.block i hi hn)⟩

theorem Grows.trans {O O' O'' : Nat → Prop} {a b : World} (h : Grows a O O') (k : Grows b O' O'') (hs : a.heap.size ≤ b.heap.size) : Grows a O O'' := by
  intro x hx
  rcases k x hx with h1 | h1
  · exact h x h1
  · exact .inr (by omega)

theorem only_of_below {w w' : World} (h : Below w.heap.size w w') (O : Nat → Prop) : Only O w w' := ⟨h.os, h.tape, h.output, h.size, fun k hk _ => h.block k hk⟩

theorem Only.below {w w' : World} (h : Only (fun _ => False) w w') : Below w.heap.size w w' := ⟨h.os, h.tape, h.output, h.size, fun k hk => h.block k hk (fun e => e)⟩

theorem Only.mono {O O' : Nat → Prop} {w w' : World} (h : Only O w w') (hm : ∀ b, O b → O' b) : Only O' w w' :=
  ⟨h.os, h.tape, h.output, h.size, fun k hk hn => h.block k hk (fun ho => hn (hm k ho))⟩

/-- A step that keeps all that there was, behind one that turns O. -/
theorem Only.then_below {O : Nat → Prop} {a b c : World} (h : Only O a b) (k : Below b.heap.size b c) : Only O a c :=
  h.trans (only_of_below k O) (Grows.refl a O)

theorem below_then_only {O : Nat → Prop} {a b c : World} (h : Below a.heap.size a b) (k : Only O b c) : Only O a c :=
  (only_of_below h O).trans k (Grows.refl a O)

theorem Only.alloc {O : Nat → Prop} {a w : World} (h : Only O a w) (o : Obj) : Only O a (w.alloc o) :=
  h.then_below ((Below.refl _ _).alloc (Nat.le_refl _) o)

theorem Only.setCell {O : Nat → Prop} {a w : World} (h : Only O a w) {p : Addr} (hp : O p.block ∨ a.heap.size ≤ p.block) (u : Value) : Only O a (w.setCell p u) :=
  ⟨h.os, h.tape, h.output, by simpa [World.setCell] using h.size, fun k hk hn => (Below.heap_setCell w p u k (fun e => by
    subst e
    rcases hp with h1 | h1
    · exact hn h1
    · omega)).trans (h.block k hk hn)⟩

theorem Only.grown {O : Nat → Prop} {a w w' : World} {row : Option Nat} (h : Only O a w) (hg : w.grownBy w' row) (hr : ∀ k, row = some k → O k ∨ a.heap.size ≤ k) : Only O a w' :=
  ⟨hg.os.trans h.os, hg.tape.trans h.tape, hg.output.trans h.output, Nat.le_trans h.size hg.size, fun k hk hn =>
    (hg.block k (Nat.lt_of_lt_of_le hk h.size) (fun e => (hr k e.symm).elim hn (fun hh => by omega))).trans (h.block k hk hn)⟩

/-- The blocks of a slice value lie in O. -/
def InO (O : Nat → Prop) (v : Value) : Prop := ∀ k, v.ownBlock = some k → O k

/-- An owned row of cells, its block in O. -/
def Row (O : Nat → Prop) (w : World) (e : TypeId) (v : Value) (xs : List Value) : Prop := w.ownsRow 0 e 1 v xs.length xs ∧ InO O v

theorem ownsRow_base {w : World} {base base' : Nat} {e : TypeId} {size : Nat} {v : Value} {n : Nat} {xs : List Value} (h : w.ownsRow base e size v n xs) (hb : base' ≤ base) : w.ownsRow base' e size v n xs := by
  refine ⟨h.1, ?_⟩
  rcases h.2 with h | ⟨g, cap, cur, hv, hg, r⟩
  · exact .inl h
  · exact .inr ⟨g, cap, cur, hv, Nat.le_trans hb hg, r⟩

theorem owns_same {w w' : World} {base : Nat} {e : TypeId} {size : Nat} {v : Value} {n : Nat} {xs : List Value} (h : w.ownsRow base e size v n xs) (hb : ∀ k, v.ownBlock = some k → w'.heap[k]? = w.heap[k]?) : w'.ownsRow base e size v n xs := by
  refine ⟨h.1, ?_⟩
  rcases h.2 with h | ⟨g, cap, cur, rfl, hg, hh, r⟩
  · exact .inl h
  · exact .inr ⟨g, cap, cur, rfl, hg, (hb g rfl).trans hh, r⟩

theorem Row.same {O : Nat → Prop} {w w' : World} {e : TypeId} {v : Value} {xs : List Value} (h : Row O w e v xs) (hb : ∀ k, v.ownBlock = some k → w'.heap[k]? = w.heap[k]?) : Row O w' e v xs :=
  ⟨owns_same h.1 hb, h.2⟩

theorem Row.mono {O O' : Nat → Prop} {w : World} {e : TypeId} {v : Value} {xs : List Value} (h : Row O w e v xs) (hm : ∀ b, O b → O' b) : Row O' w e v xs :=
  ⟨h.1, fun k hk => hm k (h.2 k hk)⟩

theorem Row.lt {O : Nat → Prop} {w : World} {e : TypeId} {v : Value} {xs : List Value} (h : Row O w e v xs) : ∀ k, v.ownBlock = some k → k < w.heap.size :=
  fun k hk => (h.1.lt k hk).2

theorem Row.reads {O : Nat → Prop} {w : World} {e : TypeId} {v : Value} {xs : List Value} (h : Row O w e v xs) : Reads w.heap.size w v xs := reads_of_owns h.1

theorem cell_of_heap {w : World} {b o : Nat} {c : Array Value} {e : TypeId} {fr : Nat × Nat} (h : w.heap[b]? = some (.cells c e fr)) : w.cell? ⟨b, o, none⟩ = c[o]? := by
  simp [World.cell?, h]

theorem frozen_of_heap {w : World} {b o : Nat} {c : Array Value} {e : TypeId} (h : w.heap[b]? = some (.cells c e (0, 0))) : w.frozen? ⟨b, o, none⟩ = false := by
  simp [World.frozen?, h]

theorem heap_setCell_at {w : World} {b o : Nat} {c : Array Value} {e : TypeId} {fr : Nat × Nat} {u : Value} (h : w.heap[b]? = some (.cells c e fr)) : (w.setCell ⟨b, o, none⟩ u).heap[b]? = some (.cells (c.setIfInBounds o u) e fr) := by
  simp [World.setCell, Array.getElem?_modify, h]

/-- 'append(s, x...)', s owned, x owned by whomever (nil or not). -/
theorem wpList_append_from {P : Program} {w : World} {ops : Array Oper} {rest : List Oper} {o : Oper} {a : Act} {Q : Exit → Act → World → Prop} (hgd : o.guard = none) (s x : Operand) (t : TypeId)
    (ho : o.op = .call { callee := .builtin .append, args := #[s, x], argTypes := #[t, t] })
    (base : Nat) (e : TypeId) (i : TypeInfo) (z : Value) (size bytes : Nat) (ht : P.underlying t = some (.slice e)) (hi : P.info? e = some i) (hz : i.zero = some z)
    (hsize : i.size = size) (hby : i.bytes = bytes) (hzs : z.cells.size = size) (hsz : 0 < size)
    (v : Value) (n : Nat) (xs : List Value) (hs : a.eval s = v) (hown : w.ownsRow base e size v n xs)
    (base' : Nat) (sv : Value) (m : Nat) (news : List Value) (hx : a.eval x = sv) (hsrc : w.ownsRow base' e size sv m news) (h1 : ∀ u ∈ news, u.oneCell' = true)
    (h63 : n + m ≤ maxLen) (hbytes : (n + m) * bytes ≤ 140737488355328) (hbase : base ≤ w.heap.size)
    (h : ∀ v' w', w'.ownsRow base e size v' (n + m) (xs ++ news) → w.grownBy w' v.ownBlock → wpList P ops Q rest (a.put o.dst v') w') : wpList P ops Q (o :: rest) a w := by
  rcases hsrc.2 with ⟨rfl, rfl⟩ | ⟨g, cap, cur, rfl, hb, hg, hnc, hcm, hcs, htake⟩
  · have hn : news = [] := List.eq_nil_of_length_eq_zero (by simpa using hsrc.1)
    subst hn
    refine wpList_append_own_none hgd s x t ho base e i size ht hi v n xs hs hown hx ?_
    exact h v w (by simpa using hown) ⟨rfl, rfl, rfl, Nat.le_refl _, fun _ _ _ => rfl⟩
  · exact wpList_append_own _ hgd s x t ho base e i z size bytes ht hi hz hsize hby hzs hsz v n xs hs hown ⟨g, 0, none⟩ m cap news hx hsrc.1 (hsrc.cells (g := g) rfl) h1 h63 hbytes hbase (fun v' w' h1 h2 _ => h v' w' h1 h2)

end Go.Proofs.Ytebfmcafmojlaaa

