/-
  WHAT A CALL MAY TURN: the blocks of a component (a predicate on block numbers), and new ones.
-/
import Derived.Laws.AppendOwnNone
import Derived.Test.YtebfmcafmojlaaaGreatDoorT02
import Derived.Test.YtebfmcafmojlaaaGreatDoorT01
namespace Go.Proofs.YtebfmcafmojlaaaGreatDoor
open Go.RowKit
set_option linter.unusedSimpArgs false
set_option linter.unusedVariables false

/-- Of the blocks that there were only those of O may have turned. -/
structure Only (O : Nat → Prop) (w w' : World) : Prop where
  os : w'.os = w.os
  tape : w'.tape = w.tape
  output : w'.output = w.output
  size : w.heap.size ≤ w'.heap.size
  block : ∀ k, k < w.heap.size → ¬ O k → w'.heap[k]? = w.heap[k]?

theorem Only.refl (O : Nat → Prop) (w : World) : Only O w w := ⟨rfl, rfl, rfl, Nat.le_refl _, fun _ _ _ => rfl⟩

/-- O' holds blocks of O and new ones alone. -/
def Grows (w : World) (O O' : Nat → Prop) : Prop := ∀ b, O' b → O b ∨ w.heap.size ≤ b

theorem Grows.refl (w : World) (O : Nat → Prop) : Grows w O O := fun b h => .inl h

theorem Only.trans {O O' : Nat → Prop} {a b c : World} (h : Only O a b) (k : Only O' b c) (g : Grows a O O') : Only O a c :=
  ⟨k.os.trans h.os, k.tape.trans h.tape, k.output.trans h.output, Nat.le_trans h.size k.size, fun i hi hn =>
    (k.block i (Nat.lt_of_lt_of_le hi h.size) (fun ho => (g i ho).elim hn (fun hh => by omega))).trans (h.block i hi hn)⟩

theorem Grows.trans {O O' O'' : Nat → Prop} {a b : World} (h : Grows a O O') (k : Grows b O' O'') (hs : a.heap.size ≤ b.heap.size) : Grows a O O'' := by
  intro x hx
  rcases k x hx with h1 | h1
  · exact h x h1
  · exact .inr (by omega)

theorem only_of_below {w w' : World} (h : Below w.heap.size w w') (O : Nat → Prop) : Only O w w' := ⟨h.os, h.tape, h.output, h.size, fun k hk _ => h.block k hk⟩

theorem Only.below {w w' : World} (h : Only (fun _ => False) w w') : Below w.heap.size w w' := ⟨h.os, h.tape, h.output, h.size, fun k hk => h.block k hk (fun e => e)⟩

theorem Only.mono {O O' : Nat → Prop} {w w' : World} (h : Only O w w') (hm : ∀ b, O b → O' b) : Only O' w w' :=
  ⟨h.os, h.tape, h.output, h.size, fun k hk hn => h.block k hk (fun ho => hn (hm k ho))⟩

/-- A step that keeps all that there was, behind one that turns O. -/
theorem Only.then_below {O : Nat → Prop} {a b c : World} (h : Only O a b) (k : Below b.heap.size b c) : Only O a c :=
  h.trans (only_of_below k O) (Grows.refl a O)

theorem below_then_only {O : Nat → Prop} {a b c : World} (h : Below a.heap.size a b) (k : Only O b c) : Only O a c :=
  (only_of_below h O).trans k (Grows.refl a O)

theorem Only.alloc {O : Nat → Prop} {a w : World} (h : Only O a w) (o : Obj) : Only O a (w.alloc o) :=
  h.then_below ((Below.refl _ _).alloc (Nat.le_refl _) o)

theorem Only.setCell {O : Nat → Prop} {a w : World} (h : Only O a w) {p : Addr} (hp : O p.block ∨ a.heap.size ≤ p.block) (u : Value) : Only O a (w.setCell p u) :=
  ⟨h.os, h.tape, h.output, by simpa [World.setCell] using h.size, fun k hk hn => (Below.heap_setCell w p u k (fun e => by
    subst e
    rcases hp with h1 | h1
    · exact hn h1
    · omega)).trans (h.block k hk hn)⟩

theorem Only.grown {O : Nat → Prop} {a w w' : World} {row : Option Nat} (h : Only O a w) (hg : w.grownBy w' row) (hr : ∀ k, row = some k → O k ∨ a.heap.size ≤ k) : Only O a w' :=
  ⟨hg.os.trans h.os, hg.tape.trans h.tape, hg.output.trans h.output, Nat.le_trans h.size hg.size, fun k hk hn =>
    (hg.block k (Nat.lt_of_lt_of_le hk h.size) (fun e => (hr k e.symm).elim hn (fun hh => by omega))).trans (h.block k hk hn)⟩

/-- The blocks of a slice value lie in O. -/
def InO (O : Nat → Prop) (v : Value) : Prop := ∀ k, v.ownBlock = some k → O k

/-- An owned row of cells, its block in O. -/
def Row (O : Nat → Prop) (w : World) (e : TypeId) (v : Value) (xs : List Value) : Prop := w.ownsRow 0 e 1 v xs.length xs ∧ InO O v

theorem ownsRow_base {w : World} {base base' : Nat} {e : TypeId} {size : Nat} {v : Value} {n : Nat} {xs : List Value} (h : w.ownsRow base e size v n xs) (hb : base' ≤ base) : w.ownsRow base' e size v n xs := by
  refine ⟨h.1, ?_⟩
  rcases h.2 with h | ⟨g, cap, cur, hv, hg, r⟩
  · exact .inl h
  · exact .inr ⟨g, cap, cur, hv, Nat.le_trans hb hg, r⟩

theorem owns_same {w w' : World} {base : Nat} {e : TypeId} {size : Nat} {v : Value} {n : Nat} {xs : List Value} (h : w.ownsRow base e size v n xs) (hb : ∀ k, v.ownBlock = some k → w'.heap[k]? = w.heap[k]?) : w'.ownsRow base e size v n xs := by
  refine ⟨h.1, ?_⟩
  rcases h.2 with h | ⟨g, cap, cur, rfl, hg, hh, r⟩
  · exact .inl h
  · exact .inr ⟨g, cap, cur, rfl, hg, (hb g rfl).trans hh, r⟩

theorem Row.same {O : Nat → Prop} {w w' : World} {e : TypeId} {v : Value} {xs : List Value} (h : Row O w e v xs) (hb : ∀ k, v.ownBlock = some k → w'.heap[k]? = w.heap[k]?) : Row O w' e v xs :=
  ⟨owns_same h.1 hb, h.2⟩

theorem Row.mono {O O' : Nat → Prop} {w : World} {e : TypeId} {v : Value} {xs : List Value} (h : Row O w e v xs) (hm : ∀ b, O b → O' b) : Row O' w e v xs :=
  ⟨h.1, fun k hk => hm k (h.2 k hk)⟩

theorem Row.lt {O : Nat → Prop} {w : World} {e : TypeId} {v : Value} {xs : List Value} (h : Row O w e v xs) : ∀ k, v.ownBlock = some k → k < w.heap.size :=
  fun k hk => (h.1.lt k hk).2

theorem Row.reads {O : Nat → Prop} {w : World} {e : TypeId} {v : Value} {xs : List Value} (h : Row O w e v xs) : Reads w.heap.size w v xs := reads_of_owns h.1

theorem cell_of_heap {w : World} {b o : Nat} {c : Array Value} {e : TypeId} {fr : Nat × Nat} (h : w.heap[b]? = some (.cells c e fr)) : w.cell? ⟨b, o, none⟩ = c[o]? := by
  simp [World.cell?, h]

theorem frozen_of_heap {w : World} {b o : Nat} {c : Array Value} {e : TypeId} (h : w.heap[b]? = some (.cells c e (0, 0))) : w.frozen? ⟨b, o, none⟩ = false := by
  simp [World.frozen?, h]

theorem heap_setCell_at {w : World} {b o : Nat} {c : Array Value} {e : TypeId} {fr : Nat × Nat} {u : Value} (h : w.heap[b]? = some (.cells c e fr)) : (w.setCell ⟨b, o, none⟩ u).heap[b]? = some (.cells (c.setIfInBounds o u) e fr) := by
  simp [World.setCell, Array.getElem?_modify, h]

/-- 'append(s, x...)', s owned, x owned by whomever (nil or not). -/
theorem wpList_append_from {P : Program} {w : World} {ops : Array Oper} {rest : List Oper} {o : Oper} {a : Act} {Q : Exit → Act → World → Prop} (hgd : o.guard = none) (s x : Operand) (t : TypeId)
    (ho : o.op = .call { callee := .builtin .append, args := #[s, x], argTypes := #[t, t] })
    (base : Nat) (e : TypeId) (i : TypeInfo) (z : Value) (size bytes : Nat) (ht : P.underlying t = some (.slice e)) (hi : P.info? e = some i) (hz : i.zero = some z)
    (hsize : i.size = size) (hby : i.bytes = bytes) (hzs : z.cells.size = size) (hsz : 0 < size)
    (v : Value) (n : Nat) (xs : List Value) (hs : a.eval s = v) (hown : w.ownsRow base e size v n xs)
    (base' : Nat) (sv : Value) (m : Nat) (news : List Value) (hx : a.eval x = sv) (hsrc : w.ownsRow base' e size sv m news) (h1 : ∀ u ∈ news, u.oneCell' = true)
    (h63 : n + m ≤ maxLen) (hbytes : (n + m) * bytes ≤ 140737488355328) (hbase : base ≤ w.heap.size)
    (h : ∀ v' w', w'.ownsRow base e size v' (n + m) (xs ++ news) → w.grownBy w' v.ownBlock → wpList P ops Q rest (a.put o.dst v') w') : wpList P ops Q (o :: rest) a w := by
  rcases hsrc.2 with ⟨rfl, rfl⟩ | ⟨g, cap, cur, rfl, hb, hg, hnc, hcm, hcs, htake⟩
  · have hn : news = [] := List.eq_nil_of_length_eq_zero (by simpa using hsrc.1)
    subst hn
    refine wpList_append_own_none hgd s x t ho base e i size ht hi v n xs hs hown hx ?_
    exact h v w (by simpa using hown) ⟨rfl, rfl, rfl, Nat.le_refl _, fun _ _ _ => rfl⟩
  · exact wpList_append_own _ hgd s x t ho base e i z size bytes ht hi hz hsize hby hzs hsz v n xs hs hown ⟨g, 0, none⟩ m cap news hx hsrc.1 (hsrc.cells (g := g) rfl) h1 h63 hbytes hbase (fun v' w' h1 h2 _ => h v' w' h1 h2)

end Go.Proofs.YtebfmcafmojlaaaGreatDoor

/-
  A copse as its callers see it: its cap, its names, the order, and the functions of its live handles; how a call answers.
-/
namespace Go.Proofs.YtebfmcafmojlaaaGreatDoor
open Go.RowKit
set_option linter.unusedSimpArgs false
set_option linter.unusedVariables false

def addT (l : List Tab) (f : Tab) : List Tab := if f ∈ l then l else l ++ [f]
def withT (live fs : List Tab) : List Tab := fs.foldl addT live

theorem addT_len (l : List Tab) (f : Tab) : (addT l f).length ≤ l.length + 1 := by unfold addT; split <;> simp
theorem withT_len (l fs : List Tab) : (withT l fs).length ≤ l.length + fs.length := by
  unfold withT
  induction fs generalizing l with
  | nil => simp
  | cons f fs ih =>
    have := ih (addT l f)
    have := addT_len l f
    simp only [List.foldl_cons, List.length_cons]
    omega
theorem withT_one (L : List Tab) (t f : Tab) : f ∈ withT L [t] ↔ f ∈ L ∨ f = t := by
  simp only [withT, List.foldl_cons, List.foldl_nil, addT]
  split
  · rename_i h
    constructor
    · exact .inl
    · rintro (h1 | h1)
      · exact h1
      · rw [h1]; exact h
  · simp

theorem withT_one_len (L : List Tab) (t : Tab) : (withT L [t]).length ≤ L.length + 1 := by
  have := withT_len L [t]
  simpa using this

def namedI (names : List ByteArray) (name : ByteArray) : Int := match names.findIdx? (fun x => x.toList == name.toList) with | some i => (i : Int) | none => -1
def nameCh (i : Nat) (c : Nat) : Bool := (decide (97 ≤ c) && decide (c ≤ 122)) || (decide (i ≠ 0) && decide (48 ≤ c) && decide (c ≤ 57))
def byteN (s : ByteArray) (i : Nat) : Nat := (s.data.toList.getD i 0).toNat
def isNameB (s : ByteArray) : Bool := decide (1 ≤ s.size) && decide (s.size ≤ 8) && (List.range s.size).all (fun i => nameCh i (byteN s i))
def evalR (n : Nat) (f : Tab) (a : Int) : Bool × Int := if a < 0 ∨ 2 ^ n ≤ a then (false, 1) else (f.getLsbD a.toNat, 0)
def zv (n : Int) : Value := .int .i64 n
def i64ok (n : Int) : Prop := -9223372036854775808 ≤ n ∧ n ≤ 9223372036854775807

theorem named_hit (l : List ByteArray) (f : ByteArray) (k : Nat) (h : k < l.length) (hn : ∀ j, j < k → ((l.getD j ByteArray.empty).toList == f.toList) = false) (he : ((l.getD k ByteArray.empty).toList == f.toList) = true) : namedI l f = k := by
  have : l.findIdx? (fun x => x.toList == f.toList) = some k := by
    rw [List.findIdx?_eq_some_iff_getElem]
    refine ⟨h, ?_, ?_⟩
    · rw [List.getD_eq_getElem?_getD, List.getElem?_eq_getElem h] at he; exact he
    · intro j hj
      have := hn j hj
      rw [List.getD_eq_getElem?_getD, List.getElem?_eq_getElem (by omega)] at this
      simpa using this
  simp only [namedI, this]

theorem named_miss (l : List ByteArray) (f : ByteArray) (h : ∀ j, j < l.length → ((l.getD j ByteArray.empty).toList == f.toList) = false) : namedI l f = -1 := by
  have : l.findIdx? (fun x => x.toList == f.toList) = none := by
    rw [List.findIdx?_eq_none_iff]
    intro x hx
    obtain ⟨j, hj, rfl⟩ := List.mem_iff_getElem.1 hx
    have := h j hj
    rw [List.getD_eq_getElem?_getD, List.getElem?_eq_getElem hj] at this
    simpa using this
  simp only [namedI, this]

theorem byteN_get (s : ByteArray) (i : Nat) (h : i < s.size) : (s[i]'h).toNat = byteN s i := by
  unfold byteN
  rw [List.getD_eq_getElem?_getD, List.getElem?_eq_getElem (by simpa using h)]
  rfl

theorem isName_short (s : ByteArray) (h : s.size < 1 ∨ 8 < s.size) : isNameB s = false := by
  unfold isNameB
  rcases h with h | h
  · have : decide (1 ≤ s.size) = false := decide_eq_false (by omega)
    rw [this]; rfl
  · have : decide (s.size ≤ 8) = false := decide_eq_false (by omega)
    rw [this]; simp

theorem isName_all (s : ByteArray) (h1 : 1 ≤ s.size) (h8 : s.size ≤ 8) (h : ∀ j, j < s.size → nameCh j (byteN s j) = true) : isNameB s = true := by
  unfold isNameB
  simp only [h1, h8, decide_true, Bool.true_and, List.all_eq_true, List.mem_range]
  exact h

theorem isName_not (s : ByteArray) (k : Nat) (hk : k < s.size) (h : nameCh k (byteN s k) = false) : isNameB s = false := by
  unfold isNameB
  have : (List.range s.size).all (fun i => nameCh i (byteN s i)) = false := by
    rw [List.all_eq_false]
    exact ⟨k, List.mem_range.2 hk, by simp [h]⟩
  rw [this]; simp

theorem nameCh_letter (k c : Nat) (h1 : 97 ≤ c) (h2 : c ≤ 122) : nameCh k c = true := by simp [nameCh, h1, h2]
theorem nameCh_digit (k c : Nat) (h0 : k ≠ 0) (h1 : 48 ≤ c) (h2 : c ≤ 57) : nameCh k c = true := by simp [nameCh, h0, h1, h2]
theorem nameCh_no (k c : Nat) (h : ¬ (97 ≤ c ∧ c ≤ 122)) (h' : ¬ (k ≠ 0 ∧ 48 ≤ c ∧ c ≤ 57)) : nameCh k c = false := by
  rw [Bool.eq_false_iff]
  intro hh
  simp [nameCh] at hh
  omega

structure CopS where
  cap : Int
  names : List ByteArray
  order : List Nat
  T : Nat → Option Tab

def updT (T : Nat → Option Tab) (h : Nat) (t : Tab) : Nat → Option Tab := fun k => if k = h then some t else T k

/-- L lists the functions of the live handles (but, perhaps, for the constants). -/
def Lists (C : CopS) (L : List Tab) : Prop := ∀ f, (∃ h, C.T h = some f) ↔ (f ∈ L ∨ f = 0 ∨ f = onesT)

def CopStep (I : (Nat → Prop) → World → Nat → CopS → Prop) (O : Nat → Prop) (w : World) (x : Nat) (w' : World) (C' : CopS) : Prop := Only O w w' ∧ ∃ O', I O' w' x C' ∧ Grows w O O'

def handleMax : Nat := 4611686018427387904

/-- A call that answers a handle of the function t, or refuses it. -/
def PostTell (I : (Nat → Prop) → World → Nat → CopS → Prop) (O : Nat → Prop) (w : World) (x : Nat) (C : CopS) (full : Prop) (C' : Nat → CopS) (t : Tab) (e : Ending) (w' : World) : Prop :=
  (full ∧ e = .returned (.tuple #[.int .i64 0, .int .i64 5]) ∧ CopStep I O w x w' C) ∨
  (¬ full ∧ ∃ h : Nat, h < handleMax ∧ (∀ f, C.T h = some f → f = t) ∧ e = .returned (.tuple #[.int .i64 h, .int .i64 0]) ∧ CopStep I O w x w' (C' h))

def fullC (C : CopS) (L : List Tab) (t : Tab) : Prop := C.cap < ((allT C.order (withT L [t])).length : Int)
def toldC (C : CopS) (t : Tab) (h : Nat) : CopS := { C with T := updT C.T h t }

def fullV (C : CopS) (L : List Tab) : Prop := C.cap < ((allT (C.order ++ [C.names.length]) (withT L [mask C.names.length])).length : Int)
def varC (C : CopS) (name : ByteArray) (h : Nat) : CopS := { C with names := C.names ++ [name], order := C.order ++ [C.names.length], T := updT C.T h (mask C.names.length) }

def T0 (cF cT : Nat) : Nat → Option Tab := fun h => if h = cF then some 0 else if h = cT then some onesT else none


end Go.Proofs.YtebfmcafmojlaaaGreatDoor

