import PyProof.Rows.All
import Wide.All
import OpenK.AllK
import Wide.FinOn
import HandS.ForMost
import HandS.Exc
import HandS.TryOnly
import HandS.ExcOwn
import HandS.WordsExc
import HandS.ExcIs
import HandS.IsInst
import HandS.Walk
import HandS.Style
import HandS.More
import HandS.Wide
import HandS.EndBits
import KE.KRevSl
import PyProof.Fits
import HandS.Call
import HandS.Conv
import HandS.RepeatKit
import PyProof.TupleOfSeq
import PyProof.Rows.Range3
import HandS.DictComp
import PyProof.Rows.TupDisplay
import HandS.Deep
import HandS.WideBits
import PyProof.ReprRoads
import PyProof.ReprReads
import HandS.WordsDict
import PySem.Challenge.RW_slidetray_k03_tried
set_option Elab.async false
set_option linter.all false
set_option maxRecDepth 100000
set_option maxHeartbeats 16000000
/-! The mathematics of trays: places, slides, undone, thinned. Core Lean alone. -/
namespace Tr
abbrev Fld := Nat → Int
/-- how far a letter leads: rows down, columns to the right; (9, 9) for what is no letter -/
def stp (w : Nat) : Int × Int := if w = 117 then (-1, 0) else if w = 100 then (1, 0) else if w = 108 then (0, -1) else if w = 114 then (0, 1) else (9, 9)
def okL (w : Nat) : Prop := w = 117 ∨ w = 100 ∨ w = 108 ∨ w = 114
instance (w : Nat) : Decidable (okL w) := by unfold okL; infer_instance
def bk (w : Nat) : Nat := if w = 117 then 100 else if w = 100 then 117 else if w = 108 then 114 else if w = 114 then 108 else w
theorem bk_no {w : Nat} (h : ¬ okL w) : bk w = w := by
  unfold okL at h
  unfold bk
  rw [if_neg (by omega), if_neg (by omega), if_neg (by omega), if_neg (by omega)]
theorem bk_bk {w : Nat} : bk (bk w) = w := by
  by_cases h : okL w
  · rcases h with rfl | rfl | rfl | rfl <;> rfl
  · rw [bk_no h, bk_no h]
theorem bk_ok {w : Nat} (h : okL w) : okL (bk w) := by rcases h with rfl | rfl | rfl | rfl <;> decide
theorem bk_ne {w : Nat} (h : okL w) : bk w ≠ w := by rcases h with rfl | rfl | rfl | rfl <;> decide
theorem bk_inj {a b : Nat} (h : bk a = bk b) : a = b := by
  have := congrArg bk h
  rwa [bk_bk, bk_bk] at this
/-- the place beside -/
def nxt (R C r c w : Nat) : Option (Nat × Nat) :=
  if 0 ≤ (r : Int) + (stp w).1 ∧ (r : Int) + (stp w).1 < R ∧ 0 ≤ (c : Int) + (stp w).2 ∧ (c : Int) + (stp w).2 < C then some (((r : Int) + (stp w).1).toNat, ((c : Int) + (stp w).2).toNat) else none
theorem nxt_some {R C r c w : Nat} (h : 0 ≤ (r : Int) + (stp w).1 ∧ (r : Int) + (stp w).1 < R ∧ 0 ≤ (c : Int) + (stp w).2 ∧ (c : Int) + (stp w).2 < C) : nxt R C r c w = some (((r : Int) + (stp w).1).toNat, ((c : Int) + (stp w).2).toNat) := if_pos h
theorem nxt_none {R C r c w : Nat} (h : ¬ (0 ≤ (r : Int) + (stp w).1 ∧ (r : Int) + (stp w).1 < R ∧ 0 ≤ (c : Int) + (stp w).2 ∧ (c : Int) + (stp w).2 < C)) : nxt R C r c w = none := if_neg h
theorem nxt_eq {R C r c w r' c' : Nat} (h : nxt R C r c w = some (r', c')) : (r' : Int) = r + (stp w).1 ∧ (c' : Int) = c + (stp w).2 ∧ r' < R ∧ c' < C := by
  unfold nxt at h
  split at h
  · rename_i k
    have e := Option.some.inj h
    have e1 := congrArg Prod.fst e
    have e2 := congrArg Prod.snd e
    dsimp only at e1 e2
    omega
  · cases h
theorem stp_bk {w : Nat} (h : okL w) : (stp (bk w)).1 = -(stp w).1 ∧ (stp (bk w)).2 = -(stp w).2 := by
  rcases h with rfl | rfl | rfl | rfl <;> decide
theorem stp_bad {w : Nat} (h : ¬ okL w) : stp w = (9, 9) := by
  unfold okL at h
  unfold stp
  rw [if_neg (by omega), if_neg (by omega), if_neg (by omega), if_neg (by omega)]
theorem stp_move {w : Nat} : (stp w).1 ≠ 0 ∨ (stp w).2 ≠ 0 := by
  unfold stp
  repeat' split
  all_goals decide
theorem nxt_back {R C r c w r' c' : Nat} (hr : r < R) (hc : c < C) (hw : okL w) (h : nxt R C r c w = some (r', c')) : nxt R C r' c' (bk w) = some (r, c) := by
  obtain ⟨e1, e2, _, _⟩ := nxt_eq h
  obtain ⟨b1, b2⟩ := stp_bk hw
  rw [nxt_some (by omega)]
  rw [b1, b2]
  refine congrArg some ?_
  have x1 : ((r' : Int) + -(stp w).1).toNat = r := by omega
  have x2 : ((c' : Int) + -(stp w).2).toNat = c := by omega
  rw [x1, x2]
theorem nxt_bad {R C r c w : Nat} (hR : R ≤ 9) (h : ¬ okL w) : nxt R C r c w = none := by
  refine nxt_none ?_
  rw [stp_bad h]
  dsimp only
  omega
theorem ix_inj {C r c r' c' : Nat} (hc : c < C) (hc' : c' < C) (h : r * C + c = r' * C + c') : r = r' ∧ c = c' := by
  have e1 : (r * C + c) / C = r := by
    rw [Nat.add_comm, Nat.add_mul_div_right _ _ (by omega), Nat.div_eq_of_lt hc, Nat.zero_add]
  have e2 : (r' * C + c') / C = r' := by
    rw [Nat.add_comm, Nat.add_mul_div_right _ _ (by omega), Nat.div_eq_of_lt hc', Nat.zero_add]
  have e : r = r' := by rw [← e1, ← e2, h]
  subst e
  exact ⟨rfl, by omega⟩
theorem ix_lt {R C r c : Nat} (hr : r < R) (hc : c < C) : r * C + c < R * C := by
  have h : (r + 1) * C ≤ R * C := Nat.mul_le_mul_right C hr
  rw [Nat.add_mul, Nat.one_mul] at h
  omega
/-- what stands at q goes to p, 0 to q -/
def put2 (f : Fld) (p q : Nat) : Fld := fun k => if k = q then 0 else if k = p then f q else f k
abbrev Sl := Fld × Nat × Nat
def go1 (R C : Nat) (s : Sl) (w : Nat) : Option Sl := (nxt R C s.2.1 s.2.2 w).map fun n => (put2 s.1 (s.2.1 * C + s.2.2) (n.1 * C + n.2), n.1, n.2)
def goAll (R C : Nat) : Sl → List Nat → Option Sl
  | s, [] => some s
  | s, w :: r => (go1 R C s w).bind fun s' => goAll R C s' r
theorem goAll_append (R C : Nat) : ∀ (a b : List Nat) (s : Sl), goAll R C s (a ++ b) = (goAll R C s a).bind fun s' => goAll R C s' b
  | [], b, s => rfl
  | w :: r, b, s => by
    show (go1 R C s w).bind (fun s' => goAll R C s' (r ++ b)) = ((go1 R C s w).bind fun s' => goAll R C s' r).bind fun s' => goAll R C s' b
    cases e : go1 R C s w with
    | none => rfl
    | some s1 => exact goAll_append R C r b s1
theorem goAll_one (R C : Nat) (s : Sl) (w : Nat) : goAll R C s [w] = go1 R C s w := by
  show (go1 R C s w).bind (fun s' => some s') = go1 R C s w
  cases go1 R C s w <;> rfl
theorem take_more {α : Type} : ∀ {l : List α} {i : Nat} {x : α}, l[i]? = some x → l.take (i + 1) = l.take i ++ [x]
  | [], i, x, h => by simp at h
  | a :: l, 0, x, h => by
    have e : a = x := Option.some.inj h
    subst e
    rfl
  | a :: l, i + 1, x, h => by
    have ih := take_more (l := l) (i := i) (x := x) h
    show a :: l.take (i + 1) = a :: l.take i ++ [x]
    rw [ih]
    rfl
theorem goAll_take {R C : Nat} {s s1 : Sl} {ws : List Nat} {i w : Nat} (h : goAll R C s (ws.take i) = some s1) (hw : ws[i]? = some w) : goAll R C s (ws.take (i + 1)) = go1 R C s1 w := by
  rw [take_more hw, goAll_append, h]
  exact goAll_one R C s1 w
theorem goAll_stop {R C : Nat} {s s1 : Sl} {ws : List Nat} {i w : Nat} (h : goAll R C s (ws.take i) = some s1) (hw : ws[i]? = some w) (hn : go1 R C s1 w = none) : goAll R C s ws = none := by
  have e : ws = ws.take (i + 1) ++ ws.drop (i + 1) := (List.take_append_drop (i + 1) ws).symm
  rw [e, goAll_append, goAll_take h hw, hn]
  rfl
/-- 0 stands at (r, c) -/
structure Zr (R C : Nat) (s : Sl) : Prop where
  r : s.2.1 < R
  c : s.2.2 < C
  z : s.1 (s.2.1 * C + s.2.2) = 0
def allV (n : Nat) (f : Fld) : List Int := (List.range n).map f
/-- all numbers from 0 on, each once -/
def Full (n : Nat) (f : Fld) : Prop := (allV n f).Perm ((List.range n).map fun k : Nat => (k : Int))
theorem go1_eq {R C : Nat} {s s' : Sl} {w : Nat} (h : go1 R C s w = some s') : nxt R C s.2.1 s.2.2 w = some (s'.2.1, s'.2.2) ∧ s' = (put2 s.1 (s.2.1 * C + s.2.2) (s'.2.1 * C + s'.2.2), s'.2.1, s'.2.2) := by
  unfold go1 at h
  cases e : nxt R C s.2.1 s.2.2 w with
  | none => rw [e] at h; cases h
  | some n =>
    rw [e] at h
    have h := Option.some.inj h
    subst h
    exact ⟨rfl, rfl⟩
theorem go1_zr {R C : Nat} {s s' : Sl} {w : Nat} (h : go1 R C s w = some s') : Zr R C s' := by
  obtain ⟨h1, h2⟩ := go1_eq h
  obtain ⟨_, _, h3, h4⟩ := nxt_eq h1
  refine ⟨h3, h4, ?_⟩
  rw [h2]
  exact if_pos rfl
theorem goAll_zr {R C : Nat} : ∀ {ws : List Nat} {s s' : Sl}, Zr R C s → goAll R C s ws = some s' → Zr R C s'
  | [], s, s', z, h => Option.some.inj h ▸ z
  | w :: r, s, s', z, h => by
    have h : (go1 R C s w).bind (fun s' => goAll R C s' r) = some s' := h
    cases e : go1 R C s w with
    | none => rw [e] at h; cases h
    | some s1 =>
      rw [e] at h
      exact goAll_zr (go1_zr e) h
theorem pq_ne {R C : Nat} {s s' : Sl} {w : Nat} (z : Zr R C s) (h : go1 R C s w = some s') : s.2.1 * C + s.2.2 ≠ s'.2.1 * C + s'.2.2 := by
  intro e
  obtain ⟨h1, h2⟩ := go1_eq h
  obtain ⟨e1, e2, h3, h4⟩ := nxt_eq h1
  obtain ⟨i1, i2⟩ := ix_inj z.c h4 e
  rcases stp_move (w := w) with m | m <;> omega
theorem go1_back {R C : Nat} {s s' : Sl} {w : Nat} (z : Zr R C s) (hw : okL w) (h : go1 R C s w = some s') : go1 R C s' (bk w) = some s := by
  obtain ⟨h1, h2⟩ := go1_eq h
  have hn := pq_ne z h
  obtain ⟨f, r, c⟩ := s
  obtain ⟨f', r', c'⟩ := s'
  dsimp only at h1 h2 hn
  have hf : f' = put2 f (r * C + c) (r' * C + c') := congrArg Prod.fst h2
  unfold go1
  dsimp only
  rw [nxt_back z.r z.c hw h1]
  show some (put2 f' (r' * C + c') (r * C + c), r, c) = some (f, r, c)
  have : put2 f' (r' * C + c') (r * C + c) = f := by
    funext k
    unfold put2
    by_cases k1 : k = r * C + c
    · rw [if_pos k1, k1]
      exact z.z.symm
    · rw [if_neg k1]
      rw [hf]
      unfold put2
      by_cases k2 : k = r' * C + c'
      · rw [if_pos k2, if_neg hn, if_pos rfl, k2]
      · rw [if_neg k2, if_neg k2, if_neg k1]
  rw [this]
def undo (ws : List Nat) : List Nat := ws.reverse.map bk
theorem undo_cons (w : Nat) (r : List Nat) : undo (w :: r) = undo r ++ [bk w] := by
  unfold undo
  rw [List.reverse_cons, List.map_append]
  rfl
theorem undo_undo (ws : List Nat) : undo (undo ws) = ws := by
  unfold undo
  rw [← List.map_reverse, List.reverse_reverse, List.map_map]
  have : (bk ∘ bk) = id := funext fun w => bk_bk
  rw [this, List.map_id]
theorem undo_ok {ws : List Nat} (h : ∀ w ∈ ws, okL w) : ∀ w ∈ undo ws, okL w := by
  intro w hw
  unfold undo at hw
  obtain ⟨x, hx, rfl⟩ := List.mem_map.mp hw
  exact bk_ok (h x (List.mem_reverse.mp hx))
theorem undo_len (ws : List Nat) : (undo ws).length = ws.length := by
  unfold undo
  rw [List.length_map, List.length_reverse]
theorem goAll_undo {R C : Nat} : ∀ {ws : List Nat} {s s' : Sl}, Zr R C s → (∀ w ∈ ws, okL w) → goAll R C s ws = some s' → goAll R C s' (undo ws) = some s
  | [], s, s', z, hk, h => by
    have e := Option.some.inj h
    subst e
    rfl
  | w :: r, s, s', z, hk, h => by
    have h : (go1 R C s w).bind (fun s' => goAll R C s' r) = some s' := h
    cases e : go1 R C s w with
    | none => rw [e] at h; cases h
    | some s1 =>
      rw [e] at h
      have ih := goAll_undo (go1_zr e) (fun x hx => hk x (List.mem_cons_of_mem _ hx)) h
      rw [undo_cons, goAll_append, ih]
      show goAll R C s1 [bk w] = some s
      rw [goAll_one]
      exact go1_back z (hk w List.mem_cons_self) e
/-! ### all numbers stay -/
theorem allV_put {n : Nat} {f : Fld} {p q : Nat} (hp : p < n) (hq : q < n) (hz : f p = 0) : allV n (put2 f p q) = ((allV n f).set p ((allV n f)[q]'(by unfold allV; simpa using hq))).set q ((allV n f)[p]'(by unfold allV; simpa using hp)) := by
  apply List.ext_getElem
  · simp [allV]
  · intro i h1 h2
    have hi : i < n := by simpa [allV] using h1
    simp only [allV, List.getElem_map, List.getElem_range, List.getElem_set]
    unfold put2
    by_cases a : i = q
    · subst a
      simp [hz]
    · rw [if_neg a, if_neg (fun e => a (Eq.symm e))]
      by_cases b : i = p
      · subst b
        simp
      · rw [if_neg b, if_neg (fun e => b (Eq.symm e))]
theorem put2_full {n : Nat} {f : Fld} {p q : Nat} (hp : p < n) (hq : q < n) (hz : f p = 0) (h : Full n f) : Full n (put2 f p q) := by
  unfold Full
  rw [allV_put hp hq hz]
  exact (List.set_set_perm (as := allV n f) (i := p) (j := q) (by unfold allV; simpa using hp) (by unfold allV; simpa using hq)).trans h
theorem go1_full {R C : Nat} {s s' : Sl} {w : Nat} (z : Zr R C s) (h : go1 R C s w = some s') (x : Full (R * C) s.1) : Full (R * C) s'.1 := by
  have z' := go1_zr h
  obtain ⟨h1, h2⟩ := go1_eq h
  rw [h2]
  exact put2_full (ix_lt z.r z.c) (ix_lt z'.r z'.c) z.z x
theorem goAll_full {R C : Nat} : ∀ {ws : List Nat} {s s' : Sl}, Zr R C s → goAll R C s ws = some s' → Full (R * C) s.1 → Full (R * C) s'.1
  | [], s, s', z, h, x => Option.some.inj h ▸ x
  | w :: r, s, s', z, h, x => by
    have h : (go1 R C s w).bind (fun s' => goAll R C s' r) = some s' := h
    cases e : go1 R C s w with
    | none => rw [e] at h; cases h
    | some s1 =>
      rw [e] at h
      exact goAll_full (go1_zr e) h (go1_full z e x)
/-- 0 stands at one place alone -/
theorem full_nodup {n : Nat} {f : Fld} (h : Full n f) : (allV n f).Nodup := by
  refine h.symm.nodup ?_
  unfold List.Nodup
  rw [List.pairwise_map]
  refine List.Pairwise.imp ?_ List.nodup_range
  intro a b hab e
  exact hab (by omega)
theorem full_inj {n : Nat} {f : Fld} (h : Full n f) {i j : Nat} (hi : i < n) (hj : j < n) (e : f i = f j) : i = j := by
  have nd := full_nodup h
  have q := (List.getElem_inj (xs := allV n f) (i := i) (j := j) (h₀ := by simpa [allV] using hi) (h₁ := by simpa [allV] using hj) nd).mp
  exact q (by simpa [allV] using e)
theorem full_zero {n : Nat} {f : Fld} (hn : 0 < n) (h : Full n f) : ∃ p, p < n ∧ f p = 0 := by
  have m : (0 : Int) ∈ allV n f := h.symm.mem_iff.mp (List.mem_map.mpr ⟨0, List.mem_range.mpr hn, rfl⟩)
  obtain ⟨p, hp, e⟩ := List.mem_map.mp m
  exact ⟨p, List.mem_range.mp hp, e⟩
/-! ### thinned -/
/-- the last one of what is left goes with its own back -/
def thS (left : List Nat) (w : Nat) : List Nat := if left.getLast? = some (bk w) then left.dropLast else left ++ [w]
def thinL (ws : List Nat) : List Nat := ws.foldl thS []
def push (w : Nat) (f : List Nat) : List Nat := if f.head? = some (bk w) then f.tail else w :: f
def thinR (ws : List Nat) : List Nat := ws.foldr push []
def Red : List Nat → Prop
  | [] => True
  | [_] => True
  | x :: y :: r => y ≠ bk x ∧ Red (y :: r)
theorem red_tail : ∀ {x : Nat} {l : List Nat}, Red (x :: l) → Red l
  | _, [], _ => True.intro
  | _, _ :: _, h => h.2
theorem red_push {w : Nat} {f : List Nat} (h : Red f) : Red (push w f) := by
  unfold push
  split
  · cases f with
    | nil => exact True.intro
    | cons x r => exact red_tail h
  · rename_i k
    cases f with
    | nil => exact True.intro
    | cons x r => exact ⟨fun e => k (by rw [e]; rfl), h⟩
theorem push_push {w : Nat} {f : List Nat} (hf : Red f) : push (bk w) (push w f) = f := by
  unfold push
  by_cases k : f.head? = some (bk w)
  · rw [if_pos k]
    cases f with
    | nil => cases k
    | cons x r =>
      have e : x = bk w := Option.some.inj k
      subst e
      show (if r.head? = some (bk (bk w)) then r.tail else bk w :: r) = bk w :: r
      refine if_neg fun e => ?_
      cases r with
      | nil => cases e
      | cons y q => exact hf.1 (Option.some.inj e)
  · rw [if_neg k]
    show (if (w :: f).head? = some (bk (bk w)) then f else bk w :: w :: f) = f
    rw [if_pos (by rw [bk_bk]; rfl)]
theorem foldr_red (left : List Nat) {f : List Nat} (h : Red f) : Red (left.foldr push f) := by
  induction left with
  | nil => exact h
  | cons x r ih => exact red_push ih
theorem thS_foldr {left : List Nat} {w : Nat} {f : List Nat} (hf : Red f) : (thS left w).foldr push f = left.foldr push (push w f) := by
  unfold thS
  split
  · rename_i k
    have e : left = left.dropLast ++ [bk w] := by
      have hne : left ≠ [] := by
        intro e
        rw [e] at k
        cases k
      have h1 := List.dropLast_concat_getLast hne
      rw [List.getLast?_eq_getLast hne] at k
      rw [Option.some.inj k] at h1
      exact h1.symm
    generalize hd : left.dropLast = d at e
    rw [e, List.foldr_append]
    show d.foldr push f = d.foldr push (push (bk w) (push w f))
    rw [push_push hf]
  · rw [List.foldr_append]
    rfl
theorem foldl_foldr : ∀ (ws left : List Nat), (ws.foldl thS left).foldr push [] = left.foldr push (ws.foldr push [])
  | [], _ => rfl
  | w :: r, left => by
    show (r.foldl thS (thS left w)).foldr push [] = left.foldr push (push w (r.foldr push []))
    rw [foldl_foldr r (thS left w)]
    exact thS_foldr (foldr_red r True.intro)
theorem red_dropLast : ∀ {l : List Nat}, Red l → Red l.dropLast
  | [], _ => True.intro
  | [_], _ => True.intro
  | [_, _], _ => True.intro
  | x :: y :: z :: r, h => ⟨h.1, red_dropLast (l := y :: z :: r) h.2⟩
theorem red_snoc : ∀ {l : List Nat} {w : Nat}, Red l → l.getLast? ≠ some (bk w) → Red (l ++ [w])
  | [], _, _, _ => True.intro
  | [x], w, _, h => ⟨fun e => h (by rw [e, bk_bk]; rfl), True.intro⟩
  | x :: y :: r, w, h, k => ⟨h.1, red_snoc (l := y :: r) h.2 (by rw [List.getLast?_cons_cons] at k; exact k)⟩
theorem red_thS {l : List Nat} {w : Nat} (h : Red l) : Red (thS l w) := by
  unfold thS
  split
  · exact red_dropLast h
  · rename_i k
    exact red_snoc h k
theorem red_foldl : ∀ {ws l : List Nat}, Red l → Red (ws.foldl thS l)
  | [], _, h => h
  | w :: r, l, h => red_foldl (ws := r) (l := thS l w) (red_thS h)
theorem foldr_self : ∀ {l : List Nat}, Red l → l.foldr push [] = l
  | [], _ => rfl
  | [_], _ => rfl
  | x :: y :: r, h => by
    show push x ((y :: r).foldr push []) = x :: y :: r
    rw [foldr_self (l := y :: r) h.2]
    exact if_neg fun e => h.1 (Option.some.inj e)
theorem thin_same (ws : List Nat) : thinL ws = thinR ws := by
  have h := foldl_foldr ws []
  have r : Red (ws.foldl thS []) := red_foldl True.intro
  rw [foldr_self r] at h
  exact h
theorem thS_len (l : List Nat) (w : Nat) : (thS l w).length ≤ l.length + 1 := by
  unfold thS
  split
  · rw [List.length_dropLast]; omega
  · rw [List.length_append]; exact Nat.le_refl _
theorem thin_take {ws : List Nat} {i w : Nat} (h : ws[i]? = some w) : thinL (ws.take (i + 1)) = thS (thinL (ws.take i)) w := by
  unfold thinL
  rw [take_more h, List.foldl_append]
  rfl
theorem foldl_len : ∀ (ws l : List Nat), (ws.foldl thS l).length ≤ l.length + ws.length
  | [], l => Nat.le_refl _
  | w :: r, l => by
    have h := foldl_len r (thS l w)
    have h2 := thS_len l w
    show (r.foldl thS (thS l w)).length ≤ l.length + (r.length + 1)
    omega
theorem thinL_len (ws : List Nat) : (thinL ws).length ≤ ws.length := by
  have h := foldl_len ws []
  simpa [thinL] using h
theorem thinL_ok {ws : List Nat} : (∀ w ∈ ws, okL w) → ∀ w ∈ thinL ws, okL w := by
  have g : ∀ (ws l : List Nat), (∀ w ∈ l, okL w) → (∀ w ∈ ws, okL w) → ∀ w ∈ ws.foldl thS l, okL w := by
    intro ws
    induction ws with
    | nil => intro l hl _; exact hl
    | cons x r ih =>
      intro l hl hw
      refine ih (thS l x) ?_ (fun y hy => hw y (List.mem_cons_of_mem _ hy))
      intro y hy
      unfold thS at hy
      split at hy
      · exact hl y (List.dropLast_subset l hy)
      · rcases List.mem_append.mp hy with h | h
        · exact hl y h
        · rw [List.mem_singleton.mp h]
          exact hw x List.mem_cons_self
  exact fun h => g ws [] (fun _ h => by cases h) h
end Tr
/-! Rules and heaps -/
namespace Tr
open PySem PySem.Spec PyProof.Rows L2
/-! ### a product of any two ints that the machine takes -/
section
variable {X : Cx}
theorem op_mulX : OpR X (binaryOp .Mult) (rI IntMulOk fun i j => .int (i * j)) := opI fun _ _ _ _ _ _ _ hc q => mul_int q hc
end
/-! ### s[::-1] of a text -/
def tRevS (te : TE) : TE := fun σ H Q => te σ H fun x H1 => ∃ z : Str, x = .str z ∧ z.length ≤ sizeLine ∧ Q (.str ⟨z.cps.toList.reverse.toArray⟩) H1
theorem pick_rev {α : Type} (xs : Array α) : ((List.range xs.size).map fun k => xs.size - 1 - k).filterMap (xs[·]?) = xs.toList.reverse := by
  have e : ((List.range xs.size).map fun k => xs.size - 1 - k) = (List.range xs.size).reverse := by
    apply List.ext_getElem
    · simp
    · intro i h1 h2
      simp at h1 h2
      simp
  rw [e, List.filterMap_reverse, PySem.W.krv_all]
theorem rev_idx (n : Nat) : Builtin.Str.strSliceIndices none none (-1) n = (List.range n).map fun k => n - 1 - k := by
  unfold Builtin.Str.strSliceIndices
  exact PySem.W.krv_sliceRange n
section
variable {X : Cx}
theorem pe_revS {e : Expr} {te : TE} {k : Nat} {p1 p2 p3 pos : Pos} (he : PE X e te) : PE X (.Subscript e (.Slice none none (some (.UnaryOp .USub (.Constant (.int 1) k p1) p2)) p3) pos) (tRevS te) := by
  refine ⟨fun pins s σ H Q I h => ?_⟩
  refine Subscript_ (thn (he.run pins s σ H _ I h) fun v s1 ⟨x, H1, I1, r1, q1⟩ => ?_)
  obtain ⟨z, ex, hz, q⟩ := q1
  subst ex
  obtain ⟨t, rfl⟩ := r1
  have hst : PO X (some (.UnaryOp .USub (.Constant (.int 1) k p1) p2)) (tPart (tUn (rU fun i => .int (-i)) (tC (.int 1)))) := po_some (pe_un un_neg pe_int)
  refine wpAny_Slice (thn (po_none.run pins s1 σ H1 (fun o H2 => o = none ∧ H2 = H1) I1 ⟨rfl, rfl⟩) fun vl s2 ⟨l, H2, I2, pl, el, e2⟩ => ?_)
  subst el e2
  refine thn (po_none.run pins s2 σ H2 (fun o H3 => o = none ∧ H3 = H2) I2 ⟨rfl, rfl⟩) fun vu s3 ⟨u, H3, I3, pu, eu, e3⟩ => ?_
  subst eu e3
  refine thn (hst.run pins s3 σ H3 (fun o H4 => o = some (-1) ∧ H4 = H3) I3 ⟨1, rfl, -1, rfl, rfl, rfl⟩) fun vs s4 ⟨o, H4, I4, ps, eo, e4⟩ => ?_
  subst eo e4
  have I5 : Inv X pins σ H4 { s4 with heap := s4.heap.push { cls := .type "slice", data := .fields #[vl, vu, vs] } } := I4.kept (t' := s4.toks) fun b ob q => Heap.get?_push_of_some _ q
  obtain ⟨l, rfl, el⟩ := IsPart.raw pl
  obtain ⟨u, rfl, eu⟩ := IsPart.raw pu
  obtain ⟨st, rfl, est⟩ := IsPart.raw ps
  show wpAny (model X.prog X.w) X.A (subscriptTail e (.Slice none none (some (.UnaryOp .USub (.Constant (.int 1) k p1) p2)) p3) (.str z t) (.ref s4.heap.objs.size)) (EP X pins σ Q) X.xe { s4 with heap := s4.heap.push { cls := .type "slice", data := .fields #[partValue l, partValue u, partValue st] } }
  refine tail_any (ops := [.ref s4.heap.objs.size, .str z t]) (typeIs_str _ _ _) F.slot_str_getitem.lookup ?_ (by with_unfolding_all rfl)
  have h0 : ((st.map (·.1)).getD 1 == 0) = false := by rw [est]; rfl
  refine wpAny_getItem_str_slice (l := l) (u := u) (st := st) ⟨_, Heap.get?_push_size _ rfl, rfl, rfl⟩ h0 ?_
  have e1 : slicePicked z l u st = (List.range z.length).map fun k => z.length - 1 - k := by
    unfold slicePicked
    rw [el, eu, est]
    exact rev_idx z.length
  unfold sliceMade
  rw [e1, est]
  have e2 : ((List.range z.length).map fun k => z.length - 1 - k).filterMap (z.cps[·]?) = z.cps.toList.reverse := pick_rev z.cps
  rw [e2]
  have c : ¬ ((((some (-1 : Int)).getD 1 == 1) && (((List.range z.length).map fun k => z.length - 1 - k).length == z.length)) = true) := by
    intro c
    have := (Bool.and_eq_true _ _).mp c
    exact absurd this.1 (by decide)
  rw [if_neg c]
  refine ⟨?_, .str _, H4, I5.tok _, ⟨_, rfl⟩, q⟩
  show z.cps.toList.reverse.toArray.size ≤ sizeLine
  rw [List.size_toArray, List.length_reverse, Array.length_toList]
  exact hz
end
/-! ### texts by their codes -/
abbrev txt (ws : List Nat) : Str := ⟨ws.toArray⟩
theorem txt_len (ws : List Nat) : (txt ws).length = ws.length := by
  show ws.toArray.size = ws.length
  exact List.size_toArray
theorem txt_add (a b : List Nat) : txt a ++ txt b = txt (a ++ b) := by
  show (⟨a.toArray ++ b.toArray⟩ : Str) = ⟨(a ++ b).toArray⟩
  rw [List.append_toArray]
theorem txt_of (z : Str) : z = txt z.cps.toList := by
  cases z
  rfl
theorem txt_inj {a b : List Nat} (h : txt a = txt b) : a = b := by
  have := congrArg (fun z : Str => z.cps.toList) h
  exact this
/-! ### heaps -/
theorem same_upd {H : Hp} {p : Addr} {o : HO} (h : H p = none) : Same H (upd H p o) := fun b x e => by
  rw [upd_ne (ne_of_none e h)]
  exact e
/-- one row of a tray, from its first place on -/
def rowV (C : Nat) (f : Fld) (i : Nat) : List V := (List.range C).map fun j => V.int (f (i * C + j))
theorem rowV_len (C : Nat) (f : Fld) (i : Nat) : (rowV C f i).length = C := by
  unfold rowV
  rw [List.length_map, List.length_range]
theorem rowV_get {C : Nat} {f : Fld} {i j : Nat} (h : j < C) : (rowV C f i)[j]? = some (V.int (f (i * C + j))) := by
  unfold rowV
  rw [List.getElem?_map, List.getElem?_range h]
  rfl
theorem rowV_set {C : Nat} {f : Fld} {i j : Nat} {v : Int} {g : Fld} (hg : ∀ k, k < C → g (i * C + k) = if k = j then v else f (i * C + k)) : (rowV C f i).set j (V.int v) = rowV C g i := by
  apply List.ext_getElem
  · simp [rowV]
  · intro k h1 h2
    have hk : k < C := by simpa [rowV] using h2
    simp only [rowV, List.getElem_set, List.getElem_map, List.getElem_range]
    rw [hg k hk]
    by_cases e : j = k
    · rw [if_pos e, if_pos e.symm]
    · rw [if_neg e, if_neg fun z => e z.symm]
/-- at a stands a tray of R rows (at rs) and C columns -/
structure TrayAt (H : Hp) (a : Addr) (rs : List Addr) (R C : Nat) (f : Fld) : Prop where
  top : H a = some (.lst (rs.map V.ref))
  len : rs.length = R
  row : ∀ i r, rs[i]? = some r → H r = some (.lst (rowV C f i))
  nd : rs.Nodup
  na : a ∉ rs
theorem TrayAt.mono {H H' : Hp} {a : Addr} {rs : List Addr} {R C : Nat} {f : Fld} (s : Same H H') (t : TrayAt H a rs R C f) : TrayAt H' a rs R C f :=
  ⟨s _ _ t.top, t.len, fun i r h => s _ _ (t.row i r h), t.nd, t.na⟩
theorem TrayAt.get {H : Hp} {a : Addr} {rs : List Addr} {R C : Nat} {f : Fld} (t : TrayAt H a rs R C f) {i : Nat} (hi : i < R) : ∃ r, rs[i]? = some r ∧ (rs.map V.ref)[i]? = some (V.ref r) ∧ H r = some (.lst (rowV C f i)) := by
  have h : i < rs.length := by rw [t.len]; exact hi
  refine ⟨rs[i], List.getElem?_eq_getElem h, ?_, t.row i _ (List.getElem?_eq_getElem h)⟩
  rw [List.getElem?_map, List.getElem?_eq_getElem h]
  rfl
theorem TrayAt.congr {H : Hp} {a : Addr} {rs : List Addr} {R C : Nat} {f g : Fld} (h : ∀ k, k < R * C → f k = g k) (t : TrayAt H a rs R C f) : TrayAt H a rs R C g := by
  refine ⟨t.top, t.len, fun i r e => ?_, t.nd, t.na⟩
  rw [t.row i r e]
  have hi : i < R := by
    rw [← t.len]
    exact (List.getElem?_eq_some_iff.mp e).1
  have : rowV C f i = rowV C g i := by
    unfold rowV
    refine List.map_congr_left fun j hj => ?_
    rw [h _ (ix_lt hi (List.mem_range.mp hj))]
  rw [this]
/-! ### the data of a tray, compared -/
def rowD (C : Nat) (f : Fld) (i : Nat) : PyData := .list ((List.range C).map fun j => PyData.int (f (i * C + j)))
theorem dp_ints {K : PySem.W.Frag} {H : Hp} : ∀ ns : List Int, DpAll K H (ns.map V.int) (ns.map PyData.int)
  | [] => .nil
  | n :: r => .cons (.int n) (dp_ints r)
theorem dp_row {K : PySem.W.Frag} {H : Hp} {C : Nat} {f : Fld} {i : Nat} {r : Addr} (h : H r = some (.lst (rowV C f i))) : Dp K H (.ref r) (rowD C f i) := by
  have e : rowV C f i = ((List.range C).map fun j => f (i * C + j)).map V.int := by
    unfold rowV
    rw [List.map_map]
    rfl
  have e2 : rowD C f i = .list (((List.range C).map fun j => f (i * C + j)).map PyData.int) := by
    unfold rowD
    rw [List.map_map]
    rfl
  rw [e] at h
  rw [e2]
  exact .lst (SqL.of h) (dp_ints _)
theorem dp_all {K : PySem.W.Frag} {H : Hp} : ∀ {vs : List V} {ds : List PyData}, vs.length = ds.length → (∀ (i : Nat) (v : V) (d : PyData), vs[i]? = some v → ds[i]? = some d → Dp K H v d) → DpAll K H vs ds
  | [], [], _, _ => .nil
  | v :: vs, d :: ds, hl, h => .cons (h 0 v d rfl rfl) (dp_all (by simpa using hl) fun i x y a b => h (i + 1) x y a b)
  | [], _ :: _, hl, _ => by simp at hl
  | _ :: _, [], hl, _ => by simp at hl
def rowsD (C : Nat) (f : Fld) (ks : List Nat) : PyData := .list (ks.map (rowD C f))
theorem dp_rows {K : PySem.W.Frag} {H : Hp} {C : Nat} {f : Fld} {a : Addr} {rs : List Addr} {ks : List Nat} (ha : H a = some (.lst (rs.map V.ref))) (hl : rs.length = ks.length) (h : ∀ (i : Nat) (r : Addr) (k : Nat), rs[i]? = some r → ks[i]? = some k → H r = some (.lst (rowV C f k))) : Dp K H (.ref a) (rowsD C f ks) := by
  refine .lst (SqL.of ha) (dp_all (by simpa using hl) fun i v d e1 e2 => ?_)
  rw [List.getElem?_map] at e1 e2
  cases q1 : rs[i]? with
  | none => rw [q1] at e1; cases e1
  | some r =>
    cases q2 : ks[i]? with
    | none => rw [q2] at e2; cases e2
    | some k =>
      rw [q1] at e1
      rw [q2] at e2
      have e1 := Option.some.inj e1
      have e2 := Option.some.inj e2
      subst e1 e2
      exact dp_row (h i r k q1 q2)
theorem TrayAt.dp {K : PySem.W.Frag} {H : Hp} {a : Addr} {rs : List Addr} {R C : Nat} {f : Fld} (t : TrayAt H a rs R C f) : Dp K H (.ref a) (rowsD C f (List.range R)) := by
  refine dp_rows t.top (by rw [t.len, List.length_range]) fun i r k e1 e2 => ?_
  have hi := (List.getElem?_eq_some_iff.mp e2).1
  rw [List.length_range] at hi
  rw [List.getElem?_range hi] at e2
  cases e2
  exact t.row i r e1
theorem lay_rows {C : Nat} {f : Fld} : ∀ ks : List Nat, PyData.canLayAll0 (ks.map (rowD C f)) = true
  | [] => rfl
  | k :: r => by
    have h := lay_rows (C := C) (f := f) r
    have h2 : PyData.canLay0 (rowD C f k) = true := by
      have e : rowD C f k = .list (((List.range C).map fun j => f (k * C + j)).map PyData.int) := by
        unfold rowD
        rw [List.map_map]
        rfl
      rw [e]
      simp only [PyData.canLay0]
      exact PySem.W.canLayAll0_ints _
    simp only [List.map_cons, PyData.canLayAll0, h, h2, Bool.and_self]
theorem depth_rows {C : Nat} {f : Fld} : ∀ ks : List Nat, PyData.depthAll (ks.map (rowD C f)) ≤ 2
  | [] => by simp [PyData.depthAll]
  | k :: r => by
    have h := depth_rows (C := C) (f := f) r
    have h2 : PyData.depth (rowD C f k) ≤ 2 := by
      have e : rowD C f k = .list (((List.range C).map fun j => f (k * C + j)).map PyData.int) := by
        unfold rowD
        rw [List.map_map]
        rfl
      rw [e]
      have := PySem.W.depthAll_ints ((List.range C).map fun j => f (k * C + j))
      simp only [PyData.depth]
      omega
    simp only [List.map_cons, PyData.depthAll]
    omega
theorem shaped_rows {C : Nat} {f : Fld} (ks : List Nat) : SeqAt.shaped (rowsD C f ks) = true := by
  have h1 := depth_rows (C := C) (f := f) ks
  have h2 : PyData.depth (rowsD C f ks) ≤ 64 := by
    unfold rowsD
    simp only [PyData.depth]
    omega
  show (PyData.canLay0 (rowsD C f ks) && decide (PyData.depth (rowsD C f ks) ≤ 64)) = true
  rw [Bool.and_eq_true]
  refine ⟨?_, decide_eq_true h2⟩
  unfold rowsD
  simp only [PyData.canLay0]
  exact lay_rows ks
theorem eqv_rows {C : Nat} {f : Fld} (ks : List Nat) : PyData.eqv (rowsD C f ks) (rowsD C f ks) = true := SeqAt.eqv_refl _ (SeqAt.canLay_of_shaped (shaped_rows ks))
end Tr
/-! The text by places -/
namespace Tr
open PySem PySem.Spec PyProof.Rows L2
def topS (i : Nat) : Stmt := PySem.Challenge.pw_slidetray_k03_tried.main.body.getD i (.Pass ⟨0, 0, 0, 0⟩)
abbrev d_wall : Stmt := topS 1
abbrev d_moved : Stmt := topS 12
abbrev d_undone : Stmt := topS 13
abbrev d_thinned : Stmt := topS 14
abbrev d_check_tray : Stmt := topS 15
abbrev d_check_slides : Stmt := topS 16
abbrev d_empty_place : Stmt := topS 17
abbrev d_place_beside : Stmt := topS 18
abbrev d_is_wide : Stmt := topS 20
abbrev d_numbers_of : Stmt := topS 21
abbrev d_pieces_of : Stmt := topS 22
abbrev d_crossed_pairs : Stmt := topS 23
abbrev d_steps_apart : Stmt := topS 24
abbrev d_Led_init : Stmt := inClass (topS 27) 0
abbrev d_Led_shows : Stmt := inClass (topS 27) 1
abbrev d_Odd_init : Stmt := inClass (topS 28) 0
abbrev d_Odd_shows : Stmt := inClass (topS 28) 1
abbrev d_Passed_init : Stmt := inClass (topS 29) 0
abbrev d_Passed_shows : Stmt := inClass (topS 29) 1
abbrev d_Passed_is_first : Stmt := inClass (topS 29) 2
abbrev d_straight : Stmt := topS 31
abbrev d_slides_between : Stmt := topS 32
abbrev d_settling_slides : Stmt := topS 33
abbrev d_groups_of_places : Stmt := topS 34
abbrev d_group_slides : Stmt := topS 35
abbrev d_standing_behind : Stmt := topS 36
abbrev d_free_places_beside : Stmt := topS 37
abbrev d_places_of : Stmt := topS 38
abbrev d_told : Stmt := topS 40
abbrev d_told_of_wide : Stmt := topS 41
abbrev d_told_of_narrow : Stmt := topS 42
abbrev d_law_order : Stmt := topS 44
abbrev d_law_digits : Stmt := topS 45
abbrev d_law_tray : Stmt := topS 46
abbrev d_law_place : Stmt := topS 47
abbrev d_law_slid : Stmt := topS 48
abbrev d_law_walk : Stmt := topS 49
abbrev d_law_come_to : Stmt := topS 50
abbrev d_law : Stmt := topS 51
end Tr
/-! The text by places, and what the written part says -/
namespace Tr
open PySem PySem.Spec PyProof.Rows L2
/-- the written dict of the steps -/
structure StepsD (K : PySem.W.Frag) (w : World) (d : Addr) : Prop where
  ex : ∃ es n, KDict K w d es n
  at_ : ∀ c, okL c → ∃ t, KDct K w d (txt [c]) (.ref t) ∧ ∀ H, SqT K H t [.int (stp c).1, .int (stp c).2]
  yes : ∀ c, okL c → ∃ v, PySem.W.nsIn K d (txt [c]) = some (some v)
  no : ∀ c, ¬ okL c → PySem.W.nsIn K d (txt [c]) = some none
/-- the written dict of the backs -/
structure BackD (K : PySem.W.Frag) (w : World) (d : Addr) : Prop where
  at_ : ∀ c, okL c → KDct K w d (txt [c]) (.str (txt [bk c]))
theorem decI {p : Prop} [Decidable p] {A B : Prop} (h1 : p → A) (h2 : ¬ p → B) : if decide p = true then A else B := by
  by_cases h : p
  · rw [if_pos (decide_eq_true h)]
    exact h1 h
  · rw [if_neg (by simpa using h)]
    exact h2 h
end Tr
namespace Tr
open PySem PySem.Spec PyProof.Rows L2
/-- an own exception class over ValueError, at C -/
structure ExcT (K : PySem.W.Frag) (mg : Str → Option Value) (x : Str) (C : Addr) : Prop where
  g : mg x = some (.ref C)
  x : PySem.W.excIn K C [.type "ValueError", .type "Exception", .type "BaseException", .type "object"] "ValueError.__new__" = true
  k : PySem.W.keepIn K (.ref C) = true
  b : PySem.W.subIn K (.ref C) (.type "BaseException") = some true
  t : PySem.W.typeIn K (.ref C) = some (.type "type")
end Tr
namespace Tr
open PySem PySem.Spec PyProof.Rows L2
/-- any clause of a comprehension, its turn left open -/
theorem lc_gen {J : It} {n : Nat} {G : Hp → Prop} {Y : Nat → Hp → V → Hp → Prop} (w : Walk J n G Y) {H1 : Hp} {Qd : Hp → Prop} {Body : (Hp → Prop) → V → Hp → Prop} (Pv : Nat → Hp → Prop) (h0 : Pv 0 H1) (hG : ∀ i H, i ≤ n → Pv i H → G H)
    (hs : ∀ i x H H', i < n → Pv i H → Y i H x H' → Body (Pv (i + 1)) x H') (hd : ∀ H, Pv n H → Qd H) :
    ∃ W : Nat → Nat → Hp → Prop, (∃ m, W 0 m H1) ∧ ∀ i m H, W i m H →
      (J.stop i H ∧ Qd H) ∨ (J.go i H ∧ ∃ Nx : Hp → Prop, (∀ H', Nx H' → ∃ m', m' < m ∧ W (i + 1) m' H') ∧ ∀ x H', J.yld i H x H' → Body Nx x H') := by
  refine ⟨fun i m H => m = n - i ∧ i ≤ n ∧ Pv i H, ⟨n, by simp, Nat.zero_le _, h0⟩, ?_⟩
  rintro i m H ⟨rfl, hi, p⟩
  have q := hG i H hi p
  by_cases hlt : i < n
  · refine .inr ⟨w.goes i H hlt q, Pv (i + 1), fun H' p' => ⟨n - (i + 1), by omega, rfl, hlt, p'⟩, fun x H' y => hs i x H H' hlt p (w.yields i H x H' hlt q y)⟩
  · have e : i = n := by omega
    subst e
    exact .inl ⟨w.stops H q, hd H p⟩
/-- a flat list of one row behind the other -/
theorem allV_rows (C : Nat) (f : Fld) (i : Nat) : (allV (i * C) f).map V.int ++ rowV C f i = (allV ((i + 1) * C) f).map V.int := by
  unfold allV rowV
  rw [Nat.add_mul, Nat.one_mul, List.range_add, List.map_append, List.map_append, List.map_map, List.map_map, List.map_map]
  rfl
end Tr
namespace Tr
open PySem PySem.Spec PyProof.Rows L2
def rListOf (K : PySem.W.Frag) : List V → Hp → VK → Prop := fun xs H Q => ∃ p ys, xs = [.ref p] ∧ (SqL K H p ys ∨ SqT K H p ys) ∧ ∀ l, H l = none → Q (.ref l) (upd H l (.lst ys))
theorem cr_listOf {X : Cx} : CallR X (.type "list") (rListOf X.K) := call_list_of
theorem ixN_nat {n j : Nat} (h : j < n) : ixN n (j : Int) = some j := by
  unfold ixN
  rw [if_pos (by omega), if_pos (by omega)]
  simp
/-- a tray with one row more -/
theorem TrayAt.snoc {H : Hp} {D l : Addr} {rs : List Addr} {i C : Nat} {f : Fld} (T : TrayAt H D rs i C f) (hl : H l = none) (hD : l ≠ D) : TrayAt (upd (upd H l (.lst (rowV C f i))) D (.lst (rs.map V.ref ++ [V.ref l]))) D (rs ++ [l]) (i + 1) C f := by
  have hlr : l ∉ rs := fun m => by
    obtain ⟨j, hj, e⟩ := List.getElem_of_mem m
    have := T.row j l (by rw [← e]; exact List.getElem?_eq_getElem hj)
    rw [hl] at this
    cases this
  refine ⟨by rw [upd_same, List.map_append]; rfl, by rw [List.length_append, T.len]; rfl, fun j r e => ?_, ?_, ?_⟩
  · have hr : r ∈ rs ++ [l] := List.mem_of_getElem? e
    have rD : r ≠ D := by
      rcases List.mem_append.mp hr with m | m
      · exact fun z => T.na (z ▸ m)
      · rw [List.mem_singleton.mp m]
        exact hD
    rw [upd_ne rD]
    by_cases hj : j < rs.length
    · rw [List.getElem?_append_left hj] at e
      have rl : r ≠ l := fun z => hlr (z ▸ List.mem_of_getElem? e)
      rw [upd_ne rl]
      exact T.row j r e
    · rw [List.getElem?_append_right (by omega)] at e
      have hj2 : j = rs.length := by
        have := (List.getElem?_eq_some_iff.mp e).1
        have h1 : ([l] : List Addr).length = 1 := rfl
        omega
      subst hj2
      rw [Nat.sub_self] at e
      cases e
      rw [upd_same, T.len]
  · rw [List.nodup_append]
    refine ⟨T.nd, by simp, fun x hx y hy => ?_⟩
    rw [List.mem_singleton.mp hy]
    exact fun z => hlr (z ▸ hx)
  · intro m
    rcases List.mem_append.mp m with m | m
    · exact T.na m
    · exact hD (List.mem_singleton.mp m).symm
/-- one number stored -/
theorem TrayAt.put {H : Hp} {a r : Addr} {rs : List Addr} {R C i j : Nat} {f : Fld} {v : Int} (T : TrayAt H a rs R C f) (e : rs[i]? = some r) (hj : j < C) : TrayAt (upd H r (.lst ((rowV C f i).set j (V.int v)))) a rs R C (fun k => if k = i * C + j then v else f k) := by
  have ra : a ≠ r := fun z => T.na (z ▸ List.mem_of_getElem? e)
  refine ⟨by rw [upd_ne ra]; exact T.top, T.len, fun i2 r2 e2 => ?_, T.nd, T.na⟩
  by_cases z : i2 = i
  · subst z
    rw [e] at e2
    cases e2
    rw [upd_same]
    refine congrArg (fun x => some (HO.lst x)) (rowV_set fun k hk => ?_)
    by_cases y : k = j
    · rw [if_pos y, if_pos (by rw [y])]
    · rw [if_neg y, if_neg (by omega)]
  · have r2r : r2 ≠ r := fun y => z (nd_ix T.nd (y ▸ e2) e)
    rw [upd_ne r2r, T.row i2 r2 e2]
    refine congrArg (fun x => some (HO.lst x)) ?_
    unfold rowV
    refine List.map_congr_left fun k hk => congrArg V.int ?_
    exact (if_neg fun y => z (ix_inj (List.mem_range.mp hk) hj y).1).symm
/-- [list(row) for row in tray] -/
theorem lc_copy {K : PySem.W.Frag} {H : Hp} {a D : Addr} {rs : List Addr} {R C i : Nat} {f : Fld} {σ : L2.St} {Qd : Hp → Prop} (T : TrayAt H a rs R C f) (hR : R ≤ 1000) (nD : H D = none) (hi : i < σ.length)
    (q : ∀ (rs1 : List Addr) (H1 : Hp), Same H H1 → (∀ x ∈ rs1, H x = none) → TrayAt H1 D rs1 R C f → Qd H1) :
    ∃ W : Nat → Nat → Hp → Prop, (∃ m, W 0 m (upd H D (.lst []))) ∧ ∀ n m H, W n m H →
      ((Itl K a).stop n H ∧ Qd H) ∨ ((Itl K a).go n H ∧ ∃ Nx : Hp → Prop, (∀ H', Nx H' → ∃ m', m' < m ∧ W (n + 1) m' H') ∧ ∀ x H', (Itl K a).yld n H x H' → gName i x (wipe σ [i]) H' fun σ2 H2 => wipe σ2 [i] = wipe σ [i] ∧ tYes σ2 H2 fun b H3 =>
        if b = true then tCB (rListOf K) (tCons (tVar i) tNil) σ2 H3 fun y H4 => ∃ acc, H4 D = some (.lst acc) ∧ acc.length < sizeLine ∧ Nx (upd H4 D (.lst (acc ++ [y]))) else Nx H3) := by
  refine lc_gen (walk_list (K := K) (a := a) (xs := rs.map V.ref)) (fun i H1 => ∃ rs1, TrayAt H1 D rs1 i C f ∧ (∀ x ∈ rs1, H x = none) ∧ Same H H1)
    ⟨[], ⟨upd_same, rfl, fun i r e => by simp at e, List.nodup_nil, by simp⟩, (fun x m => by cases m), same_upd nD⟩ (fun i H1 _ ⟨_, _, _, s⟩ => s.seq (SqL.of T.top)) ?_ ?_
  · rintro n x H1 H2 hn ⟨rs1, T1, hx1, sm⟩ ⟨rfl, hx⟩
    have hn : n < R := by
      rw [List.length_map, T.len] at hn
      exact hn
    obtain ⟨rn, k1, k2, k3⟩ := T.get hn
    rw [k2] at hx
    cases hx
    refine ⟨?_, ?_⟩
    · show (((σ.set i none).set i (some (.ref rn))).set i none) = σ.set i none
      rw [List.set_set, List.set_set]
    · refine ⟨.ref rn, ?_, rn, _, rfl, .inl (SqL.of (sm _ _ k3)), fun l nl => ?_⟩
      · show ((σ.set i none).set i (some (V.ref rn)))[i]? = _
        rw [List.getElem?_set_self (by rw [List.length_set]; exact hi)]
      · have hlD : l ≠ D := fun z => by
          rw [z, T1.top] at nl
          cases nl
        refine ⟨_, by rw [upd_ne hlD.symm]; exact T1.top, ?_, rs1 ++ [l], T1.snoc nl hlD, ?_, ?_⟩
        · rw [List.length_map, T1.len]
          exact small1000 (by omega)
        · intro x m
          rcases List.mem_append.mp m with m | m
          · exact hx1 x m
          · rw [List.mem_singleton.mp m]
            exact sm.free nl
        · intro b o e
          rw [upd_ne (ne_of_none e nD), upd_ne (ne_of_none e (sm.free nl))]
          exact sm _ _ e
  · rintro H1 ⟨rs1, T1, hx1, sm⟩
    rw [List.length_map, T.len] at T1
    exact q rs1 H1 sm hx1 T1
theorem goAll_bad {R C : Nat} (hR : R ≤ 9) : ∀ {ws : List Nat} {s : Sl}, (∃ l ∈ ws, ¬ okL l) → goAll R C s ws = none
  | [], _, ⟨_, h, _⟩ => by cases h
  | w :: r, s, ⟨l, h, hb⟩ => by
    show (go1 R C s w).bind (fun s' => goAll R C s' r) = none
    cases e : go1 R C s w with
    | none => rfl
    | some s1 =>
      rcases List.mem_cons.mp h with z | z
      · subst z
        unfold go1 at e
        rw [nxt_bad hR hb] at e
        cases e
      · exact goAll_bad hR ⟨l, z, hb⟩
theorem go1_of_nxt {R C r c w : Nat} {f : Fld} {n : Nat × Nat} (h : nxt R C r c w = some n) : go1 R C (f, r, c) w = some (put2 f (r * C + c) (n.1 * C + n.2), n.1, n.2) := by
  unfold go1
  dsimp only
  rw [h]
  rfl
theorem go1_of_none {R C r c w : Nat} {f : Fld} (h : nxt R C r c w = none) : go1 R C (f, r, c) w = none := by
  unfold go1
  dsimp only
  rw [h]
  rfl
end Tr
namespace Tr
open PySem PySem.Spec PyProof.Rows L2
def udlr : List Nat := [117, 100, 108, 114]
theorem udlr_eq : ("udlr" : Str) = txt udlr := by decide +kernel
theorem empty_eq : ("" : Str) = txt [] := by decide +kernel
theorem glue_fold : ∀ (r : List Nat) (acc : Array Nat), (r.map fun l => txt [l]).foldl (fun (acc : Array Nat) (p : Str) => acc ++ (txt []).cps ++ p.cps) acc = acc ++ r.toArray
  | [], acc => by simp
  | c :: r, acc => by
    have h := glue_fold r (acc ++ (txt []).cps ++ (txt [c]).cps)
    show (r.map fun l => txt [l]).foldl (fun (acc : Array Nat) (p : Str) => acc ++ (txt []).cps ++ p.cps) (acc ++ (txt []).cps ++ (txt [c]).cps) = acc ++ (c :: r).toArray
    rw [h]
    apply Array.ext'
    simp
theorem join_txt (ws : List Nat) : Txt.join (txt []) (ws.map fun l => txt [l]) = txt ws := by
  show Builtin.Str.glued (txt []) (ws.map fun l => txt [l]) = txt ws
  unfold Builtin.Str.glued
  cases ws with
  | nil => rfl
  | cons c r =>
    show (⟨(r.map fun l => txt [l]).foldl (fun (acc : Array Nat) (p : Str) => acc ++ (txt []).cps ++ p.cps) (txt [c]).cps⟩ : Str) = txt (c :: r)
    rw [glue_fold]
    refine congrArg Str.mk ?_
    apply Array.ext'
    simp
theorem ones_sum (ws : List Nat) : ((ws.map fun l => txt [l]).map (·.length)).sum + (ws.map fun l => txt [l]).length * (txt []).length = ws.length := by
  have e : (txt []).length = 0 := rfl
  rw [e, Nat.mul_zero, Nat.add_zero, List.map_map]
  induction ws with
  | nil => rfl
  | cons c r ih =>
    rw [List.map_cons, List.sum_cons, ih, List.length_cons]
    have : ((fun x : Str => x.length) ∘ fun l => txt [l]) c = 1 := rfl
    rw [this]
    omega
theorem txts_map (ws : List Nat) : (ws.map fun l => V.str (txt [l])) = (ws.map fun l => txt [l]).map V.str := by
  rw [List.map_map]
  rfl
end Tr
/-! How many pairs stand the other way round: two places exchanged turn the count from even to odd or back. -/
namespace Tr
/-- pairs of a list that stand the wrong way round -/
def inv : List Nat → Nat
  | [] => 0
  | a :: r => r.countP (fun b => decide (b < a)) + inv r
theorem inv_cons (a : Nat) (r : List Nat) : inv (a :: r) = r.countP (fun b => decide (b < a)) + inv r := rfl
theorem inv_adj {l : List Nat} {a b : Nat} {r : List Nat} (h : a ≠ b) : (inv (l ++ a :: b :: r) + inv (l ++ b :: a :: r)) % 2 = 1 := by
  induction l with
  | nil =>
    show (inv (a :: b :: r) + inv (b :: a :: r)) % 2 = 1
    simp only [inv_cons, List.countP_cons]
    rcases Nat.lt_or_gt_of_ne h with h1 | h1
    · have e1 : decide (b < a) = false := decide_eq_false (by omega)
      have e2 : decide (a < b) = true := decide_eq_true h1
      simp only [e1, e2]
      simp
      omega
    · have e1 : decide (b < a) = true := decide_eq_true h1
      have e2 : decide (a < b) = false := decide_eq_false (by omega)
      simp only [e1, e2]
      simp
      omega
  | cons x l ih =>
    simp only [List.cons_append, inv_cons]
    have e : (l ++ a :: b :: r).countP (fun y => decide (y < x)) = (l ++ b :: a :: r).countP (fun y => decide (y < x)) := by
      refine List.Perm.countP_eq _ (List.Perm.append_left l (List.Perm.swap b a r))
    rw [e]
    omega
/-- an item carried over others -/
theorem inv_move {a : Nat} : ∀ (m l r : List Nat), a ∉ m → (inv (l ++ a :: (m ++ r)) + inv (l ++ (m ++ a :: r))) % 2 = m.length % 2
  | [], l, r, _ => by
    simp only [List.nil_append, List.length_nil]
    omega
  | b :: m, l, r, h => by
    have hb : a ≠ b := fun e => h (e ▸ List.mem_cons_self)
    have hm : a ∉ m := fun e => h (List.mem_cons_of_mem _ e)
    have h1 := inv_adj (l := l) (r := m ++ r) hb
    have ih := inv_move m (l ++ [b]) r hm
    simp only [List.append_assoc, List.cons_append, List.nil_append] at ih
    simp only [List.cons_append, List.length_cons]
    omega
theorem inv_swap {l m r : List Nat} {a b : Nat} (hab : a ≠ b) (ha : a ∉ m) (hb : b ∉ m) : (inv (l ++ a :: (m ++ b :: r)) + inv (l ++ b :: (m ++ a :: r))) % 2 = 1 := by
  have h1 := inv_move m l (b :: r) ha
  have h2 := inv_move m l (a :: r) hb
  have h3 := inv_adj (l := l ++ m) (r := r) hab
  simp only [List.append_assoc] at h3
  omega
/-- two places of a list exchanged -/
theorem set_set_split {xs : List Nat} {p q : Nat} (hpq : p < q) (hq : q < xs.length) : ∃ l m r a b, xs = l ++ a :: (m ++ b :: r) ∧ (xs.set p (xs[q])).set q (xs[p]'(by omega)) = l ++ b :: (m ++ a :: r) := by
  have hp : p < xs.length := by omega
  refine ⟨xs.take p, (xs.drop (p + 1)).take (q - p - 1), xs.drop (q + 1), xs[p], xs[q], ?_, ?_⟩
  · apply List.ext_getElem?
    intro i
    have e1 : (xs.drop (p + 1)).take (q - p - 1) ++ xs[q] :: xs.drop (q + 1) = xs.drop (p + 1) := by
      have h1 := (List.take_append_drop (q - p - 1) (xs.drop (p + 1))).symm
      rw [List.drop_drop, show p + 1 + (q - p - 1) = q by omega] at h1
      rw [List.drop_eq_getElem_cons hq] at h1
      exact h1.symm
    rw [e1, ← List.drop_eq_getElem_cons hp, List.take_append_drop]
  · apply List.ext_getElem
    · simp only [List.length_set, List.length_append, List.length_cons, List.length_take, List.length_drop]
      omega
    · intro i h1 h2
      simp only [List.getElem_set]
      rw [List.length_set, List.length_set] at h1
      by_cases e1 : q = i
      · subst e1
        rw [if_pos rfl]
        rw [List.getElem_append_right (by rw [List.length_take]; omega)]
        simp only [List.length_take]
        rw [List.getElem_cons]
        rw [dif_neg (by omega)]
        rw [List.getElem_append_right (by rw [List.length_take, List.length_drop]; omega)]
        simp only [List.length_take, List.length_drop]
        rw [List.getElem_cons, dif_pos (by omega)]
      · rw [if_neg e1]
        by_cases e2 : p = i
        · subst e2
          rw [if_pos rfl, List.getElem_append_right (by rw [List.length_take]; omega)]
          simp only [List.length_take]
          rw [List.getElem_cons, dif_pos (by omega)]
        · rw [if_neg e2]
          by_cases e3 : i < p
          · rw [List.getElem_append_left (by rw [List.length_take]; omega), List.getElem_take]
          · rw [List.getElem_append_right (by rw [List.length_take]; omega)]
            simp only [List.length_take]
            rw [List.getElem_cons, dif_neg (by omega)]
            by_cases e4 : i < q
            · rw [List.getElem_append_left (by rw [List.length_take, List.length_drop]; omega), List.getElem_take, List.getElem_drop]
              congr 1
              omega
            · rw [List.getElem_append_right (by rw [List.length_take, List.length_drop]; omega)]
              simp only [List.length_take, List.length_drop]
              rw [List.getElem_cons, dif_neg (by omega), List.getElem_drop]
              congr 1
              omega
theorem inv_set_set {xs : List Nat} (nd : xs.Nodup) {p q : Nat} (hne : p ≠ q) (hp : p < xs.length) (hq : q < xs.length) : (inv xs + inv ((xs.set p (xs[q])).set q (xs[p]))) % 2 = 1 := by
  have go : ∀ {p q : Nat} (hpq : p < q) (hq : q < xs.length), (inv xs + inv ((xs.set p (xs[q])).set q (xs[p]'(by omega)))) % 2 = 1 := by
    intro p q hpq hq
    obtain ⟨l, m, r, a, b, e1, e2⟩ := set_set_split hpq hq
    rw [e2]
    have nd' := nd
    rw [e1] at nd'
    rw [List.nodup_append] at nd'
    obtain ⟨_, nd2, _⟩ := nd'
    rw [List.nodup_cons] at nd2
    obtain ⟨na, nd3⟩ := nd2
    rw [List.nodup_append] at nd3
    obtain ⟨_, nd4, dj⟩ := nd3
    have hab : a ≠ b := fun e => na (List.mem_append.mpr (.inr (e ▸ List.mem_cons_self)))
    have ham : a ∉ m := fun e => na (List.mem_append.mpr (.inl e))
    have hbm : b ∉ m := fun e => dj b e b List.mem_cons_self rfl
    have h := inv_swap (l := l) (m := m) (r := r) hab ham hbm
    rw [← e1] at h
    exact h
  rcases Nat.lt_or_gt_of_ne hne with h | h
  · exact go h hq
  · have := go h hp
    have e : (xs.set p xs[q]).set q xs[p] = (xs.set q xs[p]).set p xs[q] := List.set_comm _ _ hne
    rw [e]
    exact this
end Tr
/-! Pairs and steps of two trays, together even or odd, stay so through every slide. -/
namespace Tr
theorem inv_snoc : ∀ (l : List Nat) (x : Nat), inv (l ++ [x]) = inv l + l.countP (fun y => decide (x < y))
  | [], x => rfl
  | a :: r, x => by
    have ih := inv_snoc r x
    show (r ++ [x]).countP (fun b => decide (b < a)) + inv (r ++ [x]) = (r.countP (fun b => decide (b < a)) + inv r) + (a :: r).countP (fun y => decide (x < y))
    rw [ih, List.countP_append, List.countP_cons, List.countP_cons, List.countP_nil]
    omega
/-- where a number stands -/
def posOf (n : Nat) (g : Fld) (v : Int) : Nat := (allV n g).idxOf v
/-- the places in the other of what stands in the one -/
def crossL (n : Nat) (f g : Fld) : List Nat := (allV n f).map (posOf n g)
def crossed (n : Nat) (f g : Fld) : Nat := inv (crossL n f g)
theorem crossL_len (n : Nat) (f g : Fld) : (crossL n f g).length = n := by simp [crossL, allV]
theorem crossL_get {n : Nat} {f g : Fld} {i : Nat} (h : i < n) : (crossL n f g)[i]? = some (posOf n g (f i)) := by
  simp [crossL, allV, h]
theorem full_mem {n : Nat} {f g : Fld} (hf : Full n f) (hg : Full n g) {i : Nat} (h : i < n) : f i ∈ allV n g := by
  have h1 : f i ∈ allV n f := List.mem_map.mpr ⟨i, List.mem_range.mpr h, rfl⟩
  exact (hf.trans hg.symm).mem_iff.mp h1
theorem posOf_lt {n : Nat} {f g : Fld} (hf : Full n f) (hg : Full n g) {i : Nat} (h : i < n) : posOf n g (f i) < n := by
  have h1 := List.idxOf_lt_length_of_mem (full_mem hf hg h)
  have h2 : (allV n g).length = n := by simp [allV]
  unfold posOf
  omega
theorem posOf_get {n : Nat} {f g : Fld} (hf : Full n f) (hg : Full n g) {i : Nat} (h : i < n) : g (posOf n g (f i)) = f i := by
  have hm := full_mem hf hg h
  have hl := List.idxOf_lt_length_of_mem hm
  have e := List.getElem_idxOf hl
  unfold posOf
  have e2 : ∀ k (hk : k < (allV n g).length), (allV n g)[k] = g k := fun k hk => by
    have h0 : k < n := by
      have h2 : (allV n g).length = n := by simp [allV]
      omega
    have h1 : (allV n g)[k]? = some (g k) := by simp [allV, h0]
    rw [List.getElem?_eq_getElem hk] at h1
    exact Option.some.inj h1
  rw [← e2 _ hl]
  exact e
theorem crossL_nodup {n : Nat} {f g : Fld} (hf : Full n f) (hg : Full n g) : (crossL n f g).Nodup := by
  unfold List.Nodup
  rw [List.pairwise_iff_getElem]
  intro i j hi hj hij e
  rw [crossL_len] at hi hj
  have h1 := crossL_get (f := f) (g := g) hi
  have h2 := crossL_get (f := f) (g := g) hj
  rw [List.getElem?_eq_getElem (by rw [crossL_len]; exact hi)] at h1
  rw [List.getElem?_eq_getElem (by rw [crossL_len]; exact hj)] at h2
  have h1 := Option.some.inj h1
  have h2 := Option.some.inj h2
  have e3 : posOf n g (f i) = posOf n g (f j) := by rw [← h1, ← h2]; exact e
  have e1 := posOf_get hf hg hi
  have e2 := posOf_get hf hg hj
  rw [e3] at e1
  have := full_inj hf hi hj (e1.symm.trans e2)
  omega
theorem crossL_put {n : Nat} {f g : Fld} {p q : Nat} (hp : p < n) (hq : q < n) (hz : f p = 0) :
    crossL n (put2 f p q) g = ((crossL n f g).set p ((crossL n f g)[q]'(by rw [crossL_len]; exact hq))).set q ((crossL n f g)[p]'(by rw [crossL_len]; exact hp)) := by
  apply List.ext_getElem
  · simp [crossL, allV]
  · intro i h1 h2
    have hi : i < n := by simpa [crossL, allV] using h1
    simp only [crossL, allV, List.getElem_map, List.getElem_range, List.getElem_set]
    unfold put2
    by_cases a : i = q
    · subst a
      simp [hz]
    · rw [if_neg a, if_neg (fun e => a (Eq.symm e))]
      by_cases b : i = p
      · subst b
        simp
      · rw [if_neg b, if_neg (fun e => b (Eq.symm e))]
/-- steps from one place to another -/
def steps (r c r' c' : Nat) : Nat := ((r : Int) - r').natAbs + ((c : Int) - c').natAbs
theorem crossed_go1 {R C : Nat} {s s' : Sl} {g : Fld} {w : Nat} (z : Zr R C s) (hf : Full (R * C) s.1) (hg : Full (R * C) g) (h : go1 R C s w = some s') : (crossed (R * C) s.1 g + crossed (R * C) s'.1 g) % 2 = 1 := by
  obtain ⟨h1, h2⟩ := go1_eq h
  have z' := go1_zr h
  have hp := ix_lt z.r z.c
  have hq := ix_lt z'.r z'.c
  have e : crossed (R * C) s'.1 g = inv (((crossL (R * C) s.1 g).set (s.2.1 * C + s.2.2) ((crossL (R * C) s.1 g)[s'.2.1 * C + s'.2.2]'(by rw [crossL_len]; exact hq))).set (s'.2.1 * C + s'.2.2) ((crossL (R * C) s.1 g)[s.2.1 * C + s.2.2]'(by rw [crossL_len]; exact hp))) := by
    unfold crossed
    rw [← crossL_put hp hq z.z]
    rw [h2]
  rw [e]
  exact inv_set_set (crossL_nodup hf hg) (pq_ne z h) (by rw [crossL_len]; exact hp) (by rw [crossL_len]; exact hq)
theorem steps_go1 {R C : Nat} {s s' : Sl} {w : Nat} (hw : okL w) (h : go1 R C s w = some s') (r c : Nat) : (steps s.2.1 s.2.2 r c + steps s'.2.1 s'.2.2 r c) % 2 = 1 := by
  obtain ⟨h1, _⟩ := go1_eq h
  obtain ⟨e1, e2, _, _⟩ := nxt_eq h1
  unfold steps
  rcases hw with rfl | rfl | rfl | rfl
  · have a1 : (s'.2.1 : Int) = s.2.1 + -1 := e1
    have a2 : (s'.2.2 : Int) = s.2.2 + 0 := e2
    omega
  · have a1 : (s'.2.1 : Int) = s.2.1 + 1 := e1
    have a2 : (s'.2.2 : Int) = s.2.2 + 0 := e2
    omega
  · have a1 : (s'.2.1 : Int) = s.2.1 + 0 := e1
    have a2 : (s'.2.2 : Int) = s.2.2 + -1 := e2
    omega
  · have a1 : (s'.2.1 : Int) = s.2.1 + 0 := e1
    have a2 : (s'.2.2 : Int) = s.2.2 + 1 := e2
    omega
theorem go1_ok {R C : Nat} (hR : R ≤ 9) {s s' : Sl} {w : Nat} (h : go1 R C s w = some s') : okL w := by
  obtain ⟨h1, _⟩ := go1_eq h
  by_cases k : okL w
  · exact k
  · rw [nxt_bad hR k] at h1
    cases h1
/-- pairs and steps together, even or odd, stay so -/
theorem par_go {R C : Nat} (hR : R ≤ 9) {g : Fld} (hg : Full (R * C) g) (r c : Nat) : ∀ {ws : List Nat} {s s' : Sl}, Zr R C s → Full (R * C) s.1 → goAll R C s ws = some s' →
    (crossed (R * C) s.1 g + steps s.2.1 s.2.2 r c + (crossed (R * C) s'.1 g + steps s'.2.1 s'.2.2 r c)) % 2 = 0
  | [], s, s', z, hf, h => by
    have e := Option.some.inj h
    subst e
    omega
  | w :: ws, s, s', z, hf, h => by
    have h : (go1 R C s w).bind (fun s' => goAll R C s' ws) = some s' := h
    cases e : go1 R C s w with
    | none => rw [e] at h; cases h
    | some s1 =>
      rw [e] at h
      have ih := par_go hR hg r c (go1_zr e) (go1_full z e hf) h
      have h1 := crossed_go1 z hf hg e
      have h2 := steps_go1 (go1_ok hR e) e r c
      omega
/-- a tray and itself -/
theorem crossL_self {n : Nat} {f : Fld} (hf : Full n f) : crossL n f f = List.range n := by
  apply List.ext_getElem?
  intro i
  by_cases h : i < n
  · rw [crossL_get h, List.getElem?_range h]
    refine congrArg some ?_
    have h1 := posOf_get hf hf h
    exact full_inj hf (posOf_lt hf hf h) h h1
  · rw [List.getElem?_eq_none (by rw [crossL_len]; omega), List.getElem?_eq_none (by rw [List.length_range]; omega)]
theorem inv_range : ∀ n, inv (List.range n) = 0
  | 0 => rfl
  | n + 1 => by
    rw [List.range_succ, inv_snoc, inv_range n, Nat.zero_add, List.countP_eq_zero]
    intro x hx
    have := List.mem_range.mp hx
    simp
    omega
theorem crossed_self {n : Nat} {f : Fld} (hf : Full n f) : crossed n f f = 0 := by
  unfold crossed
  rw [crossL_self hf]
  exact inv_range n
/-- what is led to is even -/
theorem led_even {R C : Nat} (hR : R ≤ 9) {s s' : Sl} {ws : List Nat} (z : Zr R C s) (hf : Full (R * C) s.1) (h : goAll R C s ws = some s') : (crossed (R * C) s.1 s'.1 + steps s.2.1 s.2.2 s'.2.1 s'.2.2) % 2 = 0 := by
  have hf' := goAll_full z h hf
  have p := par_go hR hf' s'.2.1 s'.2.2 z hf h
  rw [crossed_self hf'] at p
  have e : steps s'.2.1 s'.2.2 s'.2.1 s'.2.2 = 0 := by unfold steps; omega
  rw [e] at p
  omega
end Tr
/-! Lists of numbers and trays, compared -/
namespace Tr
open PySem PySem.Spec PyProof.Rows L2
theorem eqvAll_ints : ∀ a b : List Int, PyData.eqvAll (a.map PyData.int) (b.map PyData.int) = decide (a = b)
  | [], [] => rfl
  | [], y :: ys => by simp [PyData.eqvAll]
  | x :: xs, [] => by simp [PyData.eqvAll]
  | x :: xs, y :: ys => by
    rw [List.map_cons, List.map_cons, PyData.eqvAll, eqvAll_ints xs ys, PyData.eqv]
    by_cases e : x = y
    · subst e
      simp
    · simp [e]
theorem eqv_ints (a b : List Int) : PyData.eqv (.list (a.map PyData.int)) (.list (b.map PyData.int)) = decide (a = b) := by
  rw [PyData.eqv, eqvAll_ints]
theorem rowD_eq (C : Nat) (f : Fld) (i : Nat) : rowD C f i = .list (((List.range C).map fun j => f (i * C + j)).map PyData.int) := by
  unfold rowD
  rw [List.map_map]
  rfl
theorem eqv_rowD (C : Nat) (f g : Fld) (i : Nat) : PyData.eqv (rowD C f i) (rowD C g i) = decide (∀ j, j < C → f (i * C + j) = g (i * C + j)) := by
  rw [rowD_eq, rowD_eq, eqv_ints]
  refine decide_eq_decide.mpr ⟨fun h j hj => ?_, fun h => ?_⟩
  · have := congrArg (fun l : List Int => l[j]?) h
    simpa [List.getElem?_map, List.getElem?_range hj] using this
  · exact List.map_congr_left fun j hj => h j (List.mem_range.mp hj)
theorem eqvAll_rows (C : Nat) (f g : Fld) : ∀ ks : List Nat, PyData.eqvAll (ks.map (rowD C f)) (ks.map (rowD C g)) = decide (∀ k ∈ ks, ∀ j, j < C → f (k * C + j) = g (k * C + j))
  | [] => by simp [PyData.eqvAll]
  | k :: r => by
    rw [List.map_cons, List.map_cons, PyData.eqvAll, eqvAll_rows C f g r, eqv_rowD, ← Bool.decide_and]
    refine decide_eq_decide.mpr ⟨fun h x hx => ?_, fun h => ⟨h k List.mem_cons_self, fun x hx => h x (List.mem_cons_of_mem _ hx)⟩⟩
    rcases List.mem_cons.mp hx with rfl | hx
    · exact h.1
    · exact h.2 x hx
theorem eqv_trays (R C : Nat) (f g : Fld) : PyData.eqv (rowsD C f (List.range R)) (rowsD C g (List.range R)) = decide (∀ k, k < R * C → f k = g k) := by
  unfold rowsD
  rw [PyData.eqv, eqvAll_rows]
  refine decide_eq_decide.mpr ⟨fun h k hk => ?_, fun h i hi j hj => h _ (ix_lt (List.mem_range.mp hi) hj)⟩
  have hC : 0 < C := by
    rcases Nat.eq_zero_or_pos C with z | z
    · subst z
      simp at hk
    · exact z
  have h1 : k / C < R := by
    rw [Nat.div_lt_iff_lt_mul hC]
    exact hk
  have := h (k / C) (List.mem_range.mpr h1) (k % C) (Nat.mod_lt _ hC)
  rwa [Nat.mul_comm, Nat.div_add_mod] at this
/-! ### a flat list of rows of one length -/
theorem flat_get {α : Type} {C : Nat} : ∀ {L : List (List α)} {i j : Nat}, (∀ l ∈ L, l.length = C) → j < C → ∀ {l}, L[i]? = some l → L.flatten[i * C + j]? = l[j]?
  | [], i, j, _, _, l, h => by simp at h
  | x :: xs, 0, j, hl, hj, l, h => by
    have e : x = l := by simpa using h
    subst e
    have hx := hl x List.mem_cons_self
    rw [List.flatten_cons, Nat.zero_mul, Nat.zero_add, List.getElem?_append_left (by omega)]
  | x :: xs, i + 1, j, hl, hj, l, h => by
    have hx := hl x List.mem_cons_self
    have h : xs[i]? = some l := by simpa using h
    rw [List.flatten_cons, List.getElem?_append_right (by rw [hx, Nat.add_mul]; omega)]
    have e : (i + 1) * C + j - x.length = i * C + j := by
      rw [hx, Nat.add_mul]
      omega
    rw [e]
    exact flat_get (fun l m => hl l (List.mem_cons_of_mem _ m)) hj h
theorem flat_len {α : Type} {C : Nat} : ∀ {L : List (List α)}, (∀ l ∈ L, l.length = C) → L.flatten.length = L.length * C
  | [], _ => by simp
  | x :: xs, hl => by
    rw [List.flatten_cons, List.length_append, hl x List.mem_cons_self, flat_len fun l m => hl l (List.mem_cons_of_mem _ m), List.length_cons, Nat.add_mul]
    omega
end Tr
namespace Tr
open PySem PySem.Spec PyProof.Rows L2
def Uniq (R C : Nat) (f : Fld) (p : Nat) : Prop := ∀ k, k < R * C → f k = 0 → k = p
/-- a tray of at most six rows and columns, all its numbers each once, 0 at (r, c) -/
structure Good (R C : Nat) (s : Sl) : Prop where
  r0 : 0 < R
  r6 : R ≤ 6
  c0 : 0 < C
  c6 : C ≤ 6
  full : Full (R * C) s.1
  z : Zr R C s
theorem Good.uniq {R C : Nat} {s : Sl} (g : Good R C s) : Uniq R C s.1 (s.2.1 * C + s.2.2) := fun k hk e => full_inj g.full hk (ix_lt g.z.r g.z.c) (e.trans g.z.z.symm)
theorem Good.go {R C : Nat} {s s' : Sl} {ws : List Nat} (g : Good R C s) (h : goAll R C s ws = some s') : Good R C s' := ⟨g.r0, g.r6, g.c0, g.c6, goAll_full g.z h g.full, goAll_zr g.z h⟩
end Tr
/-! What answers say -/
namespace Tr
open PySem PySem.Spec PyProof.Rows L2
def passedB (R C : Nat) (f g : Fld) (x y : Int) : Bool :=
  if 1 < min R C ∨ x = y ∨ ¬ (0 < x ∧ x < (R * C : Nat)) ∨ ¬ (0 < y ∧ y < (R * C : Nat)) then false
  else decide (decide (posOf (R * C) f x < posOf (R * C) f y) ≠ decide (posOf (R * C) g x < posOf (R * C) g y))
/-- the facts of a class of answers -/
structure ClsT (K : PySem.W.Frag) (mg : Str → Option Value) (x : Str) (C fI fS : Addr) (fs : List Str) : Prop where
  g : mg x = some (.ref C)
  mkc : Mk K C fI
  cl : Cls K C
  me : Meth K C "shows" fS
  nf : ∀ f ∈ fs, NoAttr K C f
/-- made: one field -/
def spI1 (f : Str) (C : Addr) : Sp := fun vs H Q _ => ∃ (x dx : Addr) (v : V), vs = [.ref x, v] ∧ H x = some (.ins C dx []) ∧
  ∀ fs : List (Str × V), fs.lookup f = some v → fs.lookup ("shows" : Str) = none → Q .non (upd H x (.ins C dx fs))
/-- made: two fields -/
def spI2 (f g : Str) (C : Addr) : Sp := fun vs H Q _ => ∃ (x dx : Addr) (v u : V), vs = [.ref x, v, u] ∧ H x = some (.ins C dx []) ∧
  ∀ fs : List (Str × V), fs.lookup f = some v → fs.lookup g = some u → fs.lookup ("shows" : Str) = none → fs.lookup ("is_first" : Str) = none → Q .non (upd H x (.ins C dx fs))
def ledB (R C : Nat) (s : Sl) (ws : List Nat) (g : Fld) : Bool := match goAll R C s ws with
  | none => false
  | some s' => decide (∀ k, k < R * C → s'.1 k = g k)
def oddB (R C : Nat) (s g : Sl) (x y : Int) : Bool := decide (1 < min R C ∧ (x + y) % 2 = 1 ∧ x = (crossed (R * C) s.1 g.1 : Nat) ∧ y = (steps s.2.1 s.2.2 g.2.1 g.2.2 : Nat))
def spShL (CL : Addr) : Sp := fun vs H Q _ => ∃ (o dx a b : Addr) (fs : List (Str × V)) (ws : List Nat) (rs rs2 : List Addr) (R C : Nat) (s g : Sl), vs = [.ref o, .ref a, .ref b] ∧ H o = some (.ins CL dx fs) ∧ fs.lookup ("slides" : Str) = some (.str (txt ws)) ∧
  TrayAt H a rs R C s.1 ∧ Good R C s ∧ TrayAt H b rs2 R C g.1 ∧ Good R C g ∧ ws.length ≤ 4000000 ∧ ∀ H', Same H H' → Q (.bl (ledB R C s ws g.1)) H'
def spShO (CO : Addr) : Sp := fun vs H Q _ => ∃ (o dx a b : Addr) (fs : List (Str × V)) (x y : Int) (rs rs2 : List Addr) (R C : Nat) (s g : Sl), vs = [.ref o, .ref a, .ref b] ∧ H o = some (.ins CO dx fs) ∧ fs.lookup ("crossed" : Str) = some (.int x) ∧ fs.lookup ("steps" : Str) = some (.int y) ∧
  TrayAt H a rs R C s.1 ∧ Good R C s ∧ TrayAt H b rs2 R C g.1 ∧ Good R C g ∧ x.natAbs ≤ 100000 ∧ y.natAbs ≤ 100000 ∧ ∀ H', Same H H' → Q (.bl (oddB R C s g x y)) H'
def spShP (CP : Addr) : Sp := fun vs H Q _ => ∃ (o dx a b : Addr) (fs : List (Str × V)) (x y : Int) (rs rs2 : List Addr) (R C : Nat) (s g : Sl), vs = [.ref o, .ref a, .ref b] ∧ H o = some (.ins CP dx fs) ∧ fs.lookup ("one" : Str) = some (.int x) ∧ fs.lookup ("other" : Str) = some (.int y) ∧ fs.lookup ("is_first" : Str) = none ∧
  TrayAt H a rs R C s.1 ∧ Good R C s ∧ TrayAt H b rs2 R C g.1 ∧ Good R C g ∧ x.natAbs ≤ 100000 ∧ y.natAbs ≤ 100000 ∧ ∀ H', Same H H' → Q (.bl (passedB R C s.1 g.1 x y)) H'
/-- two trays of the same sides -/
structure Two (H : Hp) (a b : Addr) (R C : Nat) (s g : Sl) : Prop where
  one : ∃ rs, TrayAt H a rs R C s.1
  two : ∃ rs, TrayAt H b rs R C g.1
  g1 : Good R C s
  g2 : Good R C g
theorem Two.mono {H H' : Hp} {a b : Addr} {R C : Nat} {s g : Sl} (sm : Same H H') (t : Two H a b R C s g) : Two H' a b R C s g := by
  obtain ⟨⟨rs, t1⟩, ⟨rs2, t2⟩, g1, g2⟩ := t
  exact ⟨⟨rs, t1.mono sm⟩, ⟨rs2, t2.mono sm⟩, g1, g2⟩
/-- what an answer is -/
inductive AnsK where
  | L (ws : List Nat)
  | O (x y : Int)
  | P (x y : Int)
def AnsAt (CL CO CP : Addr) (H : Hp) (o : Addr) : AnsK → Prop
  | .L ws => ∃ (dx : Addr) (fs : List (Str × V)), H o = some (.ins CL dx fs) ∧ fs.lookup ("slides" : Str) = some (.str (txt ws)) ∧ fs.lookup ("shows" : Str) = none ∧ ws.length ≤ 4000000
  | .O x y => ∃ (dx : Addr) (fs : List (Str × V)), H o = some (.ins CO dx fs) ∧ fs.lookup ("crossed" : Str) = some (.int x) ∧ fs.lookup ("steps" : Str) = some (.int y) ∧ fs.lookup ("shows" : Str) = none ∧ x.natAbs ≤ 100000 ∧ y.natAbs ≤ 100000
  | .P x y => ∃ (dx : Addr) (fs : List (Str × V)), H o = some (.ins CP dx fs) ∧ fs.lookup ("one" : Str) = some (.int x) ∧ fs.lookup ("other" : Str) = some (.int y) ∧ fs.lookup ("shows" : Str) = none ∧ x.natAbs ≤ 100000 ∧ y.natAbs ≤ 100000 ∧ fs.lookup ("is_first" : Str) = none
theorem AnsAt.mono {CL CO CP : Addr} {H H' : Hp} {o : Addr} {n : AnsK} (sm : Same H H') (h : AnsAt CL CO CP H o n) : AnsAt CL CO CP H' o n := by
  cases n with
  | L ws =>
    obtain ⟨dx, fs, e, r⟩ := h
    exact ⟨dx, fs, sm _ _ e, r⟩
  | O x y =>
    obtain ⟨dx, fs, e, r⟩ := h
    exact ⟨dx, fs, sm _ _ e, r⟩
  | P x y =>
    obtain ⟨dx, fs, e, r⟩ := h
    exact ⟨dx, fs, sm _ _ e, r⟩
def ansB (R C : Nat) (s g : Sl) : AnsK → Bool
  | .L ws => ledB R C s ws g.1
  | .O x y => oddB R C s g x y
  | .P x y => passedB R C s.1 g.1 x y
def AnsK.cls (CL CO CP : Addr) : AnsK → Addr
  | .L _ => CL
  | .O _ _ => CO
  | .P _ _ => CP
def AnsK.isL : AnsK → Bool
  | .L _ => true
  | _ => false
def AnsK.isO : AnsK → Bool
  | .O _ _ => true
  | _ => false
def AnsK.isP : AnsK → Bool
  | .P _ _ => true
  | _ => false
/-- told, of two trays of the same sides -/
def spTold (CL CO CP : Addr) : Sp := fun vs H Q _ => ∃ (a b : Addr) (R C : Nat) (s g : Sl), vs = [.ref a, .ref b] ∧ Two H a b R C s g ∧
  ∀ H' o n, Same H H' → AnsAt CL CO CP H' o n → ansB R C s g n = true → Q (.ref o) H'
/-- a class, as isinstance asks for it -/
structure InsT (K : PySem.W.Frag) (C : Addr) : Prop where
  cl : Cls K C
  fc : PySem.W.findIn K (.ref C) "__class__" = some (some (.builtin "object.__class__"))
  sp : PySem.W.specialIn K (.builtin "object.__class__") "__get__" = some (some (.builtin "getset_descriptor.__get__"))
  tk : PySem.W.takesIn K (.builtin "object.__class__") = some true
  mr : PySem.W.mroIn K C (.type "object") = some true
theorem InsT.ty {K : PySem.W.Frag} {H : Hp} {C a dx : Addr} {fs : List (Str × V)} (t : InsT K C) (h : H a = some (.ins C dx fs)) : TyX K H (.ref a) (.ref C) := .base (.ins h t.cl t.fc t.sp t.tk t.mr)
/-- the classes of answers -/
structure Kinds (K : PySem.W.Frag) (CA CL CO CP : Addr) : Prop where
  tL : InsT K CL
  tO : InsT K CO
  tP : InsT K CP
  ll : PySem.W.kitOne K (.ref CL) (.ref CL) = some true
  lo : PySem.W.kitOne K (.ref CL) (.ref CO) = some false
  lp : PySem.W.kitOne K (.ref CL) (.ref CP) = some false
  la : PySem.W.kitOne K (.ref CL) (.ref CA) = some true
  ol : PySem.W.kitOne K (.ref CO) (.ref CL) = some false
  oo : PySem.W.kitOne K (.ref CO) (.ref CO) = some true
  op : PySem.W.kitOne K (.ref CO) (.ref CP) = some false
  oa : PySem.W.kitOne K (.ref CO) (.ref CA) = some true
  pl : PySem.W.kitOne K (.ref CP) (.ref CL) = some false
  po : PySem.W.kitOne K (.ref CP) (.ref CO) = some false
  pp : PySem.W.kitOne K (.ref CP) (.ref CP) = some true
  pa : PySem.W.kitOne K (.ref CP) (.ref CA) = some true
theorem AnsAt.ty {K : PySem.W.Frag} {CA CL CO CP : Addr} {H : Hp} {o : Addr} {n : AnsK} (k : Kinds K CA CL CO CP) (h : AnsAt CL CO CP H o n) : TyX K H (.ref o) (.ref (n.cls CL CO CP)) := by
  cases n with
  | L ws =>
    obtain ⟨dx, fs, e, _⟩ := h
    exact k.tL.ty e
  | O x y =>
    obtain ⟨dx, fs, e, _⟩ := h
    exact k.tO.ty e
  | P x y =>
    obtain ⟨dx, fs, e, _⟩ := h
    exact k.tP.ty e
theorem Kinds.isL {K : PySem.W.Frag} {CA CL CO CP : Addr} (k : Kinds K CA CL CO CP) (n : AnsK) : PySem.W.kitOne K (.ref (n.cls CL CO CP)) (.ref CL) = some n.isL := by
  cases n
  · exact k.ll
  · exact k.ol
  · exact k.pl
theorem Kinds.isO {K : PySem.W.Frag} {CA CL CO CP : Addr} (k : Kinds K CA CL CO CP) (n : AnsK) : PySem.W.kitOne K (.ref (n.cls CL CO CP)) (.ref CO) = some n.isO := by
  cases n
  · exact k.lo
  · exact k.oo
  · exact k.po
theorem Kinds.isP {K : PySem.W.Frag} {CA CL CO CP : Addr} (k : Kinds K CA CL CO CP) (n : AnsK) : PySem.W.kitOne K (.ref (n.cls CL CO CP)) (.ref CP) = some n.isP := by
  cases n
  · exact k.lp
  · exact k.op
  · exact k.pp
theorem Kinds.isA {K : PySem.W.Frag} {CA CL CO CP : Addr} (k : Kinds K CA CL CO CP) (n : AnsK) : PySem.W.kitOne K (.ref (n.cls CL CO CP)) (.ref CA) = some true := by
  cases n
  · exact k.la
  · exact k.oa
  · exact k.pa
end Tr
namespace Tr
open PySem PySem.Spec PyProof.Rows L2
theorem scCheckT : FnScope ["tray", "row", "number", "numbers"] ["tray"] (defScope d_check_tray) := ⟨rfl, rfl, rfl, by decide +kernel, rfl, by decide +kernel, by decide +kernel⟩
/-- a tray's check, of a tray -/
def spCheckT : Sp := fun vs H Q _ => ∃ (a : Addr) (rs : List Addr) (R C : Nat) (f : Fld), vs = [.ref a] ∧ TrayAt H a rs R C f ∧ 0 < R ∧ R ≤ 6 ∧ 0 < C ∧ C ≤ 6 ∧ Full (R * C) f ∧ ∀ H', Same H H' → Q .non H'
theorem rows36 {R C : Nat} (h1 : R ≤ 6) (h2 : C ≤ 6) : R * C ≤ 36 := Nat.mul_le_mul h1 h2
section
variable {P : Program} {w : World} {K : PySem.W.Frag} {mg : Str → Option Value} {base : Heap}
theorem ok_checkT {fa : Addr} {fd : FuncData} {k : Nat} {t6 : Tok} (F : Fun K "check_tray" "check_tray" d_check_tray fa fd) (gM : mg "MOST" = some (.int 6 t6)) (mI : mg "isinstance" = none) (mLi : mg "list" = none) (mL : mg "len" = none) (mInt : mg "int" = none) (mB : mg "bool" = none) (mSo : mg "sorted" = none) (mR : mg "range" = none) :
    FnOk P w K mg base CX0 (k + 1) fa fd ["tray"] spCheckT := by
  refine F.ok scCheckT (fun vs H Q E h => ?_) (fun cdv A outer s H vs Q E hr h => ?_)
  · obtain ⟨a, rs, R, C, f, rfl, _⟩ := h
    rfl
  · obtain ⟨a, rs, R, C, f, rfl, T, hR0, hR, hC0, hC, hF, q⟩ := h
    have hRC := rows36 hR hC
    refine ⟨_, pss_cons (ps_if (PW.pt (pw_or (pt_not (pt_val (pe_callB call_isi (by rfl) mI (by decide +kernel) (pa_cons (pv 0) (pa_cons (pe_bltn (v := .ty "list") (by rfl) mLi (by decide +kernel) rfl) pa_nil)))))
          (pw_or1 (pt_not (pt_chain op_le op_le pe_int (pe_callB call_len_seq (by rfl) mL PySem.boot_len (pa_cons (pv 0) pa_nil)) (pe_glob (v := .int 6) rfl gM ⟨_, rfl⟩)))))) pss_never pss_nil)
      (pss_cons (ps_for PassesOwn.never rfl (pi_list (pv 0)) (pg_name (i := 1) scCheckT.nd rfl (.inl rfl))
        (pss_cons (ps_if (PW.pt (pw_or (pt_not (pt_val (pe_callB call_isi (by rfl) mI (by decide +kernel) (pa_cons (pv 1) (pa_cons (pe_bltn (v := .ty "list") (by rfl) mLi (by decide +kernel) rfl) pa_nil)))))
            (pw_or1 (pt_not (pt_chain op_le op_le pe_int (pe_callB call_len_seq (by rfl) mL PySem.boot_len (pa_cons (pv 1) pa_nil)) (pe_glob (v := .int 6) rfl gM ⟨_, rfl⟩)))))) pss_never pss_nil)
        (pss_one (ps_if (pt_cmpR op_ne (pe_callB call_len_seq (by rfl) mL PySem.boot_len (pa_cons (pv 1) pa_nil)) (pe_callB call_len_seq (by rfl) mL PySem.boot_len (pa_cons (pe_ix ix_list (pv 0) pe_int (fun _ _ => rfl)) pa_nil)) (nomark _)) pss_never pss_nil))))
      (pss_cons (ps_setLc2 (i := 3) (own := [("row", 1), ("number", 2)]) (vs1 := [2]) (g := gName 1) (g1 := gName 2) (tt := tYes) (tt1 := tYes) (te := tVar 2) (wi1 := iList K (tVar 1)) rfl scCheckT.nd rfl rfl (sw_true rfl rfl rfl (by decide +kernel)) (pi_list (pv 0))
          (blkOk_by (own := [("row", 1), ("number", 2)]) (N := ["tray", "row", "number", "numbers"]) (sc := defScope d_check_tray) (by decide +kernel)) (by decide)
          (fun _ _ _ _ _ => pg_name (i := 1) scCheckT.nd rfl (.inl rfl)) (fun _ _ _ _ _ => pts_nil) (fun _ _ _ _ _ => pi_list (pv 1)) (fun _ _ _ _ _ => pg_name (i := 2) scCheckT.nd rfl (.inl rfl)) (fun _ _ _ _ _ => pts_nil) (fun _ _ _ _ _ => pv 2))
      (pss_cons (ps_for PassesOwn.never rfl (pi_list (pv 3)) (pg_name (i := 2) scCheckT.nd rfl (.inl rfl))
        (pss_one (ps_if (PW.pt (pw_or (pt_not (pt_val (pe_callB call_isi (by rfl) mI (by decide +kernel) (pa_cons (pv 2) (pa_cons (pe_bltn (v := .ty "int") (by rfl) mInt (by decide +kernel) rfl) pa_nil)))))
          (pw_or1 (pt_val (pe_callB call_isi (by rfl) mI (by decide +kernel) (pa_cons (pv 2) (pa_cons (pe_bltn (v := .ty "bool") (by rfl) mB (by decide +kernel) rfl) pa_nil))))))) pss_never pss_nil)))
      (pss_one (ps_if (pt_cmpR (op_neD hr.units) (pe_callB cr_sorted (by rfl) mSo (by decide +kernel) (pa_cons (pv 3) pa_nil)) (pe_listRg rfl rfl mLi (prg_1 rfl mR (pe_callB call_len_seq (by rfl) mL PySem.boot_len (pa_cons (pv 3) pa_nil)))) (nomark _)) pss_never pss_nil))))), ?_⟩
    obtain ⟨r0, g1, g2, g3⟩ := T.get (i := 0) hR0
    have hlen : ((rs.map V.ref).length : Int) = R := by rw [List.length_map, T.len]
    -- isinstance(tray, list), 1 <= len(tray) <= MOST
    refine ⟨_, rfl, .ref a, .ty "list", .type "list", .type "list", true, rfl, .ty "list", .base (.lst T.top), kit_ty (by decide +kernel), _, rfl, iteF ?_⟩
    refine ⟨.ref a, rfl, a, _, rfl, .inl (SqL.of T.top), 1, _, rfl, rfl, _, rfl, ?_⟩
    rw [hlen]
    refine decI (fun _ => ?_) (fun z => absurd (by omega) z)
    refine ⟨_, 6, rfl, rfl, _, rfl, ?_⟩
    show if (!decide ((R : Int) ≤ 6)) = true then _ else _
    refine iteNS (by omega) ?_
    -- the rows
    refine ⟨_, rfl, a, rfl, ⟨_, SqL.of T.top⟩, for_list (K := K) (a := a) (xs := rs.map V.ref) (fun i σ H' => H' = H ∧ ∃ v, σ = [some (.ref a), v, none, none]) ⟨rfl, none, rfl⟩ (fun i σ H' _ p => p.1 ▸ SqL.of T.top) ?_ ?_⟩
    · rintro i x σ H' hx ⟨rfl, v, rfl⟩
      have hi : i < R := by
        have := (List.getElem?_eq_some_iff.mp hx).1
        rw [List.length_map, T.len] at this
        exact this
      obtain ⟨ri, k1, k2, k3⟩ := T.get hi
      rw [k2] at hx
      cases hx
      refine ⟨_, rfl, .ref ri, .ty "list", .type "list", .type "list", true, rfl, .ty "list", .base (.lst k3), kit_ty (by decide +kernel), _, rfl, iteF ?_⟩
      refine ⟨.ref ri, rfl, ri, _, rfl, .inl (SqL.of k3), 1, _, rfl, rfl, _, rfl, ?_⟩
      rw [rowV_len]
      refine decI (fun _ => ?_) (fun z => absurd (by omega) z)
      refine ⟨_, 6, rfl, rfl, _, rfl, ?_⟩
      show if (!decide ((C : Int) ≤ 6)) = true then _ else _
      refine iteNS (by omega) ?_
      refine ⟨.ref ri, rfl, ri, _, rfl, .inl (SqL.of k3), .ref a, rfl, a, _, 0, _, rfl, rfl, SqL.of T.top, atI_nat (j := 0) g2, r0, _, rfl, .inl (SqL.of g3), rfl, _, rfl, ?_⟩
      rw [rowV_len, rowV_len]
      refine iteNS rfl ?_
      exact ⟨rfl, _, rfl⟩
    · rintro σ H' ⟨rfl, v, rfl⟩
      -- numbers
      refine ⟨_, rfl, a, rfl, ⟨_, SqL.of T.top⟩, fun D nD => ?_⟩
      refine lc_gen (walk_list (K := K) (a := a) (xs := rs.map V.ref)) (fun i H1 => Same H' H1 ∧ H1 D = some (.lst ((allV (i * C) f).map V.int))) ⟨same_upd nD, by rw [upd_same, Nat.zero_mul]; rfl⟩ (fun i H1 _ p => p.1.seq (SqL.of T.top)) ?_ ?_
      · rintro i x H1 H2 hi ⟨sm, hD⟩ ⟨rfl, hx⟩
        have hi : i < R := by
          rw [List.length_map, T.len] at hi
          exact hi
        obtain ⟨ri, k1, k2, k3⟩ := T.get hi
        rw [k2] at hx
        cases hx
        refine ⟨rfl, ?_⟩
        have s3 := sm _ _ k3
        refine ⟨_, rfl, ri, rfl, ⟨_, SqL.of s3⟩, ?_⟩
        refine lc_gen (walk_list (K := K) (a := ri) (xs := rowV C f i)) (fun j H3 => Same H' H3 ∧ H3 D = some (.lst ((allV (i * C) f).map V.int ++ (rowV C f i).take j))) ⟨sm, by rw [hD, List.take_zero, List.append_nil]⟩ (fun j H3 _ p => p.1.seq (SqL.of k3)) ?_ ?_
        · rintro j y H3 H4 hj ⟨sm3, hD3⟩ ⟨rfl, hy⟩
          refine ⟨rfl, ?_⟩
          refine ⟨_, rfl, _, hD3, ?_, ?_, ?_⟩
          · rw [List.length_append, List.length_map, List.length_take, rowV_len]
            unfold allV
            rw [List.length_map, List.length_range]
            refine small1000 ?_
            have : i * C ≤ R * C := Nat.mul_le_mul_right C (by omega)
            omega
          · intro b o e
            rw [upd_ne (ne_of_none e nD)]
            exact sm3 _ _ e
          · rw [upd_same, take_more hy, List.append_assoc]
        · rintro H3 ⟨sm3, hD3⟩
          rw [List.take_length, allV_rows] at hD3
          exact ⟨sm3, hD3⟩
      · rintro H1 ⟨sm, hD⟩
        rw [List.length_map, T.len] at hD
        have hn : (allV (R * C) f).length = R * C := by
          unfold allV
          rw [List.length_map, List.length_range]
        -- every number
        refine ⟨_, rfl, D, rfl, ⟨_, SqL.of hD⟩, for_list (K := K) (a := D) (xs := (allV (R * C) f).map V.int) (fun i σ H2 => H2 = H1 ∧ ∃ v u, σ = [some (.ref a), v, u, some (.ref D)]) ⟨rfl, _, _, rfl⟩ (fun i σ H2 _ p => p.1 ▸ SqL.of hD) ?_ ?_⟩
        · rintro i x σ H2 hx ⟨rfl, v, u, rfl⟩
          obtain ⟨z, rfl⟩ : ∃ z, x = V.int z := by
            rw [List.getElem?_map] at hx
            cases e : (allV (R * C) f)[i]? with
            | none => rw [e] at hx; cases hx
            | some z => rw [e] at hx; exact ⟨z, (Option.some.inj hx).symm⟩
          refine ⟨_, rfl, .int z, .ty "int", .type "int", .type "int", true, rfl, .ty "int", .base (.int _), kit_ty (by decide +kernel), _, rfl, iteF ?_⟩
          refine ⟨_, rfl, .int z, .ty "bool", .type "int", .type "bool", false, rfl, .ty "bool", .base (.int _), kit_ty (by decide +kernel), _, rfl, iteF ?_⟩
          exact ⟨rfl, _, _, rfl⟩
        · rintro σ H2 ⟨rfl, v, u, rfl⟩
          -- sorted(numbers) != list(range(len(numbers)))
          refine ⟨_, rfl, D, _, rfl, SqL.of hD, by omega, fun ns' p hp hs np => ?_⟩
          have s4 : Same H2 (upd H2 p (.lst (ns'.map V.int))) := same_upd np
          refine ⟨_, rfl, D, _, rfl, .inl (s4.seq (SqL.of hD)), _, rfl, ?_, fun p2 np2 => ?_⟩
          · rw [List.length_map, hn]
            exact RgOk.of_le (by omega) (by omega) (by omega) (by omega)
          · rw [List.length_map, hn]
            have e1 : ns' = (List.range (R * C)).map fun k : Nat => (k : Int) := by
              refine PySem.W.ksm_same (hp.trans hF) hs ?_
              rw [List.pairwise_map]
              refine List.Pairwise.imp ?_ List.pairwise_lt_range
              intro x y h
              omega
            have e2 : rgV 0 ((R * C : Nat) : Int) = ns'.map V.int := by
              unfold rgV
              rw [e1, List.map_map, Int.sub_zero, Int.toNat_natCast]
              refine List.map_congr_left fun k _ => ?_
              show V.int (0 + (k : Int)) = V.int k
              rw [Int.zero_add]
            rw [e2]
            have np12 : p ≠ p2 := fun e => by
              rw [← e, upd_same] at np2
              cases np2
            refine ⟨.list (ns'.map PyData.int), .list (ns'.map PyData.int), .lst (SqL.of (by rw [upd_ne np12, upd_same])) (dp_ints _), .lst (SqL.of upd_same) (dp_ints _), PySem.W.shaped_ints _, PySem.W.shaped_ints _, _, rfl, ?_⟩
            rw [SeqAt.eqv_refl _ (SeqAt.canLay_of_shaped (PySem.W.shaped_ints _))]
            refine iteF ?_
            exact q _ ((sm.trans s4).trans (same_upd np2))
end
end Tr
namespace Tr
open PySem PySem.Spec PyProof.Rows L2
theorem scCheckS : FnScope ["slides", "letter"] ["slides"] (defScope d_check_slides) := ⟨rfl, rfl, rfl, by decide +kernel, rfl, by decide +kernel, by decide +kernel⟩
def spCheckS (CS : Addr) : Sp := fun vs H Q E => ∃ (ws : List Nat), vs = [.str (txt ws)] ∧ ((∀ l ∈ ws, okL l) → Q .non H) ∧ ((∃ l ∈ ws, ¬ okL l) → E (.ref CS) none H)
section
variable {P : Program} {w : World} {K : PySem.W.Frag} {mg : Str → Option Value} {base : Heap}
theorem ok_checkS {fa dS CS : Addr} {fd : FuncData} {k : Nat} (F : Fun K "check_slides" "check_slides" d_check_slides fa fd) (gS : mg "STEPS" = some (.ref dS)) (S : StepsD K w dS) (mI : mg "isinstance" = none) (mS : mg "str" = none) (T : ExcT K mg "BadSlides" CS) :
    FnOk P w K mg base (L2.CX P w) (k + 1) fa fd ["slides"] (spCheckS CS) := by
  refine F.okX scCheckS (fun vs H Q E h => ?_) (fun cdv A outer s H vs Q E hr h => ?_)
  · obtain ⟨ws, rfl, _⟩ := h
    rfl
  · obtain ⟨ws, rfl, q, qe⟩ := h
    obtain ⟨es, n, D⟩ := S.ex
    refine ⟨_, pss_cons (ps_if (pt_not (pt_val (pe_callB call_isi (by rfl) mI (by decide +kernel) (pa_cons (pv 0) (pa_cons (pe_bltn (v := .ty "str") (by rfl) mS (by decide +kernel) rfl) pa_nil)))))
        (pss_one (ps_raise rfl (takes_of rfl rfl rfl rfl) (pmk_own PySem.F.excBase_ValueError T.x T.g T.k (raises_own T.b T.t) rfl))) pss_nil)
      (pss_one (ps_for (passes_of rfl) rfl (pi_str (pv 0)) (pg_name (i := 1) scCheckS.nd rfl (.inl rfl))
        (pss_one (ps_if (pt_cmpR (op_notIn_kd D) (pv 1) (pe_glob (v := .ref dS) rfl gS rfl) rfl)
          (pss_one (ps_raise rfl (takes_of rfl rfl rfl rfl) (pmk_own PySem.F.excBase_ValueError T.x T.g T.k (raises_own T.b T.t) rfl))) pss_nil)))), ?_⟩
    refine ⟨_, rfl, .str (txt ws), .ty "str", .type "str", .type "str", true, rfl, .ty "str", .base (.str _), kit_ty (by decide +kernel), _, rfl, iteF ?_⟩
    refine ⟨_, rfl, _, rfl, for_it walk_str (fun i σ H' => H' = H ∧ ∃ v, σ = [some (.str (txt ws)), v] ∧ ∀ j l, j < i → ws[j]? = some l → okL l) ⟨rfl, none, rfl, fun j l hj => absurd hj (Nat.not_lt_zero _)⟩ (fun _ _ _ _ _ => True.intro) ?_ ?_⟩
    · rintro i x σ H1 H2 hi ⟨rfl, v, rfl, hok⟩ ⟨rfl, c, hc, rfl⟩
      have hc : ws[i]? = some c := by simpa using hc
      by_cases z : okL c
      · obtain ⟨v, e⟩ := S.yes c z
        refine ⟨_, rfl, txt [c], some v, rfl, rfl, e, _, rfl, iteF ⟨rfl, some (.str (txt [c])), rfl, fun j l hj hl => ?_⟩⟩
        by_cases y : j = i
        · subst y
          rw [hc] at hl
          cases hl
          exact z
        · exact hok j l (by omega) hl
      · exact ⟨_, rfl, txt [c], none, rfl, rfl, S.no c z, _, rfl, iteT (qe ⟨c, List.mem_of_getElem? hc, z⟩)⟩
    · rintro σ H1 ⟨rfl, v, rfl, hok⟩
      refine q fun l hl => ?_
      obtain ⟨j, hj, e⟩ := List.getElem_of_mem hl
      refine hok j l ?_ (by rw [← e]; exact List.getElem?_eq_getElem hj)
      simpa using hj
end
end Tr
namespace Tr
open PySem PySem.Spec PyProof.Rows L2
theorem in_row_true {C : Nat} {f : Fld} {i j : Nat} (hj : j < C) (h : f (i * C + j) = 0) : inV (.int 0) (rowV C f i) = true := by
  unfold inV
  rw [List.any_eq_true]
  refine ⟨.int (f (i * C + j)), List.mem_of_getElem? (rowV_get hj), ?_⟩
  rw [h]
  rfl
theorem in_row_false {C : Nat} {f : Fld} {i : Nat} (h : ∀ j, j < C → f (i * C + j) ≠ 0) : inV (.int 0) (rowV C f i) = false := by
  unfold inV
  rw [List.any_eq_false]
  intro x hx
  unfold rowV at hx
  obtain ⟨j, hj, rfl⟩ := List.mem_map.mp hx
  intro e
  have e : decide (f (i * C + j) = 0) = true := e
  exact h j (List.mem_range.mp hj) (of_decide_eq_true e)
theorem row_flat (C : Nat) (f : Fld) (i : Nat) : (rowV C f i).all flatV = true := by
  rw [List.all_eq_true]
  intro x hx
  unfold rowV at hx
  obtain ⟨j, hj, rfl⟩ := List.mem_map.mp hx
  rfl
theorem scEmpty : FnScope ["tray", "row", "numbers"] ["tray"] (defScope d_empty_place) := ⟨rfl, rfl, rfl, by decide +kernel, rfl, by decide +kernel, by decide +kernel⟩
def spEmpty : Sp := fun vs H Q _ => ∃ (a : Addr) (rs : List Addr) (R C : Nat) (f : Fld) (r c : Nat), vs = [.ref a] ∧ TrayAt H a rs R C f ∧ Zr R C (f, r, c) ∧ Uniq R C f (r * C + c) ∧ R ≤ 1000 ∧
  ∀ H' p, Same H H' → H p = none → H' p = some (.tup [.int r, .int c]) → Q (.ref p) H'
section
variable {P : Program} {w : World} {K : PySem.W.Frag} {mg : Str → Option Value} {base : Heap}
theorem ok_empty {fa : Addr} {fd : FuncData} {k : Nat} (F : Fun K "empty_place" "empty_place" d_empty_place fa fd) :
    FnOk P w K mg base CX0 (k + 1) fa fd ["tray"] spEmpty := by
  refine F.ok scEmpty (fun vs H Q E h => ?_) (fun cdv A outer s H vs Q E hr h => ?_)
  · obtain ⟨a, rs, R, C, f, r, c, rfl, _⟩ := h
    rfl
  · obtain ⟨a, rs, R, C, f, r, c, rfl, T, Z, U, hR, q⟩ := h
    refine ⟨_, pss_cons (ps_set (i := 1) scEmpty.nd rfl (.inl rfl) (pe_bm PySem.F.plainAttrs_list PySem.F.slot_list_index PySem.F.type_list_index mt_index
        (pe_lc (own := [("numbers", 2)]) (g := gName 2) (tt := tYes) rfl scEmpty.nd (pi_list (pv 0)) (blkOk_by (own := [("numbers", 2)]) (N := ["tray", "row", "numbers"]) (sc := defScope d_empty_place) (by decide +kernel))
          (fun _ _ _ _ _ => pg_name (i := 2) scEmpty.nd rfl (.inl rfl)) (fun _ _ _ _ _ => pts_nil) (fun _ _ _ _ _ => pe_cmpR (r := rIn K false) op_in_seq pe_int (pv 2) rfl)) (pa_cons pe_bl pa_nil)))
      (pss_one (ps_ret (pe_tup (pa_cons (pv 1) (pa_cons (pe_bm PySem.F.plainAttrs_list PySem.F.slot_list_index PySem.F.type_list_index mt_index (pe_ix ix_list (pv 0) (pv 1) (fun _ _ => rfl)) (pa_cons pe_int pa_nil)) pa_nil))))), ?_⟩
    have hrr : r < R := Z.r
    have hcc : c < C := Z.c
    have hz : f (r * C + c) = 0 := Z.z
    refine ⟨_, rfl, a, rfl, ⟨_, SqL.of T.top⟩, fun D nD => lc_list (K := K) (a := a) (xs := rs.map V.ref) (fun i H' => H' D = some (.lst ((List.range i).map fun i => V.bl (inV (.int 0) (rowV C f i)))) ∧ Same H H') ?_ ?_ ?_ ?_⟩
    · exact ⟨by rw [upd_same]; rfl, same_upd nD⟩
    · exact fun i H' _ p => p.2.seq (SqL.of T.top)
    · rintro i x H' hx ⟨hD, sm⟩
      have hi : i < R := by
        have := (List.getElem?_eq_some_iff.mp hx).1
        rw [List.length_map, T.len] at this
        exact this
      obtain ⟨ri, g1, g2, g3⟩ := T.get hi
      rw [g2] at hx
      cases hx
      refine ⟨rfl, ?_⟩
      refine ⟨_, rfl, ri, _, rfl, .inl (SqL.of (sm _ _ g3)), rfl, row_flat _ _ _, _, hD, ?_, ?_, ?_⟩
      · rw [List.length_map, List.length_range]
        exact small1000 (by omega)
      · rw [upd_same, List.range_succ, List.map_append]
        rfl
      · intro b o e
        rw [upd_ne (ne_of_none e nD)]
        exact sm _ _ e
    · rintro H' ⟨hD, sm⟩
      rw [List.length_map, T.len] at hD
      have T' := T.mono sm
      obtain ⟨ri, g1, g2, g3⟩ := T'.get hrr
      refine ⟨.inl ⟨rfl, _, SqL.of hD⟩, D, _, .bl true, r, .bl true, rfl, rfl, SqL.of hD, rfl, ?_, ?_, rfl, ?_, ?_⟩
      · rw [List.all_eq_true]
        intro x hx
        obtain ⟨j, hj, rfl⟩ := List.mem_map.mp hx
        rfl
      · rw [List.getElem?_map, List.getElem?_range hrr]
        show some (V.bl _) = _
        rw [in_row_true hcc hz]
      · intro m z' hm e
        rw [List.getElem?_map, List.getElem?_range (by omega)] at e
        have e := Option.some.inj e
        subst e
        show eqV (V.bl (inV (.int 0) (rowV C f m))) (.bl true) = false
        rw [in_row_false]
        · rfl
        · intro j hj e
          obtain ⟨e1, _⟩ := ix_inj hj hcc (U _ (ix_lt (by omega) hj) e)
          omega
      · refine ⟨_, rfl, .ref a, rfl, _, rfl, a, _, (r : Int), _, rfl, rfl, SqL.of T'.top, atI_nat g2, .inl ⟨rfl, _, SqL.of g3⟩, ri, _, .int 0, c, .int 0, rfl, rfl, SqL.of g3, rfl, row_flat _ _ _, ?_, rfl, ?_, ?_⟩
        · rw [rowV_get hcc, hz]
        · intro m z' hm e
          rw [rowV_get (by omega)] at e
          have e := Option.some.inj e
          subst e
          show decide (f (r * C + m) = 0) = false
          refine decide_eq_false fun e => ?_
          have := U _ (ix_lt hrr (by omega)) e
          omega
        · refine ⟨(by show 2 ≤ sizeLine; decide), fun p hp => q _ p (sm.trans (same_upd hp)) (sm.free hp) upd_same⟩
end
end Tr
namespace Tr
open PySem PySem.Spec PyProof.Rows L2
theorem scBeside : FnScope ["tray", "row", "column", "letter", "down", "right"] ["tray", "row", "column", "letter"] (defScope d_place_beside) := ⟨rfl, rfl, rfl, by decide +kernel, rfl, by decide +kernel, by decide +kernel⟩
def spBeside : Sp := fun vs H Q _ => ∃ (a : Addr) (rs : List Addr) (R C : Nat) (f : Fld) (r c l : Nat), vs = [.ref a, .int r, .int c, .str (txt [l])] ∧ TrayAt H a rs R C f ∧ 0 < R ∧ okL l ∧
  (∀ r' c', nxt R C r c l = some (r', c') → ∀ H' p, Same H H' → H p = none → H' p = some (.tup [.int r', .int c']) → Q (.ref p) H') ∧ (nxt R C r c l = none → Q .non H)
section
variable {P : Program} {w : World} {K : PySem.W.Frag} {mg : Str → Option Value} {base : Heap}
theorem ok_beside {fa dS : Addr} {fd : FuncData} {k : Nat} (F : Fun K "place_beside" "place_beside" d_place_beside fa fd) (gS : mg "STEPS" = some (.ref dS)) (S : StepsD K w dS) (mL : mg "len" = none) :
    FnOk P w K mg base CX0 (k + 1) fa fd ["tray", "row", "column", "letter"] spBeside := by
  refine F.ok scBeside (fun vs H Q E h => ?_) (fun cdv A outer s H vs Q E hr h => ?_)
  · obtain ⟨a, rs, R, C, f, r, c, l, rfl, _⟩ := h
    rfl
  · obtain ⟨a, rs, R, C, f, r, c, l, rfl, T, hR, hw, q, qn⟩ := h
    refine ⟨_, pss_cons (ps_asg (pe_ix ix_kdict (pe_glob (v := .ref dS) rfl gS rfl) (pv 3) (fun _ _ => rfl)) (pg_tup rfl (pgs_cons (pg_name (i := 4) scBeside.nd rfl (.inl rfl)) (pgs_cons (pg_name (i := 5) scBeside.nd rfl (.inl rfl)) pgs_nil))))
      (pss_cons (ps_set (i := 1) scBeside.nd rfl (.inl rfl) (pe_op op_add (pv 1) (pv 4)))
      (pss_cons (ps_set (i := 2) scBeside.nd rfl (.inl rfl) (pe_op op_add (pv 2) (pv 5)))
      (pss_cons (ps_if (PW.pt (pw_and (pt_chain op_le op_lt pe_int (pv 1) (pe_callB call_len_seq (by rfl) mL PySem.boot_len (pa_cons (pv 0) pa_nil)))
          (pw_and1 (pt_chain op_le op_lt pe_int (pv 2) (pe_callB call_len_seq (by rfl) mL PySem.boot_len (pa_cons (pe_ix ix_list (pv 0) pe_int (fun _ _ => rfl)) pa_nil))))))
        (pss_one (ps_ret (pe_tup (pa_cons (pv 1) (pa_cons (pv 2) pa_nil))))) pss_nil)
      (pss_one (ps_ret pe_non))))), ?_⟩
    obtain ⟨t, hk, ht⟩ := S.at_ l hw
    obtain ⟨r0, g1, g2, g3⟩ := T.get (i := 0) hR
    have hlen : ((rs.map V.ref).length : Int) = R := by rw [List.length_map, T.len]
    refine ⟨_, rfl, dS, _, _, rfl, rfl, hk, t, _, rfl, ht _, rfl, _, _, rfl, _, _, rfl, rfl, ?_⟩
    refine ⟨_, rfl, _, rfl, r, (stp l).1, rfl, rfl, ?_⟩
    refine ⟨_, rfl, _, rfl, c, (stp l).2, rfl, rfl, ?_⟩
    refine ⟨_, rfl, 0, (r : Int) + (stp l).1, rfl, rfl, _, rfl, ?_⟩
    have nn : ¬ (0 ≤ (r : Int) + (stp l).1 ∧ (r : Int) + (stp l).1 < R ∧ 0 ≤ (c : Int) + (stp l).2 ∧ (c : Int) + (stp l).2 < C) → Q V.non H := fun z => qn (nxt_none z)
    refine decI (fun z1 => ?_) (fun z1 => ⟨_, rfl, iteF (iteF (nn fun z => z1 z.1))⟩)
    refine ⟨.ref a, rfl, a, _, rfl, .inl (SqL.of T.top), _, _, rfl, rfl, _, rfl, ?_⟩
    refine decI (fun z2 => ?_) (fun z2 => iteF (nn fun z => z2 (by rw [hlen]; exact z.2.1)))
    rw [hlen] at z2
    refine ⟨_, rfl, 0, (c : Int) + (stp l).2, rfl, rfl, _, rfl, ?_⟩
    refine decI (fun z3 => ?_) (fun z3 => ⟨_, rfl, iteF (nn fun z => z3 z.2.2.1)⟩)
    refine ⟨.ref a, rfl, a, _, 0, _, rfl, rfl, SqL.of T.top, atI_nat (j := 0) g2, r0, _, rfl, .inl (SqL.of g3), _, _, rfl, rfl, _, rfl, ?_⟩
    rw [rowV_len]
    refine decI (fun z4 => ?_) (fun z4 => nn fun z => z4 z.2.2.2)
    have z2 : (r : Int) + (stp l).1 < R := z2
    have z4 : (c : Int) + (stp l).2 < C := z4
    refine ⟨_, rfl, _, rfl, (by show 2 ≤ sizeLine; decide), fun p hp => ?_⟩
    refine q _ _ (nxt_some ⟨z1, z2, z3, z4⟩) _ p (same_upd hp) hp ?_
    rw [upd_same, Int.toNat_of_nonneg z1, Int.toNat_of_nonneg z3]
end
end Tr
namespace Tr
open PySem PySem.Spec PyProof.Rows L2
theorem scMoved : FnScope ["tray", "slides", "row", "rows", "column", "letter", "place", "to_row", "to_column"] ["tray", "slides"] (defScope d_moved) := ⟨rfl, rfl, rfl, by decide +kernel, rfl, by decide +kernel, by decide +kernel⟩
def spMoved (CS : Addr) : Sp := fun vs H Q E => ∃ (a : Addr) (rs : List Addr) (R C : Nat) (s : Sl) (ws : List Nat), vs = [.ref a, .str (txt ws)] ∧ TrayAt H a rs R C s.1 ∧ Good R C s ∧
  (∀ s', goAll R C s ws = some s' → ∀ H' p rs', Same H H' → H p = none → (∀ x ∈ rs', H x = none) → TrayAt H' p rs' R C s'.1 → Q (.ref p) H') ∧
  (goAll R C s ws = none → ∀ H', Same H H' → E (.ref CS) none H')
section
variable {P : Program} {w : World} {K : PySem.W.Frag} {mg : Str → Option Value} {base : Heap}
theorem ok_moved {fa CS fT fS fE fB : Addr} {fd fdT fdS fdE fdB : FuncData} {k : Nat} (F : Fun K "moved" "moved" d_moved fa fd) (T : ExcT K mg "BadSlides" CS) (mLi : mg "list" = none)
    (GT : FnOk P w K mg base CX0 (k + 1) fT fdT ["tray"] spCheckT) (gT : mg "check_tray" = some (.ref fT)) (kT : PySem.W.keepIn K (.ref fT) = true) (bT : Binds K fdT ["tray"] [])
    (GS : FnOk P w K mg base (L2.CX P w) (k + 1) fS fdS ["slides"] (spCheckS CS)) (gS : mg "check_slides" = some (.ref fS)) (kS : PySem.W.keepIn K (.ref fS) = true) (bS : Binds K fdS ["slides"] [])
    (GE : FnOk P w K mg base CX0 (k + 1) fE fdE ["tray"] spEmpty) (gE : mg "empty_place" = some (.ref fE)) (kE : PySem.W.keepIn K (.ref fE) = true) (bE : Binds K fdE ["tray"] [])
    (GB : FnOk P w K mg base CX0 (k + 1) fB fdB ["tray", "row", "column", "letter"] spBeside) (gB : mg "place_beside" = some (.ref fB)) (kB : PySem.W.keepIn K (.ref fB) = true) (bB : Binds K fdB ["tray", "row", "column", "letter"] []) :
    FnOk P w K mg base (L2.CX P w) (k + 2) fa fd ["tray", "slides"] (spMoved CS) := by
  refine F.okX scMoved (fun vs H Q E h => ?_) (fun cdv A outer s H vs Q E hr h => ?_)
  · obtain ⟨a, rs, R, C, s, ws, rfl, _⟩ := h
    rfl
  · obtain ⟨a, rs, R, C, ⟨f, r, c⟩, ws, rfl, Ta, g, q, qe⟩ := h
    have hR := g.r6
    have hR0 := g.r0
    refine ⟨_, pss_cons (ps_expr (pe_call GT hr (by rfl) gT kT bT .nil pass0 (pa_cons (pv 0) pa_nil)))
      (pss_cons (ps_expr (pe_callS GS hr (by rfl) gS kS bS (fun σ => passAt (takes_of rfl rfl rfl rfl) σ) (pa_cons (pv 1) pa_nil)))
      (pss_cons (ps_setLc (i := 3) (own := [("row", 2)]) (g := gName 2) (tt := tYes) rfl scMoved.nd rfl rfl (sw_true rfl rfl rfl (by decide +kernel)) (pi_list (pv 0))
          (blkOk_by (own := [("row", 2)]) (N := ["tray", "slides", "row", "rows", "column", "letter", "place", "to_row", "to_column"]) (sc := defScope d_moved) (by decide +kernel))
          (fun _ _ _ _ _ => pg_name (i := 2) scMoved.nd rfl (.inl rfl)) (fun _ _ _ _ _ => pts_nil) (fun _ _ _ _ _ => pe_callTy (r := rListOf K) cr_listOf (by rfl) mLi (by decide +kernel) (pa_cons (pv 2) pa_nil)))
      (pss_cons (ps_asg (pe_call GE hr (by rfl) gE kE bE .nil pass0 (pa_cons (pv 3) pa_nil)) (pg_tup rfl (pgs_cons (pg_name (i := 2) scMoved.nd rfl (.inl rfl)) (pgs_cons (pg_name (i := 4) scMoved.nd rfl (.inl rfl)) pgs_nil))))
      (pss_cons (ps_for (passes_of rfl) rfl (pi_str (pv 1)) (pg_name (i := 5) scMoved.nd rfl (.inl rfl))
        (pss_cons (ps_set (i := 6) scMoved.nd rfl (.inl rfl) (pe_call GB hr (by rfl) gB kB bB .nil pass0 (pa_cons (pv 3) (pa_cons (pv 2) (pa_cons (pv 4) (pa_cons (pv 5) pa_nil))))))
        (pss_cons (ps_if (pt_cmp (pc_isN (pv 6))) (pss_one (ps_raise rfl (takes_of rfl rfl rfl rfl) (pmk_own PySem.F.excBase_ValueError T.x T.g T.k (raises_own T.b T.t) rfl))) pss_nil)
        (pss_cons (ps_asg (pv 6) (pg_tup rfl (pgs_cons (pg_name (i := 7) scMoved.nd rfl (.inl rfl)) (pgs_cons (pg_name (i := 8) scMoved.nd rfl (.inl rfl)) pgs_nil))))
        (pss_cons (ps_asg (pe_ix ix_list (pe_ix ix_list (pv 3) (pv 7) (fun _ _ => rfl)) (pv 8) (fun _ _ => rfl)) (pg_sub (pe_ix ix_list (pv 3) (pv 2) (fun _ _ => rfl)) (pv 4) set_list))
        (pss_cons (ps_asg pe_int (pg_sub (pe_ix ix_list (pv 3) (pv 7) (fun _ _ => rfl)) (pv 8) set_list))
        (pss_one (ps_par (i := 2) (j := 4) (by rfl) scMoved.nd rfl rfl (by decide) rfl rfl (pa_cons (pv 7) (pa_cons (pv 8) pa_nil)) (by rfl)))))))))
      (pss_one (ps_ret (pv 3))))))), ?_⟩
    -- check_tray(tray); check_slides(slides)
    refine ⟨_, rfl, a, rs, R, C, f, rfl, Ta, hR0, hR, g.c0, g.c6, g.full, fun H1 s1 => ?_⟩
    refine ⟨_, rfl, ws, rfl, fun hok => ?_, fun hbad => qe (goAll_bad (by omega) hbad) H1 s1⟩
    -- rows = [list(row) for row in tray]
    refine ⟨_, rfl, a, rfl, ⟨_, SqL.of (Ta.mono s1).top⟩, fun D nD => lc_copy (i := 2) (Ta.mono s1) (by omega) nD (by show 2 < 9; decide) fun rs1 H2 s2 nrs T2 => ?_⟩
    have s02 := s1.trans s2
    -- row, column = empty_place(rows)
    refine ⟨_, rfl, D, rs1, R, C, f, r, c, rfl, T2, g.z, g.uniq, by omega, fun H3 p s3 np hp => ?_⟩
    refine ⟨p, _, rfl, SqT.of hp, rfl, _, _, rfl, _, _, rfl, rfl, ?_⟩
    have s03 := s02.trans s3
    -- for letter in slides
    refine ⟨_, rfl, _, rfl, for_it walk_str (fun i σ H' => ∃ f' r' c' v5 v6 v7 v8, goAll R C (f, r, c) (ws.take i) = some (f', r', c') ∧ σ = [some (.ref a), some (.str (txt ws)), some (.int (r' : Nat)), some (.ref D), some (.int (c' : Nat)), v5, v6, v7, v8] ∧ Same H H' ∧ TrayAt H' D rs1 R C f')
      ⟨f, r, c, none, none, none, none, rfl, rfl, s03, T2.mono s3⟩ (fun _ _ _ _ _ => True.intro) ?_ ?_⟩
    · rintro i x σ H4 H5 hi ⟨f', r', c', v5, v6, v7, v8, hg, rfl, s4, T4⟩ ⟨rfl, l, hl, rfl⟩
      have hl : ws[i]? = some l := by simpa using hl
      have hlo : okL l := hok l (List.mem_of_getElem? hl)
      have g' : Good R C (f', r', c') := g.go hg
      refine ⟨_, rfl, _, rfl, _, rfl, _, rfl, D, rs1, R, C, f', r', c', l, rfl, T4, hR0, hlo, fun r2 c2 hn H6 p6 s6 np6 hp6 => ?_, fun hn => ?_⟩
      · refine ⟨_, rfl, _, rfl, iteF ?_⟩
        obtain ⟨_, _, hr2, hc2⟩ := nxt_eq hn
        have T6 := T4.mono s6
        obtain ⟨ra, a1, a2, a3⟩ := T6.get g'.z.r
        obtain ⟨rb, b1, b2, b3⟩ := T6.get hr2
        have hc' : c' < C := g'.z.c
        refine ⟨_, rfl, p6, _, rfl, SqT.of hp6, rfl, _, _, rfl, _, _, rfl, rfl, ?_⟩
        -- rows[row][column] = rows[to_row][to_column]
        refine ⟨.ref D, rfl, _, rfl, D, _, (r2 : Int), _, rfl, rfl, SqL.of T6.top, atI_nat b2, _, rfl, rb, _, (c2 : Int), _, rfl, rfl, SqL.of b3, atI_nat (rowV_get hc2), ?_⟩
        refine ⟨.ref D, rfl, _, rfl, D, _, (r' : Int), _, rfl, rfl, SqL.of T6.top, atI_nat a2, _, rfl, ra, _, (c' : Int), c', rfl, rfl, a3, by rw [rowV_len]; exact ixN_nat hc', ?_⟩
        have T7 := T6.put (v := f' (r2 * C + c2)) a1 hc'
        obtain ⟨rb', b1', b2', b3'⟩ := T7.get hr2
        rw [b1] at b1'
        cases b1'
        -- rows[to_row][to_column] = 0
        refine ⟨.ref D, rfl, _, rfl, D, _, (r2 : Int), _, rfl, rfl, SqL.of T7.top, atI_nat b2', _, rfl, rb, _, (c2 : Int), c2, rfl, rfl, b3', by rw [rowV_len]; exact ixN_nat hc2, ?_⟩
        have T8 := T7.put (v := 0) b1 hc2
        -- row, column = to_row, to_column
        refine ⟨_, rfl, _, rfl, _, _, rfl, put2 f' (r' * C + c') (r2 * C + c2), r2, c2, _, _, _, _, ?_, rfl, ?_, T8⟩
        · rw [goAll_take hg hl, go1_of_nxt hn]
        · intro b o e
          have nb : ∀ y ∈ rs1, b ≠ y := fun y hy z => by
            have h1 := nrs y hy
            rw [← z, s1 _ _ e] at h1
            cases h1
          rw [upd_ne (nb _ (List.mem_of_getElem? b1)), upd_ne (nb _ (List.mem_of_getElem? a1))]
          exact s6 _ _ (s4 _ _ e)
      · refine ⟨_, rfl, _, rfl, iteT ?_⟩
        exact qe (goAll_stop hg hl (go1_of_none hn)) _ s4
    · rintro σ H4 ⟨f', r', c', v5, v6, v7, v8, hg, rfl, s4, T4⟩
      have e : ws.take (txt ws).cps.size = ws := by
        show ws.take ws.toArray.size = ws
        rw [List.size_toArray, List.take_length]
      rw [e] at hg
      exact ⟨_, rfl, q _ hg H4 D rs1 s4 (s1.free nD) (fun x hx => s1.free (nrs x hx)) T4⟩
end
end Tr
namespace Tr
open PySem PySem.Spec PyProof.Rows L2
theorem scUndone : FnScope ["slides", "letter"] ["slides"] (defScope d_undone) := ⟨rfl, rfl, rfl, by decide +kernel, rfl, by decide +kernel, by decide +kernel⟩
/-- slides handed in, of at most so many letters: they are changed to g of them, or refused -/
theorem small4M {n : Nat} (h : n ≤ 4000000) : n < sizeLine := Nat.lt_of_le_of_lt h (by decide)
def spSlides (CS : Addr) (g : List Nat → List Nat) : Sp := fun vs H Q E => ∃ (ws : List Nat), vs = [.str (txt ws)] ∧ ws.length ≤ 4000000 ∧ ((∀ l ∈ ws, okL l) → ∀ H', Same H H' → Q (.str (txt (g ws))) H') ∧ ((∃ l ∈ ws, ¬ okL l) → E (.ref CS) none H)
section
variable {P : Program} {w : World} {K : PySem.W.Frag} {mg : Str → Option Value} {base : Heap}
theorem ok_undone {fa CS fS dB : Addr} {fd fdS : FuncData} {k : Nat} (F : Fun K "undone" "undone" d_undone fa fd) (gB : mg "BACK" = some (.ref dB)) (B : BackD K w dB)
    (GS : FnOk P w K mg base (L2.CX P w) (k + 1) fS fdS ["slides"] (spCheckS CS)) (gS : mg "check_slides" = some (.ref fS)) (kS : PySem.W.keepIn K (.ref fS) = true) (bS : Binds K fdS ["slides"] []) :
    FnOk P w K mg base (L2.CX P w) (k + 2) fa fd ["slides"] (spSlides CS undo) := by
  refine F.okX scUndone (fun vs H Q E h => ?_) (fun cdv A outer s H vs Q E hr h => ?_)
  · obtain ⟨ws, rfl, _⟩ := h
    rfl
  · obtain ⟨ws, rfl, hl, q, qe⟩ := h
    refine ⟨_, pss_cons (ps_expr (pe_callS GS hr (by rfl) gS kS bS (fun σ => passAt (takes_of rfl rfl rfl rfl) σ) (pa_cons (pv 0) pa_nil)))
      (pss_one (ps_ret (pe_join pe_str (pe_lc (own := [("letter", 1)]) (g := gName 1) (tt := tYes) rfl scUndone.nd (pi_str (pe_revS (pv 0))) (blkOk_by (own := [("letter", 1)]) (N := ["slides", "letter"]) (sc := defScope d_undone) (by decide +kernel))
        (fun _ _ _ _ _ => pg_name (i := 1) scUndone.nd rfl (.inl rfl)) (fun _ _ _ _ _ => pts_nil) (fun _ _ _ _ _ => pe_ix (r := rIxD K w) ix_kdict (pe_glob (v := .ref dB) rfl gB rfl) (pv 1) (fun _ _ => rfl)))))), ?_⟩
    refine ⟨_, rfl, ws, rfl, fun hok => ?_, qe⟩
    have hsz : (txt ws).length ≤ sizeLine := by
      rw [txt_len]
      exact Nat.le_of_lt (small4M hl)
    refine ⟨⟨_, rfl⟩, _, rfl, txt ws, rfl, hsz, _, rfl, fun D nD => ?_⟩
    refine lc_gen (walk_str (z := txt ws.reverse)) (fun i H3 => Same H H3 ∧ H3 D = some (.lst (((ws.reverse.map bk).take i).map fun l => V.str (txt [l])))) ⟨same_upd nD, by rw [upd_same]; rfl⟩ (fun _ _ _ _ => True.intro) ?_ ?_
    · rintro i x H3 H4 hi ⟨s3, hD⟩ ⟨rfl, l, hx, rfl⟩
      have hx : ws.reverse[i]? = some l := by simpa using hx
      have hlo : okL l := hok l (List.mem_reverse.mp (List.mem_of_getElem? hx))
      have hy : (ws.reverse.map bk)[i]? = some (bk l) := by
        rw [List.getElem?_map, hx]
        rfl
      refine ⟨rfl, ?_⟩
      refine ⟨_, rfl, dB, txt [l], _, rfl, rfl, B.at_ l hlo, _, hD, ?_, ?_, ?_⟩
      · rw [List.length_map, List.length_take, List.length_map, List.length_reverse]
        exact small4M (by omega)
      · intro b o e
        rw [upd_ne (ne_of_none e nD)]
        exact s3 _ _ e
      · rw [upd_same, take_more hy, List.map_append]
        rfl
    · rintro H3 ⟨s3, hD⟩
      have e : ((ws.reverse.map bk).take (txt ws.reverse).cps.size) = undo ws := by
        show ((ws.reverse.map bk).take ws.reverse.toArray.size) = undo ws
        rw [List.size_toArray]
        refine List.take_of_length_le ?_
        rw [List.length_map]
        exact Nat.le_refl _
      rw [e, txts_map] at hD
      refine ⟨"", D, _, rfl, rfl, .inl (SqL.of hD), ?_, ?_⟩
      · rw [empty_eq, ones_sum, undo_len]
        omega
      · rw [empty_eq, join_txt]
        exact q hok _ s3
end
end Tr
namespace Tr
open PySem PySem.Spec PyProof.Rows L2
theorem scThinned : FnScope ["slides", "left", "letter"] ["slides"] (defScope d_thinned) := ⟨rfl, rfl, rfl, by decide +kernel, rfl, by decide +kernel, by decide +kernel⟩
abbrev lets (l : List Nat) : List V := l.map fun c => V.str (txt [c])
theorem lets_last {l : List Nat} {x : Nat} (h : l.getLast? = some x) : atI (lets l) (-1) = some (V.str (txt [x])) := by
  have hne : l ≠ [] := by
    intro e
    rw [e] at h
    cases h
  have e : l = l.dropLast ++ [x] := by
    have h1 := List.dropLast_concat_getLast hne
    rw [List.getLast?_eq_getLast hne] at h
    rw [Option.some.inj h] at h1
    exact h1.symm
  rw [e]
  show atI ((l.dropLast ++ [x]).map fun c => V.str (txt [c])) (-1) = _
  rw [List.map_append]
  exact atI_last _ _
theorem lets_drop (l : List Nat) : (lets l).dropLast = lets l.dropLast := by
  show (l.map _).dropLast = _
  rw [← List.map_dropLast]
section
variable {P : Program} {w : World} {K : PySem.W.Frag} {mg : Str → Option Value} {base : Heap}
theorem ok_thinned {fa CS fS dB : Addr} {fd fdS : FuncData} {k : Nat} (F : Fun K "thinned" "thinned" d_thinned fa fd) (gB : mg "BACK" = some (.ref dB)) (B : BackD K w dB)
    (GS : FnOk P w K mg base (L2.CX P w) (k + 1) fS fdS ["slides"] (spCheckS CS)) (gS : mg "check_slides" = some (.ref fS)) (kS : PySem.W.keepIn K (.ref fS) = true) (bS : Binds K fdS ["slides"] []) :
    FnOk P w K mg base (L2.CX P w) (k + 2) fa fd ["slides"] (spSlides CS thinL) := by
  refine F.okX scThinned (fun vs H Q E h => ?_) (fun cdv A outer s H vs Q E hr h => ?_)
  · obtain ⟨ws, rfl, _⟩ := h
    rfl
  · obtain ⟨ws, rfl, hl, q, qe⟩ := h
    refine ⟨_, pss_cons (ps_expr (pe_callS GS hr (by rfl) gS kS bS (fun σ => passAt (takes_of rfl rfl rfl rfl) σ) (pa_cons (pv 0) pa_nil)))
      (pss_cons (ps_set (i := 1) scThinned.nd rfl (.inl rfl) (pe_lst pa_nil))
      (pss_cons (ps_for (passes_of rfl) rfl (pi_str (pv 0)) (pg_name (i := 2) scThinned.nd rfl (.inl rfl))
        (pss_one (ps_if (PW.pt (pw_and (pt_truth (pv 1) (by intro _; rfl)) (pw_and1 (pt_cmpR op_eq (pe_ix ix_list (pv 1) (pe_un un_neg pe_int) (fun _ _ => rfl)) (pe_ix ix_kdict (pe_glob (v := .ref dB) rfl gB rfl) (pv 2) (fun _ _ => rfl)) (nomark _)))))
          (pss_one (ps_expr (pe_bm0 PySem.F.plainAttrs_list PySem.F.slot_list_pop PySem.F.type_list_pop mt_pop (pv 1))))
          (pss_one (ps_expr (pe_bm PySem.F.plainAttrs_list PySem.F.slot_list_append PySem.F.type_list_append mt_append (pv 1) (pa_cons (pv 2) pa_nil)))))))
      (pss_one (ps_ret (pe_join pe_str (pv 1)))))), ?_⟩
    refine ⟨_, rfl, ws, rfl, fun hok => ?_, qe⟩
    refine ⟨Nat.zero_le _, fun D nD => ?_⟩
    refine ⟨_, rfl, _, rfl, for_it walk_str (fun i σ H' => ∃ v, σ = [some (.str (txt ws)), some (.ref D), v] ∧ Same H H' ∧ H' D = some (.lst (lets (thinL (ws.take i))))) ⟨none, rfl, same_upd nD, upd_same⟩ (fun _ _ _ _ _ => True.intro) ?_ ?_⟩
    · rintro i x σ H1 H2 hi ⟨v, rfl, s1, hD⟩ ⟨rfl, l, hx, rfl⟩
      have hx : ws[i]? = some l := by simpa using hx
      have hlo : okL l := hok l (List.mem_of_getElem? hx)
      have ht := thin_take hx
      have hlen : (thinL (ws.take i)).length ≤ 4000000 := Nat.le_trans (thinL_len _) (by rw [List.length_take]; omega)
      have hadd : ∀ H3, H3 = upd H2 D (.lst (lets (thinL (ws.take i)) ++ [V.str (txt [l])])) → (thinL (ws.take i)).getLast? ≠ some (bk l) → Same H H3 ∧ H3 D = some (.lst (lets (thinL (ws.take (i + 1))))) := by
        rintro H3 rfl hne
        refine ⟨fun b o e => by rw [upd_ne (ne_of_none e nD)]; exact s1 _ _ e, ?_⟩
        rw [upd_same, ht]
        unfold thS
        rw [if_neg hne]
        show _ = some (HO.lst ((thinL (ws.take i) ++ [l]).map _))
        rw [List.map_append]
        rfl
      refine ⟨_, rfl, _, .inl ⟨_, SqL.of hD, rfl⟩, ?_⟩
      cases hle : (thinL (ws.take i)).getLast? with
      | none =>
        have hnil : thinL (ws.take i) = [] := List.getLast?_eq_none_iff.mp hle
        rw [hnil]
        refine iteF (iteF ?_)
        refine ⟨_, rfl, .inl ⟨rfl, _, SqL.of hD⟩, _, rfl, D, _, _, rfl, rfl, hD, ?_, ?_⟩
        · rw [List.length_map]
          exact small4M hlen
        · obtain ⟨e1, e2⟩ := hadd _ rfl (by rw [hle]; exact fun z => by cases z)
          exact ⟨_, rfl, e1, e2⟩
      | some y =>
        have hne : (lets (thinL (ws.take i))).isEmpty = false := by
          cases e : thinL (ws.take i) with
          | nil => rw [e] at hle; cases hle
          | cons a b => rfl
        rw [hne]
        refine iteT ?_
        refine ⟨_, rfl, 1, rfl, D, _, -1, _, rfl, rfl, SqL.of hD, lets_last hle, _, rfl, dB, txt [l], _, rfl, rfl, B.at_ l hlo, rfl, _, rfl, ?_⟩
        refine decI (fun z => ?_) (fun z => ?_)
        · have z : y = bk l := by
            have := txt_inj (V.str.inj z)
            exact List.head_eq_of_cons_eq this
          subst z
          have h1 : (lets (thinL (ws.take i)))[(lets (thinL (ws.take i))).length - 1]? = some (V.str (txt [bk l])) := by
            have := congrArg (Option.map fun c => V.str (txt [c])) hle
            rw [List.getLast?_eq_getElem?] at this
            rw [List.length_map, List.getElem?_map]
            exact this
          refine ⟨_, rfl, .inl ⟨rfl, _, SqL.of hD⟩, D, _, _, rfl, rfl, hD, h1, ?_⟩
          refine ⟨_, rfl, fun b o e => ?_, ?_⟩
          · rw [upd_ne (ne_of_none e nD)]
            exact s1 _ _ e
          · rw [upd_same, lets_drop, ht]
            unfold thS
            rw [if_pos hle]
        · refine ⟨_, rfl, .inl ⟨rfl, _, SqL.of hD⟩, _, rfl, D, _, _, rfl, rfl, hD, ?_, ?_⟩
          · rw [List.length_map]
            exact small4M hlen
          · obtain ⟨e1, e2⟩ := hadd _ rfl (by rw [hle]; exact fun e => z (by rw [Option.some.inj e]))
            exact ⟨_, rfl, e1, e2⟩
    · rintro σ H1 ⟨v, rfl, s1, hD⟩
      have e : ws.take (txt ws).cps.size = ws := by
        show ws.take ws.toArray.size = ws
        rw [List.size_toArray, List.take_length]
      rw [e] at hD
      have hD : H1 D = some (.lst (((thinL ws).map fun l => txt [l]).map V.str)) := by
        rw [hD, ← txts_map]
      refine ⟨⟨_, rfl⟩, _, rfl, "", D, _, rfl, rfl, .inl (SqL.of hD), ?_, ?_⟩
      · rw [empty_eq, ones_sum]
        exact Nat.le_trans (thinL_len ws) (by omega)
      · rw [empty_eq, join_txt]
        exact q hok _ s1
end
end Tr
/-! combinations(list, 2): the class, made, walked -/
namespace Cmb
open PySem PySem.Spec
open Sem (wp)
theorem mro_ : mroOf (.type "itertools.combinations") = pure [.type "itertools.combinations", .type "object"] := by
  rw [mroOf_type]
  kernel_rfl
theorem new_ : typeLookup (.type "itertools.combinations") "__new__" = pure (some (.builtin "itertools.combinations.__new__")) := by
  rw [typeLookup_type, builtinLookup_eq_fast]
  kernel_rfl
theorem init_ : Slot "itertools.combinations" "__init__" "object.__init__" := by
  refine .of (owner := "object") (n := "__init__") ?_ (by decide +kernel) (by decide +kernel) (by decide +kernel) (.inl (by decide +kernel)) ?_
  · rw [typeLookup_type, builtinLookup_eq_fast]
    kernel_rfl
  · rw [isSubtype_type]
    kernel_rfl
theorem sub_ : isSubtype (.type "itertools.combinations") (.type "itertools.combinations") = pure true := by
  rw [isSubtype_type]
  kernel_rfl
theorem called_ : TypeCalled "itertools.combinations" "itertools.combinations.__new__" "object.__init__" where
  notType := by decide +kernel
  canCreate := by decide +kernel
  mro := ⟨_, _, mro_⟩
  made := madeBy_type mro_ new_ (by decide +kernel)
  plain := by decide +kernel
  sub := sub_
  init := init_
theorem tcall_ (a b : Value) : checkTypeCall "itertools.combinations" ⟨[a, b], []⟩ = pure () := by kernel_rfl
theorem ncall_ (a b : Value) : checkBuiltinCall "itertools.combinations.__new__" ⟨[.type "itertools.combinations", a, b], []⟩ = pure () := by kernel_rfl
theorem enew_ : entryFor table "itertools.combinations.__new__" = some Builtin.«itertools.combinations.__new__» := entryFor_of_tree (by kernel_rfl)
theorem siter_ : Slot "itertools.combinations" "__iter__" "itertools.combinations.__iter__" := by
  refine .of (owner := "itertools.combinations") (n := "__iter__") ?_ (by decide +kernel) (by decide +kernel) (by decide +kernel) ?_ sub_
  · rw [typeLookup_type, builtinLookup_eq_fast]
    kernel_rfl
  · first | exact .inl (by decide +kernel) | exact .inr (by decide +kernel)
theorem snext_ : Slot "itertools.combinations" "__next__" "itertools.combinations.__next__" := by
  refine .of (owner := "itertools.combinations") (n := "__next__") ?_ (by decide +kernel) (by decide +kernel) (by decide +kernel) ?_ sub_
  · rw [typeLookup_type, builtinLookup_eq_fast]
    kernel_rfl
  · first | exact .inl (by decide +kernel) | exact .inr (by decide +kernel)
theorem eiter_ : entryFor table "itertools.combinations.__iter__" = some Builtin.«dict_keyiterator.__iter__» :=
  entryFor_alias (id' := "dict_keyiterator.__iter__") (by kernel_rfl) (by first | rfl | decide +kernel) (by decide +kernel) (by kernel_rfl)
theorem enext_ : entryFor table "itertools.combinations.__next__" = some Builtin.«itertools.combinations.__next__» := entryFor_of_tree (by kernel_rfl)
theorem owner_ : Manifest.owners.lookup (String.ofList ("itertools.combinations".toList.reverse).reverse) = some Manifest.sig_itertools_combinations := by kernel_rfl
theorem aiter_ (a : Value) : argsOk "itertools.combinations.__iter__" ⟨[a], []⟩ := by
  unfold argsOk
  rw [signature?_of (id := "itertools.combinations.__iter__") (n := "__iter__".toList.reverse) (o := "itertools.combinations".toList.reverse) (by kernel_rfl) owner_]
  kernel_rfl
theorem anext_ (a : Value) : argsOk "itertools.combinations.__next__" ⟨[a], []⟩ := by
  unfold argsOk
  rw [signature?_of (id := "itertools.combinations.__next__") (n := "__next__".toList.reverse) (o := "itertools.combinations".toList.reverse) (by kernel_rfl) owner_]
  kernel_rfl
theorem nodict_ : typeHasDict (.type "itertools.combinations") = false := by decide +kernel
end Cmb
/-! combinations(list, 2): made, its turns -/
namespace Cmb
open PySem PySem.Spec
open Sem (wp)
/-- the object: the pool's tuple, where it stands, the last one handed out, two places -/
abbrev IsC (h : Heap) (z pt : Addr) (st : Int) (last : Value) (a b : Nat) : Prop := h.get? z = some { cls := .type "itertools.combinations", dict := none, data := .fields #[.ref pt, .int st 0, last, .int (a : Int) 0, .int (b : Int) 0], slots := #[] }
abbrev IsP (h : Heap) (pt : Addr) (its : List Value) : Prop := h.get? pt = some { cls := .type "tuple", dict := none, data := .seq its.toArray 0, slots := #[] }
def nextC (n a b : Nat) : Option (Nat × Nat) := if b = n - 1 then (if a = n - 2 then none else some (a + 1, a + 2)) else some (a, b + 1)
section
variable {prog : Program} {w : World} {A : Around} {E : Value → Shared → Prop} {s : Shared}
theorem made_new (l : Addr) (its : List Value) (t : Tok) (hz : its.length ≤ sizeLine) :
    Meets (Builtin.«itertools.combinations.__new__» ⟨[.type "itertools.combinations", .ref l, .int 2 t], []⟩)
      (fun _ R s => s.heap.IsList l its.toArray ∧ ∀ h' z pt, z = h'.objs.size - 1 → IsC h' z pt (if 2 > its.length then 2 else 0) .none 0 1 → IsP h' pt its → s.heap.objs.size ≤ pt → pt < z → (∀ b o, s.heap.get? b = some o → h'.get? b = some o) → R (.ok (.ret (.ref z))) { s with heap := h' }) :=
  .of_wp fun prog w A R s h => by
    obtain ⟨hl, h⟩ := h
    obtain ⟨o, ho, hc, n, hd⟩ := id hl
    have hsub := sub_
    have hnd := nodict_
    have hn : its.toArray.size ≤ sizeLine := by rw [List.size_toArray]; exact hz
    have hs2 : ("itertools." ++ "combinations" : String) = "itertools.combinations" := by decide +kernel
    show wpAny _ _ (_ >>= _) _ _ s
    wp_walk
    rw [hs2, hsub]
    refine wpAny_pure ?_
    dsimp only [Bool.not_true]
    rw [if_neg (by decide)]
    refine wpAny_pure ?_
    dsimp only
    wp_walk using PyProof.Rows.collect_list (hsz := hz) hl
    have k1 : ∀ b o', s.heap.get? b = some o' → ((s.heap.push (PyProof.Rows.seqObj "list" #[] 0)).update s.heap.objs.size (Obj.mapSeq (· ++ its.toArray))).get? b = some o' := fun b o' hb =>
      (Heap.get?_update_other _ _ (Nat.ne_of_gt (Heap.lt_size hb))).trans (Heap.get?_push_of_some _ hb)
    have z1 : ((s.heap.push (PyProof.Rows.seqObj "list" #[] 0)).update s.heap.objs.size (Obj.mapSeq (· ++ its.toArray))).objs.size = s.heap.objs.size + 1 := by
      rw [Heap.size_update, Heap.size_push]
    generalize ((s.heap.push (PyProof.Rows.seqObj "list" #[] 0)).update s.heap.objs.size (Obj.mapSeq (· ++ its.toArray))) = h1 at k1 z1 ⊢
    refine ⟨_, rfl, ?_⟩
    refine h _ _ h1.objs.size ?_ (Heap.get?_push_size _ rfl) (Heap.get?_push_of_some _ (Heap.get?_push_size _ rfl)) (by omega) ?_ fun b o q => Heap.get?_push_of_some _ (Heap.get?_push_of_some _ (k1 b o q))
    · simp only [Heap.size_push]
      first | rfl | exact (Nat.add_sub_cancel ..).symm
    · rw [Heap.size_push]
      exact Nat.lt_succ_self _
end
end Cmb
/-! combinations(list, 2): its turns -/
namespace Cmb
open PySem PySem.Spec
open Sem (wp)
/-- which place goes on, what stands there then -/
def pick2 (n a b : Nat) : Option Nat := match (b != 1 + n - 2) with
  | true => some 1
  | false => match (a != 0 + n - 2) with
    | true => some 0
    | false => none
def put2L (a b : Nat) : Option Nat → Option (List Nat)
  | none => none
  | some i => some ([a, b].take i ++ (List.range (2 - i)).map ([a, b].getD i 0 + 1 + ·))
theorem put2L_eq {n a b : Nat} (h : a < b) (hb : b < n) : put2L a b (pick2 n a b) = (nextC n a b).map fun p => [p.1, p.2] := by
  unfold pick2 nextC
  by_cases e : b = n - 1
  · have e1 : (b != 1 + n - 2) = false := by simp; omega
    rw [e1, if_pos e]
    by_cases f : a = n - 2
    · have f1 : (a != 0 + n - 2) = false := by simp; omega
      simp only [f1]
      rw [if_pos f]
      rfl
    · have f1 : (a != 0 + n - 2) = true := by simp; omega
      simp only [f1]
      rw [if_neg f]
      rfl
  · have e1 : (b != 1 + n - 2) = true := by simp; omega
    rw [e1, if_neg e]
    rfl
section
variable {prog : Program} {w : World} {A : Around} {E : Value → Shared → Prop} {s : Shared}
theorem call_made {l : Addr} {its : List Value} {t : Tok} {Q : Value → Shared → Prop} (hl : s.heap.IsList l its.toArray) (hz : its.length ≤ sizeLine)
    (h : ∀ h' z pt, IsC h' z pt (if 2 > its.length then 2 else 0) .none 0 1 → IsP h' pt its → s.heap.objs.size ≤ pt → pt < z → (∀ b o, s.heap.get? b = some o → h'.get? b = some o) → Q (.ref z) { s with heap := h' }) :
    wpAny (model prog w) A (call (.type "itertools.combinations") [.ref l, .int 2 t]) Q E s := by
  refine callType_new called_ (by decide +kernel) (tcall_ _ _) (ncall_ _ _) (fun obj => F.args_object_init_3 obj _ _) enew_ (made_new l its t hz) ⟨hl, fun h' z pt e i p lt lt2 k => ?_⟩
  exact ⟨⟨_, i, rfl⟩, h h' z pt i p lt lt2 k⟩
theorem iter_self {z pt a b : Nat} {st : Int} {last : Value} {Q : Value → Shared → Prop} (hz : IsC s.heap z pt st last a b) (h : Q (.ref z) s) : wpAny (model prog w) A (pyIter (.ref z)) Q E s := by
  have hT : s.TypeIs (.ref z) "itertools.combinations" := ⟨_, hz, rfl⟩
  refine wpAny_pyIter_slot hT siter_ (wpAny_call_entry siter_ hT eiter_ ?_ (aiter_ _))
  show wpAny _ _ (ret (.ref z)) _ _ s
  exact wpAny_pure ⟨_, rfl, _, _, hT, snext_.lookup, h⟩
/-- the next pair, handed out -/
theorem give {z pt a b : Nat} {st : Int} {last x y : Value} {its : List Value} {c d : Nat} {Q : Value → Shared → Prop} (hz : IsC s.heap z pt st last c d) (hp : IsP s.heap pt its) (hx : its[a]? = some x) (hy : its[b]? = some y)
    (hQ : ∀ h', IsC h' z pt st (.ref s.heap.objs.size) c d → h'.get? s.heap.objs.size = some { cls := .type "tuple", data := .seq #[x, y] } → h'.objs.size = s.heap.objs.size + 1 → (∀ b o, b ≠ z → s.heap.get? b = some o → h'.get? b = some o) → Q (.ref s.heap.objs.size) { s with heap := h' }) :
    wpAny (model prog w) A (do
      let result ← (do
        let items ← Builtin.Itertools.itPoolItems (.ref pt)
        newTuple ([a, b].map fun i => items.getD i .none))
      let before ← field (.ref z) 2
      setField (.ref z) 2 result
      letGo [before] [result]
      ret result) (fun f s' => ∃ v, f = .done (.ret v) ∧ Q v s') E s := by
  have hlt : z < s.heap.objs.size := Heap.lt_size hz
  unfold Builtin.Itertools.itPoolItems
  refine wpAny_bind (wpAny_bind (wpAny_bind (wpAny_seqItems hp rfl (wpAny_pure ?_))))
  have e : ([a, b].map fun i => its.toArray.getD i Value.none) = [x, y] := by
    have ha : its.toArray.getD a Value.none = x := by rw [Array.getD_eq_getD_getElem?, List.getElem?_toArray, hx]; rfl
    have hb : its.toArray.getD b Value.none = y := by rw [Array.getD_eq_getD_getElem?, List.getElem?_toArray, hy]; rfl
    rw [List.map_cons, List.map_cons, List.map_nil, ha, hb]
  rw [e]
  refine wpAny_newTuple ?_ (by show 2 ≤ sizeLine; decide)
  have hz1 : (s.heap.push { cls := .type "tuple", data := .seq [x, y].toArray }).get? z = some _ := Heap.get?_push_of_some _ hz
  refine wpAny_bind (wpAny_field hz1 rfl (x := last) rfl ?_)
  refine wpAny_bind (wpAny_setField hz1 rfl (by show 2 < 5; decide) ?_)
  refine wpAny_bind (wpAny_letGo ?_)
  refine wpAny_pure ⟨_, rfl, hQ _ (Heap.get?_update_self _ hz1 rfl) ?_ ?_ ?_⟩
  · rw [Heap.get?_update_other _ _ (Nat.ne_of_lt hlt)]
    exact Heap.get?_push_size _ rfl
  · rw [Heap.size_update, Heap.size_push]
  · intro b o hb q
    rw [Heap.get?_update_other _ _ hb.symm]
    exact Heap.get?_push_of_some _ q
theorem next_first {z pt : Addr} {last x y : Value} {its : List Value} {a b : Nat} {Q : Option Value → Shared → Prop} (hz : IsC s.heap z pt 0 last a b) (hp : IsP s.heap pt its) (hne : pt ≠ z) (hx : its[a]? = some x) (hy : its[b]? = some y)
    (hQ : ∀ h', IsC h' z pt 1 (.ref s.heap.objs.size) a b → h'.get? s.heap.objs.size = some { cls := .type "tuple", data := .seq #[x, y] } → (∀ b o, b ≠ z → s.heap.get? b = some o → h'.get? b = some o) → Q (some (.ref s.heap.objs.size)) { s with heap := h' }) :
    wpAny (model prog w) A (pyNext (.ref z)) Q E s := by
  have hT : s.TypeIs (.ref z) "itertools.combinations" := ⟨_, hz, rfl⟩
  unfold pyNext
  refine wpAny_bind (wpAny_attempt (wpAny_callSpecial?_slot (name := Str.ofString "__next__") hT snext_ (wpAny_call_entry snext_ hT enext_ ?_ (anext_ _))))
  show wpAny _ _ (field (.ref z) 0 >>= _) _ _ s
  refine wpAny_bind (wpAny_field hz rfl (x := .ref pt) rfl ?_)
  show wpAny _ _ (load z >>= _) _ _ s
  refine wpAny_bind (wpAny_load hz ?_)
  show wpAny _ _ ((field (.ref z) 1 >>= _) >>= _) _ _ s
  refine wpAny_bind (wpAny_bind (wpAny_field hz rfl (x := .int 0 0) rfl (wpAny_pure ?_)))
  show wpAny _ _ (setField (.ref z) 1 (rawInt 1) >>= _) _ _ s
  refine wpAny_bind (wpAny_setField hz rfl (by show 1 < 5; decide) ?_)
  have hz1 : IsC (s.heap.update z (Obj.mapFields fun x => x.setIfInBounds 1 (rawInt 1))) z pt 1 last a b := Heap.get?_update_self _ hz rfl
  have hp1 : IsP (s.heap.update z (Obj.mapFields fun x => x.setIfInBounds 1 (rawInt 1))) pt its := (Heap.get?_update_other _ _ hne.symm).trans hp
  refine give (s := { s with heap := s.heap.update z (Obj.mapFields fun x => x.setIfInBounds 1 (rawInt 1)) }) hz1 hp1 hx hy fun h' q1 q2 q3 q4 => wpAny_pure ?_
  dsimp only at q1 q2 q3 q4
  rw [Heap.size_update] at q1 q2 ⊢
  exact hQ h' q1 q2 fun c o hc e => q4 c o hc ((Heap.get?_update_other _ _ hc.symm).trans e)
theorem next_more {z pt : Addr} {last x y : Value} {its : List Value} {a b c d : Nat} {Q : Option Value → Shared → Prop} (hz : IsC s.heap z pt 1 last a b) (hp : IsP s.heap pt its) (hne : pt ≠ z) (hn : nextC its.length a b = some (c, d)) (h2 : a < b) (hb : b < its.length) (hx : its[c]? = some x) (hy : its[d]? = some y)
    (hQ : ∀ h', IsC h' z pt 1 (.ref s.heap.objs.size) c d → h'.get? s.heap.objs.size = some { cls := .type "tuple", data := .seq #[x, y] } → (∀ b o, b ≠ z → s.heap.get? b = some o → h'.get? b = some o) → Q (some (.ref s.heap.objs.size)) { s with heap := h' }) :
    wpAny (model prog w) A (pyNext (.ref z)) Q E s := by
  have hT : s.TypeIs (.ref z) "itertools.combinations" := ⟨_, hz, rfl⟩
  unfold pyNext
  refine wpAny_bind (wpAny_attempt (wpAny_callSpecial?_slot (name := Str.ofString "__next__") hT snext_ (wpAny_call_entry snext_ hT enext_ ?_ (anext_ _))))
  show wpAny _ _ (field (.ref z) 0 >>= _) _ _ s
  refine wpAny_bind (wpAny_field hz rfl (x := .ref pt) rfl ?_)
  show wpAny _ _ (load z >>= _) _ _ s
  refine wpAny_bind (wpAny_load hz ?_)
  show wpAny _ _ ((field (.ref z) 1 >>= _) >>= _) _ _ s
  refine wpAny_bind (wpAny_bind (wpAny_field hz rfl (x := .int 1 0) rfl (wpAny_pure ?_)))
  show wpAny _ _ ((seqItems? (.ref pt) >>= _) >>= _) _ _ s
  refine wpAny_bind (wpAny_bind (wpAny_seqItems hp rfl (wpAny_pure ?_)))
  split
  · rename_i nx heq
    have e : put2L a b (pick2 its.toArray.size a b) = some nx := heq
    rw [List.size_toArray, put2L_eq h2 hb, hn] at e
    have e := Option.some.inj e
    subst e
    show wpAny _ _ (updateFields z _ >>= _) _ _ s
    refine wpAny_bind (wpAny_updateFields hz rfl ?_ (by show 5 ≤ sizeLine + 3; decide))
    have hz1 := Heap.get?_update_self (Obj.mapFields fun fs => fs.extract 0 3 ++ ([c, d].map fun (n : Nat) => rawInt n).toArray) hz rfl
    have hp1 : IsP (s.heap.update z (Obj.mapFields fun fs => fs.extract 0 3 ++ ([c, d].map fun (n : Nat) => rawInt n).toArray)) pt its := (Heap.get?_update_other _ _ hne.symm).trans hp
    refine give (s := { s with heap := s.heap.update z (Obj.mapFields fun fs => fs.extract 0 3 ++ ([c, d].map fun (n : Nat) => rawInt n).toArray) }) hz1 hp1 hx hy fun h' q1 q2 q3 q4 => wpAny_pure ?_
    dsimp only at q1 q2 q3 q4
    rw [Heap.size_update] at q1 q2 ⊢
    exact hQ h' q1 q2 fun c o hc e => q4 c o hc ((Heap.get?_update_other _ _ hc.symm).trans e)
  · rename_i heq
    have e : put2L a b (pick2 its.toArray.size a b) = none := heq
    rw [List.size_toArray, put2L_eq h2 hb, hn] at e
    cases e
theorem stop_out {A : Around} {E : Value → Shared → Prop} (hh : A.handled = none) {Q : Fin → Shared → Prop} (hQ : ∀ e h', (∃ o, h'.get? e = some o ∧ o.cls = .type "StopIteration") → (∀ b o, s.heap.get? b = some o → h'.get? b = some o) → E (.ref e) { s with heap := h' }) :
    wpAny (model prog w) A (Builtin.Itertools.itStop : Sem Fin) Q E s := by
  show wpAny _ _ (newExc (.type "StopIteration") [] >>= _) _ _ _
  refine wpAny_bind ?_
  simp only [newExc, newTuple]
  refine wpAny_bind (wpAny_newObj_type ?_ (by show 0 ≤ sizeLine; decide))
  refine wpAny_bind (m := firstArgMember _ _) (wpAny_of_eq (a := Value.none) (by first | rfl | (simp only [firstArgMember]; rfl)) ?_)
  refine wpAny_newObj_type ?_ (by size_fits)
  simp only [raiseNew]
  refine wpAny_bind (wpAny_handled ?_)
  rw [hh]
  refine wpAny_bind (wpAny_pure (wpAny_throw ?_))
  exact hQ _ _ ⟨_, Heap.get?_push_size _ rfl, rfl⟩ fun b o q => Heap.get?_push_of_some _ (Heap.get?_push_of_some _ q)
theorem next_end {z pt : Addr} {st : Int} {last : Value} {its : List Value} {a b : Nat} {Q : Option Value → Shared → Prop} (hh : A.handled = none) (hz : IsC s.heap z pt st last a b) (hp : IsP s.heap pt its) (hs : st = 2 ∨ st = 1 ∧ nextC its.length a b = none ∧ a < b ∧ b < its.length)
    (hQ : ∀ h', (∀ b o, b ≠ z → s.heap.get? b = some o → h'.get? b = some o) → Q none { s with heap := h' }) :
    wpAny (model prog w) A (pyNext (.ref z)) Q E s := by
  have hT : s.TypeIs (.ref z) "itertools.combinations" := ⟨_, hz, rfl⟩
  unfold pyNext
  refine wpAny_bind (wpAny_attempt (wpAny_callSpecial?_slot (name := Str.ofString "__next__") hT snext_ (wpAny_call_entry snext_ hT enext_ ?_ (anext_ _))))
  show wpAny _ _ (field (.ref z) 0 >>= _) _ _ s
  refine wpAny_bind (wpAny_field hz rfl (x := .ref pt) rfl ?_)
  show wpAny _ _ (load z >>= _) _ _ s
  refine wpAny_bind (wpAny_load hz ?_)
  show wpAny _ _ ((field (.ref z) 1 >>= _) >>= _) _ _ s
  refine wpAny_bind (wpAny_bind (wpAny_field hz rfl (x := .int st 0) rfl (wpAny_pure ?_)))
  have hi : A.in1.handled = none := hh
  rcases hs with rfl | ⟨rfl, hn, h2, hb⟩
  · show wpAny _ _ (rule _ >>= _) _ _ s
    refine wpAny_bind (wpAny_rule (stop_out hi fun e h' he k => ?_))
    obtain ⟨o, ho, hc⟩ := he
    refine wpAny_bind (wpAny_isInstance (T := "StopIteration") (b := true) ⟨o, ho, hc⟩ isSubtype_stop ?_)
    exact wpAny_pure (hQ _ fun b o _ q => k b o q)
  show wpAny _ _ ((seqItems? (.ref pt) >>= _) >>= _) _ _ s
  refine wpAny_bind (wpAny_bind (wpAny_seqItems hp rfl (wpAny_pure ?_)))
  split
  · rename_i nx heq
    have e : put2L a b (pick2 its.toArray.size a b) = some nx := heq
    rw [List.size_toArray, put2L_eq h2 hb, hn] at e
    cases e
  · refine wpAny_bind (wpAny_setField hz rfl (by show 1 < 5; decide) (stop_out hi fun e h' he k => ?_))
    obtain ⟨o, ho, hc⟩ := he
    refine wpAny_bind (wpAny_isInstance (T := "StopIteration") (b := true) ⟨o, ho, hc⟩ isSubtype_stop ?_)
    exact wpAny_pure (hQ _ fun b o hb q => k b o ((Heap.get?_update_other _ _ hb.symm).trans q))
end
end Cmb
/-! for a, b in combinations(list, 2) -/
namespace Tr
open PySem PySem.Spec PyProof.Rows L2
/-- all pairs of a list, the one ahead of the other -/
def prs {α : Type} : List α → List (α × α)
  | [] => []
  | x :: r => r.map (fun y => (x, y)) ++ prs r
theorem prs_map {α β : Type} (f : α → β) : ∀ l : List α, prs (l.map f) = (prs l).map fun p => (f p.1, f p.2)
  | [] => rfl
  | x :: r => by
    show (r.map f).map (fun y => (f x, y)) ++ prs (r.map f) = (r.map (fun y => (x, y)) ++ prs r).map fun p => (f p.1, f p.2)
    rw [prs_map f r, List.map_append, List.map_map, List.map_map]
    rfl
theorem prs_step {n : Nat} : ∀ (m a : Nat), a + m = n → ∀ (i : Nat) (p : Nat × Nat), (prs (List.range' a m))[i]? = some p → p.1 < p.2 ∧ p.2 < n ∧ (prs (List.range' a m))[i + 1]? = Cmb.nextC n p.1 p.2
  | 0, a, e, i, p, h => by
    have h : ([] : List (Nat × Nat))[i]? = some p := h
    simp at h
  | m + 1, a, e, i, p, h => by
    have ih := prs_step (n := n) m (a + 1) (by omega)
    have es : prs (List.range' a (m + 1)) = (List.range' (a + 1) m).map (fun y => (a, y)) ++ prs (List.range' (a + 1) m) := by
      rw [List.range'_succ]
      rfl
    rw [es] at h ⊢
    have hl : ((List.range' (a + 1) m).map (fun y => (a, y))).length = m := by simp
    by_cases hi : i < m
    · rw [List.getElem?_append_left (by rw [hl]; exact hi), List.getElem?_map, List.getElem?_range' hi] at h
      have h := Option.some.inj h
      subst h
      dsimp only
      refine ⟨by omega, by omega, ?_⟩
      by_cases hj : i + 1 < m
      · rw [List.getElem?_append_left (by rw [hl]; exact hj), List.getElem?_map, List.getElem?_range' hj]
        unfold Cmb.nextC
        rw [if_neg (by omega)]
        show some (a, a + 1 + 1 * (i + 1)) = some (a, a + 1 + 1 * i + 1)
        congr 2
      · rw [List.getElem?_append_right (by rw [hl]; omega), hl]
        have e0 : i + 1 - m = 0 := by omega
        rw [e0]
        unfold Cmb.nextC
        rw [if_pos (by omega)]
        match m, hi, e with
        | 1, _, e =>
          rw [if_pos (by omega)]
          rfl
        | m + 2, _, e =>
          rw [if_neg (by omega), List.range'_succ, List.range'_succ]
          rfl
    · rw [List.getElem?_append_right (by rw [hl]; omega), hl] at h
      obtain ⟨h1, h2, h3⟩ := ih _ _ h
      refine ⟨h1, h2, ?_⟩
      rw [List.getElem?_append_right (by rw [hl]; omega), hl]
      have e1 : i + 1 - m = i - m + 1 := by omega
      rw [e1]
      exact h3
theorem prs_range {n i : Nat} {p : Nat × Nat} (h : (prs (List.range n))[i]? = some p) : p.1 < p.2 ∧ p.2 < n ∧ (prs (List.range n))[i + 1]? = Cmb.nextC n p.1 p.2 := by
  rw [List.range_eq_range'] at h ⊢
  exact prs_step n 0 (by omega) i p h
theorem prs_first {n : Nat} (h : 2 ≤ n) : (prs (List.range n))[0]? = some (0, 1) := by
  obtain ⟨m, rfl⟩ : ∃ m, n = m + 2 := ⟨n - 2, by omega⟩
  rw [List.range_eq_range', List.range'_succ, List.range'_succ]
  rfl
theorem prs_none {α : Type} {l : List α} (h : l.length < 2) : prs l = [] := by
  match l, h with
  | [], _ => rfl
  | [x], _ => rfl
theorem prs_get {α : Type} {l : List α} {i : Nat} {a b : Nat} (h : (prs (List.range l.length))[i]? = some (a, b)) : ∃ x y, l[a]? = some x ∧ l[b]? = some y ∧ (prs l)[i]? = some (x, y) := by
  obtain ⟨h1, h2, _⟩ := prs_range h
  dsimp only at h1 h2
  have ha : a < l.length := by omega
  refine ⟨l[a], l[b], List.getElem?_eq_getElem ha, List.getElem?_eq_getElem h2, ?_⟩
  have e : l = (List.range l.length).map fun k => l.getD k l[a] := by
    apply List.ext_getElem
    · simp
    · intro k k1 k2
      simp [List.getD, k1]
  have e2 := prs_map (fun k => l.getD k l[a]) (List.range l.length)
  rw [← e] at e2
  rw [e2, List.getElem?_map, h]
  simp [List.getD, ha, h2]
theorem prs_len {α : Type} (l : List α) : (prs l).length = (prs (List.range l.length)).length := by
  match l with
  | [] => rfl
  | x :: r =>
    have e : x :: r = (List.range (x :: r).length).map fun k => (x :: r).getD k x := by
      apply List.ext_getElem
      · simp
      · intro k k1 k2
        simp only [List.getD, List.getElem_map, List.getElem_range]
        rw [List.getElem?_eq_getElem k1]
        rfl
    have e2 := prs_map (fun k => (x :: r).getD k x) (List.range (x :: r).length)
    rw [← e] at e2
    rw [e2, List.length_map]
/-- the pairs of xs, in new pairs -/
def Itcb (xs : List V) : It :=
  ⟨fun i _ => i < (prs xs).length, fun i H v H' => ∃ T x y, v = .ref T ∧ H T = none ∧ H' = upd H T (.tup [x, y]) ∧ (prs xs)[i]? = some (x, y), fun i _ => (prs xs).length ≤ i⟩
theorem walk_comb {xs : List V} : Walk (Itcb xs) (prs xs).length (fun _ => True) (YPair (fun i => (prs xs)[i]?.map Prod.fst) (fun i => (prs xs)[i]?.map Prod.snd)) := by
  refine ⟨fun i H hi _ => hi, fun H _ => Nat.le_refl _, fun i H v H' hi _ y => ?_⟩
  obtain ⟨T, x, y, e1, e2, e3, e4⟩ := y
  exact ⟨T, x, y, e1, e2, e3, (by show Option.map Prod.fst _ = _; rw [e4]; rfl), (by show Option.map Prod.snd _ = _; rw [e4]; rfl)⟩
/-- where a walk stands -/
structure CbAt (its : List Value) (z pt : Addr) (i : Nat) (h : Heap) : Prop where
  p : Cmb.IsP h pt its
  le : i ≤ (prs (List.range its.length)).length
  at_ : ∃ (st : Int) (last : Value) (a b : Nat), Cmb.IsC h z pt st last a b ∧ ((i = 0 ∧ st = (if 2 > its.length then 2 else 0) ∧ a = 0 ∧ b = 1) ∨ ∃ j, i = j + 1 ∧ st = 1 ∧ (prs (List.range its.length))[j]? = some (a, b))
theorem turn_comb {P : Program} {w : World} {K : PySem.W.Frag} {elts : List Expr} {kk : Nat} {tpos : Pos} {xs : List V} {its : List Value} {z pt : Addr} (hv : Vals xs its) (hne : pt ≠ z) :
    Turn P w K (.Tuple elts kk tpos) (Itcb xs) [z, pt] z (CbAt its z pt) where
  mem := by simp
  obj := fun i h st c hc => by
    obtain ⟨hp, _, st, last, a, b, hz, _⟩ := st
    have e : c = z ∨ c = pt := by simpa using hc
    rcases e with rfl | rfl
    · exact ⟨_, hz, fun v q => nomatch q⟩
    · exact ⟨_, hp, fun v q => nomatch q⟩
  keep := fun i h h' st k => by
    obtain ⟨hp, hl, st, last, a, b, hz, q⟩ := st
    exact ⟨k pt (by simp) _ hp, hl, st, last, a, b, k z (by simp) _ hz, q⟩
  item := by
    intro X hP hw hK hc i pins s σ H E I hf st hg
    subst hP hw hK
    obtain ⟨hp, hle, st, last, a, b, hz, hst⟩ := st
    have hg : i < (prs xs).length := hg
    have hlen := hv.length
    have hg2 : i < (prs (List.range its.length)).length := by
      rw [prs_len, hlen] at hg
      exact hg
    have hzl : z < s.heap.objs.size := Heap.lt_size hz
    have hpl : pt < s.heap.objs.size := Heap.lt_size hp
    -- what is handed out
    obtain ⟨⟨c, d⟩, hcd⟩ : ∃ p, (prs (List.range its.length))[i]? = some p := ⟨_, List.getElem?_eq_getElem hg2⟩
    obtain ⟨x, y, hx, hy, hxy⟩ := prs_get (l := xs) (i := i) (a := c) (b := d) (by rw [hlen]; exact hcd)
    obtain ⟨u1, hu1, r1⟩ := hv.get hx
    obtain ⟨u2, hu2, r2⟩ := hv.get hy
    have fin : ∀ h' : Heap, Cmb.IsC h' z pt 1 (.ref s.heap.objs.size) c d → h'.get? s.heap.objs.size = some { cls := .type "tuple", data := .seq #[u1, u2] } → (∀ b o, b ≠ z → s.heap.get? b = some o → h'.get? b = some o) →
        ∃ u, some (Value.ref s.heap.objs.size) = some u ∧ wpAny (model X.prog X.w) X.A (letOwnedTupleGo (.Tuple elts kk tpos) (.ref z) u) (fun _ s2 => ∃ x H', Inv X pins σ H' s2 ∧ RelV x u ∧ (Itcb xs).yld i H x H' ∧ CbAt its z pt (i + 1) s2.heap ∧ ∀ b ∈ [z, pt], H' b = none) E { s with heap := h' } := by
      intro h' q1 q2 q3
      refine ⟨_, rfl, go_of q1 rfl rfl (by decide +kernel) ?_⟩
      have new : ObjOk X.prog X.w (upd H s.heap.objs.size (.tup [x, y])) h' s.heap.objs.size (.tup [x, y]) :=
        ⟨by show 2 ≤ sizeLine; decide, [u1, u2], .cons r1 (.cons r2 .nil), ⟨_, q2, rfl, _, rfl⟩⟩
      have I1 : Inv X pins σ (upd H s.heap.objs.size (.tup [x, y])) { s with heap := h' } :=
        I.turnedNew (t' := s.toks) (ch := [z, pt]) (fun c o hb q => q3 c o (fun e => hb (by simp [e])) q) hf (Nat.le_refl _) new
      refine ⟨.ref s.heap.objs.size, _, I1, rfl, ⟨_, x, y, rfl, I.hok.fresh (Nat.le_refl _), rfl, hxy⟩, ⟨q3 _ _ hne hp, by omega, _, _, c, d, q1, .inr ⟨i, rfl, rfl, hcd⟩⟩, fun c hcm => ?_⟩
      have hlt : c < s.heap.objs.size := by
        have e : c = z ∨ c = pt := by simpa using hcm
        rcases e with rfl | rfl
        · exact hzl
        · exact hpl
      rw [upd_ne (Nat.ne_of_lt hlt)]
      exact (hf c hcm).1
    rcases hst with ⟨rfl, rfl, rfl, rfl⟩ | ⟨j, rfl, rfl, hj⟩
    · have h2 : 2 ≤ its.length := by
        rcases Nat.lt_or_ge its.length 2 with k | k
        · have e := prs_none (l := List.range its.length) (by simpa using k)
          rw [e] at hg2
          exact absurd hg2 (by simp)
        · exact k
      have hcd' := prs_first h2
      rw [hcd'] at hcd
      have e := Option.some.inj hcd
      have e1 : 0 = c := congrArg Prod.fst e
      have e2 : 1 = d := congrArg Prod.snd e
      subst e1 e2
      rw [if_neg (by omega)] at hz
      exact Cmb.next_first hz hp hne hu1 hu2 fin
    · obtain ⟨h1, h2, h3⟩ := prs_range hj
      rw [h3] at hcd
      exact Cmb.next_more hz hp hne hcd h1 h2 hu1 hu2 fin
  done := by
    intro X hP hw hK hc i pins s σ H E I hf st hg
    subst hP hw hK
    obtain ⟨hp, hle, st, last, a, b, hz, hst⟩ := st
    have hg : (prs xs).length ≤ i := hg
    rw [prs_len, hv.length] at hg
    have ei : i = (prs (List.range its.length)).length := by omega
    refine Cmb.next_end (I.ok.hd hc) hz hp ?_ fun h' hk => ⟨rfl, I.turnedL (t' := s.toks) (ch := [z, pt]) (fun c o hb q => hk c o (fun e => hb (by simp [e])) q) hf⟩
    rcases hst with ⟨rfl, rfl, rfl, rfl⟩ | ⟨j, rfl, rfl, hj⟩
    · refine .inl (if_pos ?_)
      rcases Nat.lt_or_ge its.length 2 with k | k
      · exact k
      · have h0 := prs_first k
        have := (List.getElem?_eq_some_iff.mp h0).1
        omega
    · obtain ⟨h1, h2, h3⟩ := prs_range hj
      refine .inr ⟨rfl, ?_, h1, h2⟩
      rw [← h3, List.getElem?_eq_none (by omega)]
  self := fun A i s Q E st h => by
    obtain ⟨hp, hle, st, last, a, b, hz, hst⟩ := st
    exact Cmb.iter_self hz h
def iComb (K : PySem.W.Frag) (ta : TA) : TI := fun σ H R => ta σ H fun vs H1 => ∃ a xs, vs = [.ref a, .int 2] ∧ SqL K H1 a xs ∧ R (Itcb xs) H1
theorem pi_comb {X : Cx} {e e2 : Expr} {ta : TA} {p pos tpos : Pos} {elts : List Expr} {kk : Nat} (hg : Gl X "combinations") (hm : X.mg "combinations" = some (.type "itertools.combinations")) (ha : PA X [e, e2] ta)
    (hs : starEach [e, e2] X.env = (false, eval e X.env) :: starEach [e2] X.env := by rfl) (hpl : (backTo pos (starEach [e2] X.env)).any (·.1) = false := by rfl) :
    PI X (.Tuple elts kk tpos) (.Call (.Name "combinations" p) [e, e2] [] pos) (iComb X.K ta) := by
  refine ⟨fun pins s σ H R I h => ?_⟩
  refine Call_ (ld_glob I hg hm (callWith_type1 (thn (ha.run pos pins s σ H _ I h) fun us s1 ⟨vs, H1, I1, r1, q1⟩ => ?_) hs hpl))
  obtain ⟨a, xs, ex, hq, q⟩ := q1
  subst ex
  cases r1 with
  | cons r rr =>
    cases rr with
    | cons r' rr =>
      cases rr
      cases r
      obtain ⟨t, rfl⟩ := r'
      obtain ⟨its, rv, p1, hz⟩ := I1.list hq
      have hz' : its.length ≤ sizeLine := by rw [← rv.length]; exact hz
      refine Cmb.call_made p1.isList hz' fun h' z pt c1 c2 l1 l2 k => Cmb.iter_self c1 ?_
      have I2 : Inv X pins σ H1 { s1 with heap := h' } := I1.kept (t' := s1.toks) k
      refine ⟨z, [z, pt], CbAt its z pt, Itcb xs, H1, rfl, I2, turn_comb rv (Nat.ne_of_lt l2), ⟨c2, Nat.zero_le _, _, _, 0, 1, c1, .inl ⟨rfl, rfl, rfl, rfl⟩⟩, fun c hcm => ?_, q⟩
      have hle : s1.heap.objs.size ≤ c := by
        have e : c = z ∨ c = pt := by simpa using hcm
        rcases e with rfl | rfl
        · exact Nat.le_trans l1 (Nat.le_of_lt l2)
        · exact l1
      exact I1.fpOk hle (I1.hok.fresh hle)
end Tr
/-! What two trays are compared by -/
namespace Tr
open PySem PySem.Spec PyProof.Rows L2
theorem scWide : FnScope ["tray"] ["tray"] (defScope d_is_wide) := ⟨rfl, rfl, rfl, by decide +kernel, rfl, by decide +kernel, by decide +kernel⟩
theorem scNums : FnScope ["tray", "row", "number"] ["tray"] (defScope d_numbers_of) := ⟨rfl, rfl, rfl, by decide +kernel, rfl, by decide +kernel, by decide +kernel⟩
theorem scPcs : FnScope ["tray", "number"] ["tray"] (defScope d_pieces_of) := ⟨rfl, rfl, rfl, by decide +kernel, rfl, by decide +kernel, by decide +kernel⟩
theorem scCrP : FnScope ["one", "other", "places", "turn", "number", "place", "first", "second"] ["one", "other"] (defScope d_crossed_pairs) := ⟨rfl, rfl, rfl, by decide +kernel, rfl, by decide +kernel, by decide +kernel⟩
theorem scStA : FnScope ["one", "other", "one_row", "one_column", "other_row", "other_column"] ["one", "other"] (defScope d_steps_apart) := ⟨rfl, rfl, rfl, by decide +kernel, rfl, by decide +kernel, by decide +kernel⟩
def spWide : Sp := fun vs H Q _ => ∃ (a : Addr) (rs : List Addr) (R C : Nat) (f : Fld), vs = [.ref a] ∧ TrayAt H a rs R C f ∧ 0 < R ∧ Q (.bl (decide (1 < min R C))) H
def spNums : Sp := fun vs H Q _ => ∃ (a : Addr) (rs : List Addr) (R C : Nat) (f : Fld), vs = [.ref a] ∧ TrayAt H a rs R C f ∧ R ≤ 6 ∧ C ≤ 6 ∧ ∀ H' p, Same H H' → H p = none → H' p = some (.lst ((allV (R * C) f).map V.int)) → Q (.ref p) H'
/-- the pieces, in their order -/
def pcsL (n : Nat) (f : Fld) : List Int := (allV n f).filter fun z => decide (z ≠ 0)
def spPcs : Sp := fun vs H Q _ => ∃ (a : Addr) (rs : List Addr) (R C : Nat) (f : Fld), vs = [.ref a] ∧ TrayAt H a rs R C f ∧ R ≤ 6 ∧ C ≤ 6 ∧ ∀ H' p, Same H H' → H p = none → H' p = some (.lst ((pcsL (R * C) f).map V.int)) → Q (.ref p) H'
def spCrP : Sp := fun vs H Q _ => ∃ (a b : Addr) (rs rs2 : List Addr) (R C : Nat) (f g : Fld), vs = [.ref a, .ref b] ∧ TrayAt H a rs R C f ∧ TrayAt H b rs2 R C g ∧ R ≤ 6 ∧ C ≤ 6 ∧ Full (R * C) f ∧ Full (R * C) g ∧ ∀ H', Same H H' → Q (.int (crossed (R * C) f g : Nat)) H'
def spStA : Sp := fun vs H Q _ => ∃ (a b : Addr) (rs rs2 : List Addr) (R C : Nat) (s s2 : Sl), vs = [.ref a, .ref b] ∧ TrayAt H a rs R C s.1 ∧ TrayAt H b rs2 R C s2.1 ∧ Good R C s ∧ Good R C s2 ∧ ∀ H', Same H H' → Q (.int (steps s.2.1 s.2.2 s2.2.1 s2.2.2 : Nat)) H'
theorem allV_size {R C : Nat} (hR : R ≤ 6) (hC : C ≤ 6) (f : Fld) : (allV (R * C) f).length ≤ 36 := by
  have : R * C ≤ 6 * 6 := Nat.mul_le_mul hR hC
  simp [allV]
  omega
theorem absI (a b : Nat) : (if (a : Int) - b < 0 then -((a : Int) - b) else (a : Int) - b) = (((a : Int) - b).natAbs : Nat) := by
  split <;> omega
/-- where each number stands, as a dict -/
def plK (n : Nat) (g : Fld) : List (Key × V) := (List.range n).map fun k => ((Sum.inl (g k) : Key), V.int (k : Nat))
theorem plK_more (i : Nat) (g : Fld) : plK (i + 1) g = plK i g ++ [((Sum.inl (g i) : Key), V.int (i : Nat))] := by
  unfold plK
  rw [List.range_succ, List.map_append]
  rfl
theorem plK_val {n : Nat} {g : Fld} (hg : Full n g) : ∀ (i : Nat), i ≤ n → ∀ k, k < n → valV (plK i g) (Sum.inl (g k) : Key) = if k < i then some (V.int (k : Nat)) else none
  | 0, _, k, hk => by rw [if_neg (by omega)]; rfl
  | i + 1, hi, k, hk => by
    have ih := plK_val hg i (by omega)
    rw [plK_more, valV_snoc _ _ _ _ (by rw [ih i (by omega), if_neg (by omega)])]
    by_cases e : k = i
    · subst e
      rw [if_pos rfl, if_pos (by omega)]
    · rw [if_neg (fun z => e (full_inj hg hk (by omega) (by injection z)))]
      rw [ih k hk]
      by_cases h : k < i
      · rw [if_pos h, if_pos (by omega)]
      · rw [if_neg h, if_neg (by omega)]
theorem plK_pos {n : Nat} {f g : Fld} (hf : Full n f) (hg : Full n g) {j : Nat} (hj : j < n) : valV (plK n g) (Sum.inl (f j) : Key) = some (V.int (posOf n g (f j) : Nat)) := by
  have hp := posOf_lt hf hg hj
  have := plK_val hg n (Nat.le_refl _) _ hp
  rw [posOf_get hf hg hj, if_pos hp] at this
  exact this
theorem prs_inv : ∀ l : List Nat, (prs l).countP (fun p => decide (p.2 < p.1)) = inv l
  | [] => rfl
  | x :: r => by
    show (r.map (fun y => (x, y)) ++ prs r).countP _ = _
    rw [List.countP_append, List.countP_map, prs_inv r]
    rfl
section
variable {P : Program} {w : World} {K : PySem.W.Frag} {mg : Str → Option Value} {base : Heap}
theorem ok_wide {fa : Addr} {fd : FuncData} {k : Nat} (F : Fun K "is_wide" "is_wide" d_is_wide fa fd) (mL : mg "len" = none) : FnOk P w K mg base CX0 (k + 1) fa fd ["tray"] spWide := by
  refine F.ok scWide (fun vs H Q E h => ?_) (fun cdv A outer s H vs Q E hr h => ?_)
  · obtain ⟨a, rs, R, C, f, rfl, _⟩ := h
    rfl
  · obtain ⟨a, rs, R, C, f, rfl, T, hR, q⟩ := h
    refine ⟨_, pss_one (ps_ret (pe_and (pe_cmpR op_ge (pe_callB call_len_seq (by rfl) mL PySem.boot_len (pa_cons (pv 0) pa_nil)) pe_int (nomark _))
      (pe_one (pe_cmpR op_ge (pe_callB call_len_seq (by rfl) mL PySem.boot_len (pa_cons (pe_ix ix_list (pv 0) pe_int (fun _ _ => rfl)) pa_nil)) pe_int (nomark _))))), ?_⟩
    obtain ⟨r0, _, g2, g3⟩ := T.get (i := 0) hR
    refine ⟨_, rfl, a, _, rfl, .inl (SqL.of T.top), _, _, rfl, rfl, _, rfl, ?_⟩
    rw [List.length_map, T.len]
    refine decI (fun h1 => ?_) (fun h1 => ?_)
    · refine ⟨_, rfl, a, _, 0, _, rfl, rfl, SqL.of T.top, atI_nat (j := 0) g2, r0, _, rfl, .inl (SqL.of g3), _, _, rfl, rfl, ?_⟩
      rw [rowV_len]
      have e : decide ((C : Int) ≥ 2) = decide (1 < min R C) := decide_eq_decide.mpr (by omega)
      show Q (V.bl (decide ((C : Int) ≥ 2))) H
      rw [e]
      exact q
    · have e : decide (1 < min R C) = false := decide_eq_false (by omega)
      rw [e] at q
      exact q
theorem ok_nums {fa : Addr} {fd : FuncData} {k : Nat} (F : Fun K "numbers_of" "numbers_of" d_numbers_of fa fd) : FnOk P w K mg base CX0 (k + 1) fa fd ["tray"] spNums := by
  refine F.ok scNums (fun vs H Q E h => ?_) (fun cdv A outer s H vs Q E hr h => ?_)
  · obtain ⟨a, rs, R, C, f, rfl, _⟩ := h
    rfl
  · obtain ⟨a, rs, R, C, f, rfl, T, hR, hC, q⟩ := h
    refine ⟨_, pss_one (ps_ret (pe_lc2 (own := [("row", 1), ("number", 2)]) (vs1 := [2]) (g := gName 1) (g1 := gName 2) (tt := tYes) (tt1 := tYes) (te := tVar 2) (wi1 := iList K (tVar 1)) rfl scNums.nd (pi_list (pv 0))
          (blkOk_by (own := [("row", 1), ("number", 2)]) (N := ["tray", "row", "number"]) (sc := defScope d_numbers_of) (by decide +kernel)) (by decide)
          (fun _ _ _ _ _ => pg_name (i := 1) scNums.nd rfl (.inl rfl)) (fun _ _ _ _ _ => pts_nil) (fun _ _ _ _ _ => pi_list (pv 1)) (fun _ _ _ _ _ => pg_name (i := 2) scNums.nd rfl (.inl rfl)) (fun _ _ _ _ _ => pts_nil) (fun _ _ _ _ _ => pv 2))), ?_⟩
    refine ⟨_, rfl, a, rfl, ⟨_, SqL.of T.top⟩, fun D nD => ?_⟩
    refine lc_gen (walk_list (K := K) (a := a) (xs := rs.map V.ref)) (fun i H1 => Same H H1 ∧ H1 D = some (.lst ((allV (i * C) f).map V.int))) ⟨same_upd nD, by rw [upd_same, Nat.zero_mul]; rfl⟩ (fun i H1 _ p => p.1.seq (SqL.of T.top)) ?_ ?_
    · rintro i x H1 H2 hi ⟨sm, hD⟩ ⟨rfl, hx⟩
      have hi : i < R := by
        rw [List.length_map, T.len] at hi
        exact hi
      obtain ⟨ri, k1, k2, k3⟩ := T.get hi
      rw [k2] at hx
      cases hx
      refine ⟨rfl, ?_⟩
      have s3 := sm _ _ k3
      refine ⟨_, rfl, ri, rfl, ⟨_, SqL.of s3⟩, ?_⟩
      refine lc_gen (walk_list (K := K) (a := ri) (xs := rowV C f i)) (fun j H3 => Same H H3 ∧ H3 D = some (.lst ((allV (i * C) f).map V.int ++ (rowV C f i).take j))) ⟨sm, by rw [hD, List.take_zero, List.append_nil]⟩ (fun j H3 _ p => p.1.seq (SqL.of k3)) ?_ ?_
      · rintro j y H3 H4 hj ⟨sm3, hD3⟩ ⟨rfl, hy⟩
        refine ⟨rfl, ?_⟩
        refine ⟨_, rfl, _, hD3, ?_, ?_, ?_⟩
        · rw [List.length_append, List.length_map, List.length_take, rowV_len]
          unfold allV
          rw [List.length_map, List.length_range]
          refine small1000 ?_
          have : i * C ≤ 6 * 6 := Nat.mul_le_mul (by omega) hC
          omega
        · intro b o e
          rw [upd_ne (ne_of_none e nD)]
          exact sm3 _ _ e
        · rw [upd_same, take_more hy, List.append_assoc]
      · rintro H3 ⟨sm3, hD3⟩
        rw [List.take_length, allV_rows] at hD3
        exact ⟨sm3, hD3⟩
    · rintro H1 ⟨sm, hD⟩
      rw [List.length_map, T.len] at hD
      exact q _ D sm nD hD
theorem filt_more {l : List Int} {i : Nat} {x : Int} {p : Int → Bool} (h : l[i]? = some x) : (l.take (i + 1)).filter p = (l.take i).filter p ++ (if p x = true then [x] else []) := by
  rw [take_more h, List.filter_append]
  by_cases e : p x = true
  · rw [if_pos e, List.filter_cons_of_pos e]
    rfl
  · rw [if_neg e, List.filter_cons_of_neg e]
    rfl
theorem ok_pcs {fa fN : Addr} {fd fdN : FuncData} {k : Nat} (F : Fun K "pieces_of" "pieces_of" d_pieces_of fa fd)
    (GN : FnOk P w K mg base CX0 (k + 1) fN fdN ["tray"] spNums) (gN : mg "numbers_of" = some (.ref fN)) (kN : PySem.W.keepIn K (.ref fN) = true) (bN : Binds K fdN ["tray"] []) :
    FnOk P w K mg base CX0 (k + 2) fa fd ["tray"] spPcs := by
  refine F.ok scPcs (fun vs H Q E h => ?_) (fun cdv A outer s H vs Q E hr h => ?_)
  · obtain ⟨a, rs, R, C, f, rfl, _⟩ := h
    rfl
  · obtain ⟨a, rs, R, C, f, rfl, T, hR, hC, q⟩ := h
    refine ⟨_, pss_one (ps_ret (pe_lc (own := [("number", 1)]) (g := gName 1) rfl scPcs.nd (pi_list (pe_call GN hr (by rfl) gN kN bN .nil pass0 (pa_cons (pv 0) pa_nil)))
          (blkOk_by (own := [("number", 1)]) (N := ["tray", "number"]) (sc := defScope d_pieces_of) (by decide +kernel))
          (fun _ _ _ _ _ => pg_name (i := 1) scPcs.nd rfl (.inl rfl)) (fun _ _ _ _ _ => pts_one (pt_cmpR op_ne (pv 1) pe_int (nomark _))) (fun _ _ _ _ _ => pv 1))), ?_⟩
    refine ⟨_, rfl, a, rs, R, C, f, rfl, T, hR, hC, fun H1 p s1 np hp => ⟨p, rfl, ⟨_, SqL.of hp⟩, fun D nD => ?_⟩⟩
    refine lc_gen (walk_list (K := K) (a := p) (xs := (allV (R * C) f).map V.int)) (fun i H2 => Same H1 H2 ∧ H2 D = some (.lst (((((allV (R * C) f).take i).filter fun z => decide (z ≠ 0))).map V.int))) ⟨same_upd nD, by rw [upd_same]; rfl⟩ (fun i H2 _ p => p.1.seq (SqL.of hp)) ?_ ?_
    · rintro i x H2 H3 hi ⟨s2, hD⟩ ⟨rfl, hx⟩
      rw [List.length_map] at hi
      rw [List.getElem?_map, List.getElem?_eq_getElem hi] at hx
      cases hx
      have fm := filt_more (p := fun z : Int => decide (z ≠ 0)) (List.getElem?_eq_getElem hi)
      refine ⟨rfl, ?_⟩
      refine ⟨_, rfl, rfl, _, rfl, ?_⟩
      have e : (!decide (V.int (allV (R * C) f)[i] = V.int 0)) = decide ((allV (R * C) f)[i] ≠ 0) := by
        by_cases z : (allV (R * C) f)[i] = 0
        · rw [decide_eq_true (by rw [z]), decide_eq_false (by simpa using z)]
          rfl
        · rw [decide_eq_false (fun h => z (V.int.inj h)), decide_eq_true z]
          rfl
      have cs := Bool.eq_false_or_eq_true (decide ((allV (R * C) f)[i] ≠ 0))
      rcases cs with c | c
      · rw [e, c]
        rw [if_pos (by exact c)] at fm
        refine iteT ⟨_, rfl, _, hD, ?_, ?_, ?_⟩
        · rw [List.length_map]
          refine small1000 ?_
          have h1 := List.length_filter_le (fun z : Int => decide (z ≠ 0)) ((allV (R * C) f).take i)
          have h2 := allV_size hR hC f
          rw [List.length_take] at h1
          omega
        · intro b o e
          rw [upd_ne (ne_of_none e nD)]
          exact s2 _ _ e
        · rw [upd_same, fm, List.map_append]
          rfl
      · rw [e, c]
        rw [if_neg (by simpa using c), List.append_nil] at fm
        refine iteF ⟨s2, ?_⟩
        rw [hD, fm]
    · rintro H2 ⟨s2, hD⟩
      rw [List.length_map, List.take_length] at hD
      exact q _ D (s1.trans s2) (s1.free nD) hD
end
end Tr
namespace Tr
open PySem PySem.Spec PyProof.Rows L2
theorem allV_len' (n : Nat) (f : Fld) : (allV n f).length = n := by simp [allV]
theorem allV_at' {n : Nat} {f : Fld} {i : Nat} (h : i < n) : ((allV n f).map V.int)[i]? = some (V.int (f i)) := by simp [allV, h]
theorem crossL_map {R C : Nat} {f g : Fld} (hR : R ≤ 6) (hC : C ≤ 6) : (crossL (R * C) f g).length ≤ 36 := by
  rw [crossL_len]
  exact Nat.mul_le_mul hR hC
theorem prs_short {α : Type} : ∀ l : List α, (prs l).length ≤ l.length * l.length
  | [] => Nat.le_refl _
  | x :: r => by
    have ih := prs_short r
    show (r.map (fun y => (x, y)) ++ prs r).length ≤ (r.length + 1) * (r.length + 1)
    rw [List.length_append, List.length_map, Nat.add_mul, Nat.mul_add]
    omega
section
variable {P : Program} {w : World} {K : PySem.W.Frag} {mg : Str → Option Value} {base : Heap}
theorem ok_crP {fa fN : Addr} {fd fdN : FuncData} {k : Nat} (F : Fun K "crossed_pairs" "crossed_pairs" d_crossed_pairs fa fd) (mEn : mg "enumerate" = none) (mL : mg "len" = none) (gC : mg "combinations" = some (.type "itertools.combinations"))
    (GN : FnOk P w K mg base CX0 (k + 1) fN fdN ["tray"] spNums) (gN : mg "numbers_of" = some (.ref fN)) (kN : PySem.W.keepIn K (.ref fN) = true) (bN : Binds K fdN ["tray"] []) :
    FnOk P w K mg base CX0 (k + 2) fa fd ["one", "other"] spCrP := by
  refine F.ok scCrP (fun vs H Q E h => ?_) (fun cdv A outer s H vs Q E hr h => ?_)
  · obtain ⟨a, b, rs, rs2, R, C, f, g, rfl, _⟩ := h
    rfl
  · obtain ⟨a, b, rs, rs2, R, C, f, g, rfl, Ta, Tb, hR, hC, hf, hg, q⟩ := h
    have hu := hu_of hr
    refine ⟨_, pss_cons (ps_set (i := 2) scCrP.nd rfl (.inr rfl) (pe_dc (own := [("place", 5), ("number", 4)]) (g := gTup K 2 (gCons (gName 5) (gCons (gName 4) gNil))) (tt := tYes) (tk := tVar 4) (tv := tVar 5) rfl scCrP.nd (pi_enum rfl mEn (pa_cons (pe_call GN hr (by rfl) gN kN bN .nil pass0 (pa_cons (pv 1) pa_nil)) pa_nil))
          (blkOk_by (own := [("place", 5), ("number", 4)]) (N := ["one", "other", "places", "turn", "number", "place", "first", "second"]) (sc := defScope d_crossed_pairs) (by decide +kernel))
          (fun _ _ _ _ _ => pg_tup rfl (pgs_cons (pg_name (i := 5) scCrP.nd rfl (.inl rfl)) (pgs_cons (pg_name (i := 4) scCrP.nd rfl (.inl rfl)) pgs_nil))) (fun _ _ _ _ _ => pts_nil) (fun _ _ _ _ _ => pv 4) (fun _ _ _ _ _ => pv 5)))
      (pss_cons (ps_setLc (i := 3) (own := [("number", 4)]) (g := gName 4) (tt := tYes) rfl scCrP.nd rfl rfl (sw_true rfl rfl rfl (by decide +kernel)) (pi_list (pe_call GN hr (by rfl) gN kN bN .nil pass0 (pa_cons (pv 0) pa_nil)))
          (blkOk_by (own := [("number", 4)]) (N := ["one", "other", "places", "turn", "number", "place", "first", "second"]) (sc := defScope d_crossed_pairs) (by decide +kernel))
          (fun _ _ _ _ _ => pg_name (i := 4) scCrP.nd rfl (.inl rfl)) (fun _ _ _ _ _ => pts_nil) (fun _ _ _ _ _ => pe_dget hu (pv 2) (pv 4) (fun _ _ => rfl)))
      (pss_one (ps_ret (pe_callB call_len_seq (by rfl) mL PySem.boot_len (pa_cons (pe_lc (own := [("first", 6), ("second", 7)]) (g := gTup K 2 (gCons (gName 6) (gCons (gName 7) gNil))) rfl scCrP.nd (pi_comb rfl gC (pa_cons (pv 3) (pa_cons pe_int pa_nil)))
          (blkOk_by (own := [("first", 6), ("second", 7)]) (N := ["one", "other", "places", "turn", "number", "place", "first", "second"]) (sc := defScope d_crossed_pairs) (by decide +kernel))
          (fun _ _ _ _ _ => pg_tup rfl (pgs_cons (pg_name (i := 6) scCrP.nd rfl (.inl rfl)) (pgs_cons (pg_name (i := 7) scCrP.nd rfl (.inl rfl)) pgs_nil))) (fun _ _ _ _ _ => pts_one (pt_cmpR op_gt (pv 6) (pv 7) (nomark _))) (fun _ _ _ _ _ => pe_int)) pa_nil))))), ?_⟩
    refine ⟨_, rfl, b, rs2, R, C, g, rfl, Tb, hR, hC, fun H1 p s1 np hp => ⟨p, _, rfl, SqL.of hp, fun D nD => ?_⟩⟩
    refine lc_gen (walk_enum (K := K) (a := p) (xs := (allV (R * C) g).map V.int)) (fun i H2 => Same H1 H2 ∧ H2 D = some (.dK (plK i g))) ⟨same_upd nD, by rw [upd_same]; rfl⟩ (fun i H2 _ p => p.1.seq (SqL.of hp)) ?_ ?_
    · rintro i x H2 H3 hi ⟨s2, hD⟩ ⟨T1, x1, y1, rfl, nT1, rfl, e1, e2⟩
      cases e1
      have hi : i < R * C := by
        rw [List.length_map, allV_len'] at hi
        exact hi
      have e2 : ((allV (R * C) g).map V.int)[i]? = some y1 := e2
      rw [allV_at' hi] at e2
      cases e2
      have smT : Same H2 (upd H2 T1 (.tup [V.int (i : Nat), V.int (g i)])) := same_upd nT1
      refine ⟨T1, _, rfl, SqT.of upd_same, rfl, _, _, rfl, _, _, rfl, rfl, rfl, ?_⟩
      refine ⟨_, rfl, _, rfl, _, (Sum.inl (g i) : Key), rfl, smT _ _ hD, ?_, ?_, ?_⟩
      · have e : (plK i g).length = i := by simp [plK]
        rw [e]
        refine small1000 ?_
        have : R * C ≤ 6 * 6 := Nat.mul_le_mul hR hC
        omega
      · intro c o e
        rw [upd_ne (ne_of_none e nD)]
        exact smT _ _ (s2 _ _ e)
      · rw [upd_same, putK_new _ (by rw [plK_val hg i (by omega) i hi, if_neg (by omega)]), plK_more]
    rintro H2 ⟨s2, hD⟩
    rw [List.length_map, allV_len'] at hD
    have s02 := s1.trans s2
    -- turn
    refine ⟨_, rfl, a, rs, R, C, f, rfl, Ta.mono s02, hR, hC, fun H3 p3 s3 np3 hp3 => ⟨p3, rfl, ⟨_, SqL.of hp3⟩, fun D4 nD4 => ?_⟩⟩
    refine lc_gen (walk_list (K := K) (a := p3) (xs := (allV (R * C) f).map V.int)) (fun i H4 => Same H3 H4 ∧ H4 D4 = some (.lst (((crossL (R * C) f g).take i).map fun x : Nat => V.int x))) ⟨same_upd nD4, by rw [upd_same]; rfl⟩ (fun i H4 _ p => p.1.seq (SqL.of hp3)) ?_ ?_
    · rintro i x H4 H5 hi ⟨s4, hD4⟩ ⟨rfl, hx⟩
      have hi : i < R * C := by
        rw [List.length_map, allV_len'] at hi
        exact hi
      rw [allV_at' hi] at hx
      cases hx
      refine ⟨rfl, ?_⟩
      have hg5 : DGet H5 D (V.int (f i)) (some (V.int (posOf (R * C) g (f i) : Nat))) := by
        have h := DGet.k (k := (Sum.inl (f i) : Key)) ((s3.trans s4) _ _ hD)
        rw [plK_pos hf hg hi] at h
        exact h
      have hx : (crossL (R * C) f g)[i]? = some (posOf (R * C) g (f i)) := crossL_get hi
      refine ⟨_, rfl, _, rfl, D, _, rfl, hg5, _, hD4, ?_, ?_, ?_⟩
      · rw [List.length_map, List.length_take]
        refine small1000 ?_
        have := crossL_map (f := f) (g := g) hR hC
        omega
      · intro c o e
        rw [upd_ne (ne_of_none e nD4)]
        exact s4 _ _ e
      · rw [upd_same, take_more hx, List.map_append]
        rfl
    rintro H4 ⟨s4, hD4⟩
    have et : (crossL (R * C) f g).take ((allV (R * C) f).map V.int).length = crossL (R * C) f g := List.take_of_length_le (by rw [List.length_map, allV_len', crossL_len]; exact Nat.le_refl _)
    rw [et] at hD4
    have s04 := s02.trans (s3.trans s4)
    -- the pairs
    refine ⟨.ref D4, rfl, D4, _, rfl, SqL.of hD4, fun D5 nD5 => ?_⟩
    have hpl : (prs ((crossL (R * C) f g).map fun x : Nat => V.int x)).length = (prs (crossL (R * C) f g)).length := by rw [prs_map, List.length_map]
    refine lc_gen (walk_comb (xs := (crossL (R * C) f g).map fun x : Nat => V.int x)) (fun i H5 => Same H4 H5 ∧ H5 D5 = some (.lst (List.replicate (((prs (crossL (R * C) f g)).take i).countP fun p => decide (p.2 < p.1)) (V.int 1)))) ⟨same_upd nD5, by rw [upd_same]; rfl⟩ (fun _ _ _ _ => True.intro) ?_ ?_
    · rintro i x H5 H6 hi ⟨s5, hD5⟩ ⟨T1, x1, y1, rfl, nT1, rfl, e1, e2⟩
      rw [hpl] at hi
      have hx : (prs (crossL (R * C) f g))[i]? = some (prs (crossL (R * C) f g))[i] := List.getElem?_eq_getElem hi
      generalize (prs (crossL (R * C) f g))[i] = uv at hx
      obtain ⟨u, v⟩ := uv
      have e1 : Option.map Prod.fst (prs ((crossL (R * C) f g).map fun x : Nat => V.int x))[i]? = some x1 := e1
      have e2 : Option.map Prod.snd (prs ((crossL (R * C) f g).map fun x : Nat => V.int x))[i]? = some y1 := e2
      rw [prs_map, List.getElem?_map, hx] at e1 e2
      cases e1
      cases e2
      have smT : Same H5 (upd H5 T1 (.tup [V.int (u : Nat), V.int (v : Nat)])) := same_upd nT1
      refine ⟨T1, _, rfl, SqT.of upd_same, rfl, _, _, rfl, _, _, rfl, rfl, rfl, ?_⟩
      refine ⟨_, rfl, _, rfl, _, _, rfl, rfl, _, rfl, ?_⟩
      have ec : ((prs (crossL (R * C) f g)).take (i + 1)).countP (fun p => decide (p.2 < p.1)) = ((prs (crossL (R * C) f g)).take i).countP (fun p => decide (p.2 < p.1)) + if v < u then 1 else 0 := by
        rw [take_more hx, List.countP_append, List.countP_singleton]
        by_cases z : v < u
        · rw [if_pos z, if_pos (by exact decide_eq_true z)]
        · rw [if_neg z, if_neg (by simpa using z)]
      refine decI (fun z => ?_) (fun z => ?_)
      · rw [if_pos (by omega)] at ec
        refine ⟨_, smT _ _ hD5, ?_, ?_, ?_⟩
        · rw [List.length_replicate]
          have h1 : ((prs (crossL (R * C) f g)).take i).countP (fun p => decide (p.2 < p.1)) ≤ ((prs (crossL (R * C) f g)).take i).length := List.countP_le_length
          rw [List.length_take] at h1
          have h2 := prs_short (crossL (R * C) f g)
          have h3 := crossL_map (f := f) (g := g) hR hC
          have h4 : (crossL (R * C) f g).length * (crossL (R * C) f g).length ≤ 36 * 36 := Nat.mul_le_mul h3 h3
          have h5 : (36 * 36 : Nat) < sizeLine := by decide
          omega
        · intro c o e
          rw [upd_ne (ne_of_none e nD5)]
          exact smT _ _ (s5 _ _ e)
        · rw [upd_same, ec, List.replicate_succ']
      · rw [if_neg (by omega), Nat.add_zero] at ec
        refine ⟨fun c o e => smT _ _ (s5 _ _ e), ?_⟩
        rw [ec]
        exact smT _ _ hD5
    rintro H5 ⟨s5, hD5⟩
    rw [hpl, List.take_length, prs_inv] at hD5
    refine ⟨D5, _, rfl, .inl (SqL.of hD5), ?_⟩
    rw [List.length_replicate]
    exact q _ (s04.trans s5)
theorem ok_stA {fa fE : Addr} {fd fdE : FuncData} {k : Nat} (F : Fun K "steps_apart" "steps_apart" d_steps_apart fa fd) (mA : mg "abs" = none)
    (GE : FnOk P w K mg base CX0 (k + 1) fE fdE ["tray"] spEmpty) (gE : mg "empty_place" = some (.ref fE)) (kE : PySem.W.keepIn K (.ref fE) = true) (bE : Binds K fdE ["tray"] []) :
    FnOk P w K mg base CX0 (k + 2) fa fd ["one", "other"] spStA := by
  refine F.ok scStA (fun vs H Q E h => ?_) (fun cdv A outer s H vs Q E hr h => ?_)
  · obtain ⟨a, b, rs, rs2, R, C, f, g, rfl, _⟩ := h
    rfl
  · obtain ⟨a, b, rs, rs2, R, C, ⟨f, r, c⟩, ⟨f2, r2, c2⟩, rfl, Ta, Tb, g, g2, q⟩ := h
    have hR := g.r6
    refine ⟨_, pss_cons (ps_asg (pe_call GE hr (by rfl) gE kE bE .nil pass0 (pa_cons (pv 0) pa_nil)) (pg_tup rfl (pgs_cons (pg_name (i := 2) scStA.nd rfl (.inl rfl)) (pgs_cons (pg_name (i := 3) scStA.nd rfl (.inl rfl)) pgs_nil))))
      (pss_cons (ps_asg (pe_call GE hr (by rfl) gE kE bE .nil pass0 (pa_cons (pv 1) pa_nil)) (pg_tup rfl (pgs_cons (pg_name (i := 4) scStA.nd rfl (.inl rfl)) (pgs_cons (pg_name (i := 5) scStA.nd rfl (.inl rfl)) pgs_nil))))
      (pss_one (ps_ret (pe_op op_add (pe_callB call_abs (by rfl) mA (by decide +kernel) (pa_cons (pe_op op_sub (pv 2) (pv 4)) pa_nil)) (pe_callB call_abs (by rfl) mA (by decide +kernel) (pa_cons (pe_op op_sub (pv 3) (pv 5)) pa_nil)))))), ?_⟩
    refine ⟨_, rfl, a, rs, R, C, f, r, c, rfl, Ta, g.z, g.uniq, by omega, fun H1 p s1 np hp => ?_⟩
    refine ⟨p, _, rfl, SqT.of hp, rfl, _, _, rfl, _, _, rfl, rfl, ?_⟩
    refine ⟨_, rfl, b, rs2, R, C, f2, r2, c2, rfl, Tb.mono s1, g2.z, g2.uniq, by omega, fun H2 p2 s2 np2 hp2 => ?_⟩
    refine ⟨p2, _, rfl, SqT.of hp2, rfl, _, _, rfl, _, _, rfl, rfl, ?_⟩
    refine ⟨_, rfl, _, rfl, (r : Int), (r2 : Int), rfl, rfl, _, rfl, _, rfl, _, rfl, (c : Int), (c2 : Int), rfl, rfl, _, rfl, _, _, rfl, rfl, ?_⟩
    have e : (if (r : Int) - r2 < 0 then -((r : Int) - r2) else (r : Int) - r2) + (if (c : Int) - c2 < 0 then -((c : Int) - c2) else (c : Int) - c2) = (steps r c r2 c2 : Nat) := by
      rw [absI, absI]
      unfold steps
      rw [Int.natCast_add]
    show Q (V.int ((if (r : Int) - r2 < 0 then -((r : Int) - r2) else (r : Int) - r2) + (if (c : Int) - c2 < 0 then -((c : Int) - c2) else (c : Int) - c2))) H2
    rw [e]
    exact q _ (s1.trans s2)
end
end Tr
/-! The answers: made, and what they show -/
namespace Tr
open PySem PySem.Spec PyProof.Rows L2
theorem scLI : FnScope ["self", "slides"] ["self", "slides"] (defScope d_Led_init) := ⟨rfl, rfl, rfl, by decide +kernel, rfl, by decide +kernel, by decide +kernel⟩
theorem scOI : FnScope ["self", "crossed", "steps"] ["self", "crossed", "steps"] (defScope d_Odd_init) := ⟨rfl, rfl, rfl, by decide +kernel, rfl, by decide +kernel, by decide +kernel⟩
theorem scPI : FnScope ["self", "one", "other"] ["self", "one", "other"] (defScope d_Passed_init) := ⟨rfl, rfl, rfl, by decide +kernel, rfl, by decide +kernel, by decide +kernel⟩
theorem put1 (f : Str) (v : V) : putF f v [] = [(f, v)] := rfl
theorem inV_ints (x : Int) (L : List Int) : inV (.int x) (L.map V.int) = decide (x ∈ L) := by
  unfold inV
  by_cases h : x ∈ L
  · rw [decide_eq_true h, List.any_eq_true]
    exact ⟨.int x, List.mem_map.mpr ⟨x, h, rfl⟩, by show decide (x = x) = true; exact decide_eq_true rfl⟩
  · rw [decide_eq_false h, List.any_eq_false]
    intro z hz e
    obtain ⟨y, hy, rfl⟩ := List.mem_map.mp hz
    have e : decide (y = x) = true := e
    exact h (of_decide_eq_true e ▸ hy)
theorem flatI (L : List Int) : (L.map V.int).all flatV = true := by
  rw [List.all_eq_true]
  intro x hx
  obtain ⟨n, _, rfl⟩ := List.mem_map.mp hx
  rfl
theorem pcs_mem {n : Nat} {f : Fld} (hf : Full n f) (x : Int) : x ∈ pcsL n f ↔ 0 < x ∧ x < n := by
  unfold pcsL
  rw [List.mem_filter]
  have h1 : x ∈ allV n f ↔ 0 ≤ x ∧ x < n := by
    rw [hf.mem_iff, List.mem_map]
    constructor
    · rintro ⟨k, hk, rfl⟩
      have := List.mem_range.mp hk
      omega
    · rintro ⟨h1, h2⟩
      exact ⟨x.toNat, List.mem_range.mpr (by omega), by omega⟩
  rw [h1, decide_eq_true_eq]
  omega
theorem idx_ints {L : List Int} {x : Int} (h : x ∈ L) : (L.map V.int)[L.idxOf x]? = some (V.int x) ∧ ∀ (m : Nat) (z : V), m < L.idxOf x → (L.map V.int)[m]? = some z → eqV z (V.int x) = false := by
  have hl := List.idxOf_lt_length_of_mem h
  refine ⟨?_, fun m z hm e => ?_⟩
  · rw [List.getElem?_map, List.getElem?_eq_getElem hl, List.getElem_idxOf hl]
    rfl
  · have hml : m < L.length := by omega
    rw [List.getElem?_map, List.getElem?_eq_getElem hml] at e
    have e := Option.some.inj e
    subst e
    have h2 := List.not_of_lt_findIdx (p := (· == x)) (xs := L) hm
    exact h2
theorem idx_filter {p : Int → Bool} {x y : Int} (hx : p x = true) (hy : p y = true) : ∀ l : List Int, x ∈ l → y ∈ l → ((l.filter p).idxOf x < (l.filter p).idxOf y ↔ l.idxOf x < l.idxOf y)
  | [], h, _ => nomatch h
  | a :: l, mx, my => by
    have ih : x ∈ l → y ∈ l → ((l.filter p).idxOf x < (l.filter p).idxOf y ↔ l.idxOf x < l.idxOf y) := idx_filter hx hy l
    by_cases ha : p a = true
    · rw [List.filter_cons_of_pos ha]
      simp only [List.idxOf_cons]
      by_cases e1 : a = x
      · subst e1
        by_cases e2 : a = y
        · subst e2
          simp
        · simp only [beq_self_eq_true, beq_false_of_ne e2, cond_true, cond_false]
          omega
      · by_cases e2 : a = y
        · subst e2
          simp only [beq_self_eq_true, beq_false_of_ne e1, cond_true, cond_false]
          omega
        · have m1 : x ∈ l := by
            rcases List.mem_cons.mp mx with z | z
            · exact absurd z.symm e1
            · exact z
          have m2 : y ∈ l := by
            rcases List.mem_cons.mp my with z | z
            · exact absurd z.symm e2
            · exact z
          have := ih m1 m2
          simp only [beq_false_of_ne e1, beq_false_of_ne e2, cond_false]
          omega
    · have e1 : a ≠ x := fun e => ha (e ▸ hx)
      have e2 : a ≠ y := fun e => ha (e ▸ hy)
      have m1 : x ∈ l := by
        rcases List.mem_cons.mp mx with z | z
        · exact absurd z.symm e1
        · exact z
      have m2 : y ∈ l := by
        rcases List.mem_cons.mp my with z | z
        · exact absurd z.symm e2
        · exact z
      rw [List.filter_cons_of_neg ha]
      simp only [List.idxOf_cons]
      have := ih m1 m2
      simp only [beq_false_of_ne e1, beq_false_of_ne e2, cond_false]
      omega
theorem pcs_idx {n : Nat} {f : Fld} (hf : Full n f) {x y : Int} (h1 : 0 < x ∧ x < n) (h2 : 0 < y ∧ y < n) : ((pcsL n f).idxOf x < (pcsL n f).idxOf y ↔ posOf n f x < posOf n f y) := by
  have mx := (pcs_mem hf x).mpr h1
  have my := (pcs_mem hf y).mpr h2
  exact idx_filter (decide_eq_true (by omega)) (decide_eq_true (by omega)) _ (List.mem_filter.mp mx).1 (List.mem_filter.mp my).1
section
variable {P : Program} {w : World} {K : PySem.W.Frag} {mg : Str → Option Value} {base : Heap}
theorem ok_LI {fa CL : Addr} {fd : FuncData} {k : Nat} (F : Fun K "__init__" "Led.__init__" d_Led_init fa fd) (cl : Cls K CL) (nf : NoAttr K CL "slides") : FnOk P w K mg base CX0 (k + 1) fa fd ["self", "slides"] (spI1 "slides" CL) := by
  refine F.ok scLI (fun vs H Q E h => ?_) (fun cdv A outer s H vs Q E hr h => ?_)
  · obtain ⟨x, dx, v, rfl, _⟩ := h
    rfl
  · obtain ⟨x, dx, v, rfl, hx, q⟩ := h
    refine ⟨_, pss_one (ps_fld (pv 0) (pv 1) rfl), ?_⟩
    refine ⟨_, rfl, _, rfl, x, CL, dx, [], rfl, hx, cl, nf, (by show 0 < 1000; decide), ?_⟩
    rw [put1]
    exact q [(("slides" : Str), v)] rfl (by rw [List.lookup_cons, beq_false_of_ne (by decide +kernel), List.lookup_nil])
theorem ok_OI {fa CO : Addr} {fd : FuncData} {k : Nat} (F : Fun K "__init__" "Odd.__init__" d_Odd_init fa fd) (cl : Cls K CO) (n1 : NoAttr K CO "crossed") (n2 : NoAttr K CO "steps") : FnOk P w K mg base CX0 (k + 1) fa fd ["self", "crossed", "steps"] (spI2 "crossed" "steps" CO) := by
  refine F.ok scOI (fun vs H Q E h => ?_) (fun cdv A outer s H vs Q E hr h => ?_)
  · obtain ⟨x, dx, v, u, rfl, _⟩ := h
    rfl
  · obtain ⟨x, dx, v, u, rfl, hx, q⟩ := h
    refine ⟨_, pss_cons (ps_fld (pv 0) (pv 1) rfl) (pss_one (ps_fld (pv 0) (pv 2) rfl)), ?_⟩
    refine ⟨_, rfl, _, rfl, x, CO, dx, [], rfl, hx, cl, n1, (by show 0 < 1000; decide), ?_⟩
    refine ⟨_, rfl, _, rfl, x, CO, dx, _, rfl, upd_same, cl, n2, (by show 1 < 1000; decide), ?_⟩
    have c : ¬ (("crossed" : Str) = "steps") := by decide +kernel
    have e : putF "steps" u (putF "crossed" v []) = [(("crossed" : Str), v), (("steps" : Str), u)] := by
      rw [put1]
      show (if ("crossed" : Str) = "steps" then _ else (("crossed" : Str), v) :: putF "steps" u []) = _
      rw [if_neg c, put1]
    rw [upd_upd, e]
    refine q _ rfl ?_ ?_ ?_
    · rw [List.lookup_cons, beq_false_of_ne (fun h => c h.symm), List.lookup_cons, beq_self_eq_true]
    · rw [List.lookup_cons, beq_false_of_ne (by decide +kernel), List.lookup_cons, beq_false_of_ne (by decide +kernel), List.lookup_nil]
    · rw [List.lookup_cons, beq_false_of_ne (by decide +kernel), List.lookup_cons, beq_false_of_ne (by decide +kernel), List.lookup_nil]
theorem ok_PI {fa CP : Addr} {fd : FuncData} {k : Nat} (F : Fun K "__init__" "Passed.__init__" d_Passed_init fa fd) (cl : Cls K CP) (n1 : NoAttr K CP "one") (n2 : NoAttr K CP "other") : FnOk P w K mg base CX0 (k + 1) fa fd ["self", "one", "other"] (spI2 "one" "other" CP) := by
  refine F.ok scPI (fun vs H Q E h => ?_) (fun cdv A outer s H vs Q E hr h => ?_)
  · obtain ⟨x, dx, v, u, rfl, _⟩ := h
    rfl
  · obtain ⟨x, dx, v, u, rfl, hx, q⟩ := h
    refine ⟨_, pss_cons (ps_fld (pv 0) (pv 1) rfl) (pss_one (ps_fld (pv 0) (pv 2) rfl)), ?_⟩
    refine ⟨_, rfl, _, rfl, x, CP, dx, [], rfl, hx, cl, n1, (by show 0 < 1000; decide), ?_⟩
    refine ⟨_, rfl, _, rfl, x, CP, dx, _, rfl, upd_same, cl, n2, (by show 1 < 1000; decide), ?_⟩
    have c : ¬ (("one" : Str) = "other") := by decide +kernel
    have e : putF "other" u (putF "one" v []) = [(("one" : Str), v), (("other" : Str), u)] := by
      rw [put1]
      show (if ("one" : Str) = "other" then _ else (("one" : Str), v) :: putF "other" u []) = _
      rw [if_neg c, put1]
    rw [upd_upd, e]
    refine q _ rfl ?_ ?_ ?_
    · rw [List.lookup_cons, beq_false_of_ne (fun h => c h.symm), List.lookup_cons, beq_self_eq_true]
    · rw [List.lookup_cons, beq_false_of_ne (by decide +kernel), List.lookup_cons, beq_false_of_ne (by decide +kernel), List.lookup_nil]
    · rw [List.lookup_cons, beq_false_of_ne (by decide +kernel), List.lookup_cons, beq_false_of_ne (by decide +kernel), List.lookup_nil]
end
end Tr
namespace Tr
open PySem PySem.Spec PyProof.Rows L2
theorem perm_erase {α : Type} : ∀ {l : List α} {k : Nat} {y : α}, l[k]? = some y → (y :: l.eraseIdx k).Perm l
  | [], k, y, h => by simp at h
  | a :: r, 0, y, h => by
    have e : a = y := Option.some.inj h
    subst e
    exact List.Perm.refl _
  | a :: r, k + 1, y, h => by
    have ih := perm_erase (l := r) (k := k) (y := y) h
    show (y :: a :: r.eraseIdx k).Perm (a :: r)
    exact (List.Perm.swap a y _).trans (List.Perm.cons a ih)
theorem map_erase {α β : Type} (f : α → β) : ∀ (l : List α) (k : Nat), (l.map f).eraseIdx k = (l.eraseIdx k).map f
  | [], k => by simp
  | a :: r, 0 => rfl
  | a :: r, k + 1 => by
    show f a :: (r.map f).eraseIdx k = f a :: (r.eraseIdx k).map f
    rw [map_erase f r k]
abbrev rangeI (n : Nat) : List Int := (List.range n).map fun k : Nat => (k : Int)
theorem scOrder : FnScope ["_law_number", "_law_many", "_law_left", "_law_found"] ["_law_number", "_law_many"] (defScope d_law_order) := ⟨rfl, rfl, rfl, by decide +kernel, rfl, by decide +kernel, by decide +kernel⟩
def spOrder : Sp := fun vs H Q _ => ∃ (z : Int) (n : Nat), vs = [.int z, .int n] ∧ n ≤ 1000 ∧ ∀ H' p (os : List Int), Same H H' → H p = none → H' p = some (.lst (os.map V.int)) → os.Perm (rangeI n) → Q (.ref p) H'
section
variable {P : Program} {w : World} {K : PySem.W.Frag} {mg : Str → Option Value} {base : Heap}
theorem ok_order {fa : Addr} {fd : FuncData} {k : Nat} (F : Fun K "_law_order" "_law_order" d_law_order fa fd) (mLi : mg "list" = none) (mR : mg "range" = none) (mL : mg "len" = none) :
    FnOk P w K mg base CX0 (k + 1) fa fd ["_law_number", "_law_many"] spOrder := by
  refine F.ok scOrder (fun vs H Q E h => ?_) (fun cdv A outer s H vs Q E hr h => ?_)
  · obtain ⟨z, n, rfl, _⟩ := h
    rfl
  · obtain ⟨z, n, rfl, hn, q⟩ := h
    refine ⟨_, pss_cons (ps_set (i := 2) scOrder.nd rfl (.inl rfl) (pe_listRg rfl rfl mLi (prg_1 rfl mR (pv 1))))
      (pss_cons (ps_set (i := 3) scOrder.nd rfl (.inl rfl) (pe_lst pa_nil))
      (pss_cons (ps_while PassesOwn.never (pt_cmpR (op_neD hr.units) (pv 2) (pe_lst pa_nil) (nomark _))
        (pss_cons (ps_expr (pe_bm PySem.F.plainAttrs_list PySem.F.slot_list_append PySem.F.type_list_append mt_append (pv 3) (pa_cons
            (pe_bm PySem.F.plainAttrs_list PySem.F.slot_list_pop PySem.F.type_list_pop mt_popAt (pv 2) (pa_cons (pe_op op_modN (pv 0) (pe_callB call_len_seq (by rfl) mL PySem.boot_len (pa_cons (pv 2) pa_nil))) pa_nil)) pa_nil)))
        (pss_one (ps_set (i := 0) scOrder.nd rfl (.inl rfl) (pe_op op_fdivN (pv 0) (pe_op op_add (pe_callB call_len_seq (by rfl) mL PySem.boot_len (pa_cons (pv 2) pa_nil)) pe_int))))))
      (pss_one (ps_ret (pv 3))))), ?_⟩
    refine ⟨_, rfl, n, rfl, RgOk.of_le (by omega) (by omega) (by omega) (by omega), fun L nL => ?_⟩
    have e0 : rgV 0 (n : Int) = (rangeI n).map V.int := by
      unfold rgV rangeI
      rw [List.map_map, Int.sub_zero, Int.toNat_natCast]
      refine List.map_congr_left fun k _ => ?_
      show V.int (0 + (k : Int)) = V.int k
      rw [Int.zero_add]
    rw [e0]
    refine ⟨Nat.zero_le _, fun D nD => ?_⟩
    have hDL : L ≠ D := fun e => by
      rw [← e, upd_same] at nD
      cases nD
    refine ⟨fun m σ H' => ∃ (y : Int) (left found : List Int), left.length = m ∧ σ = [some (.int y), some (.int n), some (.ref L), some (.ref D)] ∧ H' L = some (.lst (left.map V.int)) ∧ H' D = some (.lst (found.map V.int)) ∧ (found ++ left).Perm (rangeI n) ∧ Same H H',
      ⟨_, z, rangeI n, [], rfl, rfl, by rw [upd_ne hDL, upd_same], upd_same, List.Perm.refl _, (same_upd nL).trans (same_upd nD)⟩, ?_⟩
    rintro m σ H' ⟨y, left, found, hm, rfl, hL, hD, hp, sm⟩
    refine ⟨_, rfl, Nat.zero_le _, fun p np => ?_⟩
    have s1 : Same H' (upd H' p (.lst [])) := same_upd np
    have hL1 := s1 _ _ hL
    have hD1 := s1 _ _ hD
    have hall : found.length + left.length = n := by
      have := hp.length_eq
      rw [List.length_append] at this
      rw [this]
      show ((List.range n).map _).length = n
      rw [List.length_map, List.length_range]
    refine ⟨.list (left.map PyData.int), .list [], .lst (SqL.of hL1) (dp_ints _), .lst (SqL.of upd_same) .nil, PySem.W.shaped_ints _, PySem.W.shaped_ints [], _, rfl, ?_⟩
    cases left with
    | nil =>
      refine iteF ?_
      rw [List.append_nil] at hp
      exact ⟨_, rfl, q _ D found (sm.trans s1) ((same_upd nL).free nD) hD1 hp⟩
    | cons x r =>
      refine iteT ?_
      have hlp : 0 < (x :: r).length := Nat.zero_lt_succ _
      have b1 := Int.fmod_nonneg_of_pos y (b := ((x :: r).length : Int)) (by omega)
      have b2 := Int.fmod_lt_of_pos y (b := ((x :: r).length : Int)) (by omega)
      obtain ⟨j, hj⟩ := Int.eq_ofNat_of_zero_le b1
      have hjl : j < (x :: r).length := by omega
      have hget := List.getElem?_eq_getElem hjl
      have hnn : n ≤ 1000 := hn
      refine ⟨fun σ' H2 => ∃ (y' : Int) (found' : List Int), σ' = [some (.int y'), some (.int n), some (.ref L), some (.ref D)] ∧ H2 L = some (.lst (((x :: r).eraseIdx j).map V.int)) ∧ H2 D = some (.lst (found'.map V.int)) ∧ (found' ++ (x :: r).eraseIdx j).Perm (rangeI n) ∧ Same H H2, ?_, ?_⟩
      · rintro σ' H2 ⟨y', found', e1, e2, e3, e4, e5⟩
        refine ⟨((x :: r).eraseIdx j).length, ?_, y', _, found', rfl, e1, e2, e3, e4, e5⟩
        rw [List.length_eraseIdx_of_lt hjl]
        omega
      · have hs := ixN_seq (ixN_nat hjl)
        refine ⟨_, rfl, .inl ⟨rfl, _, SqL.of hD1⟩, ?_⟩
        refine ⟨_, rfl, .inl ⟨rfl, _, SqL.of hL1⟩, ?_⟩
        refine ⟨_, rfl, .ref L, rfl, L, _, rfl, .inl (SqL.of hL1), y, ((x :: r).length : Int), rfl, ?_, by omega, ?_⟩
        · rw [List.length_map]
        refine ⟨L, _, y.fmod ((x :: r).length : Int), j, V.int (x :: r)[j], rfl, rfl, hL1, by omega, by omega, ?_, ?_, ?_⟩
        · rw [List.length_map, hj]
          exact hs.1
        · rw [List.getElem?_map, hget]
          rfl
        · refine ⟨D, found.map V.int, _, rfl, rfl, ?_, ?_, ?_⟩
          · rw [upd_ne hDL.symm]
            exact hD1
          · rw [List.length_map]
            exact small1000 (by omega)
          · refine ⟨_, rfl, .ref L, rfl, L, _, rfl, .inl (SqL.of (by rw [upd_ne hDL, upd_same])), _, 1, rfl, rfl, y, _, rfl, rfl, ?_, ?_⟩
            · constructor
              · omega
              · rw [map_erase, List.length_map]
                have := List.length_eraseIdx_le (x :: r) j
                omega
            · refine ⟨_, found ++ [(x :: r)[j]], rfl, ?_, ?_, ?_, ?_⟩
              · rw [upd_ne hDL, upd_same, map_erase]
              · rw [upd_same, List.map_append]
                rfl
              · rw [List.append_assoc]
                refine List.Perm.trans (List.Perm.append_left found ?_) hp
                exact perm_erase hget
              · intro b o e
                rw [upd_ne (ne_of_none e ((same_upd nL).free nD)), upd_ne (ne_of_none e nL)]
                exact s1 _ _ (sm _ _ e)
end
end Tr
namespace Tr
open PySem PySem.Spec PyProof.Rows L2
/-- below 2 ^ n in size -/
def Bd (x : Int) (n : Nat) : Prop := x.natAbs < 2 ^ n
theorem Bd.mono {x : Int} {n m : Nat} (h : Bd x n) (hm : n ≤ m) : Bd x m := Nat.lt_of_lt_of_le h (Nat.pow_le_pow_right (by decide) hm)
theorem Bd.add {x y : Int} {n m : Nat} (h : Bd x n) (h' : Bd y m) : Bd (x + y) (n + m + 1) := by
  have h1 : Bd x (n + m) := h.mono (by omega)
  have h2 : Bd y (n + m) := h'.mono (by omega)
  unfold Bd at *
  rw [Nat.pow_succ]
  omega
theorem Bd.mul {x y : Int} {n m : Nat} (h : Bd x n) (h' : Bd y m) : Bd (x * y) (n + m) := wide_lt h h'
theorem Bd.ok {i j : Int} {a b : Nat} (ha : Bd i a) (hb : Bd j b) (h : a + b ≤ 100000000) : IntMulOk i j := by
  have g : ∀ (x : Int) (n : Nat), Bd x n → Builtin.Int.intBits x ≤ n + 1 := fun x n hx => by
    have := PySem.Flt.log2_lt_of (k := n + 1) (Nat.succ_pos n) (hx.mono (Nat.le_succ n))
    unfold Builtin.Int.intBits
    split <;> omega
  have h1 := g i a ha
  have h2 := g j b hb
  have e : bitsLine = 134217728 := by decide
  unfold IntMulOk
  intro z
  rw [Bool.and_eq_true] at z
  have z2 := z.2
  unfold Builtin.Int.intTooBig at z2
  have z3 := of_decide_eq_true z2
  rw [e] at z3
  omega
theorem Bd.of_bits {x : Int} : Bd x (Builtin.Int.intBits x) := by
  unfold Bd Builtin.Int.intBits
  by_cases h : x = 0
  · subst h
    decide
  · have : (x == 0) = false := by simpa using h
    rw [this]
    exact Nat.lt_log2_self
theorem Bd.small {x : Int} {n : Nat} (h : x.natAbs < 2 ^ n) : Bd x n := h
theorem scDigits : FnScope ["_law_cell", "_law_by", "_law_mixed", "_law_more"] ["_law_cell", "_law_by"] (defScope d_law_digits) := ⟨rfl, rfl, rfl, by decide +kernel, rfl, by decide +kernel, by decide +kernel⟩
def spDigits : Sp := fun vs H Q _ => ∃ (c : Int) (b : Nat), vs = [.int c, .int b] ∧ b ≤ 1000 ∧ Builtin.Int.intBits c ≤ 1048576 ∧ ∀ n, Q (.int n) H
section
variable {P : Program} {w : World} {K : PySem.W.Frag} {mg : Str → Option Value} {base : Heap}
theorem ok_digits {fa : Addr} {fd : FuncData} {k : Nat} (F : Fun K "_law_digits" "_law_digits" d_law_digits fa fd) :
    FnOk P w K mg base CX0 (k + 1) fa fd ["_law_cell", "_law_by"] spDigits := by
  refine F.ok scDigits (fun vs H Q E h => ?_) (fun cdv A outer s H vs Q E hr h => ?_)
  · obtain ⟨c, b, rfl, _⟩ := h
    rfl
  · obtain ⟨c, b, rfl, hb, hc, q⟩ := h
    have hB : Bd c (Builtin.Int.intBits c) := Bd.of_bits
    generalize Builtin.Int.intBits c = B at hc hB
    refine ⟨_, pss_cons (ps_if (pt_cmpR op_ge (pv 0) (pe_op op_pow pe_int pe_int) (nomark _)) (pss_one (ps_ret (pe_op op_fdivN (pv 0) (pe_op op_add (pv 1) pe_int)))) pss_nil)
      (pss_cons (ps_set (i := 2) scDigits.nd rfl (.inl rfl) (pe_op op_mod (pe_op op_mulX (pe_op op_add (pv 0) (pe_op op_mulX pe_int (pv 1))) pe_int) pe_int))
      (pss_cons (ps_set (i := 3) scDigits.nd rfl (.inl rfl) (pe_op op_mulX (pv 2) (pe_op op_add (pe_op op_add (pv 0) (pe_op op_mulX pe_int (pv 1))) pe_int)))
      (pss_one (ps_ret (pe_op op_fdivN (pe_op op_mulX (pe_op op_mulX (pv 3) (pe_op op_add (pe_op op_add (pv 2) (pe_op op_mulX (pv 0) (pv 1))) pe_int)) (pe_op op_add (pe_op op_mulX (pv 2) (pv 2)) (pv 1))) (pe_op op_add pe_int (pv 1))))))), ?_⟩
    have hbB : Bd (b : Int) 10 := Bd.small (by show b < 1024; omega)
    have k977 : Bd 977 10 := Bd.small (by decide)
    have k31 : Bd 31 10 := Bd.small (by decide)
    have k7 : Bd 7 10 := Bd.small (by decide)
    have k13 : Bd 13 10 := Bd.small (by decide)
    have k48 : Bd 48271 16 := Bd.small (by decide)
    refine ⟨_, rfl, 10, 18, rfl, rfl, ⟨by decide, by decide, by decide⟩, _, _, rfl, rfl, _, rfl, decI (fun _ => ?_) (fun _ => ?_)⟩
    · refine ⟨_, rfl, _, rfl, b, 1, rfl, rfl, c, _, rfl, rfl, ⟨by omega, by omega⟩, q _⟩
    · have a1 : Bd (977 * (b : Int)) (10 + 10) := k977.mul hbB
      have a2 := hB.add a1
      refine ⟨_, rfl, _, rfl, 977, b, rfl, rfl, k977.ok hbB (by decide), c, 977 * (b : Int), rfl, rfl, _, 48271, rfl, rfl, a2.ok k48 (by omega), _, 2147483647, rfl, rfl, (by show (0 : Int) < 2147483647; decide), ?_⟩
      have m1 := Int.emod_nonneg ((c + 977 * (b : Int)) * 48271) (b := 2147483647) (by decide)
      have m2 := Int.emod_lt_of_pos ((c + 977 * (b : Int)) * 48271) (b := 2147483647) (by decide)
      have hm : Bd (((c + 977 * (b : Int)) * 48271) % 2147483647) 31 := Bd.small (by show (((c + 977 * (b : Int)) * 48271) % 2147483647).natAbs < 2147483648; omega)
      have a3 : Bd (31 * (b : Int)) (10 + 10) := k31.mul hbB
      have a4 := (hB.add a3).add k7
      have a5 := hm.mul a4
      refine ⟨_, rfl, _, rfl, _, rfl, 31, b, rfl, rfl, k31.ok hbB (by decide), c, 31 * (b : Int), rfl, rfl, _, 7, rfl, rfl, _, _, rfl, rfl, hm.ok a4 (by omega), ?_⟩
      have a6 := (hm.add (hB.mul hbB)).add k13
      have a7 := a5.mul a6
      have a8 := (hm.mul hm).add hbB
      refine ⟨_, rfl, _, rfl, _, rfl, _, rfl, c, b, rfl, rfl, hB.ok hbB (by omega), _, c * (b : Int), rfl, rfl, _, 13, rfl, rfl, _, _, rfl, rfl, a5.ok a6 (by omega), ?_⟩
      refine ⟨_, rfl, _, rfl, _, _, rfl, rfl, hm.ok hm (by decide), _, rfl, _, b, rfl, rfl, _, _, rfl, rfl, a7.ok a8 (by omega), ?_⟩
      exact ⟨_, rfl, 1009, b, rfl, rfl, _, _, rfl, rfl, ⟨by omega, by omega⟩, q _⟩
end
end Tr
namespace Tr
open PySem PySem.Spec PyProof.Rows L2
theorem scTrayL : FnScope ["_law_number", "_law_rows", "_law_columns", "_law_order_here", "_law_row"] ["_law_number", "_law_rows", "_law_columns"] (defScope d_law_tray) := ⟨rfl, rfl, rfl, by decide +kernel, rfl, by decide +kernel, by decide +kernel⟩
def spTrayL : Sp := fun vs H Q _ => ∃ (z : Int) (R C : Nat), vs = [.int z, .int R, .int C] ∧ R ≤ 6 ∧ C ≤ 6 ∧ ∀ H' p rs f, Same H H' → H p = none → (∀ x ∈ rs, H x = none) → TrayAt H' p rs R C f → Full (R * C) f → Q (.ref p) H'
theorem cut_row {os : List Int} {R C i : Nat} (h : os.length = R * C) (hi : i < R) : cutV (os.map V.int) (some ((i * C : Nat) : Int)) (some ((i * C + C : Nat) : Int)) = rowV C (fun k => os.getD k 0) i := by
  have hl : (os.map V.int).length = R * C := by rw [List.length_map, h]
  have hle : i * C + C ≤ R * C := by
    have : (i + 1) * C ≤ R * C := Nat.mul_le_mul_right C hi
    rw [Nat.add_mul, Nat.one_mul] at this
    exact this
  unfold cutV
  rw [HT.sIx_nat, HT.sIx_nat, hl, Nat.min_eq_left hle, Nat.min_eq_left (show i * C ≤ R * C by omega), Nat.add_sub_cancel_left]
  apply List.ext_getElem
  · rw [List.length_take, List.length_drop, hl, rowV_len]
    omega
  · intro j h1 h2
    rw [rowV_len] at h2
    have hk : i * C + j < os.length := by rw [h]; omega
    simp only [List.getElem_take, List.getElem_drop, List.getElem_map, rowV, List.getElem_range]
    rw [List.getD_eq_getElem?_getD, List.getElem?_eq_getElem hk]
    rfl
theorem allV_get {os : List Int} {n : Nat} (h : os.length = n) : allV n (fun k => os.getD k 0) = os := by
  apply List.ext_getElem
  · simp [allV, h]
  · intro j h1 h2
    simp only [allV, List.getElem_map, List.getElem_range]
    rw [List.getD_eq_getElem?_getD, List.getElem?_eq_getElem h2]
    rfl
section
variable {P : Program} {w : World} {K : PySem.W.Frag} {mg : Str → Option Value} {base : Heap}
theorem ok_trayL {fa fO : Addr} {fd fdO : FuncData} {k : Nat} (F : Fun K "_law_tray" "_law_tray" d_law_tray fa fd) (mR : mg "range" = none)
    (GO : FnOk P w K mg base CX0 (k + 1) fO fdO ["_law_number", "_law_many"] spOrder) (gO : mg "_law_order" = some (.ref fO)) (kO : PySem.W.keepIn K (.ref fO) = true) (bO : Binds K fdO ["_law_number", "_law_many"] []) :
    FnOk P w K mg base CX0 (k + 2) fa fd ["_law_number", "_law_rows", "_law_columns"] spTrayL := by
  refine F.ok scTrayL (fun vs H Q E h => ?_) (fun cdv A outer s H vs Q E hr h => ?_)
  · obtain ⟨z, R, C, rfl, _⟩ := h
    rfl
  · obtain ⟨z, R, C, rfl, hR, hC, q⟩ := h
    have hRC := rows36 hR hC
    refine ⟨_, pss_cons (ps_set (i := 3) scTrayL.nd rfl (.inr rfl) (pe_call GO hr (by rfl) gO kO bO .nil pass0 (pa_cons (pv 0) (pa_cons (pe_op op_mul (pv 1) (pv 2)) pa_nil))))
      (pss_one (ps_ret (pe_lc (own := [("_law_row", 4)]) (g := gName 4) (tt := tYes) rfl scTrayL.nd (pi_range1 rfl mR (pa_cons (pv 1) pa_nil)) (blkOk_by (own := [("_law_row", 4)]) (N := ["_law_number", "_law_rows", "_law_columns", "_law_order_here", "_law_row"]) (sc := defScope d_law_tray) (by decide +kernel))
        (fun _ _ _ _ _ => pg_name (i := 4) scTrayL.nd rfl (.inl rfl)) (fun _ _ _ _ _ => pts_nil) (fun _ _ _ _ _ => pe_slice (r := rSlL K) sl_list (pv 3) (po_some (pe_op op_mul (pv 4) (pv 2))) (po_some (pe_op op_add (pe_op op_mul (pv 4) (pv 2)) (pv 2))))))), ?_⟩
    refine ⟨_, rfl, _, rfl, _, rfl, R, C, rfl, rfl, .inl ⟨by omega, by omega⟩, z, R * C, ?_, by omega, fun H1 p os s1 np hp hperm => ?_⟩
    · rw [Int.natCast_mul]
      rfl
    have hol : os.length = R * C := by
      have := hperm.length_eq
      rw [this]
      show ((List.range (R * C)).map _).length = R * C
      rw [List.length_map, List.length_range]
    refine ⟨_, rfl, R, rfl, by omega, by omega, fun D nD => ?_⟩
    rw [Int.toNat_natCast]
    refine lc_gen (walk_range (lo := 0) (n := R)) (fun i H2 => ∃ rs1, TrayAt H2 D rs1 i C (fun k => os.getD k 0) ∧ (∀ x ∈ rs1, H1 x = none) ∧ Same H1 H2)
      ⟨[], ⟨upd_same, rfl, fun i r e => by simp at e, List.nodup_nil, by simp⟩, (fun x m => by cases m), same_upd nD⟩ (fun _ _ _ _ => True.intro) ?_ ?_
    · rintro i x H2 H3 hi ⟨rs1, T1, hx1, sm⟩ ⟨rfl, rfl⟩
      refine ⟨rfl, ?_⟩
      have e1 : (0 + (i : Int)) * (C : Int) = ((i * C : Nat) : Int) := by rw [Int.zero_add, Int.natCast_mul]
      have e2 : (0 + (i : Int)) * (C : Int) + (C : Int) = ((i * C + C : Nat) : Int) := by rw [e1, Int.natCast_add]
      refine ⟨_, rfl, _, rfl, _, rfl, _, C, rfl, rfl, .inl ⟨by omega, by omega⟩, ((i * C : Nat) : Int), congrArg V.int e1, ?_⟩
      refine ⟨_, rfl, _, rfl, _, C, rfl, rfl, .inl ⟨by omega, by omega⟩, _, rfl, _, C, rfl, rfl, ((i * C + C : Nat) : Int), congrArg V.int e2, ?_⟩
      refine ⟨p, os.map V.int, rfl, SqL.of (sm _ _ hp), fun l nl => ?_⟩
      rw [cut_row hol hi]
      have hlD : l ≠ D := fun z => by
        rw [z, T1.top] at nl
        cases nl
      refine ⟨_, by rw [upd_ne hlD.symm]; exact T1.top, ?_, rs1 ++ [l], T1.snoc nl hlD, ?_, ?_⟩
      · rw [List.length_map, T1.len]
        exact small1000 (by omega)
      · intro x m
        rcases List.mem_append.mp m with m | m
        · exact hx1 x m
        · rw [List.mem_singleton.mp m]
          exact sm.free nl
      · intro b o e
        rw [upd_ne (ne_of_none e nD), upd_ne (ne_of_none e (sm.free nl))]
        exact sm _ _ e
    · rintro H2 ⟨rs1, T1, hx1, sm⟩
      refine q H2 D rs1 _ (s1.trans sm) (s1.free nD) (fun x hx => s1.free (hx1 x hx)) T1 ?_
      unfold Full
      rw [allV_get hol]
      exact hperm
end
end Tr
namespace Tr
open PySem PySem.Spec PyProof.Rows L2
theorem scPlace : FnScope ["_law_tray_here", "_law_piece", "_law_row", "_law_column"] ["_law_tray_here", "_law_piece"] (defScope d_law_place) := ⟨rfl, rfl, rfl, by decide +kernel, rfl, by decide +kernel, by decide +kernel⟩
def spPlace : Sp := fun vs H Q _ => ∃ (a : Addr) (rs : List Addr) (R C : Nat) (f : Fld) (r c : Nat), vs = [.ref a, .int 0] ∧ TrayAt H a rs R C f ∧ Zr R C (f, r, c) ∧ Uniq R C f (r * C + c) ∧ R ≤ 1000 ∧ C ≤ 1000 ∧
  ∀ H' p, Same H H' → H p = none → H' p = some (.tup [.int r, .int c]) → Q (.ref p) H'
section
variable {P : Program} {w : World} {K : PySem.W.Frag} {mg : Str → Option Value} {base : Heap}
theorem ok_place {fa : Addr} {fd : FuncData} {k : Nat} (F : Fun K "_law_place" "_law_place" d_law_place fa fd) (mR : mg "range" = none) (mL : mg "len" = none) :
    FnOk P w K mg base CX0 (k + 1) fa fd ["_law_tray_here", "_law_piece"] spPlace := by
  refine F.ok scPlace (fun vs H Q E h => ?_) (fun cdv A outer s H vs Q E hr h => ?_)
  · obtain ⟨a, rs, R, C, f, r, c, rfl, _⟩ := h
    rfl
  · obtain ⟨a, rs, R, C, f, r, c, rfl, T, Z, U, hR, hC, q⟩ := h
    have hrr : r < R := Z.r
    have hcc : c < C := Z.c
    have hz : f (r * C + c) = 0 := Z.z
    refine ⟨_, pss_cons (ps_for PassesOwn.never rfl (pi_range1 rfl mR (pa_cons (pe_callB call_len_seq (by rfl) mL PySem.boot_len (pa_cons (pv 0) pa_nil)) pa_nil)) (pg_name (i := 2) scPlace.nd rfl (.inl rfl))
        (pss_one (ps_for PassesOwn.never rfl (pi_range1 rfl mR (pa_cons (pe_callB call_len_seq (by rfl) mL PySem.boot_len (pa_cons (pe_ix ix_list (pv 0) pe_int (fun _ _ => rfl)) pa_nil)) pa_nil)) (pg_name (i := 3) scPlace.nd rfl (.inl rfl))
          (pss_one (ps_if (pt_cmpR op_eq (pe_ix ix_list (pe_ix ix_list (pv 0) (pv 2) (fun _ _ => rfl)) (pv 3) (fun _ _ => rfl)) (pv 1) (nomark _)) (pss_one (ps_ret (pe_tup (pa_cons (pv 2) (pa_cons (pv 3) pa_nil))))) pss_nil)))))
      (pss_one (ps_ret pe_non)), ?_⟩
    obtain ⟨r0, g1, g2, g3⟩ := T.get (i := 0) (by omega)
    refine ⟨.ref a, rfl, a, _, rfl, .inl (SqL.of T.top), ?_⟩
    rw [List.length_map, T.len]
    refine ⟨(R : Int), rfl, by omega, by omega, ?_⟩
    rw [Int.toNat_natCast]
    refine for_it (walk_range (lo := 0) (n := R)) (fun i σ H' => H' = H ∧ i ≤ r ∧ ∃ v u, σ = [some (.ref a), some (.int 0), v, u]) ⟨rfl, Nat.zero_le _, none, none, rfl⟩ (fun _ _ _ _ _ => True.intro) ?_ ?_
    · rintro i x σ H1 H2 hi ⟨rfl, hir, v, u, rfl⟩ ⟨rfl, rfl⟩
      refine ⟨.ref a, rfl, a, _, 0, _, rfl, rfl, SqL.of T.top, atI_nat (j := 0) g2, r0, _, rfl, .inl (SqL.of g3), ?_⟩
      rw [rowV_len]
      refine ⟨(C : Int), rfl, by omega, by omega, ?_⟩
      rw [Int.toNat_natCast]
      obtain ⟨ri, k1, k2, k3⟩ := T.get hi
      refine for_it (walk_range (lo := 0) (n := C)) (fun j σ H' => H' = H2 ∧ (i = r → j ≤ c) ∧ ∃ u, σ = [some (.ref a), some (.int 0), some (.int (0 + (i : Int))), u]) ⟨rfl, fun _ => Nat.zero_le _, u, rfl⟩ (fun _ _ _ _ _ => True.intro) ?_ ?_
      · rintro j y σ H3 H4 hj ⟨rfl, hjc, u, rfl⟩ ⟨rfl, rfl⟩
        refine ⟨.ref a, rfl, _, rfl, a, _, (i : Int), _, rfl, congrArg V.int (Int.zero_add _), SqL.of T.top, atI_nat k2, _, rfl, ri, _, (j : Int), _, rfl, congrArg V.int (Int.zero_add _), SqL.of k3, atI_nat (rowV_get hj), .int 0, rfl, rfl, _, rfl, decI (fun z => ?_) (fun z => ?_)⟩
        · have z : f (i * C + j) = 0 := V.int.inj z
          obtain ⟨e1, e2⟩ := ix_inj hj hcc (U _ (ix_lt hi hj) z)
          subst e1 e2
          refine ⟨_, rfl, _, rfl, (by show 2 ≤ sizeLine; decide), fun p hp => q _ p (same_upd hp) hp ?_⟩
          rw [upd_same]
          show some (HO.tup [V.int (0 + (i : Int)), V.int (0 + (j : Int))]) = _
          rw [Int.zero_add, Int.zero_add]
        · refine ⟨rfl, fun e => ?_, _, rfl⟩
          have h1 := hjc e
          rcases Nat.lt_or_ge j c with h2 | h2
          · exact h2
          · exfalso
            have h3 : j = c := by omega
            subst e h3
            exact z (congrArg V.int hz)
      · rintro σ H3 ⟨rfl, hjc, u, rfl⟩
        refine ⟨rfl, ?_, _, _, rfl⟩
        rcases Nat.lt_or_ge i r with h2 | h2
        · exact h2
        · have h3 : i = r := by omega
          have := hjc h3
          omega
    · rintro σ H1 ⟨rfl, hir, v, u, rfl⟩
      omega
end
end Tr
namespace Tr
open PySem PySem.Spec PyProof.Rows L2
theorem u_eq : ("u" : Str) = txt [117] := by decide +kernel
theorem d_eq : ("d" : Str) = txt [100] := by decide +kernel
theorem l_eq : ("l" : Str) = txt [108] := by decide +kernel
theorem r_eq : ("r" : Str) = txt [114] := by decide +kernel
theorem key_eq {a b : Nat} : (Sum.inr (txt [a]) : Key) = Sum.inr (txt [b]) ↔ a = b := by
  constructor
  · intro h
    exact List.head_eq_of_cons_eq (txt_inj (Sum.inr.inj h))
  · intro h
    rw [h]
theorem val4 (v1 v2 v3 v4 : V) (l : Nat) : valV [((Sum.inr "u" : Key), v1), (Sum.inr "d", v2), (Sum.inr "l", v3), (Sum.inr "r", v4)] (Sum.inr (txt [l])) =
    if l = 117 then some v1 else if l = 100 then some v2 else if l = 108 then some v3 else if l = 114 then some v4 else none := by
  rw [u_eq, d_eq, l_eq, r_eq]
  unfold valV
  by_cases h1 : l = 117
  · subst h1
    rw [if_pos rfl, List.find?_cons_of_pos (by exact decide_eq_true rfl)]
    rfl
  rw [if_neg h1, List.find?_cons_of_neg (by rw [decide_eq_true_eq, key_eq]; omega)]
  by_cases h2 : l = 100
  · subst h2
    rw [if_pos rfl, List.find?_cons_of_pos (by exact decide_eq_true rfl)]
    rfl
  rw [if_neg h2, List.find?_cons_of_neg (by rw [decide_eq_true_eq, key_eq]; omega)]
  by_cases h3 : l = 108
  · subst h3
    rw [if_pos rfl, List.find?_cons_of_pos (by exact decide_eq_true rfl)]
    rfl
  rw [if_neg h3, List.find?_cons_of_neg (by rw [decide_eq_true_eq, key_eq]; omega)]
  by_cases h4 : l = 114
  · subst h4
    rw [if_pos rfl, List.find?_cons_of_pos (by exact decide_eq_true rfl)]
    rfl
  rw [if_neg h4, List.find?_cons_of_neg (by rw [decide_eq_true_eq, key_eq]; omega)]
  rfl
theorem scSlid : FnScope ["_law_tray_here", "_law_slides", "_law_row", "_law_found", "_law_column", "_law_letter", "_law_down", "_law_right", "_law_high", "_law_wide"] ["_law_tray_here", "_law_slides"] (defScope d_law_slid) := ⟨rfl, rfl, rfl, by decide +kernel, rfl, by decide +kernel, by decide +kernel⟩
def spSlid : Sp := fun vs H Q _ => ∃ (a : Addr) (rs : List Addr) (R C : Nat) (s : Sl) (ws : List Nat), vs = [.ref a, .str (txt ws)] ∧ TrayAt H a rs R C s.1 ∧ Good R C s ∧
  (∀ s', goAll R C s ws = some s' → ∀ H' p rs', Same H H' → H p = none → (∀ x ∈ rs', H x = none) → TrayAt H' p rs' R C s'.1 → Q (.ref p) H') ∧
  (goAll R C s ws = none → ∀ H', Same H H' → Q .non H')
section
variable {P : Program} {w : World} {K : PySem.W.Frag} {mg : Str → Option Value} {base : Heap}
theorem ok_slid {fa fP : Addr} {fd fdP : FuncData} {k : Nat} (F : Fun K "_law_slid" "_law_slid" d_law_slid fa fd) (mLi : mg "list" = none) (mL : mg "len" = none)
    (GP : FnOk P w K mg base CX0 (k + 1) fP fdP ["_law_tray_here", "_law_piece"] spPlace) (gP : mg "_law_place" = some (.ref fP)) (kP : PySem.W.keepIn K (.ref fP) = true) (bP : Binds K fdP ["_law_tray_here", "_law_piece"] []) :
    FnOk P w K mg base CX0 (k + 2) fa fd ["_law_tray_here", "_law_slides"] spSlid := by
  refine F.ok scSlid (fun vs H Q E h => ?_) (fun cdv A outer s H vs Q E hr h => ?_)
  · obtain ⟨a, rs, R, C, s, ws, rfl, _⟩ := h
    rfl
  · obtain ⟨a, rs, R, C, ⟨f, r, c⟩, ws, rfl, Ta, g, q, qn⟩ := h
    have hR := g.r6
    have hR0 := g.r0
    have hC := g.c6
    have hu := hu_of hr
    refine ⟨_, pss_cons (ps_setLc (i := 3) (own := [("_law_row", 2)]) (g := gName 2) (tt := tYes) rfl scSlid.nd rfl rfl (sw_true rfl rfl rfl (by decide +kernel)) (pi_list (pv 0))
          (blkOk_by (own := [("_law_row", 2)]) (N := ["_law_tray_here", "_law_slides", "_law_row", "_law_found", "_law_column", "_law_letter", "_law_down", "_law_right", "_law_high", "_law_wide"]) (sc := defScope d_law_slid) (by decide +kernel))
          (fun _ _ _ _ _ => pg_name (i := 2) scSlid.nd rfl (.inl rfl)) (fun _ _ _ _ _ => pts_nil) (fun _ _ _ _ _ => pe_callTy (r := rListOf K) cr_listOf (by rfl) mLi (by decide +kernel) (pa_cons (pv 2) pa_nil)))
      (pss_cons (ps_asg (pe_call GP hr (by rfl) gP kP bP .nil pass0 (pa_cons (pv 0) (pa_cons pe_int pa_nil))) (pg_tup rfl (pgs_cons (pg_name (i := 2) scSlid.nd rfl (.inl rfl)) (pgs_cons (pg_name (i := 4) scSlid.nd rfl (.inl rfl)) pgs_nil))))
      (pss_cons (ps_for PassesOwn.never rfl (pi_str (pv 1)) (pg_name (i := 5) scSlid.nd rfl (.inl rfl))
        (pss_cons (ps_asg (pe_dget2 hu (pe_disp (pps_cons pe_str (pe_tup (pa_cons (pe_un un_neg pe_int) (pa_cons pe_int pa_nil))) (pps_cons pe_str (pe_tup (pa_cons pe_int (pa_cons pe_int pa_nil))) (pps_cons pe_str (pe_tup (pa_cons pe_int (pa_cons (pe_un un_neg pe_int) pa_nil))) (pps_cons pe_str (pe_tup (pa_cons pe_int (pa_cons pe_int pa_nil))) pps_nil)))) (by rfl) (by rfl) (fun z => by cases z) (by decide)) (pv 5) (pe_tup (pa_cons pe_int (pa_cons pe_int pa_nil))) ⟨rfl, rfl, rfl, rfl⟩)
            (pg_tup rfl (pgs_cons (pg_name (i := 6) scSlid.nd rfl (.inl rfl)) (pgs_cons (pg_name (i := 7) scSlid.nd rfl (.inl rfl)) pgs_nil))))
        (pss_cons (ps_par (i := 8) (j := 9) (by rfl) scSlid.nd rfl rfl (by decide) rfl rfl (pa_cons (pe_op op_add (pv 2) (pv 6)) (pa_cons (pe_op op_add (pv 4) (pv 7)) pa_nil)) (by rfl))
        (pss_cons (ps_if (PW.pt (pw_or (pt_not (pt_chain op_le op_lt pe_int (pv 8) (pe_callB call_len_seq (by rfl) mL PySem.boot_len (pa_cons (pv 0) pa_nil))))
            (pw_or1 (pt_not (pt_chain op_le op_lt pe_int (pv 9) (pe_callB call_len_seq (by rfl) mL PySem.boot_len (pa_cons (pe_ix ix_list (pv 0) pe_int (fun _ _ => rfl)) pa_nil))))))) (pss_one (ps_ret pe_non)) pss_nil)
        (pss_cons (ps_asg (pe_ix ix_list (pe_ix ix_list (pv 3) (pv 8) (fun _ _ => rfl)) (pv 9) (fun _ _ => rfl)) (pg_sub (pe_ix ix_list (pv 3) (pv 2) (fun _ _ => rfl)) (pv 4) set_list))
        (pss_cons (ps_asg pe_int (pg_sub (pe_ix ix_list (pv 3) (pv 8) (fun _ _ => rfl)) (pv 9) set_list))
        (pss_one (ps_par (i := 2) (j := 4) (by rfl) scSlid.nd rfl rfl (by decide) rfl rfl (pa_cons (pv 8) (pa_cons (pv 9) pa_nil)) (by rfl)))))))))
      (pss_one (ps_ret (pv 3))))), ?_⟩
    -- the copy
    refine ⟨_, rfl, a, rfl, ⟨_, SqL.of Ta.top⟩, fun D nD => lc_copy (i := 2) Ta (by omega) nD (by show 2 < 10; decide) fun rs1 H2 s2 nrs T2 => ?_⟩
    refine ⟨_, rfl, a, rs, R, C, f, r, c, rfl, Ta.mono s2, g.z, g.uniq, by omega, by omega, fun H3 p s3 np hp => ?_⟩
    refine ⟨p, _, rfl, SqT.of hp, rfl, _, _, rfl, _, _, rfl, rfl, ?_⟩
    have s03 := s2.trans s3
    -- the slides
    refine ⟨_, rfl, _, rfl, for_it walk_str (fun i σ H' => ∃ f' r' c' v5 v6 v7 v8 v9, goAll R C (f, r, c) (ws.take i) = some (f', r', c') ∧ σ = [some (.ref a), some (.str (txt ws)), some (.int (r' : Nat)), some (.ref D), some (.int (c' : Nat)), v5, v6, v7, v8, v9] ∧ Same H H' ∧ TrayAt H' D rs1 R C f')
      ⟨f, r, c, none, none, none, none, none, rfl, rfl, s03, T2.mono s3⟩ (fun _ _ _ _ _ => True.intro) ?_ ?_⟩
    · rintro i x σ H4 H5 hi ⟨f', r', c', v5, v6, v7, v8, v9, hg, rfl, s4, T4⟩ ⟨rfl, l, hl, rfl⟩
      have hl : ws[i]? = some l := by simpa using hl
      have g' : Good R C (f', r', c') := g.go hg
      -- the dict; what it gives
      refine fun d nd => ?_
      have a0 : Same H5 (upd H5 d (.dK [])) := same_upd nd
      refine ⟨1, rfl, (by show 2 ≤ sizeLine; decide), fun t1 n1 => ?_⟩
      have a1 := same_upd (o := .tup [V.int (-1), V.int 0]) n1
      refine ⟨(by show 2 ≤ sizeLine; decide), fun t2 n2 => ?_⟩
      have a2 := same_upd (o := .tup [V.int 1, V.int 0]) n2
      refine ⟨1, rfl, (by show 2 ≤ sizeLine; decide), fun t3 n3 => ?_⟩
      have a3 := same_upd (o := .tup [V.int 0, V.int (-1)]) n3
      refine ⟨(by show 2 ≤ sizeLine; decide), fun t4 n4 => ?_⟩
      have a4 := same_upd (o := .tup [V.int 0, V.int 1]) n4
      have hd0 : (upd H5 d (.dK [])) d = some (.dK []) := upd_same
      have e1 := a4 _ _ (a3 _ _ (a2 _ _ (upd_same (H := upd H5 d (.dK [])) (a := t1) (o := .tup [V.int (-1), V.int 0]))))
      have e2 := a4 _ _ (a3 _ _ (upd_same (H := upd (upd H5 d (.dK [])) t1 (.tup [V.int (-1), V.int 0])) (a := t2) (o := .tup [V.int 1, V.int 0])))
      have e3 := a4 _ _ (upd_same (H := upd (upd (upd H5 d (.dK [])) t1 (.tup [V.int (-1), V.int 0])) t2 (.tup [V.int 1, V.int 0])) (a := t3) (o := .tup [V.int 0, V.int (-1)]))
      have e4 := upd_same (H := upd (upd (upd (upd H5 d (.dK [])) t1 (.tup [V.int (-1), V.int 0])) t2 (.tup [V.int 1, V.int 0])) t3 (.tup [V.int 0, V.int (-1)])) (a := t4) (o := .tup [V.int 0, V.int 1])
      have hd4 := a4 _ _ (a3 _ _ (a2 _ _ (a1 _ _ hd0)))
      have s6 : Same H5 (upd (upd (upd (upd (upd H5 d (.dK [])) t1 (.tup [V.int (-1), V.int 0])) t2 (.tup [V.int 1, V.int 0])) t3 (.tup [V.int 0, V.int (-1)])) t4 (.tup [V.int 0, V.int 1])) := (((a0.trans a1).trans a2).trans a3).trans a4
      refine ⟨hd4, [(Sum.inr "u", .ref t1), (Sum.inr "d", .ref t2), (Sum.inr "l", .ref t3), (Sum.inr "r", .ref t4)], rfl, (by show 4 ≤ 15; decide), ?_⟩
      rw [show mergeK [] [((Sum.inr "u" : Key), V.ref t1), (Sum.inr "d", .ref t2), (Sum.inr "l", .ref t3), (Sum.inr "r", .ref t4)] = [((Sum.inr "u" : Key), V.ref t1), (Sum.inr "d", .ref t2), (Sum.inr "l", .ref t3), (Sum.inr "r", .ref t4)] from rfl]
      revert e1 e2 e3 e4 hd4 s6
      generalize hH6 : upd (upd (upd (upd (upd H5 d (.dK [])) t1 (.tup [V.int (-1), V.int 0])) t2 (.tup [V.int 1, V.int 0])) t3 (.tup [V.int 0, V.int (-1)])) t4 (.tup [V.int 0, V.int 1]) = H6
      intro e1 e2 e3 e4 hd4 s6
      have nt : ∀ t xs, H6 t = some (.tup xs) → t ≠ d := fun t xs e z => by
        rw [z, hd4] at e
        cases e
      have s7 : Same H5 (upd H6 d (.dK [(Sum.inr "u", V.ref t1), (Sum.inr "d", .ref t2), (Sum.inr "l", .ref t3), (Sum.inr "r", .ref t4)])) := fun b o e => by
        rw [upd_ne (ne_of_none e nd)]
        exact s6 _ _ e
      have f1 : (upd H6 d (.dK [(Sum.inr "u", V.ref t1), (Sum.inr "d", .ref t2), (Sum.inr "l", .ref t3), (Sum.inr "r", .ref t4)])) t1 = _ := (upd_ne (nt _ _ e1)).trans e1
      have f2 : (upd H6 d (.dK [(Sum.inr "u", V.ref t1), (Sum.inr "d", .ref t2), (Sum.inr "l", .ref t3), (Sum.inr "r", .ref t4)])) t2 = _ := (upd_ne (nt _ _ e2)).trans e2
      have f3 : (upd H6 d (.dK [(Sum.inr "u", V.ref t1), (Sum.inr "d", .ref t2), (Sum.inr "l", .ref t3), (Sum.inr "r", .ref t4)])) t3 = _ := (upd_ne (nt _ _ e3)).trans e3
      have f4 : (upd H6 d (.dK [(Sum.inr "u", V.ref t1), (Sum.inr "d", .ref t2), (Sum.inr "l", .ref t3), (Sum.inr "r", .ref t4)])) t4 = _ := (upd_ne (nt _ _ e4)).trans e4
      have fd7 : (upd H6 d (.dK [(Sum.inr "u", V.ref t1), (Sum.inr "d", .ref t2), (Sum.inr "l", .ref t3), (Sum.inr "r", .ref t4)])) d = _ := upd_same
      show ∃ a, V.ref d = V.ref a ∧ IsD (upd H6 d (.dK [(Sum.inr "u", V.ref t1), (Sum.inr "d", .ref t2), (Sum.inr "l", .ref t3), (Sum.inr "r", .ref t4)])) a ∧ _
      generalize upd H6 d (.dK [(Sum.inr "u", V.ref t1), (Sum.inr "d", .ref t2), (Sum.inr "l", .ref t3), (Sum.inr "r", .ref t4)]) = H7 at f1 f2 f3 f4 fd7 s7 ⊢
      refine ⟨d, rfl, .inl ⟨_, .inl fd7⟩, _, rfl, (by show 2 ≤ sizeLine; decide), fun t9 n9 => ?_⟩
      have a9 := same_upd (o := .tup [V.int 9, V.int 9]) n9
      have e9 := upd_same (H := H7) (a := t9) (o := .tup [V.int 9, V.int 9])
      have h1 := a9 _ _ f1
      have h2 := a9 _ _ f2
      have h3 := a9 _ _ f3
      have h4 := a9 _ _ f4
      have hd := a9 _ _ fd7
      have s8 := s7.trans a9
      generalize upd H7 t9 (.tup [V.int 9, V.int 9]) = H8 at a9 e9 h1 h2 h3 h4 hd s8 ⊢
      refine ⟨_, DGet.k (k := Sum.inr (txt [l])) hd, ?_⟩
      have got : ∃ tt, ((valV [((Sum.inr "u" : Key), V.ref t1), (Sum.inr "d", .ref t2), (Sum.inr "l", .ref t3), (Sum.inr "r", .ref t4)] (Sum.inr (txt [l]))).getD (.ref t9)) = .ref tt ∧ H8 tt = some (.tup [.int (stp l).1, .int (stp l).2]) := by
        rw [val4]
        unfold stp
        by_cases z1 : l = 117
        · rw [if_pos z1, if_pos z1]
          exact ⟨t1, rfl, h1⟩
        rw [if_neg z1, if_neg z1]
        by_cases z2 : l = 100
        · rw [if_pos z2, if_pos z2]
          exact ⟨t2, rfl, h2⟩
        rw [if_neg z2, if_neg z2]
        by_cases z3 : l = 108
        · rw [if_pos z3, if_pos z3]
          exact ⟨t3, rfl, h3⟩
        rw [if_neg z3, if_neg z3]
        by_cases z4 : l = 114
        · rw [if_pos z4, if_pos z4]
          exact ⟨t4, rfl, h4⟩
        rw [if_neg z4, if_neg z4]
        exact ⟨t9, rfl, e9⟩
      obtain ⟨tt, ht1, ht2⟩ := got
      refine ⟨tt, _, ht1, SqT.of ht2, rfl, _, _, rfl, _, _, rfl, rfl, ?_⟩
      refine ⟨_, rfl, _, rfl, (r' : Int), (stp l).1, rfl, rfl, _, rfl, _, rfl, (c' : Int), (stp l).2, rfl, rfl, _, _, rfl, ?_⟩
      have T8 := T4.mono s8
      have Ta8 := Ta.mono (s4.trans s8)
      have s48 := s4.trans s8
      obtain ⟨r0, g1, g2, g3⟩ := Ta8.get (i := 0) hR0
      have hlen : ((rs.map V.ref).length : Int) = R := by rw [List.length_map, Ta.len]
      have nn : ¬ (0 ≤ (r' : Int) + (stp l).1 ∧ (r' : Int) + (stp l).1 < R ∧ 0 ≤ (c' : Int) + (stp l).2 ∧ (c' : Int) + (stp l).2 < C) → Q V.non H8 := fun z => qn (goAll_stop hg hl (go1_of_none (nxt_none z))) _ s48
      refine ⟨_, rfl, 0, (r' : Int) + (stp l).1, rfl, rfl, _, rfl, decI (fun z1 => ?_) (fun z1 => ⟨_, rfl, iteT (iteT (nn fun z => z1 z.1))⟩)⟩
      refine ⟨.ref a, rfl, a, _, rfl, .inl (SqL.of Ta8.top), _, _, rfl, rfl, _, rfl, ?_⟩
      rw [hlen]
      by_cases z2 : (r' : Int) + (stp l).1 < R
      case neg =>
        rw [decide_eq_false z2]
        exact iteT (iteT (nn fun z => z2 z.2.1))
      rw [decide_eq_true z2]
      refine iteF ?_
      refine ⟨_, rfl, 0, (c' : Int) + (stp l).2, rfl, rfl, _, rfl, decI (fun z3 => ?_) (fun z3 => ⟨_, rfl, iteT (nn fun z => z3 z.2.2.1)⟩)⟩
      refine ⟨.ref a, rfl, a, _, 0, _, rfl, rfl, SqL.of Ta8.top, atI_nat (j := 0) g2, r0, _, rfl, .inl (SqL.of g3), _, _, rfl, rfl, _, rfl, ?_⟩
      rw [rowV_len]
      by_cases z4 : (c' : Int) + (stp l).2 < C
      case neg =>
        rw [decide_eq_false z4]
        exact iteT (nn fun z => z4 z.2.2.2)
      rw [decide_eq_true z4]
      refine iteF ?_
      obtain ⟨r2, hr2⟩ := Int.eq_ofNat_of_zero_le z1
      obtain ⟨c2, hc2⟩ := Int.eq_ofNat_of_zero_le z3
      have hn : nxt R C r' c' l = some (r2, c2) := by
        rw [nxt_some ⟨z1, z2, z3, z4⟩, hr2, hc2, Int.toNat_natCast, Int.toNat_natCast]
      obtain ⟨_, _, hr2', hc2'⟩ := nxt_eq hn
      have hc' : c' < C := g'.z.c
      obtain ⟨ra, a1', a2', a3'⟩ := T8.get g'.z.r
      obtain ⟨rb, b1, b2, b3⟩ := T8.get hr2'
      refine ⟨.ref D, rfl, _, rfl, D, _, (r2 : Int), _, rfl, congrArg V.int hr2, SqL.of T8.top, atI_nat b2, _, rfl, rb, _, (c2 : Int), _, rfl, congrArg V.int hc2, SqL.of b3, atI_nat (rowV_get hc2'), ?_⟩
      refine ⟨.ref D, rfl, _, rfl, D, _, (r' : Int), _, rfl, rfl, SqL.of T8.top, atI_nat a2', _, rfl, ra, _, (c' : Int), c', rfl, rfl, a3', by rw [rowV_len]; exact ixN_nat hc', ?_⟩
      have T9 := T8.put (v := f' (r2 * C + c2)) a1' hc'
      obtain ⟨rb', b1', b2', b3'⟩ := T9.get hr2'
      rw [b1] at b1'
      cases b1'
      refine ⟨.ref D, rfl, _, rfl, D, _, (r2 : Int), _, rfl, congrArg V.int hr2, SqL.of T9.top, atI_nat b2', _, rfl, rb, _, (c2 : Int), c2, rfl, congrArg V.int hc2, b3', by rw [rowV_len]; exact ixN_nat hc2', ?_⟩
      have T10 := T9.put (v := 0) b1 hc2'
      refine ⟨_, rfl, _, rfl, _, _, rfl, put2 f' (r' * C + c') (r2 * C + c2), r2, c2, some (.str (txt [l])), some (.int (stp l).1), some (.int (stp l).2), some (.int ((r' : Int) + (stp l).1)), some (.int ((c' : Int) + (stp l).2)), ?_, ?_, ?_, T10⟩
      · rw [goAll_take hg hl, go1_of_nxt hn]
      · rw [← hr2, ← hc2]
        rfl
      · intro b o e
        have nb : ∀ y ∈ rs1, b ≠ y := fun y hy z => by
          have h1 := nrs y hy
          rw [← z, e] at h1
          cases h1
        rw [upd_ne (nb _ (List.mem_of_getElem? b1)), upd_ne (nb _ (List.mem_of_getElem? a1'))]
        exact s48 _ _ e
    · rintro σ H4 ⟨f', r', c', v5, v6, v7, v8, v9, hg, rfl, s4, T4⟩
      have e : ws.take (txt ws).cps.size = ws := by
        show ws.take ws.toArray.size = ws
        rw [List.size_toArray, List.take_length]
      rw [e] at hg
      exact ⟨_, rfl, q _ hg H4 D rs1 s4 nD nrs T4⟩
end
end Tr
/-! The empty place and two pieces go about a region of places: who can come where. Core Lean alone. -/
namespace Bf
abbrev P := Nat × Nat
def adj (a b : P) : Prop := (a.1 = b.1 ∧ (a.2 = b.2 + 1 ∨ b.2 = a.2 + 1)) ∨ (a.2 = b.2 ∧ (a.1 = b.1 + 1 ∨ b.1 = a.1 + 1))
instance (a b : P) : Decidable (adj a b) := by unfold adj; infer_instance
theorem adj_comm {a b : P} (h : adj a b) : adj b a := by
  unfold adj at h ⊢
  omega
theorem adj_ne {a b : P} (h : adj a b) : a ≠ b := by
  intro e
  subst e
  unfold adj at h
  omega
/-- what stood at y stands at x behind the slide of the empty place from x to y -/
def sw (x y a : P) : P := if a = y then x else a
abbrev S3 := P × P × P
/-- three places of the region, each another one -/
structure Ok (F : P → Prop) (s : S3) : Prop where
  e : F s.1
  p : F s.2.1
  q : F s.2.2
  ep : s.1 ≠ s.2.1
  eq : s.1 ≠ s.2.2
  pq : s.2.1 ≠ s.2.2
def mv (s : S3) (y : P) : S3 := (y, sw s.1 y s.2.1, sw s.1 y s.2.2)
inductive R3 (F : P → Prop) : S3 → S3 → Prop
  | refl (s) : R3 F s s
  | step {s t : S3} (y : P) : R3 F s t → F y → adj t.1 y → R3 F s (mv t y)
theorem R3.trans {F : P → Prop} {s t u : S3} (a : R3 F s t) (b : R3 F t u) : R3 F s u := by
  induction b with
  | refl => exact a
  | step y _ h1 h2 ih => exact .step y ih h1 h2
theorem R3.one {F : P → Prop} {s : S3} {y : P} (h1 : F y) (h2 : adj s.1 y) : R3 F s (mv s y) := .step y (.refl s) h1 h2
theorem Ok.mv {F : P → Prop} {s : S3} {y : P} (o : Ok F s) (h1 : F y) (h2 : adj s.1 y) : Ok F (mv s y) := by
  have hy := adj_ne h2
  obtain ⟨e, p, q⟩ := s
  obtain ⟨a1, a2, a3, a4, a5, a6⟩ := o
  dsimp only at a1 a2 a3 a4 a5 a6 hy
  unfold Bf.mv sw
  dsimp only
  by_cases c : p = y
  · have c2 : q ≠ y := fun z => a6 (c.trans z.symm)
    rw [if_pos c, if_neg c2]
    exact ⟨h1, a1, a3, fun z => hy z.symm, fun z => c2 z.symm, a5⟩
  · rw [if_neg c]
    by_cases c2 : q = y
    · rw [if_pos c2]
      exact ⟨h1, a2, a1, fun z => c z.symm, fun z => hy z.symm, fun z => a4 z.symm⟩
    · rw [if_neg c2]
      exact ⟨h1, a2, a3, fun z => c z.symm, fun z => c2 z.symm, a6⟩
theorem mv_back {F : P → Prop} {s : S3} {y : P} (o : Ok F s) (h2 : adj s.1 y) : mv (mv s y) s.1 = s := by
  obtain ⟨e, p, q⟩ := s
  obtain ⟨a1, a2, a3, a4, a5, a6⟩ := o
  dsimp only at a1 a2 a3 a4 a5 a6
  unfold Bf.mv sw
  dsimp only
  have one : ∀ a : P, e ≠ a → (if (if a = y then e else a) = e then y else (if a = y then e else a)) = a := by
    intro a ha
    by_cases c : a = y
    · rw [if_pos c, if_pos rfl, c]
    · rw [if_neg c, if_neg (fun z => ha z.symm)]
  rw [one p a4, one q a5]
theorem R3.ok {F : P → Prop} {s t : S3} (r : R3 F s t) (o : Ok F s) : Ok F t := by
  induction r with
  | refl => exact o
  | step y _ h1 h2 ih => exact ih.mv h1 h2
theorem R3.symm {F : P → Prop} {s t : S3} (r : R3 F s t) (o : Ok F s) : R3 F t s := by
  induction r with
  | refl => exact .refl _
  | @step t y r h1 h2 ih =>
    have ot := r.ok o
    have b : R3 F (mv t y) (mv (mv t y) t.1) := .one ot.e (adj_comm h2)
    rw [mv_back ot h2] at b
    exact b.trans ih
theorem R3.mono {F G : P → Prop} (h : ∀ a, F a → G a) {s t : S3} (r : R3 F s t) : R3 G s t := by
  induction r with
  | refl => exact .refl _
  | step y _ h1 h2 ih => exact .step y ih (h y h1) h2
/-- all come to all -/
def Conn (F : P → Prop) : Prop := ∀ s t, Ok F s → Ok F t → R3 F s t
theorem Conn.of_iff {F G : P → Prop} (h : ∀ a, F a ↔ G a) (c : Conn F) : Conn G := by
  intro s t os ot
  have os' : Ok F s := ⟨(h _).mpr os.e, (h _).mpr os.p, (h _).mpr os.q, os.ep, os.eq, os.pq⟩
  have ot' : Ok F t := ⟨(h _).mpr ot.e, (h _).mpr ot.p, (h _).mpr ot.q, ot.ep, ot.eq, ot.pq⟩
  exact (c s t os' ot').mono fun a => (h a).mp
/-- it is enough to come into a smaller region -/
theorem Conn.grow {F G : P → Prop} (c : Conn F) (h : ∀ a, F a → G a) (k : ∀ s, Ok G s → ∃ t, Ok F t ∧ R3 G s t) : Conn G := by
  intro s t os ot
  obtain ⟨s', o1, r1⟩ := k s os
  obtain ⟨t', o2, r2⟩ := k t ot
  exact r1.trans (((c s' t' o1 o2).mono h).trans (r2.symm ot))
theorem sw_ne {x y a : P} (h : a ≠ y) : sw x y a = a := if_neg h
theorem sw_eq {x y : P} : sw x y y = x := if_pos rfl
/-- the two pieces exchanged -/
theorem R3.flip {F : P → Prop} {s t : S3} (r : R3 F s t) : R3 F (s.1, s.2.2, s.2.1) (t.1, t.2.2, t.2.1) := by
  induction r with
  | refl => exact .refl _
  | step y _ h1 h2 ih => exact .step y ih h1 h2
theorem Ok.flip {F : P → Prop} {s : S3} (o : Ok F s) : Ok F (s.1, s.2.2, s.2.1) := ⟨o.e, o.q, o.p, o.eq, o.ep, fun z => o.pq z.symm⟩
theorem pick3 {F : P → Prop} {a b c : P} (ha : F a) (hb : F b) (hc : F c) (n1 : a ≠ b) (n2 : a ≠ c) (n3 : b ≠ c) (e q : P) : ∃ d, F d ∧ d ≠ e ∧ d ≠ q := by
  by_cases h1 : a = e ∨ a = q
  · by_cases h2 : b = e ∨ b = q
    · refine ⟨c, hc, fun z => ?_, fun z => ?_⟩
      · rcases h1 with k | k
        · exact n2 (k.trans z.symm)
        · rcases h2 with m | m
          · exact n3 (m.trans z.symm)
          · exact n1 (k.trans m.symm)
      · rcases h1 with k | k
        · rcases h2 with m | m
          · exact n1 (k.trans m.symm)
          · exact n3 (m.trans z.symm)
        · exact n2 (k.trans z.symm)
    · exact ⟨b, hb, fun z => h2 (.inl z), fun z => h2 (.inr z)⟩
  · exact ⟨a, ha, fun z => h1 (.inl z), fun z => h1 (.inr z)⟩
theorem lift1 {F G : P → Prop} (FG : ∀ a, F a → G a) {x : P} (hx : ¬ F x) {s t : S3} (r : R3 F s t) : R3 G (s.1, x, s.2.2) (t.1, x, t.2.2) := by
  induction r with
  | refl => exact .refl _
  | @step t y _ h1 h2 ih =>
    have h := R3.step (F := G) y ih (FG y h1) h2
    have e : mv (t.1, x, t.2.2) y = ((mv t y).1, x, (mv t y).2.2) := by
      show (y, sw t.1 y x, sw t.1 y t.2.2) = (y, x, sw t.1 y t.2.2)
      rw [sw_ne (fun z : x = y => hx (z ▸ h1))]
    rw [e] at h
    exact h
theorem lift2 {F G : P → Prop} (FG : ∀ a, F a → G a) {x x' : P} (hx : ¬ F x) (hx' : ¬ F x') {s t : S3} (r : R3 F s t) : R3 G (s.1, x, x') (t.1, x, x') := by
  induction r with
  | refl => exact .refl _
  | @step t y _ h1 h2 ih =>
    have h := R3.step (F := G) y ih (FG y h1) h2
    have e : mv (t.1, x, x') y = ((mv t y).1, x, x') := by
      show (y, sw t.1 y x, sw t.1 y x') = (y, x, x')
      rw [sw_ne (fun z : x = y => hx (z ▸ h1)), sw_ne (fun z : x' = y => hx' (z ▸ h1))]
    rw [e] at h
    exact h
/-- a piece at x comes into the region along an ear x, .. -/
theorem bring {F G : P → Prop} (c : Conn F) (FG : ∀ a, F a → G a) {x y1 y2 z e q : P} (hx : ¬ F x) (h1 : F y1) (h2 : F y2) (h3 : F z) (n12 : y1 ≠ y2) (nz1 : z ≠ y1) (nz2 : z ≠ y2) (he : F e) (hq : F q) (heq : e ≠ q) :
    R3 G (e, x, q) (y1, x, z) := by
  obtain ⟨d, hd, d1, d2⟩ := pick3 h1 h2 h3 n12 (fun k => nz1 k.symm) (fun k => nz2 k.symm) e q
  have r := c (e, d, q) (y1, y2, z) ⟨he, hd, hq, fun k => d1 k.symm, heq, d2⟩ ⟨h1, h2, h3, n12, fun k => nz1 k.symm, fun k => nz2 k.symm⟩
  exact lift1 FG hx r
/-- a place more, with two neighbours in the region -/
theorem conn_one {F G : P → Prop} (c : Conn F) {x y1 y2 z : P} (hx : ¬ F x) (h1 : F y1) (h2 : F y2) (h3 : F z) (n12 : y1 ≠ y2) (nz1 : z ≠ y1) (nz2 : z ≠ y2) (a1 : adj x y1) (a2 : adj x y2) (hG : ∀ a, G a ↔ a = x ∨ F a) : Conn G := by
  have FG : ∀ a, F a → G a := fun a h => (hG a).mpr (.inr h)
  have Gx : G x := (hG x).mpr (.inl rfl)
  have nx : ∀ {a}, F a → a ≠ x := fun h e => hx (e ▸ h)
  have piece : ∀ e q : P, F e → F q → e ≠ q → ∃ t, Ok F t ∧ R3 G (e, x, q) t := by
    intro e q fe fq heq
    have r1 := bring c FG hx h1 h2 h3 n12 nz1 nz2 fe fq heq
    have r2 : R3 G (y1, x, z) (x, y1, z) := by
      have r := R3.one (F := G) (s := (y1, x, z)) (y := x) Gx (adj_comm a1)
      have e : mv (y1, x, z) x = (x, y1, z) := by
        show (x, sw y1 x x, sw y1 x z) = (x, y1, z)
        rw [sw_eq, sw_ne (nx h3)]
      rw [e] at r
      exact r
    have r3 : R3 G (x, y1, z) (y2, y1, z) := by
      have r := R3.one (F := G) (s := (x, y1, z)) (y := y2) (FG _ h2) a2
      have e : mv (x, y1, z) y2 = (y2, y1, z) := by
        show (y2, sw x y2 y1, sw x y2 z) = (y2, y1, z)
        rw [sw_ne n12, sw_ne nz2]
      rw [e] at r
      exact r
    exact ⟨(y2, y1, z), ⟨h2, h1, h3, fun k => n12 k.symm, fun k => nz2 k.symm, fun k => nz1 k.symm⟩, r1.trans (r2.trans r3)⟩
  have inF : ∀ s, Ok G s → F s.1 → ∃ t, Ok F t ∧ R3 G s t := by
    rintro ⟨e, p, q⟩ o fe
    have fe : F e := fe
    rcases (hG _).mp o.p with hp | fp
    · have hp : p = x := hp
      subst hp
      have fq : F q := ((hG _).mp o.q).resolve_left fun k => o.pq k.symm
      exact piece e q fe fq o.eq
    · have fp : F p := fp
      rcases (hG _).mp o.q with hq | fq
      · have hq : q = x := hq
        subst hq
        obtain ⟨t, ot, r⟩ := piece e p fe fp o.ep
        exact ⟨_, ot.flip, r.flip⟩
      · exact ⟨_, ⟨fe, fp, fq, o.ep, o.eq, o.pq⟩, .refl _⟩
  refine c.grow FG fun s o => ?_
  rcases (hG _).mp o.e with he | fe
  · have o2 := o.mv (y := y1) (FG _ h1) (he ▸ a1)
    obtain ⟨t, ot, r⟩ := inF (mv s y1) o2 h1
    exact ⟨t, ot, (R3.one (FG _ h1) (he ▸ a1)).trans r⟩
  · exact inF s o fe
/-- two places more, an ear -/
theorem conn_two {F G : P → Prop} (c : Conn F) {x1 x2 y1 y2 z : P} (hx1 : ¬ F x1) (hx2 : ¬ F x2) (n : x1 ≠ x2) (h1 : F y1) (h2 : F y2) (h3 : F z) (n12 : y1 ≠ y2) (nz1 : z ≠ y1) (nz2 : z ≠ y2) (a1 : adj x1 y1) (a2 : adj x2 y2) (a12 : adj x1 x2) (hG : ∀ a, G a ↔ a = x1 ∨ a = x2 ∨ F a) : Conn G := by
  have FG : ∀ a, F a → G a := fun a h => (hG a).mpr (.inr (.inr h))
  have G1 : G x1 := (hG x1).mpr (.inl rfl)
  have G2 : G x2 := (hG x2).mpr (.inr (.inl rfl))
  have m1 : ∀ {a}, F a → a ≠ x1 := fun h e => hx1 (e ▸ h)
  have m2 : ∀ {a}, F a → a ≠ x2 := fun h e => hx2 (e ▸ h)
  -- around the ear, a piece at its first place
  have tour : ∀ {u1 u2 v1 v2 : P}, ¬ F u1 → ¬ F u2 → u1 ≠ u2 → F v1 → F v2 → v1 ≠ v2 → z ≠ v1 → z ≠ v2 → adj u1 v1 → adj u2 v2 → adj u1 u2 → G u1 → G u2 → R3 G (v1, u1, z) (v2, v1, z) := by
    intro u1 u2 v1 v2 k1 k2 kn f1 f2 fn fz1 fz2 b1 b2 b12 g1 g2
    have w1 : ∀ {a}, F a → a ≠ u1 := fun h e => k1 (e ▸ h)
    have w2 : ∀ {a}, F a → a ≠ u2 := fun h e => k2 (e ▸ h)
    have r1 : R3 G (v1, u1, z) (u1, v1, z) := by
      have r := R3.one (F := G) (s := (v1, u1, z)) (y := u1) g1 (adj_comm b1)
      have e : mv (v1, u1, z) u1 = (u1, v1, z) := by
        show (u1, sw v1 u1 u1, sw v1 u1 z) = (u1, v1, z)
        rw [sw_eq, sw_ne (w1 h3)]
      rw [e] at r
      exact r
    have r2 : R3 G (u1, v1, z) (u2, v1, z) := by
      have r := R3.one (F := G) (s := (u1, v1, z)) (y := u2) g2 b12
      have e : mv (u1, v1, z) u2 = (u2, v1, z) := by
        show (u2, sw u1 u2 v1, sw u1 u2 z) = (u2, v1, z)
        rw [sw_ne (w2 f1), sw_ne (w2 h3)]
      rw [e] at r
      exact r
    have r3 : R3 G (u2, v1, z) (v2, v1, z) := by
      have r := R3.one (F := G) (s := (u2, v1, z)) (y := v2) (FG _ f2) b2
      have e : mv (u2, v1, z) v2 = (v2, v1, z) := by
        show (v2, sw u2 v2 v1, sw u2 v2 z) = (v2, v1, z)
        rw [sw_ne fn, sw_ne fz2]
      rw [e] at r
      exact r
    exact r1.trans (r2.trans r3)
  have pA : ∀ e q : P, F e → F q → e ≠ q → ∃ t, Ok F t ∧ R3 G (e, x1, q) t := fun e q fe fq k =>
    ⟨(y2, y1, z), ⟨h2, h1, h3, fun k => n12 k.symm, fun k => nz2 k.symm, fun k => nz1 k.symm⟩, (bring c FG hx1 h1 h2 h3 n12 nz1 nz2 fe fq k).trans (tour hx1 hx2 n h1 h2 n12 nz1 nz2 a1 a2 a12 G1 G2)⟩
  have pA2 : ∀ e q : P, F e → F q → e ≠ q → ∃ t, Ok F t ∧ R3 G (e, x2, q) t := fun e q fe fq k =>
    ⟨(y1, y2, z), ⟨h1, h2, h3, n12, fun k => nz1 k.symm, fun k => nz2 k.symm⟩, (bring c FG hx2 h2 h1 h3 (fun k => n12 k.symm) nz2 nz1 fe fq k).trans (tour hx2 hx1 (fun k => n k.symm) h2 h1 (fun k => n12 k.symm) nz2 nz1 a2 a1 (adj_comm a12) G2 G1)⟩
  -- pieces at both places
  have pB : ∀ e : P, F e → ∃ t, Ok F t ∧ R3 G (e, x1, x2) t := by
    intro e fe
    obtain ⟨d, hd, d1, _⟩ := pick3 h1 h2 h3 n12 (fun k => nz1 k.symm) (fun k => nz2 k.symm) e e
    obtain ⟨d', hd', d1', d2'⟩ := pick3 h1 h2 h3 n12 (fun k => nz1 k.symm) (fun k => nz2 k.symm) e d
    have r0 : R3 G (e, x1, x2) (y1, x1, x2) := lift2 FG hx1 hx2 (c (e, d, d') (y1, y2, z) ⟨fe, hd, hd', fun k => d1 k.symm, fun k => d1' k.symm, fun k => d2' k.symm⟩ ⟨h1, h2, h3, n12, fun k => nz1 k.symm, fun k => nz2 k.symm⟩)
    have r1 : R3 G (y1, x1, x2) (x1, y1, x2) := by
      have r := R3.one (F := G) (s := (y1, x1, x2)) (y := x1) G1 (adj_comm a1)
      have e : mv (y1, x1, x2) x1 = (x1, y1, x2) := by
        show (x1, sw y1 x1 x1, sw y1 x1 x2) = (x1, y1, x2)
        rw [sw_eq, sw_ne (fun k => n k.symm)]
      rw [e] at r
      exact r
    have r2 : R3 G (x1, y1, x2) (x2, y1, x1) := by
      have r := R3.one (F := G) (s := (x1, y1, x2)) (y := x2) G2 a12
      have e : mv (x1, y1, x2) x2 = (x2, y1, x1) := by
        show (x2, sw x1 x2 y1, sw x1 x2 x2) = (x2, y1, x1)
        rw [sw_eq, sw_ne (m2 h1)]
      rw [e] at r
      exact r
    have r3 : R3 G (x2, y1, x1) (y2, y1, x1) := by
      have r := R3.one (F := G) (s := (x2, y1, x1)) (y := y2) (FG _ h2) a2
      have e : mv (x2, y1, x1) y2 = (y2, y1, x1) := by
        show (y2, sw x2 y2 y1, sw x2 y2 x1) = (y2, y1, x1)
        rw [sw_ne n12, sw_ne (fun k : x1 = y2 => hx1 (k ▸ h2))]
      rw [e] at r
      exact r
    obtain ⟨t, ot, r4⟩ := pA y2 y1 h2 h1 (fun k => n12 k.symm)
    exact ⟨_, ot.flip, r0.trans (r1.trans (r2.trans (r3.trans r4.flip)))⟩
  have inF : ∀ s, Ok G s → F s.1 → ∃ t, Ok F t ∧ R3 G s t := by
    rintro ⟨e, p, q⟩ o fe
    have fe : F e := fe
    have opq : p ≠ q := o.pq
    have oep : e ≠ p := o.ep
    have oeq : e ≠ q := o.eq
    have gp : p = x1 ∨ p = x2 ∨ F p := (hG _).mp o.p
    have gq : q = x1 ∨ q = x2 ∨ F q := (hG _).mp o.q
    rcases gp with rfl | rfl | fp
    · rcases gq with rfl | rfl | fq
      · exact absurd rfl opq
      · exact pB e fe
      · exact pA e q fe fq oeq
    · rcases gq with rfl | rfl | fq
      · obtain ⟨t, ot, r⟩ := pB e fe
        exact ⟨_, ot.flip, r.flip⟩
      · exact absurd rfl opq
      · exact pA2 e q fe fq oeq
    · rcases gq with rfl | rfl | fq
      · obtain ⟨t, ot, r⟩ := pA e p fe fp oep
        exact ⟨_, ot.flip, r.flip⟩
      · obtain ⟨t, ot, r⟩ := pA2 e p fe fp oep
        exact ⟨_, ot.flip, r.flip⟩
      · exact ⟨_, ⟨fe, fp, fq, oep, oeq, opq⟩, .refl _⟩
  refine c.grow FG fun s o => ?_
  rcases (hG _).mp o.e with he | he | fe
  · have o2 := o.mv (y := y1) (FG _ h1) (he ▸ a1)
    obtain ⟨t, ot, r⟩ := inF (mv s y1) o2 h1
    exact ⟨t, ot, (R3.one (FG _ h1) (he ▸ a1)).trans r⟩
  · have o2 := o.mv (y := y2) (FG _ h2) (he ▸ a2)
    obtain ⟨t, ot, r⟩ := inF (mv s y2) o2 h2
    exact ⟨t, ot, (R3.one (FG _ h2) (he ▸ a2)).trans r⟩
  · exact inF s o fe
end Bf
/-! The smallest regions by reckoning, all others by growth -/
namespace Bf
def nb (i : Nat) : List Nat := [[1, 3], [0, 2, 4], [1, 5], [0, 4], [3, 1, 5], [4, 2]].getD i []
def mvN (s y : Nat) : Nat := y * 36 + (if s / 6 % 6 = y then s / 36 else s / 6 % 6) * 6 + (if s % 6 = y then s / 36 else s % 6)
def fresh (seen : List Nat) : List Nat → List Nat → List Nat
  | [], acc => acc
  | t :: r, acc => fresh seen r (if seen.contains t || acc.contains t then acc else t :: acc)
def bfs : Nat → List Nat → List Nat → List Nat
  | 0, _, seen => seen
  | n + 1, fr, seen => bfs n (fresh seen (fr.flatMap fun s => (nb (s / 36)).map (mvN s)) []) (fresh seen (fr.flatMap fun s => (nb (s / 36)).map (mvN s)) [] ++ seen)
inductive RN : Nat → Prop
  | start : RN 8
  | step {s : Nat} (y : Nat) : RN s → y ∈ nb (s / 36) → RN (mvN s y)
theorem fresh_mem {seen : List Nat} : ∀ (l acc : List Nat) {t : Nat}, t ∈ fresh seen l acc → t ∈ l ∨ t ∈ acc
  | [], acc, t, h => .inr h
  | x :: r, acc, t, h => by
    rcases fresh_mem r _ h with k | k
    · exact .inl (List.mem_cons_of_mem _ k)
    · split at k
      · exact .inr k
      · rcases List.mem_cons.mp k with rfl | k
        · exact .inl List.mem_cons_self
        · exact .inr k
theorem bfs_sound : ∀ (n : Nat) (fr seen : List Nat), (∀ s ∈ fr, RN s) → (∀ s ∈ seen, RN s) → ∀ t ∈ bfs n fr seen, RN t
  | 0, fr, seen, _, h, t, ht => h t ht
  | n + 1, fr, seen, hf, h, t, ht => by
    have hn : ∀ s ∈ fresh seen (fr.flatMap fun s => (nb (s / 36)).map (mvN s)) [], RN s := by
      intro s hs
      rcases fresh_mem _ _ hs with k | k
      · obtain ⟨a, ha, hb⟩ := List.mem_flatMap.mp k
        obtain ⟨y, hy, rfl⟩ := List.mem_map.mp hb
        exact .step y (hf a ha) hy
      · cases k
    refine bfs_sound n _ _ hn (fun s hs => ?_) t ht
    rcases List.mem_append.mp hs with k | k
    · exact hn s k
    · exact h s k
theorem all_come : ((List.range 216).all fun s => (s / 36 == s / 6 % 6) || (s / 36 == s % 6) || (s / 6 % 6 == s % 6) || (bfs 40 [8] [8]).contains s) = true := by decide +kernel
theorem rn_all {e p q : Nat} (he : e < 6) (hp : p < 6) (hq : q < 6) (h1 : e ≠ p) (h2 : e ≠ q) (h3 : p ≠ q) : RN (e * 36 + p * 6 + q) := by
  have h := List.all_eq_true.mp all_come (e * 36 + p * 6 + q) (List.mem_range.mpr (by omega))
  have d1 : (e * 36 + p * 6 + q) / 36 = e := by omega
  have d2 : (e * 36 + p * 6 + q) / 6 % 6 = p := by omega
  have d3 : (e * 36 + p * 6 + q) % 6 = q := by omega
  rw [d1, d2, d3, beq_false_of_ne h1, beq_false_of_ne h2, beq_false_of_ne h3] at h
  have h : (bfs 40 [8] [8]).contains (e * 36 + p * 6 + q) = true := h
  refine bfs_sound 40 [8] [8] (fun s hs => ?_) (fun s hs => ?_) _ (List.contains_iff_mem.mp h)
  · rw [List.mem_singleton.mp hs]
    exact .start
  · rw [List.mem_singleton.mp hs]
    exact .start
theorem nb_lt {i y : Nat} (h : y ∈ nb i) : i < 6 ∧ y < 6 := by
  match i, h with
  | 0, h => exact (by decide : ∀ y ∈ nb 0, 0 < 6 ∧ y < 6) y h
  | 1, h => exact (by decide : ∀ y ∈ nb 1, 1 < 6 ∧ y < 6) y h
  | 2, h => exact (by decide : ∀ y ∈ nb 2, 2 < 6 ∧ y < 6) y h
  | 3, h => exact (by decide : ∀ y ∈ nb 3, 3 < 6 ∧ y < 6) y h
  | 4, h => exact (by decide : ∀ y ∈ nb 4, 4 < 6 ∧ y < 6) y h
  | 5, h => exact (by decide : ∀ y ∈ nb 5, 5 < 6 ∧ y < 6) y h
  | i + 6, h => exact nomatch h
theorem nb_grid {i y : Nat} (h : y ∈ nb i) : (i / 3 = y / 3 ∧ (i % 3 = y % 3 + 1 ∨ y % 3 = i % 3 + 1)) ∨ (i % 3 = y % 3 ∧ (i / 3 = y / 3 + 1 ∨ y / 3 = i / 3 + 1)) := by
  match i, h with
  | 0, h => exact (by decide : ∀ y ∈ nb 0, (0 / 3 = y / 3 ∧ (0 % 3 = y % 3 + 1 ∨ y % 3 = 0 % 3 + 1)) ∨ (0 % 3 = y % 3 ∧ (0 / 3 = y / 3 + 1 ∨ y / 3 = 0 / 3 + 1))) y h
  | 1, h => exact (by decide : ∀ y ∈ nb 1, (1 / 3 = y / 3 ∧ (1 % 3 = y % 3 + 1 ∨ y % 3 = 1 % 3 + 1)) ∨ (1 % 3 = y % 3 ∧ (1 / 3 = y / 3 + 1 ∨ y / 3 = 1 / 3 + 1))) y h
  | 2, h => exact (by decide : ∀ y ∈ nb 2, (2 / 3 = y / 3 ∧ (2 % 3 = y % 3 + 1 ∨ y % 3 = 2 % 3 + 1)) ∨ (2 % 3 = y % 3 ∧ (2 / 3 = y / 3 + 1 ∨ y / 3 = 2 / 3 + 1))) y h
  | 3, h => exact (by decide : ∀ y ∈ nb 3, (3 / 3 = y / 3 ∧ (3 % 3 = y % 3 + 1 ∨ y % 3 = 3 % 3 + 1)) ∨ (3 % 3 = y % 3 ∧ (3 / 3 = y / 3 + 1 ∨ y / 3 = 3 / 3 + 1))) y h
  | 4, h => exact (by decide : ∀ y ∈ nb 4, (4 / 3 = y / 3 ∧ (4 % 3 = y % 3 + 1 ∨ y % 3 = 4 % 3 + 1)) ∨ (4 % 3 = y % 3 ∧ (4 / 3 = y / 3 + 1 ∨ y / 3 = 4 / 3 + 1))) y h
  | 5, h => exact (by decide : ∀ y ∈ nb 5, (5 / 3 = y / 3 ∧ (5 % 3 = y % 3 + 1 ∨ y % 3 = 5 % 3 + 1)) ∨ (5 % 3 = y % 3 ∧ (5 / 3 = y / 3 + 1 ∨ y / 3 = 5 / 3 + 1))) y h
  | i + 6, h => exact nomatch h
/-- a block of six places -/
structure Blk (F : P → Prop) (f : Nat → P) : Prop where
  mem : ∀ i, i < 6 → F (f i)
  inj : ∀ i j, i < 6 → j < 6 → f i = f j → i = j
  on : ∀ a, F a → ∃ i, i < 6 ∧ f i = a
  adj : ∀ i y, y ∈ nb i → adj (f i) (f y)
theorem Blk.from {F : P → Prop} {f : Nat → P} (b : Blk F f) {s : Nat} (r : RN s) : s / 36 < 6 ∧ R3 F (f 0, f 1, f 2) (f (s / 36), f (s / 6 % 6), f (s % 6)) := by
  induction r with
  | start => exact ⟨by decide, .refl _⟩
  | @step s y _ hy ih =>
    obtain ⟨h1, r⟩ := ih
    obtain ⟨_, h2⟩ := nb_lt hy
    have hp : s / 6 % 6 < 6 := Nat.mod_lt _ (by decide)
    have hq : s % 6 < 6 := Nat.mod_lt _ (by decide)
    have r2 := R3.step (f y) r (b.mem y h2) (b.adj _ _ hy)
    have one : ∀ a, a < 6 → sw (f (s / 36)) (f y) (f a) = f (if a = y then s / 36 else a) := by
      intro a ha
      by_cases c : a = y
      · rw [c, if_pos rfl, sw_eq]
      · rw [if_neg c, sw_ne (fun z => c (b.inj _ _ ha h2 z))]
    have l1 : (if s / 6 % 6 = y then s / 36 else s / 6 % 6) < 6 := by split <;> omega
    have l2 : (if s % 6 = y then s / 36 else s % 6) < 6 := by split <;> omega
    have e1 : mvN s y / 36 = y := by
      unfold mvN
      generalize (if s / 6 % 6 = y then s / 36 else s / 6 % 6) = u at l1
      generalize (if s % 6 = y then s / 36 else s % 6) = v at l2
      omega
    have e2 : mvN s y / 6 % 6 = (if s / 6 % 6 = y then s / 36 else s / 6 % 6) := by
      unfold mvN
      generalize (if s / 6 % 6 = y then s / 36 else s / 6 % 6) = u at l1
      generalize (if s % 6 = y then s / 36 else s % 6) = v at l2
      omega
    have e3 : mvN s y % 6 = (if s % 6 = y then s / 36 else s % 6) := by
      unfold mvN
      generalize (if s / 6 % 6 = y then s / 36 else s / 6 % 6) = u at l1
      generalize (if s % 6 = y then s / 36 else s % 6) = v at l2
      omega
    rw [e1, e2, e3]
    refine ⟨h2, ?_⟩
    have e4 : mv (f (s / 36), f (s / 6 % 6), f (s % 6)) (f y) = (f y, f (if s / 6 % 6 = y then s / 36 else s / 6 % 6), f (if s % 6 = y then s / 36 else s % 6)) := by
      show (f y, sw (f (s / 36)) (f y) (f (s / 6 % 6)), sw (f (s / 36)) (f y) (f (s % 6))) = _
      rw [one _ hp, one _ hq]
    rw [e4] at r2
    exact r2
theorem Blk.conn {F : P → Prop} {f : Nat → P} (b : Blk F f) : Conn F := by
  have key : ∀ s, Ok F s → R3 F (f 0, f 1, f 2) s := by
    rintro ⟨e, p, q⟩ o
    obtain ⟨i, hi, rfl⟩ := b.on e o.e
    obtain ⟨j, hj, rfl⟩ := b.on p o.p
    obtain ⟨k, hk, rfl⟩ := b.on q o.q
    have o1 : f i ≠ f j := o.ep
    have o2 : f i ≠ f k := o.eq
    have o3 : f j ≠ f k := o.pq
    obtain ⟨_, r⟩ := b.from (rn_all hi hj hk (fun z => o1 (by rw [z])) (fun z => o2 (by rw [z])) (fun z => o3 (by rw [z])))
    have d1 : (i * 36 + j * 6 + k) / 36 = i := by omega
    have d2 : (i * 36 + j * 6 + k) / 6 % 6 = j := by omega
    have d3 : (i * 36 + j * 6 + k) % 6 = k := by omega
    rw [d1, d2, d3] at r
    exact r
  have o0 : Ok F (f 0, f 1, f 2) := ⟨b.mem 0 (by decide), b.mem 1 (by decide), b.mem 2 (by decide), fun z => absurd (b.inj 0 1 (by decide) (by decide) z) (by decide), fun z => absurd (b.inj 0 2 (by decide) (by decide) z) (by decide), fun z => absurd (b.inj 1 2 (by decide) (by decide) z) (by decide)⟩
  intro s t os ot
  exact ((key s os).symm o0).trans (key t ot)
/-- two rows of three -/
theorem conn23 (r0 c0 : Nat) : Conn fun a => r0 ≤ a.1 ∧ a.1 < r0 + 2 ∧ c0 ≤ a.2 ∧ a.2 < c0 + 3 := by
  refine Blk.conn (f := fun i => (r0 + i / 3, c0 + i % 3)) ⟨fun i hi => ?_, fun i j hi hj e => ?_, fun a h => ?_, fun i y h => ?_⟩
  · show r0 ≤ r0 + i / 3 ∧ r0 + i / 3 < r0 + 2 ∧ c0 ≤ c0 + i % 3 ∧ c0 + i % 3 < c0 + 3
    omega
  · have e1 : r0 + i / 3 = r0 + j / 3 := congrArg Prod.fst e
    have e2 : c0 + i % 3 = c0 + j % 3 := congrArg Prod.snd e
    omega
  · obtain ⟨r, c⟩ := a
    dsimp only at h
    refine ⟨(r - r0) * 3 + (c - c0), by omega, ?_⟩
    have e1 : r0 + ((r - r0) * 3 + (c - c0)) / 3 = r := by omega
    have e2 : c0 + ((r - r0) * 3 + (c - c0)) % 3 = c := by omega
    show (r0 + ((r - r0) * 3 + (c - c0)) / 3, c0 + ((r - r0) * 3 + (c - c0)) % 3) = (r, c)
    rw [e1, e2]
  · have g := nb_grid h
    show adj (r0 + i / 3, c0 + i % 3) (r0 + y / 3, c0 + y % 3)
    unfold adj
    dsimp only
    omega
/-- three rows of two -/
theorem conn32 (r0 c0 : Nat) : Conn fun a => r0 ≤ a.1 ∧ a.1 < r0 + 3 ∧ c0 ≤ a.2 ∧ a.2 < c0 + 2 := by
  refine Blk.conn (f := fun i => (r0 + i % 3, c0 + i / 3)) ⟨fun i hi => ?_, fun i j hi hj e => ?_, fun a h => ?_, fun i y h => ?_⟩
  · show r0 ≤ r0 + i % 3 ∧ r0 + i % 3 < r0 + 3 ∧ c0 ≤ c0 + i / 3 ∧ c0 + i / 3 < c0 + 2
    omega
  · have e1 : r0 + i % 3 = r0 + j % 3 := congrArg Prod.fst e
    have e2 : c0 + i / 3 = c0 + j / 3 := congrArg Prod.snd e
    omega
  · obtain ⟨r, c⟩ := a
    dsimp only at h
    refine ⟨(c - c0) * 3 + (r - r0), by omega, ?_⟩
    have e1 : r0 + ((c - c0) * 3 + (r - r0)) % 3 = r := by omega
    have e2 : c0 + ((c - c0) * 3 + (r - r0)) / 3 = c := by omega
    show (r0 + ((c - c0) * 3 + (r - r0)) % 3, c0 + ((c - c0) * 3 + (r - r0)) / 3) = (r, c)
    rw [e1, e2]
  · have g := nb_grid h
    show adj (r0 + i % 3, c0 + i / 3) (r0 + y % 3, c0 + y / 3)
    unfold adj
    dsimp only
    omega
/-- the two last rows from a column on -/
def Low (R C c0 : Nat) (a : P) : Prop := R - 2 ≤ a.1 ∧ a.1 < R ∧ c0 ≤ a.2 ∧ a.2 < C
/-- from a place on, row by row -/
def Upp (R C r0 c0 : Nat) (a : P) : Prop := a.1 < R ∧ a.2 < C ∧ (r0 < a.1 ∨ (r0 = a.1 ∧ c0 ≤ a.2))
theorem low_conn {R C : Nat} (hR : 2 ≤ R) : ∀ (k c0 : Nat), c0 + 3 + k = C → Conn (Low R C c0)
  | 0, c0, e => by
    refine (conn23 (R - 2) c0).of_iff fun a => ?_
    unfold Low
    omega
  | k + 1, c0, e => by
    have ih := low_conn (R := R) (C := C) hR k (c0 + 1) (by omega)
    refine conn_two ih (x1 := (R - 2, c0)) (x2 := (R - 1, c0)) (y1 := (R - 2, c0 + 1)) (y2 := (R - 1, c0 + 1)) (z := (R - 1, c0 + 2)) ?_ ?_ ?_ ?_ ?_ ?_ ?_ ?_ ?_ ?_ ?_ ?_ fun a => ?_
    · unfold Low; dsimp only; omega
    · unfold Low; dsimp only; omega
    · intro h; have := congrArg Prod.fst h; dsimp only at this; omega
    · unfold Low; dsimp only; omega
    · unfold Low; dsimp only; omega
    · unfold Low; dsimp only; omega
    · intro h; have := congrArg Prod.fst h; dsimp only at this; omega
    · intro h; have := congrArg Prod.fst h; dsimp only at this; omega
    · intro h; have := congrArg Prod.snd h; dsimp only at this; omega
    · unfold adj; dsimp only; omega
    · unfold adj; dsimp only; omega
    · unfold adj; dsimp only; omega
    · obtain ⟨r, c⟩ := a
      rw [Prod.mk.injEq, Prod.mk.injEq]
      unfold Low
      dsimp only
      omega
/-- a row's end: the region from there on -/
theorem pair_conn {R C r : Nat} (hC : 2 ≤ C) (hr : r + 3 ≤ R) (h : Conn (Upp R C (r + 1) 0)) : Conn (Upp R C r (C - 2)) := by
  refine conn_two h (x1 := (r, C - 2)) (x2 := (r, C - 1)) (y1 := (r + 1, C - 2)) (y2 := (r + 1, C - 1)) (z := (r + 2, C - 1)) ?_ ?_ ?_ ?_ ?_ ?_ ?_ ?_ ?_ ?_ ?_ ?_ fun a => ?_
  · unfold Upp; dsimp only; omega
  · unfold Upp; dsimp only; omega
  · intro h; have := congrArg Prod.snd h; dsimp only at this; omega
  · unfold Upp; dsimp only; omega
  · unfold Upp; dsimp only; omega
  · unfold Upp; dsimp only; omega
  · intro h; have := congrArg Prod.snd h; dsimp only at this; omega
  · intro h; have := congrArg Prod.fst h; dsimp only at this; omega
  · intro h; have := congrArg Prod.fst h; dsimp only at this; omega
  · unfold adj; dsimp only; omega
  · unfold adj; dsimp only; omega
  · unfold adj; dsimp only; omega
  · obtain ⟨r', c⟩ := a
    rw [Prod.mk.injEq, Prod.mk.injEq]
    unfold Upp
    dsimp only
    omega
theorem row_conn {R C r : Nat} (hC : 2 ≤ C) (hr : r + 3 ≤ R) (h : Conn (Upp R C (r + 1) 0)) : ∀ (k c : Nat), c + 2 + k = C → Conn (Upp R C r c)
  | 0, c, e => by
    have e2 : c = C - 2 := by omega
    rw [e2]
    exact pair_conn hC hr h
  | k + 1, c, e => by
    have ih := row_conn hC hr h k (c + 1) (by omega)
    refine conn_one ih (x := (r, c)) (y1 := (r, c + 1)) (y2 := (r + 1, c)) (z := (r + 1, c + 1)) ?_ ?_ ?_ ?_ ?_ ?_ ?_ ?_ ?_ fun a => ?_
    · unfold Upp; dsimp only; omega
    · unfold Upp; dsimp only; omega
    · unfold Upp; dsimp only; omega
    · unfold Upp; dsimp only; omega
    · intro h; have := congrArg Prod.fst h; dsimp only at this; omega
    · intro h; have := congrArg Prod.fst h; dsimp only at this; omega
    · intro h; have := congrArg Prod.snd h; dsimp only at this; omega
    · unfold adj; dsimp only; omega
    · unfold adj; dsimp only; omega
    · obtain ⟨r', c'⟩ := a
      rw [Prod.mk.injEq]
      unfold Upp
      dsimp only
      omega
/-- whole rows from r on -/
theorem rows_conn {R C : Nat} (hC : 2 ≤ C) : ∀ (k r : Nat), r + 3 + k = R → Conn (Upp R C r 0)
  | 0, r, e => by
    by_cases h2 : C = 2
    · refine (conn32 r 0).of_iff fun a => ?_
      unfold Upp
      omega
    · have h := low_conn (R := R) (C := C) (by omega) (C - 3) 0 (by omega)
      have h' : Conn (Upp R C (r + 1) 0) := h.of_iff fun a => by
        unfold Low Upp
        omega
      exact row_conn hC (by omega) h' (C - 2) 0 (by omega)
  | k + 1, r, e => row_conn hC (by omega) (rows_conn hC k (r + 1) (by omega)) (C - 2) 0 (by omega)
/-- every region from a place of the upper rows on -/
theorem upp_conn {R C r c : Nat} (hr : r + 3 ≤ R) (hc : c + 2 ≤ C) : Conn (Upp R C r c) := by
  by_cases h : r + 3 = R
  · by_cases h2 : C = 2
    · have hc0 : c = 0 := by omega
      subst hc0
      exact rows_conn (by omega) 0 r (by omega)
    · have h0 := low_conn (R := R) (C := C) (by omega) (C - 3) 0 (by omega)
      have h' : Conn (Upp R C (r + 1) 0) := h0.of_iff fun a => by
        unfold Low Upp
        omega
      exact row_conn (by omega) (by omega) h' (C - 2 - c) c (by omega)
  · exact row_conn (by omega) (by omega) (rows_conn (by omega) (R - r - 4) (r + 1) (by omega)) (C - 2 - c) c (by omega)
end Bf
/-! Standings as lists: the empty place, then the pieces -/
namespace Bf
def mvL : List P → P → List P
  | [], _ => []
  | e :: r, y => y :: r.map (sw e y)
inductive RL (F : P → Prop) : List P → List P → Prop
  | refl (s) : RL F s s
  | step {s : List P} {e : P} {r : List P} (y : P) : RL F s (e :: r) → F y → adj e y → RL F s (mvL (e :: r) y)
theorem R3.l3 {F : P → Prop} {s t : S3} (r : R3 F s t) : RL F [s.1, s.2.1, s.2.2] [t.1, t.2.1, t.2.2] := by
  induction r with
  | refl => exact .refl _
  | step y _ h1 h2 ih => exact .step y ih h1 h2
theorem R3.l2 {F : P → Prop} {s t : S3} (r : R3 F s t) : RL F [s.1, s.2.1] [t.1, t.2.1] := by
  induction r with
  | refl => exact .refl _
  | step y _ h1 h2 ih => exact .step y ih h1 h2
theorem goal1 {F : P → Prop} (c : Conn F) {a1 a2 a3 e p g : P} (h1 : F a1) (h2 : F a2) (h3 : F a3) (n12 : a1 ≠ a2) (n13 : a1 ≠ a3) (n23 : a2 ≠ a3) (he : F e) (hp : F p) (hep : e ≠ p) (hg : F g) : ∃ e', RL F [e, p] [e', g] := by
  obtain ⟨q, fq, q1, q2⟩ := pick3 h1 h2 h3 n12 n13 n23 e p
  obtain ⟨e', fe', e1, _⟩ := pick3 h1 h2 h3 n12 n13 n23 g g
  obtain ⟨q', fq', q1', q2'⟩ := pick3 h1 h2 h3 n12 n13 n23 e' g
  exact ⟨e', R3.l2 (c (e, p, q) (e', g, q') ⟨he, hp, fq, hep, fun k => q1 k.symm, fun k => q2 k.symm⟩ ⟨fe', hg, fq', e1, fun k => q1' k.symm, fun k => q2' k.symm⟩)⟩
theorem goal2 {F : P → Prop} (c : Conn F) {a1 a2 a3 e p q g1 g2 : P} (h1 : F a1) (h2 : F a2) (h3 : F a3) (n12 : a1 ≠ a2) (n13 : a1 ≠ a3) (n23 : a2 ≠ a3) (he : F e) (hp : F p) (hq : F q) (hep : e ≠ p) (heq : e ≠ q) (hpq : p ≠ q) (hg1 : F g1) (hg2 : F g2) (hg : g1 ≠ g2) : ∃ e', RL F [e, p, q] [e', g1, g2] := by
  obtain ⟨e', fe', e1, e2⟩ := pick3 h1 h2 h3 n12 n13 n23 g1 g2
  exact ⟨e', R3.l3 (c (e, p, q) (e', g1, g2) ⟨he, hp, hq, hep, heq, hpq⟩ ⟨fe', hg1, hg2, e1, e2, hg⟩)⟩
/-! ### the last four places -/
def nb4 (i : Nat) : List Nat := [[1, 2], [0, 3], [0, 3], [1, 2]].getD i []
def mvN4 : List Nat → Nat → List Nat
  | [], _ => []
  | e :: r, y => y :: r.map fun a => if a = y then e else a
def fresh4 (seen : List (List Nat)) : List (List Nat) → List (List Nat) → List (List Nat)
  | [], acc => acc
  | t :: r, acc => fresh4 seen r (if seen.contains t || acc.contains t then acc else t :: acc)
def bfs4 : Nat → List (List Nat) → List (List Nat) → List (List Nat)
  | 0, _, seen => seen
  | n + 1, fr, seen => bfs4 n (fresh4 seen (fr.flatMap fun s => (nb4 (s.headD 9)).map (mvN4 s)) []) (fresh4 seen (fr.flatMap fun s => (nb4 (s.headD 9)).map (mvN4 s)) [] ++ seen)
inductive RN4 (s0 : List Nat) : List Nat → Prop
  | start : RN4 s0 s0
  | step {s : List Nat} (y : Nat) : RN4 s0 s → y ∈ nb4 (s.headD 9) → RN4 s0 (mvN4 s y)
theorem fresh4_mem {seen : List (List Nat)} : ∀ (l acc : List (List Nat)) {t : List Nat}, t ∈ fresh4 seen l acc → t ∈ l ∨ t ∈ acc
  | [], acc, t, h => .inr h
  | x :: r, acc, t, h => by
    rcases fresh4_mem r _ h with k | k
    · exact .inl (List.mem_cons_of_mem _ k)
    · split at k
      · exact .inr k
      · rcases List.mem_cons.mp k with rfl | k
        · exact .inl List.mem_cons_self
        · exact .inr k
theorem bfs4_sound {s0 : List Nat} : ∀ (n : Nat) (fr seen : List (List Nat)), (∀ s ∈ fr, RN4 s0 s) → (∀ s ∈ seen, RN4 s0 s) → ∀ t ∈ bfs4 n fr seen, RN4 s0 t
  | 0, fr, seen, _, h, t, ht => h t ht
  | n + 1, fr, seen, hf, h, t, ht => by
    have hn : ∀ s ∈ fresh4 seen (fr.flatMap fun s => (nb4 (s.headD 9)).map (mvN4 s)) [], RN4 s0 s := by
      intro s hs
      rcases fresh4_mem _ _ hs with k | k
      · obtain ⟨a, ha, hb⟩ := List.mem_flatMap.mp k
        obtain ⟨y, hy, rfl⟩ := List.mem_map.mp hb
        exact .step y (hf a ha) hy
      · cases k
    refine bfs4_sound n _ _ hn (fun s hs => ?_) t ht
    rcases List.mem_append.mp hs with k | k
    · exact hn s k
    · exact h s k
def goes4 (e p q w : Nat) : Bool := (bfs4 14 [[e, p, q, w]] [[e, p, q, w]]).contains [3, 0, 1, 2] || (bfs4 14 [[e, p, q, w]] [[e, p, q, w]]).contains [3, 1, 0, 2]
theorem all4b : ((List.range 256).all fun n => (n / 64 == n / 16 % 4) || (n / 64 == n / 4 % 4) || (n / 64 == n % 4) || (n / 16 % 4 == n / 4 % 4) || (n / 16 % 4 == n % 4) || (n / 4 % 4 == n % 4) || goes4 (n / 64) (n / 16 % 4) (n / 4 % 4) (n % 4)) = true := by decide +kernel
theorem all4 {e p q w : Nat} (he : e < 4) (hp : p < 4) (hq : q < 4) (hw : w < 4) (h1 : e ≠ p) (h2 : e ≠ q) (h3 : e ≠ w) (h4 : p ≠ q) (h5 : p ≠ w) (h6 : q ≠ w) : goes4 e p q w = true := by
  have h := List.all_eq_true.mp all4b (e * 64 + p * 16 + q * 4 + w) (List.mem_range.mpr (by omega))
  have d1 : (e * 64 + p * 16 + q * 4 + w) / 64 = e := by omega
  have d2 : (e * 64 + p * 16 + q * 4 + w) / 16 % 4 = p := by omega
  have d3 : (e * 64 + p * 16 + q * 4 + w) / 4 % 4 = q := by omega
  have d4 : (e * 64 + p * 16 + q * 4 + w) % 4 = w := by omega
  rw [d1, d2, d3, d4, beq_false_of_ne h1, beq_false_of_ne h2, beq_false_of_ne h3, beq_false_of_ne h4, beq_false_of_ne h5, beq_false_of_ne h6] at h
  simp only [Bool.false_or] at h
  exact h
theorem nb4_lt {i y : Nat} (h : y ∈ nb4 i) : i < 4 ∧ y < 4 := by
  match i, h with
  | 0, h => exact (by decide : ∀ y ∈ nb4 0, 0 < 4 ∧ y < 4) y h
  | 1, h => exact (by decide : ∀ y ∈ nb4 1, 1 < 4 ∧ y < 4) y h
  | 2, h => exact (by decide : ∀ y ∈ nb4 2, 2 < 4 ∧ y < 4) y h
  | 3, h => exact (by decide : ∀ y ∈ nb4 3, 3 < 4 ∧ y < 4) y h
  | i + 4, h => exact nomatch h
theorem nb4_grid {i y : Nat} (h : y ∈ nb4 i) : (i / 2 = y / 2 ∧ (i % 2 = y % 2 + 1 ∨ y % 2 = i % 2 + 1)) ∨ (i % 2 = y % 2 ∧ (i / 2 = y / 2 + 1 ∨ y / 2 = i / 2 + 1)) := by
  match i, h with
  | 0, h => exact (by decide : ∀ y ∈ nb4 0, (0 / 2 = y / 2 ∧ (0 % 2 = y % 2 + 1 ∨ y % 2 = 0 % 2 + 1)) ∨ (0 % 2 = y % 2 ∧ (0 / 2 = y / 2 + 1 ∨ y / 2 = 0 / 2 + 1))) y h
  | 1, h => exact (by decide : ∀ y ∈ nb4 1, (1 / 2 = y / 2 ∧ (1 % 2 = y % 2 + 1 ∨ y % 2 = 1 % 2 + 1)) ∨ (1 % 2 = y % 2 ∧ (1 / 2 = y / 2 + 1 ∨ y / 2 = 1 / 2 + 1))) y h
  | 2, h => exact (by decide : ∀ y ∈ nb4 2, (2 / 2 = y / 2 ∧ (2 % 2 = y % 2 + 1 ∨ y % 2 = 2 % 2 + 1)) ∨ (2 % 2 = y % 2 ∧ (2 / 2 = y / 2 + 1 ∨ y / 2 = 2 / 2 + 1))) y h
  | 3, h => exact (by decide : ∀ y ∈ nb4 3, (3 / 2 = y / 2 ∧ (3 % 2 = y % 2 + 1 ∨ y % 2 = 3 % 2 + 1)) ∨ (3 % 2 = y % 2 ∧ (3 / 2 = y / 2 + 1 ∨ y / 2 = 3 / 2 + 1))) y h
  | i + 4, h => exact nomatch h
/-- the four places from (r0, c0) on -/
def Last (r0 c0 : Nat) (a : P) : Prop := r0 ≤ a.1 ∧ a.1 < r0 + 2 ∧ c0 ≤ a.2 ∧ a.2 < c0 + 2
def f4 (r0 c0 i : Nat) : P := (r0 + i / 2, c0 + i % 2)
theorem f4_inj {r0 c0 i j : Nat} (h : f4 r0 c0 i = f4 r0 c0 j) : i = j := by
  have e1 : r0 + i / 2 = r0 + j / 2 := congrArg Prod.fst h
  have e2 : c0 + i % 2 = c0 + j % 2 := congrArg Prod.snd h
  omega
theorem f4_on {r0 c0 : Nat} {a : P} (h : Last r0 c0 a) : ∃ i, i < 4 ∧ f4 r0 c0 i = a := by
  obtain ⟨r, c⟩ := a
  unfold Last at h
  dsimp only at h
  refine ⟨(r - r0) * 2 + (c - c0), by omega, ?_⟩
  have e1 : r0 + ((r - r0) * 2 + (c - c0)) / 2 = r := by omega
  have e2 : c0 + ((r - r0) * 2 + (c - c0)) % 2 = c := by omega
  show (r0 + ((r - r0) * 2 + (c - c0)) / 2, c0 + ((r - r0) * 2 + (c - c0)) % 2) = (r, c)
  rw [e1, e2]
theorem from4 {r0 c0 : Nat} {s0 s : List Nat} (r : RN4 s0 s) : RL (Last r0 c0) (s0.map (f4 r0 c0)) (s.map (f4 r0 c0)) := by
  induction r with
  | start => exact .refl _
  | @step s y _ hy ih =>
    match s, hy, ih with
    | [], hy, _ => exact nomatch hy
    | e :: t, hy, ih =>
      obtain ⟨h1, h2⟩ := nb4_lt hy
      have g := nb4_grid hy
      have ad : adj (f4 r0 c0 e) (f4 r0 c0 y) := by
        have g : (e / 2 = y / 2 ∧ (e % 2 = y % 2 + 1 ∨ y % 2 = e % 2 + 1)) ∨ (e % 2 = y % 2 ∧ (e / 2 = y / 2 + 1 ∨ y / 2 = e / 2 + 1)) := g
        unfold adj f4
        dsimp only
        omega
      have r2 := RL.step (F := Last r0 c0) (f4 r0 c0 y) ih (by unfold Last f4; dsimp only; omega) ad
      have e2 : mvL (f4 r0 c0 e :: t.map (f4 r0 c0)) (f4 r0 c0 y) = (mvN4 (e :: t) y).map (f4 r0 c0) := by
        show f4 r0 c0 y :: (t.map (f4 r0 c0)).map (sw (f4 r0 c0 e) (f4 r0 c0 y)) = f4 r0 c0 y :: (t.map fun a => if a = y then e else a).map (f4 r0 c0)
        rw [List.map_map, List.map_map]
        refine congrArg _ (List.map_congr_left fun a _ => ?_)
        show sw (f4 r0 c0 e) (f4 r0 c0 y) (f4 r0 c0 a) = f4 r0 c0 (if a = y then e else a)
        by_cases k : a = y
        · rw [k, if_pos rfl, sw_eq]
        · rw [if_neg k, sw_ne (fun z => k (f4_inj z))]
      rw [e2] at r2
      exact r2
theorem last4 {r0 c0 : Nat} {e p q w : P} (he : Last r0 c0 e) (hp : Last r0 c0 p) (hq : Last r0 c0 q) (hw : Last r0 c0 w) (h1 : e ≠ p) (h2 : e ≠ q) (h3 : e ≠ w) (h4 : p ≠ q) (h5 : p ≠ w) (h6 : q ≠ w) :
    RL (Last r0 c0) [e, p, q, w] [(r0 + 1, c0 + 1), (r0, c0), (r0, c0 + 1), (r0 + 1, c0)] ∨ RL (Last r0 c0) [e, p, q, w] [(r0 + 1, c0 + 1), (r0, c0 + 1), (r0, c0), (r0 + 1, c0)] := by
  obtain ⟨i, hi, rfl⟩ := f4_on he
  obtain ⟨j, hj, rfl⟩ := f4_on hp
  obtain ⟨k, hk, rfl⟩ := f4_on hq
  obtain ⟨l, hl, rfl⟩ := f4_on hw
  have h := all4 hi hj hk hl (fun z => h1 (by rw [z])) (fun z => h2 (by rw [z])) (fun z => h3 (by rw [z])) (fun z => h4 (by rw [z])) (fun z => h5 (by rw [z])) (fun z => h6 (by rw [z]))
  have snd : ∀ t, (bfs4 14 [[i, j, k, l]] [[i, j, k, l]]).contains t = true → RN4 [i, j, k, l] t := fun t ht =>
    bfs4_sound 14 _ _ (fun s hs => by rw [List.mem_singleton.mp hs]; exact .start) (fun s hs => by rw [List.mem_singleton.mp hs]; exact .start) _ (List.contains_iff_mem.mp ht)
  rcases (Bool.or_eq_true _ _).mp h with h | h
  · exact .inl (from4 (r0 := r0) (c0 := c0) (snd _ h))
  · exact .inr (from4 (r0 := r0) (c0 := c0) (snd _ h))
theorem RL.mono {F G : P → Prop} (h : ∀ a, F a → G a) {s t : List P} (r : RL F s t) : RL G s t := by
  induction r with
  | refl => exact .refl _
  | step y _ h1 h2 ih => exact .step y ih (h y h1) h2
end Bf
/-! Slides by letters; the groups in which places are settled -/
namespace Bf
open Tr
/-- a place that is not settled -/
def Fr (R C : Nat) (S : List P) (a : P) : Prop := a.1 < R ∧ a.2 < C ∧ a ∉ S
theorem adj_nxt {R C : Nat} {e y : P} (h : adj e y) (h1 : y.1 < R) (h2 : y.2 < C) : ∃ w, okL w ∧ nxt R C e.1 e.2 w = some y := by
  obtain ⟨r, c⟩ := e
  obtain ⟨r', c'⟩ := y
  unfold adj at h
  dsimp only at h h1 h2 ⊢
  have go : ∀ w, okL w → (r' : Int) = r + (stp w).1 → (c' : Int) = c + (stp w).2 → ∃ w, okL w ∧ nxt R C r c w = some (r', c') := fun w hw e1 e2 => by
    refine ⟨w, hw, ?_⟩
    rw [nxt_some (by omega)]
    have x1 : ((r : Int) + (stp w).1).toNat = r' := by omega
    have x2 : ((c : Int) + (stp w).2).toNat = c' := by omega
    rw [x1, x2]
  rcases h with ⟨e1, e2 | e2⟩ | ⟨e1, e2 | e2⟩
  · exact go 108 (by decide) (by show (r' : Int) = r + 0; omega) (by show (c' : Int) = c + -1; omega)
  · exact go 114 (by decide) (by show (r' : Int) = r + 0; omega) (by show (c' : Int) = c + 1; omega)
  · exact go 117 (by decide) (by show (r' : Int) = r + -1; omega) (by show (c' : Int) = c + 0; omega)
  · exact go 100 (by decide) (by show (r' : Int) = r + 1; omega) (by show (c' : Int) = c + 0; omega)
/-- one slide of a standing, among the places that are not settled -/
def stW (R C : Nat) (S : List P) : List P → Nat → Option (List P)
  | [], _ => none
  | e :: r, w => (nxt R C e.1 e.2 w).bind fun y => if y ∈ S then none else some (y :: r.map (sw e y))
def goW (R C : Nat) (S : List P) : List P → List Nat → Option (List P)
  | s, [] => some s
  | s, w :: r => (stW R C S s w).bind fun t => goW R C S t r
theorem goW_snoc {R C : Nat} {S : List P} : ∀ {ws : List Nat} {s t : List P} {w : Nat}, goW R C S s ws = some t → goW R C S s (ws ++ [w]) = stW R C S t w
  | [], s, t, w, h => by
    have e := Option.some.inj h
    subst e
    show (stW R C S s w).bind (fun t => some t) = stW R C S s w
    cases stW R C S s w <;> rfl
  | x :: r, s, t, w, h => by
    have h : (stW R C S s x).bind (fun t => goW R C S t r) = some t := h
    show (stW R C S s x).bind (fun t => goW R C S t (r ++ [w])) = stW R C S t w
    cases e : stW R C S s x with
    | none => rw [e] at h; cases h
    | some u =>
      rw [e] at h
      exact goW_snoc (ws := r) h
def Closed (R C : Nat) (S : List P) (ks : List (List P)) : Prop := ∀ k ∈ ks, ∀ w, okL w → ∀ t, stW R C S k w = some t → t ∈ ks
theorem Closed.all {R C : Nat} {S : List P} {ks : List (List P)} (c : Closed R C S ks) {s t : List P} (h : s ∈ ks) (r : RL (Fr R C S) s t) : t ∈ ks := by
  induction r with
  | refl => exact h
  | @step e r y _ h1 h2 ih =>
    obtain ⟨w, hw, hn⟩ := adj_nxt h2 h1.1 h1.2.1
    refine c _ ih w hw _ ?_
    show (nxt R C e.1 e.2 w).bind _ = _
    rw [hn]
    show (if y ∈ S then none else some (y :: r.map (sw e y))) = some (mvL (e :: r) y)
    rw [if_neg h1.2.2]
    rfl
/-! ### the groups -/
def groupsM (R C : Nat) : List (List P) :=
  ((List.range (R - 2)).flatMap fun r => ((List.range (C - 2)).map fun c => [(r, c)]) ++ [[(r, C - 2), (r, C - 1)]]) ++ ((List.range (C - 2)).map fun c => [(R - 2, c), (R - 1, c)]) ++ [[(R - 2, C - 2), (R - 2, C - 1), (R - 1, C - 2)]]
def cellsM (R C : Nat) : List P := (List.range R).flatMap fun r => (List.range C).map fun c => (r, c)
theorem mem_cells {R C : Nat} {a : P} : a ∈ cellsM R C ↔ a.1 < R ∧ a.2 < C := by
  obtain ⟨r, c⟩ := a
  unfold cellsM
  rw [List.mem_flatMap]
  constructor
  · rintro ⟨r', h1, h2⟩
    obtain ⟨c', h3, e⟩ := List.mem_map.mp h2
    cases e
    exact ⟨List.mem_range.mp h1, List.mem_range.mp h3⟩
  · rintro ⟨h1, h2⟩
    exact ⟨r, List.mem_range.mpr h1, List.mem_map.mpr ⟨c, List.mem_range.mpr h2, rfl⟩⟩
def uppB (R C r0 c0 : Nat) (a : P) : Bool := decide (a.1 < R ∧ a.2 < C ∧ (r0 < a.1 ∨ (r0 = a.1 ∧ c0 ≤ a.2)))
def lowB (R C c0 : Nat) (a : P) : Bool := decide (R - 2 ≤ a.1 ∧ a.1 < R ∧ c0 ≤ a.2 ∧ a.2 < C)
def lastB (r0 c0 : Nat) (a : P) : Bool := decide (r0 ≤ a.1 ∧ a.1 < r0 + 2 ∧ c0 ≤ a.2 ∧ a.2 < c0 + 2)
def same (R C : Nat) (S : List P) (f : P → Bool) : Bool := (cellsM R C).all fun a => (!S.contains a) == f a
/-- a group stands first in what is not settled -/
def chk (R C : Nat) (S : List P) : List P → Bool
  | [a] => decide (a.1 + 3 ≤ R) && decide (a.2 + 2 ≤ C) && same R C S (uppB R C a.1 a.2)
  | [a, b] => (decide (a.1 + 3 ≤ R) && decide (a.2 + 2 = C) && (b == (a.1, a.2 + 1)) && same R C S (uppB R C a.1 a.2)) ||
      (decide (2 ≤ R) && decide (a.1 = R - 2) && decide (a.2 + 3 ≤ C) && (b == (a.1 + 1, a.2)) && same R C S (lowB R C a.2))
  | [a, b, d] => decide (a.1 + 2 = R) && decide (a.2 + 2 = C) && (b == (a.1, a.2 + 1)) && (d == (a.1 + 1, a.2)) && same R C S (lastB a.1 a.2)
  | _ => false
theorem same_fr {R C : Nat} {S : List P} {f : P → Bool} {G : P → Prop} (h : same R C S f = true) (hG : ∀ a, a.1 < R → a.2 < C → (f a = true ↔ G a)) (hb : ∀ a, G a → a.1 < R ∧ a.2 < C) : ∀ a, G a ↔ Fr R C S a := by
  intro a
  have key : a.1 < R → a.2 < C → (a ∉ S ↔ f a = true) := fun h1 h2 => by
    have k := List.all_eq_true.mp h a (mem_cells.mpr ⟨h1, h2⟩)
    have k : (!S.contains a) = f a := beq_iff_eq.mp k
    rw [← k, Bool.not_eq_true', ← Bool.not_eq_true, List.contains_iff_mem]
  constructor
  · intro g
    obtain ⟨h1, h2⟩ := hb a g
    exact ⟨h1, h2, (key h1 h2).mpr ((hG a h1 h2).mpr g)⟩
  · rintro ⟨h1, h2, h3⟩
    exact (hG a h1 h2).mp ((key h1 h2).mp h3)
theorem upp_fr {R C r c : Nat} {S : List P} (h : same R C S (uppB R C r c) = true) : ∀ a, Upp R C r c a ↔ Fr R C S a :=
  same_fr h (fun a _ _ => decide_eq_true_iff) fun a g => ⟨g.1, g.2.1⟩
theorem low_fr {R C c : Nat} {S : List P} (h : same R C S (lowB R C c) = true) : ∀ a, Low R C c a ↔ Fr R C S a :=
  same_fr h (fun a _ _ => decide_eq_true_iff) fun a g => ⟨g.2.1, g.2.2.2⟩
theorem last_fr {R C r c : Nat} {S : List P} (hr : r + 2 = R) (hc : c + 2 = C) (h : same R C S (lastB r c) = true) : ∀ a, Last r c a ↔ Fr R C S a :=
  same_fr h (fun a _ _ => decide_eq_true_iff) fun a g => by
    unfold Last at g
    omega
/-- the last two pieces of three stand exchanged -/
def swp : List P → List P
  | [a, b, d] => [b, a, d]
  | l => l
/-- a group's pieces come to its places; of the last one two may come exchanged -/
theorem reach {R C : Nat} {S g : List P} (hk : chk R C S g = true) {e : P} {ps : List P} (hl : ps.length = g.length) (hF : ∀ a ∈ e :: ps, Fr R C S a) (hn : (e :: ps).Nodup) :
    (∃ e', RL (Fr R C S) (e :: ps) (e' :: g)) ∨ (g.length = 3 ∧ ∃ e', RL (Fr R C S) (e :: ps) (e' :: swp g)) := by
  match g, hk, hl with
  | [], hk, _ => exact nomatch hk
  | [a], hk, hl =>
    match ps, hl, hF, hn with
    | [p], _, hF, hn =>
      simp only [chk, Bool.and_eq_true, decide_eq_true_eq] at hk
      obtain ⟨⟨h1, h2⟩, h3⟩ := hk
      have fr := upp_fr h3
      have c := (upp_conn h1 h2).of_iff fr
      have ne : e ≠ p := fun z => by simp [z] at hn
      refine .inl (goal1 c (a1 := (a.1 + 1, C - 2)) (a2 := (a.1 + 1, C - 1)) (a3 := (a.1 + 2, C - 1)) ?_ ?_ ?_ ?_ ?_ ?_ (hF e (by simp)) (hF p (by simp)) ne ((fr a).mp ?_))
      · refine (fr _).mp ?_; unfold Upp; dsimp only; omega
      · refine (fr _).mp ?_; unfold Upp; dsimp only; omega
      · refine (fr _).mp ?_; unfold Upp; dsimp only; omega
      · intro z; have := congrArg Prod.snd z; dsimp only at this; omega
      · intro z; have := congrArg Prod.fst z; dsimp only at this; omega
      · intro z; have := congrArg Prod.fst z; dsimp only at this; omega
      · unfold Upp; omega
  | [a, b], hk, hl =>
    match ps, hl, hF, hn with
    | [p, q], _, hF, hn =>
      have n1 : e ≠ p := fun z => by simp [z] at hn
      have n2 : e ≠ q := fun z => by simp [z] at hn
      have n3 : p ≠ q := fun z => by simp [z] at hn
      simp only [chk, Bool.or_eq_true, Bool.and_eq_true, decide_eq_true_eq, beq_iff_eq] at hk
      rcases hk with ⟨⟨⟨h1, h2⟩, rfl⟩, h3⟩ | ⟨⟨⟨⟨h0, h1⟩, h2⟩, rfl⟩, h3⟩
      · have fr := upp_fr h3
        have c := (upp_conn h1 (by omega)).of_iff fr
        refine .inl (goal2 c (a1 := (a.1 + 1, C - 2)) (a2 := (a.1 + 1, C - 1)) (a3 := (a.1 + 2, C - 1)) ?_ ?_ ?_ ?_ ?_ ?_ (hF e (by simp)) (hF p (by simp)) (hF q (by simp)) n1 n2 n3 ((fr a).mp ?_) ((fr _).mp ?_) ?_)
        · refine (fr _).mp ?_; unfold Upp; dsimp only; omega
        · refine (fr _).mp ?_; unfold Upp; dsimp only; omega
        · refine (fr _).mp ?_; unfold Upp; dsimp only; omega
        · intro z; have := congrArg Prod.snd z; dsimp only at this; omega
        · intro z; have := congrArg Prod.fst z; dsimp only at this; omega
        · intro z; have := congrArg Prod.fst z; dsimp only at this; omega
        · unfold Upp; omega
        · unfold Upp; dsimp only; omega
        · intro z; have := congrArg Prod.snd z; dsimp only at this; omega
      · have fr := low_fr h3
        have c := (low_conn h0 (C - a.2 - 3) a.2 (by omega)).of_iff fr
        refine .inl (goal2 c (a1 := (R - 2, a.2)) (a2 := (R - 2, a.2 + 1)) (a3 := (R - 2, a.2 + 2)) ?_ ?_ ?_ ?_ ?_ ?_ (hF e (by simp)) (hF p (by simp)) (hF q (by simp)) n1 n2 n3 ((fr a).mp ?_) ((fr _).mp ?_) ?_)
        · refine (fr _).mp ?_; unfold Low; dsimp only; omega
        · refine (fr _).mp ?_; unfold Low; dsimp only; omega
        · refine (fr _).mp ?_; unfold Low; dsimp only; omega
        · intro z; have := congrArg Prod.snd z; dsimp only at this; omega
        · intro z; have := congrArg Prod.snd z; dsimp only at this; omega
        · intro z; have := congrArg Prod.snd z; dsimp only at this; omega
        · unfold Low; omega
        · unfold Low; dsimp only; omega
        · intro z; have := congrArg Prod.fst z; dsimp only at this; omega
  | [a, b, d], hk, hl =>
    match ps, hl, hF, hn with
    | [p, q, w], _, hF, hn =>
      have n1 : e ≠ p := fun z => by simp [z] at hn
      have n2 : e ≠ q := fun z => by simp [z] at hn
      have n3 : e ≠ w := fun z => by simp [z] at hn
      have n4 : p ≠ q := fun z => by simp [z] at hn
      have n5 : p ≠ w := fun z => by simp [z] at hn
      have n6 : q ≠ w := fun z => by simp [z] at hn
      simp only [chk, Bool.and_eq_true, decide_eq_true_eq, beq_iff_eq] at hk
      obtain ⟨⟨⟨⟨h1, h2⟩, rfl⟩, rfl⟩, h3⟩ := hk
      have fr := last_fr h1 h2 h3
      obtain ⟨r0, c0⟩ := a
      rcases last4 (r0 := r0) (c0 := c0) ((fr e).mpr (hF e (by simp))) ((fr p).mpr (hF p (by simp))) ((fr q).mpr (hF q (by simp))) ((fr w).mpr (hF w (by simp))) n1 n2 n3 n4 n5 n6 with r | r
      · exact .inl ⟨_, r.mono fun a => (fr a).mp⟩
      · exact .inr ⟨rfl, _, r.mono fun a => (fr a).mp⟩
  | a :: b :: d :: x :: l, hk, _ => exact nomatch hk
/-- every group, with what is settled ahead of it -/
def chkAll (R C : Nat) : Bool := (List.range (groupsM R C).length).all fun i => chk R C ((groupsM R C).take i).flatten ((groupsM R C).getD i [])
theorem chk_all : ((List.range 7).all fun R => (List.range 7).all fun C => decide (R < 2) || decide (C < 2) || chkAll R C) = true := by decide +kernel
theorem chk_at {R C i : Nat} {g : List P} (h1 : 2 ≤ R) (h2 : R ≤ 6) (h3 : 2 ≤ C) (h4 : C ≤ 6) (hg : (groupsM R C)[i]? = some g) : chk R C ((groupsM R C).take i).flatten g = true := by
  have k := List.all_eq_true.mp chk_all R (List.mem_range.mpr (by omega))
  have k := List.all_eq_true.mp k C (List.mem_range.mpr (by omega))
  rw [decide_eq_false (by omega : ¬ R < 2), decide_eq_false (by omega : ¬ C < 2)] at k
  simp only [Bool.false_or] at k
  have k := List.all_eq_true.mp k i (List.mem_range.mpr (List.getElem?_eq_some_iff.mp hg).1)
  have e : (groupsM R C).getD i [] = g := by rw [List.getD_eq_getElem?_getD, hg]; rfl
  rw [e] at k
  exact k
end Bf
/-! Standings and trays -/
namespace Bf
open Tr
theorem RL.way {R C : Nat} {S : List P} {s t : List P} (r : RL (Fr R C S) s t) : ∃ ws : List Nat, (∀ w ∈ ws, okL w) ∧ goW R C S s ws = some t := by
  induction r with
  | refl => exact ⟨[], (fun _ h => nomatch h), rfl⟩
  | @step e r y _ h1 h2 ih =>
    obtain ⟨ws, hk, hg⟩ := ih
    obtain ⟨w, hw, hn⟩ := adj_nxt h2 h1.1 h1.2.1
    refine ⟨ws ++ [w], fun x hx => ?_, ?_⟩
    · rcases List.mem_append.mp hx with k | k
      · exact hk x k
      · rw [List.mem_singleton.mp k]
        exact hw
    · rw [goW_snoc hg]
      show (nxt R C e.1 e.2 w).bind _ = _
      rw [hn]
      show (if y ∈ S then none else some (y :: r.map (sw e y))) = some (mvL (e :: r) y)
      rw [if_neg h1.2.2]
      rfl
abbrev ixc (C : Nat) (a : P) : Nat := a.1 * C + a.2
theorem ixc_inj {R C : Nat} {a b : P} (ha : a.2 < C) (hb : b.2 < C) (h : ixc C a = ixc C b) : a = b := by
  obtain ⟨e1, e2⟩ := ix_inj ha hb h
  exact Prod.ext e1 e2
theorem ixc_lt {R C : Nat} {a : P} (h1 : a.1 < R) (h2 : a.2 < C) : ixc C a < R * C := ix_lt h1 h2
/-- the standing tells where the empty place and the pieces of a tray are -/
structure Trk (R C : Nat) (S : List P) (s : Sl) (st : List P) (ps : List Int) : Prop where
  hd : ∃ r, st = s.2 :: r ∧ r.length = ps.length ∧ (∀ a ∈ r, Fr R C S a) ∧ ∀ (i : Nat) (a : P) (v : Int), r[i]? = some a → ps[i]? = some v → s.1 (ixc C a) = v
  e : s.2 ∉ S
  nz : ∀ v ∈ ps, v ≠ 0
theorem Trk.step {R C : Nat} {S : List P} {s : Sl} {st st' : List P} {ps : List Int} {w : Nat} (t : Trk R C S s st ps) (z : Zr R C s) (h : stW R C S st w = some st') :
    ∃ s', go1 R C s w = some s' ∧ Trk R C S s' st' ps ∧ ∀ a ∈ S, a.1 < R → a.2 < C → s'.1 (ixc C a) = s.1 (ixc C a) := by
  obtain ⟨⟨r, rfl, hl, hF, hv⟩, he, nz⟩ := t
  obtain ⟨f, e⟩ := s
  have h : (nxt R C e.1 e.2 w).bind (fun y => if y ∈ S then none else some (y :: r.map (sw e y))) = some st' := h
  cases hn : nxt R C e.1 e.2 w with
  | none => rw [hn] at h; cases h
  | some y =>
    rw [hn] at h
    have h : (if y ∈ S then none else some (y :: r.map (sw e y))) = some st' := h
    by_cases hy : y ∈ S
    · rw [if_pos hy] at h; cases h
    rw [if_neg hy] at h
    have h := Option.some.inj h
    subst h
    obtain ⟨y1, y2⟩ := y
    obtain ⟨_, _, hy1, hy2⟩ := nxt_eq hn
    have hg : go1 R C (f, e) w = some (put2 f (ixc C e) (ixc C (y1, y2)), y1, y2) := by
      unfold go1
      dsimp only
      rw [hn]
      rfl
    have zz : f (ixc C e) = 0 := z.z
    have ze1 : e.1 < R := z.r
    have ze2 : e.2 < C := z.c
    refine ⟨_, hg, ⟨⟨r.map (sw e (y1, y2)), rfl, by rw [List.length_map]; exact hl, fun a ha => ?_, fun i a v h1 h2 => ?_⟩, hy, nz⟩, fun a ha a1 a2 => ?_⟩
    · obtain ⟨b, hb, rfl⟩ := List.mem_map.mp ha
      unfold sw
      split
      · exact ⟨ze1, ze2, he⟩
      · exact hF b hb
    · rw [List.getElem?_map] at h1
      cases hb : r[i]? with
      | none => rw [hb] at h1; cases h1
      | some b =>
        rw [hb] at h1
        have h1 := Option.some.inj h1
        have fb := hv i b v hb h2
        have Fb := hF b (List.mem_of_getElem? hb)
        have v0 := nz v (List.mem_of_getElem? h2)
        have be : b ≠ e := fun k => v0 (by rw [← fb, k]; exact zz)
        subst h1
        show put2 f (ixc C e) (ixc C (y1, y2)) (ixc C (sw e (y1, y2) b)) = v
        have fb : f (ixc C b) = v := fb
        unfold sw put2
        by_cases k : b = (y1, y2)
        · rw [if_pos k, if_neg (fun q => ?_), if_pos rfl, ← k]
          · exact fb
          · have := ixc_inj (R := R) ze2 hy2 q
            exact be (k.trans this.symm)
        · rw [if_neg k, if_neg (fun q => k (ixc_inj (R := R) Fb.2.1 hy2 q)), if_neg (fun q => be (ixc_inj (R := R) Fb.2.1 ze2 q))]
          exact fb
    · show put2 f (ixc C e) (ixc C (y1, y2)) (ixc C a) = f (ixc C a)
      unfold put2
      rw [if_neg (fun q => hy ((ixc_inj (R := R) (b := (y1, y2)) a2 hy2 q) ▸ ha)), if_neg (fun q => he ((ixc_inj (R := R) (b := e) a2 ze2 q) ▸ ha))]
theorem Trk.all {R C : Nat} {S : List P} {ps : List Int} : ∀ {ws : List Nat} {s : Sl} {st st' : List P}, Trk R C S s st ps → Zr R C s → goW R C S st ws = some st' →
    ∃ s', goAll R C s ws = some s' ∧ Trk R C S s' st' ps ∧ ∀ a ∈ S, a.1 < R → a.2 < C → s'.1 (ixc C a) = s.1 (ixc C a)
  | [], s, st, st', t, z, h => by
    have e := Option.some.inj h
    subst e
    exact ⟨s, rfl, t, fun _ _ _ _ => rfl⟩
  | w :: ws, s, st, st', t, z, h => by
    have h : (stW R C S st w).bind (fun u => goW R C S u ws) = some st' := h
    cases e : stW R C S st w with
    | none => rw [e] at h; cases h
    | some u =>
      rw [e] at h
      obtain ⟨s1, g1, t1, k1⟩ := t.step z e
      obtain ⟨s2, g2, t2, k2⟩ := Trk.all t1 (go1_zr g1) h
      refine ⟨s2, ?_, t2, fun a ha a1 a2 => (k2 a ha a1 a2).trans (k1 a ha a1 a2)⟩
      show (go1 R C s w).bind (fun s' => goAll R C s' ws) = some s2
      rw [g1]
      exact g2
/-- what a walk keeps of a standing -/
theorem goW_keeps {R C : Nat} {S : List P} : ∀ {ws : List Nat} {s t : List P}, (∀ a ∈ s, Fr R C S a) → goW R C S s ws = some t → t.length = s.length ∧ ∀ a ∈ t, Fr R C S a
  | [], s, t, h, e => by
    have e := Option.some.inj e
    subst e
    exact ⟨rfl, h⟩
  | w :: ws, s, t, h, e => by
    have e : (stW R C S s w).bind (fun u => goW R C S u ws) = some t := e
    match s, h, e with
    | [], h, e => cases e
    | x :: r, h, e =>
      cases hn : nxt R C x.1 x.2 w with
      | none =>
        have k : stW R C S (x :: r) w = none := by
          show (nxt R C x.1 x.2 w).bind _ = none
          rw [hn]
          rfl
        rw [k] at e
        cases e
      | some y =>
        obtain ⟨y1, y2⟩ := y
        have k : stW R C S (x :: r) w = if (y1, y2) ∈ S then none else some ((y1, y2) :: r.map (sw x (y1, y2))) := by
          show (nxt R C x.1 x.2 w).bind _ = _
          rw [hn]
          rfl
        by_cases hy : (y1, y2) ∈ S
        · rw [if_pos hy] at k
          rw [k] at e
          cases e
        rw [if_neg hy] at k
        rw [k] at e
        obtain ⟨_, _, b1, b2⟩ := nxt_eq hn
        obtain ⟨l1, f1⟩ := goW_keeps (s := (y1, y2) :: r.map (sw x (y1, y2))) (fun a ha => by
          rcases List.mem_cons.mp ha with rfl | ha
          · exact ⟨b1, b2, hy⟩
          · obtain ⟨b, hb, rfl⟩ := List.mem_map.mp ha
            unfold sw
            split
            · exact h x List.mem_cons_self
            · exact h b (List.mem_cons_of_mem _ hb)) e
        refine ⟨?_, f1⟩
        rw [l1]
        simp
/-! ### a tray with two pieces exchanged is odd -/
theorem exch_odd {n : Nat} {f g : Fld} (hg : Full n g) {p q : Nat} (hp : p < n) (hq : q < n) (hne : p ≠ q) (h1 : f p = g q) (h2 : f q = g p) (h3 : ∀ k, k < n → k ≠ p → k ≠ q → f k = g k) : crossed n f g % 2 = 1 := by
  have hl : (List.range n).length = n := List.length_range
  have e : crossL n f g = ((List.range n).set p ((List.range n)[q]'(by rw [hl]; exact hq))).set q ((List.range n)[p]'(by rw [hl]; exact hp)) := by
    have pos : ∀ k, k < n → posOf n g (g k) = k := fun k hk => by
      have := posOf_get hg hg hk
      exact full_inj hg (posOf_lt hg hg hk) hk this
    apply List.ext_getElem
    · rw [crossL_len, List.length_set, List.length_set, hl]
    · intro i a b
      have hi : i < n := by rw [crossL_len] at a; exact a
      have e1 := crossL_get (f := f) (g := g) hi
      rw [List.getElem?_eq_getElem a] at e1
      rw [Option.some.inj e1]
      simp only [List.getElem_set, List.getElem_range]
      by_cases c1 : q = i
      · subst c1
        rw [if_pos rfl, h2, pos p hp]
      · rw [if_neg c1]
        by_cases c2 : p = i
        · subst c2
          rw [if_pos rfl, h1, pos q hq]
        · rw [if_neg c2, h3 i hi (fun z => c2 z.symm) (fun z => c1 z.symm), pos i hi]
  have k := inv_set_set (xs := List.range n) List.nodup_range hne (by rw [hl]; exact hp) (by rw [hl]; exact hq)
  rw [inv_range, ← e] at k
  unfold crossed
  omega
end Bf
/-! The search: each standing once, in the order in which it is found -/
namespace Bf
open Tr
theorem nodup_lt : ∀ (n : Nat) (l : List Nat), l.Nodup → (∀ x ∈ l, x < n) → l.length ≤ n
  | 0, l, _, h => by
    match l, h with
    | [], _ => exact Nat.le_refl _
    | x :: r, h => exact absurd (h x List.mem_cons_self) (Nat.not_lt_zero _)
  | n + 1, l, nd, h => by
    by_cases hn : n ∈ l
    · have h1 := List.length_erase_of_mem hn
      have ih := nodup_lt n (l.erase n) (nd.erase n) fun x hx => by
        have k := (nd.mem_erase_iff).mp hx
        have := h x k.2
        have := k.1
        omega
      have : 0 < l.length := List.length_pos_of_mem hn
      omega
    · have ih := nodup_lt n l nd fun x hx => by
        have := h x hx
        have : x ≠ n := fun e => hn (e ▸ hx)
        omega
      omega
/-- a standing as a number -/
def code (L : List P) : List P → Nat
  | [] => 0
  | a :: r => L.idxOf a + L.length * code L r
theorem code_lt {L : List P} : ∀ {k : List P}, (∀ a ∈ k, a ∈ L) → code L k < L.length ^ k.length
  | [], _ => by simp [code]
  | a :: r, h => by
    have ih := code_lt (L := L) (k := r) fun b hb => h b (List.mem_cons_of_mem _ hb)
    have h1 := List.idxOf_lt_length_of_mem (h a List.mem_cons_self)
    show L.idxOf a + L.length * code L r < L.length ^ (r.length + 1)
    have h2 : L.length * (code L r + 1) ≤ L.length * L.length ^ r.length := Nat.mul_le_mul_left _ ih
    rw [Nat.pow_succ, Nat.mul_comm (L.length ^ r.length)]
    rw [Nat.mul_add, Nat.mul_one] at h2
    omega
theorem code_inj {L : List P} : ∀ {k k' : List P}, (∀ a ∈ k, a ∈ L) → (∀ a ∈ k', a ∈ L) → k.length = k'.length → code L k = code L k' → k = k'
  | [], [], _, _, _, _ => rfl
  | a :: r, b :: r', h, h', hl, e => by
    have h1 := List.idxOf_lt_length_of_mem (h a List.mem_cons_self)
    have h2 := List.idxOf_lt_length_of_mem (h' b List.mem_cons_self)
    have e : L.idxOf a + L.length * code L r = L.idxOf b + L.length * code L r' := e
    have ea : L.idxOf a = L.idxOf b := by
      have k : (L.idxOf a + L.length * code L r) % L.length = (L.idxOf b + L.length * code L r') % L.length := congrArg (· % L.length) e
      rw [Nat.add_mul_mod_self_left, Nat.add_mul_mod_self_left, Nat.mod_eq_of_lt h1, Nat.mod_eq_of_lt h2] at k
      exact k
    have er : code L r = code L r' := by
      have hp : 0 < L.length := by omega
      rw [ea] at e
      exact Nat.eq_of_mul_eq_mul_left hp (Nat.add_left_cancel e)
    have e1 : a = b := by
      have g1 := List.getElem_idxOf h1
      have g2 := List.getElem_idxOf h2
      rw [← g1, ← g2]
      congr 1
    subst e1
    rw [code_inj (fun x hx => h x (List.mem_cons_of_mem _ hx)) (fun x hx => h' x (List.mem_cons_of_mem _ hx)) (by simpa using hl) er]
  | [], _ :: _, _, _, hl, _ => by simp at hl
  | _ :: _, [], _, _, hl, _ => by simp at hl
theorem keys_few {L : List P} {m : Nat} {ks : List (List P)} (nd : ks.Nodup) (h : ∀ k ∈ ks, k.length = m ∧ ∀ a ∈ k, a ∈ L) : ks.length ≤ L.length ^ m := by
  have e : (ks.map (code L)).length = ks.length := List.length_map ..
  rw [← e]
  refine nodup_lt _ _ ?_ ?_
  · unfold List.Nodup
    rw [List.pairwise_map]
    refine List.Pairwise.imp_of_mem ?_ nd
    intro a b ha hb hab e
    exact hab (code_inj (h a ha).2 (h b hb).2 ((h a ha).1.trans (h b hb).1.symm) e)
  · intro x hx
    obtain ⟨k, hk, rfl⟩ := List.mem_map.mp hx
    obtain ⟨h1, h2⟩ := h k hk
    rw [← h1]
    exact code_lt h2
/-- what stands between two turns: the standings, their slides; those ahead of `at` are done -/
structure BInv (R C : Nat) (S : List P) (start grp : List P) (at' : Nat) (ks : List (List P)) (tx : List (List Nat)) : Prop where
  len : tx.length = ks.length
  first : ks[0]? = some start
  nd : ks.Nodup
  way : ∀ (i : Nat) (k : List P) (ws : List Nat), ks[i]? = some k → tx[i]? = some ws → goW R C S start ws = some k ∧ ws.length ≤ i ∧ ∀ w ∈ ws, okL w
  no : ∀ (j : Nat) (k : List P), j < at' → ks[j]? = some k → k.tail ≠ grp
  done : ∀ (j : Nat) (k : List P), j < at' → ks[j]? = some k → ∀ w, okL w → ∀ t, stW R C S k w = some t → t ∈ ks
  le : at' ≤ ks.length
theorem BInv.mem {R C : Nat} {S start grp : List P} {at' : Nat} {ks : List (List P)} {tx : List (List Nat)} (b : BInv R C S start grp at' ks tx) (h0 : ∀ a ∈ start, Fr R C S a) {k : List P} (hk : k ∈ ks) : k.length = start.length ∧ ∀ a ∈ k, Fr R C S a := by
  obtain ⟨i, hi⟩ := List.mem_iff_getElem?.mp hk
  have hl : i < tx.length := by
    rw [b.len]
    exact (List.getElem?_eq_some_iff.mp hi).1
  obtain ⟨h1, _, _⟩ := b.way i k _ hi (List.getElem?_eq_getElem hl)
  exact goW_keeps h0 h1
theorem BInv.few {R C : Nat} {S start grp : List P} {at' : Nat} {ks : List (List P)} {tx : List (List Nat)} (b : BInv R C S start grp at' ks tx) (h0 : ∀ a ∈ start, Fr R C S a) : ks.length ≤ (R * C) ^ start.length := by
  have h := keys_few (L := cellsM R C) (m := start.length) b.nd fun k hk => by
    obtain ⟨h1, h2⟩ := b.mem h0 hk
    exact ⟨h1, fun a ha => mem_cells.mpr ⟨(h2 a ha).1, (h2 a ha).2.1⟩⟩
  have e : (cellsM R C).length = R * C := by
    unfold cellsM
    rw [List.length_flatMap]
    have : ((List.range R).map fun r => ((List.range C).map fun c => (r, c)).length) = List.replicate R C := by
      rw [List.eq_replicate_iff]
      refine ⟨by simp, fun b hb => ?_⟩
      obtain ⟨r, _, rfl⟩ := List.mem_map.mp hb
      simp
    rw [this, List.sum_replicate_nat]
  rw [e] at h
  exact h
/-- where the goal can be come to the search doesn't end ahead of it -/
theorem BInv.more {R C : Nat} {S start grp : List P} {at' : Nat} {ks : List (List P)} {tx : List (List Nat)} (b : BInv R C S start grp at' ks tx) (hr : ∃ e', RL (Fr R C S) start (e' :: grp)) : at' < ks.length := by
  rcases Nat.lt_or_ge at' ks.length with h | h
  · exact h
  · exfalso
    obtain ⟨e', r⟩ := hr
    have cl : Closed R C S ks := fun k hk w hw t ht => by
      obtain ⟨j, hj⟩ := List.mem_iff_getElem?.mp hk
      have : j < ks.length := (List.getElem?_eq_some_iff.mp hj).1
      exact b.done j k (by omega) hj w hw t ht
    have m := cl.all (List.mem_of_getElem? b.first) r
    obtain ⟨j, hj⟩ := List.mem_iff_getElem?.mp m
    have : j < ks.length := (List.getElem?_eq_some_iff.mp hj).1
    exact b.no j _ (by omega) hj rfl
theorem BInv.start {R C : Nat} {S start grp : List P} : BInv R C S start grp 0 [start] [[]] := by
  refine ⟨rfl, rfl, by simp, fun i k ws h1 h2 => ?_, (fun j k h _ => by omega), (fun j k h _ => by omega), Nat.zero_le _⟩
  match i, h1, h2 with
  | 0, h1, h2 =>
    cases h1
    cases h2
    exact ⟨rfl, Nat.le_refl _, fun _ h => nomatch h⟩
  | i + 1, h1, h2 => simp at h1
/-- within a turn: the letters that are done -/
structure BMid (R C : Nat) (S : List P) (start grp : List P) (at' : Nat) (k : List P) (wk : List Nat) (ls : List Nat) (ks : List (List P)) (tx : List (List Nat)) : Prop where
  inv : BInv R C S start grp at' ks tx
  here : ks[at']? = some k
  tx : tx[at']? = some wk
  some_ : ∀ w ∈ ls, ∀ t, stW R C S k w = some t → t ∈ ks
theorem BMid.old {R C : Nat} {S start grp : List P} {at' : Nat} {k : List P} {wk ls : List Nat} {ks : List (List P)} {tx : List (List Nat)} {w : Nat} {t : List P} (b : BMid R C S start grp at' k wk ls ks tx) (ht : stW R C S k w = some t) (hm : t ∈ ks) : BMid R C S start grp at' k wk (ls ++ [w]) ks tx :=
  ⟨b.inv, b.here, b.tx, fun x hx u hu => by
    rcases List.mem_append.mp hx with h | h
    · exact b.some_ x h u hu
    · rw [List.mem_singleton.mp h, ht] at hu
      rw [← Option.some.inj hu]
      exact hm⟩
theorem BMid.new {R C : Nat} {S start grp : List P} {at' : Nat} {k : List P} {wk ls : List Nat} {ks : List (List P)} {tx : List (List Nat)} {w : Nat} {t : List P} (b : BMid R C S start grp at' k wk ls ks tx) (hw : okL w) (ht : stW R C S k w = some t) (hm : t ∉ ks) : BMid R C S start grp at' k wk (ls ++ [w]) (ks ++ [t]) (tx ++ [wk ++ [w]]) := by
  obtain ⟨⟨len, first, nd, way, no, done, le⟩, here, htx, some_⟩ := b
  have hlt : at' < ks.length := (List.getElem?_eq_some_iff.mp here).1
  have pre : ∀ {j : Nat} {u : List P}, j < at' → (ks ++ [t])[j]? = some u → ks[j]? = some u := fun {j u} hj h => by
    rw [List.getElem?_append_left (by omega)] at h
    exact h
  refine ⟨⟨by simp [len], ?_, ?_, fun i u ws h1 h2 => ?_, fun j u hj h => no j u hj (pre hj h), fun j u hj h x hx v hv => List.mem_append.mpr (.inl (done j u hj (pre hj h) x hx v hv)), by simp; omega⟩, ?_, ?_, fun x hx u hu => ?_⟩
  · rw [List.getElem?_append_left (by omega)]
    exact first
  · rw [List.nodup_append]
    refine ⟨nd, by simp, fun a ha b hb e => ?_⟩
    rw [List.mem_singleton.mp hb] at e
    exact hm (e ▸ ha)
  · by_cases hi : i < ks.length
    · rw [List.getElem?_append_left hi] at h1
      rw [List.getElem?_append_left (by omega)] at h2
      exact way i u ws h1 h2
    · rw [List.getElem?_append_right (by omega)] at h1
      rw [List.getElem?_append_right (by omega)] at h2
      have e0 : i - ks.length = 0 := by
        have := (List.getElem?_eq_some_iff.mp h1).1
        simp at this
        exact this
      have e1 : i - tx.length = 0 := by omega
      rw [e0] at h1
      rw [e1] at h2
      cases h1
      cases h2
      obtain ⟨g1, g2, g3⟩ := way at' k wk here htx
      refine ⟨by rw [goW_snoc g1]; exact ht, ?_, fun x hx => ?_⟩
      · rw [List.length_append, List.length_singleton]
        omega
      · rcases List.mem_append.mp hx with h | h
        · exact g3 x h
        · rw [List.mem_singleton.mp h]
          exact hw
  · rw [List.getElem?_append_left hlt]
    exact here
  · rw [List.getElem?_append_left (by omega)]
    exact htx
  · rcases List.mem_append.mp hx with h | h
    · exact List.mem_append.mpr (.inl (some_ x h u hu))
    · rw [List.mem_singleton.mp h, ht] at hu
      rw [← Option.some.inj hu]
      exact List.mem_append.mpr (.inr List.mem_cons_self)
/-- a letter that leads nowhere -/
theorem BMid.skip {R C : Nat} {S start grp : List P} {at' : Nat} {k : List P} {wk ls : List Nat} {ks : List (List P)} {tx : List (List Nat)} {w : Nat} (b : BMid R C S start grp at' k wk ls ks tx) (ht : stW R C S k w = none) : BMid R C S start grp at' k wk (ls ++ [w]) ks tx :=
  ⟨b.inv, b.here, b.tx, fun x hx u hu => by
    rcases List.mem_append.mp hx with h | h
    · exact b.some_ x h u hu
    · rw [List.mem_singleton.mp h, ht] at hu
      cases hu⟩
/-- a turn's end: every letter done that leads somewhere -/
theorem BMid.next {R C : Nat} {S start grp : List P} {at' : Nat} {k : List P} {wk ls : List Nat} {ks : List (List P)} {tx : List (List Nat)} (b : BMid R C S start grp at' k wk ls ks tx) (hl : ∀ w, okL w → ∀ t, stW R C S k w = some t → w ∈ ls) (hk : k.tail ≠ grp) : BInv R C S start grp (at' + 1) ks tx := by
  obtain ⟨⟨len, first, nd, way, no, done, le⟩, here, htx, some_⟩ := b
  have hlt : at' < ks.length := (List.getElem?_eq_some_iff.mp here).1
  refine ⟨len, first, nd, way, fun j u hj h => ?_, fun j u hj h x hx v hv => ?_, hlt⟩
  · by_cases e : j = at'
    · rw [e, here] at h
      rw [← Option.some.inj h]
      exact hk
    · exact no j u (by omega) h
  · by_cases e : j = at'
    · rw [e, here] at h
      have h := Option.some.inj h
      subst h
      exact some_ x (hl x hx v hv) v hv
    · exact done j u (by omega) h x hx v hv
end Bf
set_option maxHeartbeats 1000000
/-! Group by group to the goal -/
namespace Bf
open Tr
/-- settled so far: as in the goal -/
structure Agr (R C : Nat) (S : List P) (s g : Sl) : Prop where
  on : ∀ a ∈ S, a.1 < R → a.2 < C → s.1 (ixc C a) = g.1 (ixc C a)
/-- where a number stands -/
def plc (n C : Nat) (f : Fld) (v : Int) : P := (posOf n f v / C, posOf n f v % C)
theorem cell_div {R C k : Nat} (h : k < R * C) : k / C < R ∧ k % C < C ∧ ixc C (k / C, k % C) = k := by
  have hC : 0 < C := by
    rcases Nat.eq_zero_or_pos C with z | z
    · subst z
      simp at h
    · exact z
  refine ⟨(Nat.div_lt_iff_lt_mul hC).mpr h, Nat.mod_lt _ hC, ?_⟩
  show k / C * C + k % C = k
  rw [Nat.mul_comm]
  exact Nat.div_add_mod k C
/-- what the check of a group says of its places -/
theorem chk_props {R C : Nat} {S g : List P} (h : chk R C S g = true) : (∀ a ∈ g, Fr R C S a ∧ a ≠ (R - 1, C - 1)) ∧ g.Nodup ∧ Fr R C S (R - 1, C - 1) ∧ (1 ≤ g.length ∧ g.length ≤ 3) ∧
    (g.length = 3 → ∃ a b d : P, g = [a, b, d] ∧ ∀ x, Fr R C S x → x = a ∨ x = b ∨ x = d ∨ x = (R - 1, C - 1)) := by
  match g, h with
  | [], h => exact nomatch h
  | [a], h =>
    simp only [chk, Bool.and_eq_true, decide_eq_true_eq] at h
    obtain ⟨⟨h1, h2⟩, h3⟩ := h
    have fr := upp_fr h3
    refine ⟨fun x hx => ?_, by simp, (fr _).mp ?_, by simp, by simp⟩
    · rw [List.mem_singleton.mp hx]
      refine ⟨(fr a).mp ?_, fun z => ?_⟩
      · unfold Upp; omega
      · have := congrArg Prod.fst z; dsimp only at this; omega
    · unfold Upp; dsimp only; omega
  | [a, b], h =>
    simp only [chk, Bool.or_eq_true, Bool.and_eq_true, decide_eq_true_eq, beq_iff_eq] at h
    rcases h with ⟨⟨⟨h1, h2⟩, rfl⟩, h3⟩ | ⟨⟨⟨⟨h0, h1⟩, h2⟩, rfl⟩, h3⟩
    · have fr := upp_fr h3
      refine ⟨fun x hx => ?_, ?_, (fr _).mp ?_, by simp, by simp⟩
      · rcases List.mem_cons.mp hx with rfl | hx
        · refine ⟨(fr _).mp ?_, fun z => ?_⟩
          · unfold Upp; omega
          · have := congrArg Prod.fst z; dsimp only at this; omega
        · rw [List.mem_singleton.mp hx]
          refine ⟨(fr _).mp ?_, fun z => ?_⟩
          · unfold Upp; dsimp only; omega
          · have := congrArg Prod.fst z; dsimp only at this; omega
      · simp only [List.nodup_cons, List.mem_singleton, List.not_mem_nil, not_false_eq_true, List.nodup_nil, and_true]
        intro z
        have := congrArg Prod.snd z; dsimp only at this; omega
      · unfold Upp; dsimp only; omega
    · have fr := low_fr h3
      refine ⟨fun x hx => ?_, ?_, (fr _).mp ?_, by simp, by simp⟩
      · rcases List.mem_cons.mp hx with rfl | hx
        · refine ⟨(fr _).mp ?_, fun z => ?_⟩
          · unfold Low; omega
          · have := congrArg Prod.snd z; dsimp only at this; omega
        · rw [List.mem_singleton.mp hx]
          refine ⟨(fr _).mp ?_, fun z => ?_⟩
          · unfold Low; dsimp only; omega
          · have := congrArg Prod.snd z; dsimp only at this; omega
      · simp only [List.nodup_cons, List.mem_singleton, List.not_mem_nil, not_false_eq_true, List.nodup_nil, and_true]
        intro z
        have := congrArg Prod.fst z; dsimp only at this; omega
      · unfold Low; dsimp only; omega
  | [a, b, d], h =>
    simp only [chk, Bool.and_eq_true, decide_eq_true_eq, beq_iff_eq] at h
    obtain ⟨⟨⟨⟨h1, h2⟩, rfl⟩, rfl⟩, h3⟩ := h
    have fr := last_fr h1 h2 h3
    refine ⟨fun x hx => ?_, ?_, (fr _).mp ?_, by simp, fun _ => ⟨_, _, _, rfl, fun x hx => ?_⟩⟩
    · rcases List.mem_cons.mp hx with rfl | hx
      · refine ⟨(fr _).mp ?_, fun z => ?_⟩
        · unfold Last; omega
        · have := congrArg Prod.fst z; dsimp only at this; omega
      · rcases List.mem_cons.mp hx with rfl | hx
        · refine ⟨(fr _).mp ?_, fun z => ?_⟩
          · unfold Last; dsimp only; omega
          · have := congrArg Prod.fst z; dsimp only at this; omega
        · rw [List.mem_singleton.mp hx]
          refine ⟨(fr _).mp ?_, fun z => ?_⟩
          · unfold Last; dsimp only; omega
          · have := congrArg Prod.snd z; dsimp only at this; omega
    · simp only [List.nodup_cons, List.mem_cons, List.mem_singleton, List.not_mem_nil, not_false_eq_true, List.nodup_nil, and_true, not_or]
      refine ⟨⟨fun z => ?_, fun z => ?_⟩, fun z => ?_⟩
      · have := congrArg Prod.snd z; dsimp only at this; omega
      · have := congrArg Prod.fst z; dsimp only at this; omega
      · have := congrArg Prod.fst z; dsimp only at this; omega
    · unfold Last; dsimp only; omega
    · have hx := (fr x).mpr hx
      obtain ⟨x1, x2⟩ := x
      obtain ⟨a1, a2⟩ := a
      unfold Last at hx
      simp only [Prod.mk.injEq]
      dsimp only at hx h1 h2 ⊢
      omega
  | a :: b :: d :: x :: l, h => exact nomatch h
/-- the group's pieces, as the goal has them -/
def pcsOf (C : Nat) (g : Fld) (grp : List P) : List Int := grp.map fun a => g (ixc C a)
theorem plc_ok {R C : Nat} {f g : Fld} (hf : Full (R * C) f) (hg : Full (R * C) g) {k : Nat} (hk : k < R * C) : (plc (R * C) C f (g k)).1 < R ∧ (plc (R * C) C f (g k)).2 < C ∧ f (ixc C (plc (R * C) C f (g k))) = g k := by
  have h1 := posOf_lt hg hf hk
  obtain ⟨a, b, c⟩ := cell_div h1
  refine ⟨a, b, ?_⟩
  show f (ixc C (posOf (R * C) f (g k) / C, posOf (R * C) f (g k) % C)) = g k
  rw [c]
  exact posOf_get hg hf hk
theorem start_ok {R C : Nat} {S grp : List P} {s g : Sl} (hs : Good R C s) (hg : Good R C g) (hc : g.2 = (R - 1, C - 1)) (ag : Agr R C S s g) (hk : chk R C S grp = true) :
    Trk R C S s (s.2 :: (pcsOf C g.1 grp).map (plc (R * C) C s.1)) (pcsOf C g.1 grp) ∧ (∀ a ∈ s.2 :: (pcsOf C g.1 grp).map (plc (R * C) C s.1), Fr R C S a) ∧ (s.2 :: (pcsOf C g.1 grp).map (plc (R * C) C s.1)).Nodup := by
  obtain ⟨hm, hnd, hcr, _, _⟩ := chk_props hk
  have gz : ∀ a : P, a.1 < R → a.2 < C → g.1 (ixc C a) = 0 → a = (R - 1, C - 1) := fun a h1 h2 h => by
    have e := hg.uniq _ (ixc_lt h1 h2) h
    have e2 := ixc_inj (R := R) (a := a) (b := g.2) h2 hg.z.c e
    rw [e2, hc]
  have s2F : s.2 ∉ S := fun h => by
    have e := ag.on _ h hs.z.r hs.z.c
    have z : s.1 (ixc C s.2) = 0 := hs.z.z
    rw [z] at e
    exact hcr.2.2 (gz _ hs.z.r hs.z.c e.symm ▸ h)
  have one : ∀ v ∈ pcsOf C g.1 grp, v ≠ 0 ∧ Fr R C S (plc (R * C) C s.1 v) ∧ s.1 (ixc C (plc (R * C) C s.1 v)) = v := fun v hv => by
    obtain ⟨a, ha, rfl⟩ := List.mem_map.mp hv
    obtain ⟨⟨a1, a2, a3⟩, a4⟩ := hm a ha
    have hk : ixc C a < R * C := ixc_lt a1 a2
    obtain ⟨p1, p2, p3⟩ := plc_ok hs.full hg.full hk
    refine ⟨fun z => a4 (gz a a1 a2 z), ⟨p1, p2, fun h => ?_⟩, p3⟩
    have e := ag.on _ h p1 p2
    rw [p3] at e
    have e2 := full_inj hg.full hk (ixc_lt p1 p2) e
    exact a3 (ixc_inj (R := R) a2 p2 e2 ▸ h)
  refine ⟨⟨⟨_, rfl, by rw [List.length_map], fun a ha => ?_, fun i a v h1 h2 => ?_⟩, s2F, fun v hv => (one v hv).1⟩, fun a ha => ?_, ?_⟩
  · obtain ⟨v, hv, rfl⟩ := List.mem_map.mp ha
    exact (one v hv).2.1
  · rw [List.getElem?_map, h2] at h1
    have h1 := Option.some.inj h1
    subst h1
    exact (one v (List.mem_of_getElem? h2)).2.2
  · rcases List.mem_cons.mp ha with rfl | ha
    · exact ⟨hs.z.r, hs.z.c, s2F⟩
    · obtain ⟨v, hv, rfl⟩ := List.mem_map.mp ha
      exact (one v hv).2.1
  · rw [List.nodup_cons]
    refine ⟨fun h => ?_, ?_⟩
    · obtain ⟨v, hv, e⟩ := List.mem_map.mp h
      obtain ⟨v0, _, vv⟩ := one v hv
      rw [e] at vv
      exact v0 (vv.symm.trans hs.z.z)
    · unfold List.Nodup
      rw [List.pairwise_map]
      have nd2 : (pcsOf C g.1 grp).Nodup := by
        unfold pcsOf List.Nodup
        rw [List.pairwise_map]
        refine List.Pairwise.imp_of_mem ?_ hnd
        intro a b ha hb hab e
        obtain ⟨⟨a1, a2, _⟩, _⟩ := hm a ha
        obtain ⟨⟨b1, b2, _⟩, _⟩ := hm b hb
        exact hab (ixc_inj (R := R) a2 b2 (full_inj hg.full (ixc_lt a1 a2) (ixc_lt b1 b2) e))
      refine List.Pairwise.imp_of_mem ?_ nd2
      intro u v hu hv huv e
      have k1 := (one u hu).2.2
      have k2 := (one v hv).2.2
      rw [e, k2] at k1
      exact huv k1.symm
/-- all numbers but one as in the other: then that one, too -/
theorem full_rest {n : Nat} {f g : Fld} (hf : Full n f) (hg : Full n g) {p : Nat} (hp : p < n) (h : ∀ k, k < n → k ≠ p → f k = g k) : ∀ k, k < n → f k = g k := by
  intro k hk
  by_cases e : k = p
  · subst e
    have h1 := posOf_lt hf hg hk
    have h2 := posOf_get hf hg hk
    by_cases c : posOf n g (f k) = k
    · rw [c] at h2
      exact h2.symm
    · have h3 := h _ h1 c
      rw [h2] at h3
      exact absurd (full_inj hf h1 hk h3) c
  · exact h k hk e
/-- where pairs and steps are even together the group's pieces come to their places -/
theorem reach2 {R C : Nat} {S grp : List P} {s g : Sl} (hs : Good R C s) (hg : Good R C g) (hc : g.2 = (R - 1, C - 1)) (ag : Agr R C S s g) (hk : chk R C S grp = true)
    (hev : (crossed (R * C) s.1 g.1 + steps s.2.1 s.2.2 g.2.1 g.2.2) % 2 = 0) : ∃ e', RL (Fr R C S) (s.2 :: (pcsOf C g.1 grp).map (plc (R * C) C s.1)) (e' :: grp) := by
  obtain ⟨trk, fr, nd⟩ := start_ok hs hg hc ag hk
  have hl : ((pcsOf C g.1 grp).map (plc (R * C) C s.1)).length = grp.length := by simp [pcsOf]
  rcases reach hk hl fr nd with h | ⟨h3, e', r⟩
  · exact h
  · exfalso
    obtain ⟨hm, hnd, hcr, _, hlast⟩ := chk_props hk
    obtain ⟨a, b, d, rfl, hall⟩ := hlast h3
    obtain ⟨ws, hok, hw⟩ := r.way
    obtain ⟨s', hgo, ⟨⟨r', he, hl', hF, hv⟩, hne, nz⟩, hkeep⟩ := trk.all hs.z hw
    have hs' : Good R C s' := hs.go hgo
    have he : e' :: [b, a, d] = s'.2 :: r' := he
    have ee := List.head_eq_of_cons_eq he
    have er := List.tail_eq_of_cons_eq he
    subst er
    have va : s'.1 (ixc C b) = g.1 (ixc C a) := hv 0 b _ rfl rfl
    have vb : s'.1 (ixc C a) = g.1 (ixc C b) := hv 1 a _ rfl rfl
    have vd : s'.1 (ixc C d) = g.1 (ixc C d) := hv 2 d _ rfl rfl
    obtain ⟨⟨a1, a2, a3⟩, a4⟩ := hm a (by simp)
    obtain ⟨⟨b1, b2, b3⟩, b4⟩ := hm b (by simp)
    obtain ⟨⟨d1, d2, d3⟩, d4⟩ := hm d (by simp)
    have hab : a ≠ b := fun z => by simp [z] at hnd
    have sz : s'.1 (ixc C s'.2) = 0 := hs'.z.z
    have gz : ∀ x : P, x.1 < R → x.2 < C → g.1 (ixc C x) = 0 → x = (R - 1, C - 1) := fun x h1 h2 h => by
      have e := hg.uniq _ (ixc_lt h1 h2) h
      have e2 := ixc_inj (R := R) (a := x) (b := g.2) h2 hg.z.c e
      rw [e2, hc]
    have ecr : s'.2 = (R - 1, C - 1) := by
      rcases hall s'.2 ⟨hs'.z.r, hs'.z.c, hne⟩ with z | z | z | z
      · rw [z, vb] at sz
        exact absurd (gz b b1 b2 sz) b4
      · rw [z, va] at sz
        exact absurd (gz a a1 a2 sz) a4
      · rw [z, vd] at sz
        exact absurd (gz d d1 d2 sz) d4
      · exact z
    have odd : crossed (R * C) s'.1 g.1 % 2 = 1 := by
      refine exch_odd hg.full (ixc_lt a1 a2) (ixc_lt b1 b2) (fun z => hab (ixc_inj (R := R) a2 b2 z)) vb va fun k hk ka kb => ?_
      obtain ⟨k1, k2, k3⟩ := cell_div hk
      by_cases m : (k / C, k % C) ∈ S
      · have := hkeep _ m k1 k2
        rw [ag.on _ m k1 k2, k3] at this
        exact this
      · rcases hall _ ⟨k1, k2, m⟩ with z | z | z | z
        · exact absurd (by rw [← k3, z]) ka
        · exact absurd (by rw [← k3, z]) kb
        · rw [← k3, z]
          exact vd
        · rw [← k3, z, ← ecr, sz]
          have := hg.z.z
          rw [ecr, ← hc]
          exact this.symm
    have p := par_go (by have := hs.r6; omega) hg.full g.2.1 g.2.2 hs.z hs.full hgo
    have st0 : steps s'.2.1 s'.2.2 g.2.1 g.2.2 = 0 := by
      rw [ecr, hc]
      unfold steps
      omega
    omega
/-- a group's slides done: it is settled, too -/
theorem settle {R C : Nat} {S grp : List P} {s g : Sl} {e' : P} {ws : List Nat} (hs : Good R C s) (hg : Good R C g) (hc : g.2 = (R - 1, C - 1)) (ag : Agr R C S s g) (hk : chk R C S grp = true)
    (hw : goW R C S (s.2 :: (pcsOf C g.1 grp).map (plc (R * C) C s.1)) ws = some (e' :: grp)) :
    ∃ s', goAll R C s ws = some s' ∧ Good R C s' ∧ Agr R C (S ++ grp) s' g := by
  obtain ⟨trk, fr, nd⟩ := start_ok hs hg hc ag hk
  obtain ⟨s', hgo, ⟨⟨r', he, hl', hF, hv⟩, hne, nz⟩, hkeep⟩ := trk.all hs.z hw
  have er := List.tail_eq_of_cons_eq he
  subst er
  refine ⟨s', hgo, hs.go hgo, ⟨fun a ha a1 a2 => ?_⟩⟩
  rcases List.mem_append.mp ha with m | m
  · rw [hkeep a m a1 a2]
    exact ag.on a m a1 a2
  · obtain ⟨i, hi⟩ := List.mem_iff_getElem?.mp m
    exact hv i a _ hi (by unfold pcsOf; rw [List.getElem?_map, hi]; rfl)
def chkEnd (R C : Nat) : Bool := (cellsM R C).all fun a => (a == (R - 1, C - 1)) || (groupsM R C).flatten.contains a
theorem chk_end : ((List.range 7).all fun R => (List.range 7).all fun C => decide (R < 2) || decide (C < 2) || chkEnd R C) = true := by decide +kernel
/-- all groups settled: the goal -/
theorem settled_all {R C : Nat} {s g : Sl} (h1 : 2 ≤ R) (h3 : 2 ≤ C) (hs : Good R C s) (hg : Good R C g) (ag : Agr R C (groupsM R C).flatten s g) : ∀ k, k < R * C → s.1 k = g.1 k := by
  have k := List.all_eq_true.mp chk_end R (List.mem_range.mpr (by have := hs.r6; omega))
  have k := List.all_eq_true.mp k C (List.mem_range.mpr (by have := hs.c6; omega))
  rw [decide_eq_false (by omega : ¬ R < 2), decide_eq_false (by omega : ¬ C < 2)] at k
  simp only [Bool.false_or] at k
  have hp : ixc C (R - 1, C - 1) < R * C := ixc_lt (R := R) (a := (R - 1, C - 1)) (by dsimp only; omega) (by dsimp only; omega)
  refine full_rest hs.full hg.full hp fun j hj hne => ?_
  obtain ⟨j1, j2, j3⟩ := cell_div hj
  have m := List.all_eq_true.mp k (j / C, j % C) (mem_cells.mpr ⟨j1, j2⟩)
  rcases (Bool.or_eq_true _ _).mp m with z | z
  · have z := beq_iff_eq.mp z
    exact absurd (by rw [← j3, z]) hne
  · have := ag.on _ (List.contains_iff_mem.mp z) j1 j2
    rw [j3] at this
    exact this
end Bf
set_option maxHeartbeats 1000000
/-! Straight ways, thinned ways, one row or column -/
namespace Bf
open Tr
/-- the letters of a straight way -/
def strL (r c r' c' : Nat) : List Nat := List.replicate (r - r') 117 ++ List.replicate (r' - r) 100 ++ (List.replicate (c - c') 108 ++ List.replicate (c' - c) 114)
theorem strL_ok {r c r' c' : Nat} : ∀ w ∈ strL r c r' c', okL w := by
  intro w hw
  unfold strL at hw
  rcases List.mem_append.mp hw with h | h
  · rcases List.mem_append.mp h with h | h
    · rw [List.eq_of_mem_replicate h]; decide
    · rw [List.eq_of_mem_replicate h]; decide
  · rcases List.mem_append.mp h with h | h
    · rw [List.eq_of_mem_replicate h]; decide
    · rw [List.eq_of_mem_replicate h]; decide
theorem go_line {R C w : Nat} {dr dc : Int} (hw : stp w = (dr, dc)) : ∀ (k : Nat) (f : Fld) (r c : Nat), (∀ j : Nat, j < k → 0 ≤ (r : Int) + (j + 1) * dr ∧ (r : Int) + (j + 1) * dr < R ∧ 0 ≤ (c : Int) + (j + 1) * dc ∧ (c : Int) + (j + 1) * dc < C) →
    ∃ f', goAll R C (f, r, c) (List.replicate k w) = some (f', ((r : Int) + k * dr).toNat, ((c : Int) + k * dc).toNat)
  | 0, f, r, c, _ => by
    refine ⟨f, ?_⟩
    have e1 : ((r : Int) + ((0 : Nat) : Int) * dr).toNat = r := by simp
    have e2 : ((c : Int) + ((0 : Nat) : Int) * dc).toNat = c := by simp
    rw [e1, e2]
    rfl
  | k + 1, f, r, c, h => by
    have h0 := h 0 (by omega)
    have e0 : ((0 : Nat) : Int) + 1 = 1 := rfl
    rw [e0, Int.one_mul, Int.one_mul] at h0
    have hn : nxt R C r c w = some (((r : Int) + dr).toNat, ((c : Int) + dc).toNat) := by
      have := nxt_some (R := R) (C := C) (r := r) (c := c) (w := w) (by rw [hw]; exact h0)
      rw [hw] at this
      exact this
    have er : ((((r : Int) + dr).toNat : Nat) : Int) = r + dr := by omega
    have ec : ((((c : Int) + dc).toNat : Nat) : Int) = c + dc := by omega
    obtain ⟨f', ih⟩ := go_line (R := R) (C := C) hw k (put2 f (r * C + c) (((r : Int) + dr).toNat * C + ((c : Int) + dc).toNat)) ((r : Int) + dr).toNat ((c : Int) + dc).toNat fun j hj => by
      have hh := h (j + 1) (by omega)
      rw [er, ec]
      have e1 : ((r : Int) + dr) + ((j : Nat) + 1) * dr = r + ((j + 1 : Nat) + 1) * dr := by
        have : (((j + 1 : Nat) : Int) + 1) * dr = ((j : Nat) + 1 : Int) * dr + dr := by
          rw [Int.natCast_add, Int.add_mul, Int.add_mul, Int.add_mul]
          omega
        omega
      have e2 : ((c : Int) + dc) + ((j : Nat) + 1) * dc = c + ((j + 1 : Nat) + 1) * dc := by
        have : (((j + 1 : Nat) : Int) + 1) * dc = ((j : Nat) + 1 : Int) * dc + dc := by
          rw [Int.natCast_add, Int.add_mul, Int.add_mul, Int.add_mul]
          omega
        omega
      rw [e1, e2]
      exact hh
    refine ⟨f', ?_⟩
    show (go1 R C (f, r, c) w).bind (fun s' => goAll R C s' (List.replicate k w)) = _
    have hg : go1 R C (f, r, c) w = some (put2 f (r * C + c) (((r : Int) + dr).toNat * C + ((c : Int) + dc).toNat), ((r : Int) + dr).toNat, ((c : Int) + dc).toNat) := by
      unfold go1
      dsimp only
      rw [hn]
      rfl
    rw [hg]
    show goAll R C _ (List.replicate k w) = _
    rw [ih, er, ec]
    have e1 : ((r : Int) + dr) + (k : Nat) * dr = r + ((k + 1 : Nat) : Int) * dr := by
      rw [Int.natCast_add, Int.add_mul]
      omega
    have e2 : ((c : Int) + dc) + (k : Nat) * dc = c + ((k + 1 : Nat) : Int) * dc := by
      rw [Int.natCast_add, Int.add_mul]
      omega
    rw [e1, e2]
theorem go_str {R C : Nat} {f : Fld} {r c r' c' : Nat} (h1 : r < R) (h2 : c < C) (h3 : r' < R) (h4 : c' < C) : ∃ f', goAll R C (f, r, c) (strL r c r' c') = some (f', r', c') := by
  have vert : ∃ f1, goAll R C (f, r, c) (List.replicate (r - r') 117 ++ List.replicate (r' - r) 100) = some (f1, r', c) := by
    rcases Nat.le_total r' r with k | k
    · have e : r' - r = 0 := by omega
      rw [e, List.replicate_zero, List.append_nil]
      obtain ⟨f1, h⟩ := go_line (R := R) (C := C) (w := 117) (dr := -1) (dc := 0) rfl (r - r') f r c fun j hj => by omega
      refine ⟨f1, ?_⟩
      rw [h]
      have x1 : ((r : Int) + ((r - r' : Nat) : Int) * -1).toNat = r' := by omega
      have x2 : ((c : Int) + ((r - r' : Nat) : Int) * 0).toNat = c := by omega
      rw [x1, x2]
    · have e : r - r' = 0 := by omega
      rw [e, List.replicate_zero, List.nil_append]
      obtain ⟨f1, h⟩ := go_line (R := R) (C := C) (w := 100) (dr := 1) (dc := 0) rfl (r' - r) f r c fun j hj => by omega
      refine ⟨f1, ?_⟩
      rw [h]
      have x1 : ((r : Int) + ((r' - r : Nat) : Int) * 1).toNat = r' := by omega
      have x2 : ((c : Int) + ((r' - r : Nat) : Int) * 0).toNat = c := by omega
      rw [x1, x2]
  obtain ⟨f1, g1⟩ := vert
  have hori : ∃ f2, goAll R C (f1, r', c) (List.replicate (c - c') 108 ++ List.replicate (c' - c) 114) = some (f2, r', c') := by
    rcases Nat.le_total c' c with k | k
    · have e : c' - c = 0 := by omega
      rw [e, List.replicate_zero, List.append_nil]
      obtain ⟨f2, h⟩ := go_line (R := R) (C := C) (w := 108) (dr := 0) (dc := -1) rfl (c - c') f1 r' c fun j hj => by omega
      refine ⟨f2, ?_⟩
      rw [h]
      have x1 : ((r' : Int) + ((c - c' : Nat) : Int) * 0).toNat = r' := by omega
      have x2 : ((c : Int) + ((c - c' : Nat) : Int) * -1).toNat = c' := by omega
      rw [x1, x2]
    · have e : c - c' = 0 := by omega
      rw [e, List.replicate_zero, List.nil_append]
      obtain ⟨f2, h⟩ := go_line (R := R) (C := C) (w := 114) (dr := 0) (dc := 1) rfl (c' - c) f1 r' c fun j hj => by omega
      refine ⟨f2, ?_⟩
      rw [h]
      have x1 : ((r' : Int) + ((c' - c : Nat) : Int) * 0).toNat = r' := by omega
      have x2 : ((c : Int) + ((c' - c : Nat) : Int) * 1).toNat = c' := by omega
      rw [x1, x2]
  obtain ⟨f2, g2⟩ := hori
  refine ⟨f2, ?_⟩
  unfold strL
  rw [goAll_append, g1]
  exact g2
theorem strL_len {r c r' c' : Nat} (h1 : r ≤ 6) (h2 : c ≤ 6) (h3 : r' ≤ 6) (h4 : c' ≤ 6) : (strL r c r' c').length ≤ 12 := by
  unfold strL
  simp only [List.length_append, List.length_replicate]
  omega
/-! ### thinned ways lead to the same -/
theorem thS_go {R C : Nat} {s t u : Sl} {left : List Nat} {w : Nat} (z : Zr R C s) (hk : ∀ x ∈ left, okL x) (h : goAll R C s left = some t) (hw : okL w) (hg : go1 R C t w = some u) : goAll R C s (thS left w) = some u := by
  unfold thS
  split
  · rename_i k
    have hne : left ≠ [] := by
      intro e
      rw [e] at k
      cases k
    have h1 := List.dropLast_concat_getLast hne
    rw [List.getLast?_eq_getLast hne] at k
    rw [Option.some.inj k] at h1
    rw [← h1, goAll_append] at h
    cases e : goAll R C s left.dropLast with
    | none => rw [e] at h; cases h
    | some v =>
      rw [e] at h
      have h : goAll R C v [bk w] = some t := h
      rw [goAll_one] at h
      have zv := goAll_zr z e
      have b := go1_back zv (bk_ok hw) h
      rw [bk_bk, hg] at b
      exact b.symm
  · rw [goAll_append, h]
    show goAll R C t [w] = some u
    rw [goAll_one]
    exact hg
theorem thin_go {R C : Nat} {s t : Sl} {ws : List Nat} (z : Zr R C s) (hk : ∀ x ∈ ws, okL x) (h : goAll R C s ws = some t) : goAll R C s (thinL ws) = some t := by
  have key : ∀ (ws left : List Nat) (v : Sl), (∀ x ∈ ws, okL x) → (∀ x ∈ left, okL x) → goAll R C s left = some v → goAll R C v ws = some t → goAll R C s (ws.foldl thS left) = some t := by
    intro ws
    induction ws with
    | nil =>
      intro left v _ _ hl hv
      have e := Option.some.inj hv
      subst e
      exact hl
    | cons w r ih =>
      intro left v hw hlk hl hv
      have hv : (go1 R C v w).bind (fun s' => goAll R C s' r) = some t := hv
      cases e : go1 R C v w with
      | none => rw [e] at hv; cases hv
      | some u =>
        rw [e] at hv
        refine ih (thS left w) u (fun x hx => hw x (List.mem_cons_of_mem _ hx)) (fun x hx => ?_) (thS_go z hlk hl (hw w List.mem_cons_self) e) hv
        unfold thS at hx
        split at hx
        · exact hlk x (List.dropLast_subset left hx)
        · rcases List.mem_append.mp hx with m | m
          · exact hlk x m
          · rw [List.mem_singleton.mp m]
            exact hw w List.mem_cons_self
  exact key ws [] s hk (fun _ h => nomatch h) rfl h
/-! ### on one row or column the pieces keep their order -/
/-- the pieces, in their order -/
def pcsF (n : Nat) (f : Fld) : List Int := (allV n f).filter fun z => decide (z ≠ 0)
theorem allV_cut {n : Nat} (f : Fld) {p : Nat} (hp : p < n) : allV n f = allV p f ++ f p :: (List.range' (p + 1) (n - p - 1)).map f := by
  unfold allV
  have e : List.range n = List.range p ++ p :: List.range' (p + 1) (n - p - 1) := by
    have h1 : n = p + (n - p) := by omega
    have h2 : List.range n = List.range p ++ (List.range (n - p)).map (p + ·) := by
      conv => lhs; rw [h1]
      exact List.range_add
    rw [h2, ← List.range'_eq_map_range]
    have h3 : n - p = (n - p - 1) + 1 := by omega
    rw [h3, List.range'_succ]
    rfl
  rw [e, List.map_append, List.map_cons]
theorem pcsF_put {n : Nat} {f : Fld} {p : Nat} (hp : p + 1 < n) (h : f p = 0 ∨ f (p + 1) = 0) {f' : Fld} (h1 : f' p = f (p + 1)) (h2 : f' (p + 1) = f p) (h3 : ∀ k, k ≠ p → k ≠ p + 1 → f' k = f k) : pcsF n f' = pcsF n f := by
  have cut : ∀ g : Fld, allV n g = allV p g ++ g p :: g (p + 1) :: (List.range' (p + 2) (n - p - 2)).map g := fun g => by
    rw [allV_cut g (show p < n by omega)]
    have e : n - p - 1 = (n - p - 2) + 1 := by omega
    rw [e, List.range'_succ]
    rfl
  have e1 : allV p f' = allV p f := by
    unfold allV
    refine List.map_congr_left fun k hk => ?_
    have := List.mem_range.mp hk
    exact h3 k (by omega) (by omega)
  have e2 : (List.range' (p + 2) (n - p - 2)).map f' = (List.range' (p + 2) (n - p - 2)).map f := by
    refine List.map_congr_left fun k hk => ?_
    have := List.mem_range'_1.mp hk
    exact h3 k (by omega) (by omega)
  unfold pcsF
  rw [cut f', cut f, e1, e2, h1, h2, List.filter_append, List.filter_append]
  refine congrArg _ ?_
  rcases h with z | z
  · rw [z]
    rfl
  · rw [z]
    rfl
theorem pcsF_go1 {R C : Nat} {s s' : Sl} {w : Nat} (hm : R = 1 ∨ C = 1) (hw : okL w) (z : Zr R C s) (h : go1 R C s w = some s') : pcsF (R * C) s'.1 = pcsF (R * C) s.1 := by
  have z' := go1_zr h
  obtain ⟨h1, h2⟩ := go1_eq h
  obtain ⟨e1, e2, b1, b2⟩ := nxt_eq h1
  have hp := ix_lt z.r z.c
  have hq := ix_lt z'.r z'.c
  have near : s'.2.1 * C + s'.2.2 = s.2.1 * C + s.2.2 + 1 ∨ s.2.1 * C + s.2.2 = s'.2.1 * C + s'.2.2 + 1 := by
    have zr := z.r
    have zc := z.c
    rcases hm with k | k
    · have x1 : s.2.1 = 0 := by omega
      have x2 : s'.2.1 = 0 := by omega
      rw [x1, x2]
      rcases hw with rfl | rfl | rfl | rfl
      · have a1 : (s'.2.1 : Int) = s.2.1 + -1 := e1
        omega
      · have a1 : (s'.2.1 : Int) = s.2.1 + 1 := e1
        omega
      · have a2 : (s'.2.2 : Int) = s.2.2 + -1 := e2
        omega
      · have a2 : (s'.2.2 : Int) = s.2.2 + 1 := e2
        omega
    · have x1 : s.2.2 = 0 := by omega
      have x2 : s'.2.2 = 0 := by omega
      rw [x1, x2, k]
      rcases hw with rfl | rfl | rfl | rfl
      · have a1 : (s'.2.1 : Int) = s.2.1 + -1 := e1
        omega
      · have a1 : (s'.2.1 : Int) = s.2.1 + 1 := e1
        omega
      · have a2 : (s'.2.2 : Int) = s.2.2 + -1 := e2
        omega
      · have a2 : (s'.2.2 : Int) = s.2.2 + 1 := e2
        omega
  have hf : s'.1 = put2 s.1 (s.2.1 * C + s.2.2) (s'.2.1 * C + s'.2.2) := congrArg Prod.fst h2
  have zz := z.z
  generalize s.2.1 * C + s.2.2 = p at *
  generalize s'.2.1 * C + s'.2.2 = q at *
  rw [hf]
  rcases near with k | k
  · subst k
    refine pcsF_put hq (.inl zz) ?_ ?_ fun j a b => ?_
    · unfold put2
      rw [if_neg (by omega), if_pos rfl]
    · unfold put2
      rw [if_pos rfl, zz]
    · unfold put2
      rw [if_neg b, if_neg a]
  · subst k
    refine pcsF_put hp (.inr zz) ?_ ?_ fun j a b => ?_
    · unfold put2
      rw [if_pos rfl, zz]
    · unfold put2
      rw [if_neg (by omega), if_pos rfl]
    · unfold put2
      rw [if_neg a, if_neg b]
theorem pcsF_go {R C : Nat} (hm : R = 1 ∨ C = 1) : ∀ {ws : List Nat} {s s' : Sl}, (∀ w ∈ ws, okL w) → Zr R C s → goAll R C s ws = some s' → pcsF (R * C) s'.1 = pcsF (R * C) s.1
  | [], s, s', _, z, h => by
    have e := Option.some.inj h
    subst e
    rfl
  | w :: ws, s, s', hk, z, h => by
    have h : (go1 R C s w).bind (fun s' => goAll R C s' ws) = some s' := h
    cases e : go1 R C s w with
    | none => rw [e] at h; cases h
    | some s1 =>
      rw [e] at h
      have ih := pcsF_go hm (fun x hx => hk x (List.mem_cons_of_mem _ hx)) (go1_zr e) h
      rw [ih]
      exact pcsF_go1 hm (hk w List.mem_cons_self) z e
/-- the same pieces in the same order, the same empty place: the same tray -/
theorem pcsF_same {n : Nat} {f g : Fld} {p : Nat} (hp : p < n) (hf : f p = 0) (hg : g p = 0) (uf : ∀ k, k < n → f k = 0 → k = p) (ug : ∀ k, k < n → g k = 0 → k = p) (h : pcsF n f = pcsF n g) : ∀ k, k < n → f k = g k := by
  have flt : ∀ f : Fld, f p = 0 → (∀ k, k < n → f k = 0 → k = p) → pcsF n f = allV p f ++ (List.range' (p + 1) (n - p - 1)).map f := fun f h0 u => by
    unfold pcsF
    rw [allV_cut f hp, List.filter_append, List.filter_cons_of_neg (by simp [h0])]
    have e1 : (allV p f).filter (fun z => decide (z ≠ 0)) = allV p f := by
      refine List.filter_eq_self.mpr fun x hx => ?_
      obtain ⟨k, hk, rfl⟩ := List.mem_map.mp hx
      have hk := List.mem_range.mp hk
      exact decide_eq_true fun z => by have := u k (by omega) z; omega
    have e2 : ((List.range' (p + 1) (n - p - 1)).map f).filter (fun z => decide (z ≠ 0)) = (List.range' (p + 1) (n - p - 1)).map f := by
      refine List.filter_eq_self.mpr fun x hx => ?_
      obtain ⟨k, hk, rfl⟩ := List.mem_map.mp hx
      have hk := List.mem_range'_1.mp hk
      exact decide_eq_true fun z => by have := u k (by omega) z; omega
    rw [e1, e2]
  rw [flt f hf uf, flt g hg ug] at h
  have hl : (allV p f).length = (allV p g).length := by simp [allV]
  obtain ⟨h1, h2⟩ := List.append_inj h hl
  intro k hk
  by_cases c1 : k < p
  · have e := congrArg (fun l : List Int => l[k]?) h1
    simpa [allV, c1] using e
  · by_cases c2 : k = p
    · rw [c2, hf, hg]
    · have e := congrArg (fun l : List Int => l[k - (p + 1)]?) h2
      have hb : k - (p + 1) < n - p - 1 := by omega
      have ek : p + 1 + (k - (p + 1)) = k := by omega
      simp only [List.getElem?_map, List.getElem?_range' hb, Option.map_some, Nat.one_mul, ek] at e
      exact Option.some.inj e
/-- the first two pieces that differ stand the other way round -/
theorem first_diff {a b : List Int} (hp : a.Perm b) (nd : a.Nodup) {i : Nat} {x y : Int} (hx : a[i]? = some x) (hy : b[i]? = some y) (hxy : x ≠ y) (hs : ∀ j, j < i → a[j]? = b[j]?) : a.idxOf x < a.idxOf y ∧ b.idxOf y < b.idxOf x ∧ y ∈ a ∧ x ∈ b := by
  have nb : b.Nodup := hp.nodup nd
  have my : y ∈ a := hp.mem_iff.mpr (List.mem_of_getElem? hy)
  have mx : x ∈ b := hp.mem_iff.mp (List.mem_of_getElem? hx)
  have idx : ∀ {l : List Int} {k : Nat} {v : Int}, l.Nodup → l[k]? = some v → l.idxOf v = k := fun {l k v} n h => by
    obtain ⟨hk, e⟩ := List.getElem?_eq_some_iff.mp h
    have hm : v ∈ l := List.mem_of_getElem? h
    have h2 := List.idxOf_lt_length_of_mem hm
    exact (List.getElem_inj n).mp ((List.getElem_idxOf h2).trans e.symm)
  have ex := idx nd hx
  have ey := idx nb hy
  have late : ∀ {l m : List Int} {u v : Int}, l.Nodup → m.Nodup → l[i]? = some u → m[i]? = some v → u ≠ v → v ∈ l → (∀ j, j < i → l[j]? = m[j]?) → i < l.idxOf v := fun {l m u v} nl nm hu hv huv hm hs => by
    have h2 := List.idxOf_lt_length_of_mem hm
    have h3 : l[l.idxOf v]? = some v := by rw [List.getElem?_eq_getElem h2, List.getElem_idxOf h2]
    rcases Nat.lt_trichotomy (l.idxOf v) i with c | c | c
    · have h4 := hs _ c
      rw [h3] at h4
      have := idx nm h4.symm
      rw [idx nm hv] at this
      omega
    · rw [c, hu] at h3
      exact absurd (Option.some.inj h3) huv
    · exact c
  refine ⟨?_, ?_, my, mx⟩
  · rw [ex]
    exact late nd nb hx hy hxy my hs
  · rw [ey]
    exact late nb nd hy hx (fun z => hxy z.symm) mx fun j hj => (hs j hj).symm
end Bf
/-! From one tray to another by way of the last corner -/
namespace Bf
open Tr
theorem crossL_putR {n : Nat} {f g : Fld} (hf : Full n f) (hg : Full n g) {p q : Nat} (hp : p < n) (hq : q < n) (hz : g p = 0) (hne : p ≠ q) :
    (crossed n f g + crossed n f (put2 g p q)) % 2 = 1 := by
  have hg' : Full n (put2 g p q) := put2_full hp hq hz hg
  have ha := posOf_lt hg hf hp
  have hb := posOf_lt hg hf hq
  have fa := posOf_get hg hf hp
  have fb := posOf_get hg hf hq
  generalize posOf n f (g p) = a at *
  generalize posOf n f (g q) = b at *
  have gne : g p ≠ g q := fun e => hne (full_inj hg hp hq e)
  have hab : a ≠ b := fun e => gne (by rw [← fa, ← fb, e])
  have pos : ∀ {g : Fld}, Full n g → ∀ k, k < n → posOf n g (g k) = k := fun {g} hg k hk => full_inj hg (posOf_lt hg hg hk) hk (posOf_get hg hg hk)
  have la : a < (crossL n f g).length := by rw [crossL_len]; exact ha
  have lb : b < (crossL n f g).length := by rw [crossL_len]; exact hb
  have xa : (crossL n f g)[a] = p := by
    have e1 := crossL_get (f := f) (g := g) ha
    rw [List.getElem?_eq_getElem la] at e1
    rw [Option.some.inj e1, fa, pos hg p hp]
  have xb : (crossL n f g)[b] = q := by
    have e1 := crossL_get (f := f) (g := g) hb
    rw [List.getElem?_eq_getElem lb] at e1
    rw [Option.some.inj e1, fb, pos hg q hq]
  have e : crossL n f (put2 g p q) = ((crossL n f g).set a ((crossL n f g)[b])).set b ((crossL n f g)[a]) := by
    apply List.ext_getElem
    · rw [crossL_len, List.length_set, List.length_set, crossL_len]
    · intro i h1 h2
      have hi : i < n := by rw [crossL_len] at h1; exact h1
      have e1 := crossL_get (f := f) (g := put2 g p q) hi
      rw [List.getElem?_eq_getElem h1] at e1
      rw [Option.some.inj e1]
      simp only [List.getElem_set, xa, xb]
      by_cases c1 : b = i
      · subst c1
        rw [if_pos rfl, fb]
        have : put2 g p q p = g q := by
          unfold put2
          rw [if_neg hne, if_pos rfl]
        rw [← this]
        exact pos hg' p hp
      · rw [if_neg c1]
        by_cases c2 : a = i
        · subst c2
          rw [if_pos rfl, fa, hz]
          have : put2 g p q q = 0 := by
            unfold put2
            rw [if_pos rfl]
          have k := pos hg' q hq
          rw [this] at k
          exact k
        · rw [if_neg c2]
          have e2 := crossL_get (f := f) (g := g) hi
          rw [List.getElem?_eq_getElem (by rw [crossL_len]; exact hi)] at e2
          rw [Option.some.inj e2]
          have k1 := posOf_lt hf hg hi
          have k2 := posOf_get hf hg hi
          have n1 : posOf n g (f i) ≠ p := fun z => c2 (by
            rw [z] at k2
            exact full_inj hf ha hi (fa.trans k2))
          have n2 : posOf n g (f i) ≠ q := fun z => c1 (by
            rw [z] at k2
            exact full_inj hf hb hi (fb.trans k2))
          have : put2 g p q (posOf n g (f i)) = f i := by
            unfold put2
            rw [if_neg n2, if_neg n1]
            exact k2
          have k := pos hg' _ k1
          rw [this] at k
          exact k
  have k := inv_set_set (crossL_nodup hf hg) hab la lb
  rw [← e] at k
  exact k
theorem steps_symm (r c r' c' : Nat) : steps r c r' c' = steps r' c' r c := by
  unfold steps
  omega
/-- the other tray is slid: even or odd stays so, too -/
theorem par_goR {R C : Nat} (hR : R ≤ 9) {f : Fld} (hf : Full (R * C) f) (r c : Nat) : ∀ {ws : List Nat} {s s' : Sl}, Zr R C s → Full (R * C) s.1 → goAll R C s ws = some s' →
    (crossed (R * C) f s.1 + steps r c s.2.1 s.2.2 + (crossed (R * C) f s'.1 + steps r c s'.2.1 s'.2.2)) % 2 = 0
  | [], s, s', z, hs, h => by
    have e := Option.some.inj h
    subst e
    omega
  | w :: ws, s, s', z, hs, h => by
    have h : (go1 R C s w).bind (fun s' => goAll R C s' ws) = some s' := h
    cases e : go1 R C s w with
    | none => rw [e] at h; cases h
    | some s1 =>
      rw [e] at h
      have ih := par_goR hR hf r c (go1_zr e) (go1_full z e hs) h
      have h2 := steps_go1 (go1_ok hR e) e r c
      obtain ⟨_, e2⟩ := go1_eq e
      have z' := go1_zr e
      have h1 := crossL_putR hf hs (ix_lt z.r z.c) (ix_lt z'.r z'.c) z.z (pq_ne z e)
      have e3 : s1.1 = put2 s.1 (s.2.1 * C + s.2.2) (s1.2.1 * C + s1.2.2) := congrArg Prod.fst e2
      rw [← e3] at h1
      rw [steps_symm r c s.2.1, steps_symm r c s1.2.1] at *
      omega
/-- trays alike as far as they go -/
theorem goAll_agr {R C : Nat} : ∀ {ws : List Nat} {s t s' : Sl}, s.2 = t.2 → (∀ k, k < R * C → s.1 k = t.1 k) → goAll R C s ws = some s' → ∃ t', goAll R C t ws = some t' ∧ s'.2 = t'.2 ∧ ∀ k, k < R * C → s'.1 k = t'.1 k
  | [], s, t, s', h2, h, e => by
    have e := Option.some.inj e
    subst e
    exact ⟨t, rfl, h2, h⟩
  | w :: ws, s, t, s', h2, h, e => by
    have e : (go1 R C s w).bind (fun s' => goAll R C s' ws) = some s' := e
    obtain ⟨f, p⟩ := s
    obtain ⟨g, p'⟩ := t
    have h2 : p = p' := h2
    subst h2
    cases e1 : go1 R C (f, p) w with
    | none => rw [e1] at e; cases e
    | some s1 =>
      rw [e1] at e
      obtain ⟨n1, n2⟩ := go1_eq e1
      obtain ⟨_, _, b1, b2⟩ := nxt_eq n1
      have hq := ix_lt (R := R) (C := C) b1 b2
      have e2 : go1 R C (g, p) w = some (put2 g (p.1 * C + p.2) (s1.2.1 * C + s1.2.2), s1.2.1, s1.2.2) := by
        unfold go1
        have n1 : nxt R C p.1 p.2 w = some (s1.2.1, s1.2.2) := n1
        dsimp only
        rw [n1]
        rfl
      have ag : ∀ k, k < R * C → s1.1 k = put2 g (p.1 * C + p.2) (s1.2.1 * C + s1.2.2) k := fun k hk => by
        have n3 : s1.1 = put2 f (p.1 * C + p.2) (s1.2.1 * C + s1.2.2) := congrArg Prod.fst n2
        have hf : ∀ k, k < R * C → f k = g k := h
        rw [n3]
        unfold put2
        by_cases c1 : k = s1.2.1 * C + s1.2.2
        · rw [if_pos c1, if_pos c1]
        · rw [if_neg c1, if_neg c1]
          by_cases c2 : k = p.1 * C + p.2
          · rw [if_pos c2, if_pos c2]
            exact hf _ hq
          · rw [if_neg c2, if_neg c2]
            exact hf k hk
      have e : goAll R C s1 ws = some s' := e
      obtain ⟨t', g1, g2, g3⟩ := goAll_agr (ws := ws) (s := s1) (t := (put2 g (p.1 * C + p.2) (s1.2.1 * C + s1.2.2), s1.2.1, s1.2.2)) rfl ag e
      refine ⟨t', ?_, g2, g3⟩
      show (go1 R C (g, p) w).bind (fun s' => goAll R C s' ws) = some t'
      rw [e2]
      exact g1
theorem same_place {R C : Nat} {s t : Sl} (hs : Good R C s) (ht : Good R C t) (h : ∀ k, k < R * C → s.1 k = t.1 k) : s.2 = t.2 := by
  have e : t.1 (ixc C s.2) = 0 := by
    rw [← h _ (ixc_lt hs.z.r hs.z.c)]
    exact hs.z.z
  exact ixc_inj (R := R) hs.z.c ht.z.c (ht.uniq _ (ixc_lt hs.z.r hs.z.c) e)
/-- there, over, and back -/
theorem whole {R C : Nat} {s s1 g' o o1 : Sl} {b m a : List Nat} (hs : Good R C s) (ho : Good R C o) (kb : ∀ w ∈ b, okL w) (km : ∀ w ∈ m, okL w) (ka : ∀ w ∈ a, okL w)
    (h1 : goAll R C s b = some s1) (h2 : goAll R C o a = some o1) (h3 : goAll R C s1 m = some g') (h4 : ∀ k, k < R * C → g'.1 k = o1.1 k) :
    (∀ w ∈ b ++ m ++ undo a, okL w) ∧ ∃ t, goAll R C s (thinL (b ++ m ++ undo a)) = some t ∧ ∀ k, k < R * C → t.1 k = o.1 k := by
  have hok : ∀ w ∈ b ++ m ++ undo a, okL w := fun w hw => by
    rcases List.mem_append.mp hw with hw | hw
    · rcases List.mem_append.mp hw with hw | hw
      · exact kb w hw
      · exact km w hw
    · exact undo_ok ka w hw
  have g1 := hs.go h1
  have g2 := g1.go h3
  have g3 := ho.go h2
  have back := goAll_undo ho.z ka h2
  obtain ⟨t, e1, e2, e3⟩ := goAll_agr (same_place g2 g3 h4).symm (fun k hk => (h4 k hk).symm) back
  refine ⟨hok, t, thin_go hs.z hok ?_, fun k hk => (e3 k hk).symm⟩
  rw [goAll_append, goAll_append, h1]
  show ((goAll R C s1 m).bind fun s' => goAll R C s' (undo a)) = some t
  rw [h3]
  exact e1
/-! ### how many slides the groups take together -/
def wlen (R C : Nat) (gs : List (List P)) : Nat := (gs.map fun g => (R * C) ^ (g.length + 1)).sum
theorem wlen_app (R C : Nat) (a b : List (List P)) : wlen R C (a ++ b) = wlen R C a + wlen R C b := by
  unfold wlen
  rw [List.map_append, List.sum_append]
theorem wlen_all : ((List.range 7).all fun R => (List.range 7).all fun C => decide (wlen R C (groupsM R C) ≤ 3000000)) = true := by decide +kernel
theorem wlen_take {R C : Nat} (hR : R ≤ 6) (hC : C ≤ 6) (i : Nat) : wlen R C ((groupsM R C).take i) ≤ 3000000 := by
  have k := List.all_eq_true.mp wlen_all R (List.mem_range.mpr (by omega))
  have k := List.all_eq_true.mp k C (List.mem_range.mpr (by omega))
  have k := of_decide_eq_true k
  have e := wlen_app R C ((groupsM R C).take i) ((groupsM R C).drop i)
  rw [List.take_append_drop] at e
  omega
theorem flat_all : ((List.range 7).all fun R => (List.range 7).all fun C => decide ((groupsM R C).flatten.length ≤ 1000)) = true := by decide +kernel
theorem flat_take {R C : Nat} (hR : R ≤ 6) (hC : C ≤ 6) (i : Nat) : ((groupsM R C).take i).flatten.length ≤ 1000 := by
  have k := List.all_eq_true.mp flat_all R (List.mem_range.mpr (by omega))
  have k := List.all_eq_true.mp k C (List.mem_range.mpr (by omega))
  have k := of_decide_eq_true k
  have e : (groupsM R C).flatten.length = ((groupsM R C).take i).flatten.length + ((groupsM R C).drop i).flatten.length := by
    rw [← List.length_append, ← List.flatten_append, List.take_append_drop]
  omega
end Bf
/-! a text times a number -/
namespace Tr
open PySem PySem.Spec PyProof.Rows L2
def rMulS : V → V → Hp → VK → Prop := fun x y H Q => ∃ (ws : List Nat) (n : Nat), x = .str (txt ws) ∧ y = .int n ∧ n ≤ 1000 ∧ ws.length ≤ 1000 ∧ Q (.str (txt (List.replicate n ws).flatten)) H
theorem fold_app (a : Array Nat) : ∀ (n : Nat) (acc : Array Nat), List.foldl (fun x1 x2 => x1 ++ x2) acc (List.replicate n a) = acc ++ ((List.replicate n a.toList).flatten).toArray
  | 0, acc => by simp
  | n + 1, acc => by
    rw [List.replicate_succ, List.foldl_cons, fold_app a n, List.replicate_succ, List.flatten_cons]
    apply Array.ext'
    simp
theorem rep_len (n : Nat) (ws : List Nat) : ((List.replicate n ws).flatten).length = n * ws.length := by
  induction n with
  | zero => simp
  | succ n ih =>
    rw [List.replicate_succ, List.flatten_cons, List.length_append, ih, Nat.add_mul]
    omega
section
variable {X : Cx}
theorem op_mulS : OpR X (binaryOp .Mult) rMulS := by
  intro pins s σ H x y v u Q I rx ry h
  obtain ⟨ws, n, rfl, rfl, hn, hw, q⟩ := h
  obtain ⟨t, rfl⟩ := rx
  obtain ⟨t2, rfl⟩ := ry
  have hl : (txt ws).length = ws.length := txt_len ws
  have hm : n * ws.length ≤ 1000 * 1000 := Nat.mul_le_mul hn hw
  refine P.mul_str ?_ ?_ ?_ ?_
  · rw [Bool.or_eq_false_iff]
    exact ⟨decide_eq_false (by omega), decide_eq_false (by omega)⟩
  · intro h1 _ h2
    rw [hl] at h2
    have h3 : (2 ^ 63 - 1 : Int) / (n : Int) < 1000 + 1 := by omega
    have h4 := Int.lt_mul_of_ediv_lt (by omega) h3
    have h5 : (1000 + 1 : Int) * n ≤ (1000 + 1) * 1000 := by omega
    omega
  · intro _ _
    refine decide_eq_false (fun h2 => ?_)
    rw [hl, Int.toNat_natCast, Nat.mul_comm] at h2
    have : sizeLine = 16777216 := rfl
    omega
  · have e16 : sizeLine = 16777216 := rfl
    by_cases h1 : (n : Int) < 1
    · rw [if_pos h1]
      have h0 : n = 0 := by omega
      subst h0
      refine ⟨?_, .str _, H, I.tok _, ⟨_, rfl⟩, q⟩
      show (#[] : Array Nat).size ≤ sizeLine
      rw [e16]
      decide
    · rw [if_neg h1]
      by_cases c : ((n : Int) == 1 || (txt ws).length == 0) = true
      · rw [if_pos c]
        have e : (List.replicate n ws).flatten = ws := by
          rw [hl] at c
          rcases Bool.or_eq_true _ _ ▸ c with c | c
          · have : n = 1 := by
              have := eq_of_beq c
              omega
            subst this
            simp
          · have hw0 : ws = [] := List.eq_nil_of_length_eq_zero (eq_of_beq c)
            subst hw0
            apply List.eq_nil_of_length_eq_zero
            rw [rep_len]
            rfl
        rw [e] at q
        exact ⟨.str _, H, I, ⟨_, rfl⟩, q⟩
      · rw [if_neg c, Int.toNat_natCast, fold_app]
        have e : (#[] : Array Nat) ++ ((List.replicate n (txt ws).cps.toList).flatten).toArray = ((List.replicate n ws).flatten).toArray := by
          apply Array.ext'
          simp [txt]
        rw [e]
        refine ⟨?_, .str _, H, I.tok _, ⟨_, rfl⟩, q⟩
        show ((List.replicate n ws).flatten).toArray.size ≤ sizeLine
        rw [List.size_toArray, rep_len, e16]
        omega
end
end Tr
/-! straight -/
namespace Tr
open PySem PySem.Spec PyProof.Rows L2
def rMulZ : V → V → Hp → VK → Prop := fun x y H Q => ∃ (l : Nat) (z : Int), x = .str (txt [l]) ∧ y = .int z ∧ z ≤ 1000 ∧ -1000 ≤ z ∧ Q (.str (txt (List.replicate z.toNat l))) H
theorem flat_one (n l : Nat) : (List.replicate n [l]).flatten = List.replicate n l := by
  induction n with
  | zero => rfl
  | succ n ih =>
    rw [List.replicate_succ, List.flatten_cons, ih]
    rfl
theorem op_mulZ {X : Cx} : OpR X (binaryOp .Mult) rMulZ := by
  intro pins s σ H x y v u Q I rx ry h
  obtain ⟨l, z, rfl, rfl, h1, h2, q⟩ := h
  rcases Int.lt_or_le z 0 with hz | hz
  · obtain ⟨t, rfl⟩ := rx
    obtain ⟨t2, rfl⟩ := ry
    have hl : (txt [l]).length = 1 := txt_len [l]
    refine P.mul_str ?_ ?_ ?_ ?_
    · rw [Bool.or_eq_false_iff]
      exact ⟨decide_eq_false (by omega), decide_eq_false (by omega)⟩
    · intro h3 _ h4
      omega
    · intro _ _
      refine decide_eq_false (fun h4 => ?_)
      rw [hl] at h4
      have e16 : sizeLine = 16777216 := rfl
      omega
    · have e16 : sizeLine = 16777216 := rfl
      rw [if_pos (by omega)]
      refine ⟨?_, .str _, H, I.tok _, ⟨_, rfl⟩, ?_⟩
      · show (#[] : Array Nat).size ≤ sizeLine
        rw [e16]
        decide
      · have e : z.toNat = 0 := by omega
        rw [e] at q
        exact q
  · refine op_mulS pins s σ H _ _ v u Q I rx ry ⟨[l], z.toNat, rfl, ?_, by omega, by simp, ?_⟩
    · rw [Int.toNat_of_nonneg hz]
    · rw [flat_one]
      exact q
theorem scStr : FnScope ["start", "end", "row", "column", "to_row", "to_column"] ["start", "end"] (defScope d_straight) := ⟨rfl, rfl, rfl, by decide +kernel, rfl, by decide +kernel, by decide +kernel⟩
def spStr (K : PySem.W.Frag) : Sp := fun vs H Q _ => ∃ (p q : Addr) (r c r' c' : Nat), vs = [.ref p, .ref q] ∧ SqT K H p [.int r, .int c] ∧ SqT K H q [.int r', .int c'] ∧ r ≤ 6 ∧ c ≤ 6 ∧ r' ≤ 6 ∧ c' ≤ 6 ∧ Q (.str (txt (Bf.strL r c r' c'))) H
section
variable {P : Program} {w : World} {K : PySem.W.Frag} {mg : Str → Option Value} {base : Heap}
theorem us_eq : ("u" : Str) = txt [117] := by decide +kernel
theorem ds_eq : ("d" : Str) = txt [100] := by decide +kernel
theorem ls_eq : ("l" : Str) = txt [108] := by decide +kernel
theorem rs_eq : ("r" : Str) = txt [114] := by decide +kernel
theorem ok_str {fa : Addr} {fd : FuncData} {k : Nat} (F : Fun K "straight" "straight" d_straight fa fd) : FnOk P w K mg base CX0 (k + 1) fa fd ["start", "end"] (spStr K) := by
  refine F.ok scStr (fun vs H Q E h => ?_) (fun cdv A outer s H vs Q E hr h => ?_)
  · obtain ⟨p, q, r, c, r', c', rfl, _⟩ := h
    rfl
  · obtain ⟨p, q, r, c, r', c', rfl, hp, hq, h1, h2, h3, h4, k⟩ := h
    refine ⟨_, pss_cons (ps_asg (pv 0) (pg_tup rfl (pgs_cons (pg_name (i := 2) scStr.nd rfl (.inl rfl)) (pgs_cons (pg_name (i := 3) scStr.nd rfl (.inl rfl)) pgs_nil))))
      (pss_cons (ps_asg (pv 1) (pg_tup rfl (pgs_cons (pg_name (i := 4) scStr.nd rfl (.inl rfl)) (pgs_cons (pg_name (i := 5) scStr.nd rfl (.inl rfl)) pgs_nil))))
      (pss_one (ps_ret (pe_op op_add_str (pe_op op_add_str (pe_op op_add_str (pe_op op_mulZ pe_str (pe_op op_sub (pv 2) (pv 4))) (pe_op op_mulZ pe_str (pe_op op_sub (pv 4) (pv 2)))) (pe_op op_mulZ pe_str (pe_op op_sub (pv 3) (pv 5)))) (pe_op op_mulZ pe_str (pe_op op_sub (pv 5) (pv 3))))))), ?_⟩
    refine ⟨_, rfl, p, _, rfl, hp, rfl, _, _, rfl, _, _, rfl, rfl, ?_⟩
    refine ⟨_, rfl, q, _, rfl, hq, rfl, _, _, rfl, _, _, rfl, rfl, ?_⟩
    rw [us_eq, ds_eq, ls_eq, rs_eq]
    refine ⟨_, rfl, _, rfl, (r : Int), (r' : Int), rfl, rfl, 117, _, rfl, rfl, by omega, by omega, ?_⟩
    refine ⟨_, rfl, _, rfl, (r' : Int), (r : Int), rfl, rfl, 100, _, rfl, rfl, by omega, by omega, ?_⟩
    refine ⟨_, _, rfl, rfl, ?_, ?_⟩
    · rw [txt_len, txt_len, List.length_replicate, List.length_replicate]
      have e16 : sizeLine = 16777216 := rfl
      omega
    refine ⟨_, rfl, _, rfl, (c : Int), (c' : Int), rfl, rfl, 108, _, rfl, rfl, by omega, by omega, ?_⟩
    refine ⟨_, _, rfl, rfl, ?_, ?_⟩
    · rw [txt_add, txt_len, txt_len, List.length_append, List.length_replicate, List.length_replicate, List.length_replicate]
      have e16 : sizeLine = 16777216 := rfl
      omega
    refine ⟨_, rfl, _, rfl, (c' : Int), (c : Int), rfl, rfl, 114, _, rfl, rfl, by omega, by omega, ?_⟩
    refine ⟨_, _, rfl, rfl, ?_, ?_⟩
    · rw [txt_add, txt_add, txt_len, txt_len, List.length_append, List.length_append, List.length_replicate, List.length_replicate, List.length_replicate, List.length_replicate]
      have e16 : sizeLine = 16777216 := rfl
      omega
    have e : txt (List.replicate ((r : Int) - r').toNat 117) ++ txt (List.replicate ((r' : Int) - r).toNat 100) ++ txt (List.replicate ((c : Int) - c').toNat 108) ++ txt (List.replicate ((c' : Int) - c).toNat 114) = txt (Bf.strL r c r' c') := by
      rw [txt_add, txt_add, txt_add]
      have x1 : ((r : Int) - r').toNat = r - r' := by omega
      have x2 : ((r' : Int) - r).toNat = r' - r := by omega
      have x3 : ((c : Int) - c').toNat = c - c' := by omega
      have x4 : ((c' : Int) - c).toNat = c' - c := by omega
      rw [x1, x2, x3, x4, List.append_assoc (List.replicate (r - r') 117 ++ List.replicate (r' - r) 100)]
      rfl
    show Q (V.str (txt (List.replicate ((r : Int) - r').toNat 117) ++ txt (List.replicate ((r' : Int) - r).toNat 100) ++ txt (List.replicate ((c : Int) - c').toNat 108) ++ txt (List.replicate ((c' : Int) - c).toNat 114))) H
    rw [e]
    exact k
end
end Tr
/-! {k: v for a in xs for b in ys}, without ifs -/
namespace Tr
open PySem PySem.Spec PyProof.Rows L2
abbrev dc2E (kx vx t0 i0 t1 i1 : Expr) (scope : Scope) (pos : Pos) : Expr := .DictComp kx vx [⟨t0, i0, [], 0⟩, ⟨t1, i1, [], 0⟩] scope pos
abbrev NoE : Value → Shared → Prop := fun _ _ => False
section
variable {prog : Program} {w : World} {A : Around} {R : Result → Shared → Prop} {s : Shared} {kx vx t0 i0 t1 i1 : Expr} {scope : Scope} {pos : Pos} {it : Value} {D : Addr} {env : Env}
theorem dc2_inner (I : Nat → Shared → Prop) (turn : ∀ n s, I n s → wpAny (model prog w) A (pyNext it) (fun r s1 => match r with
    | none => R (.ok .next) s1
    | some v => wpAny (model prog w) A (letOwnedTupleGo t1 it v) (fun _ s2 => wpAny (model prog w) A (assign t1 env v) (fun _ s3 => wpAny (model prog w) A (eval kx env) (fun kv s4 => wpAny (model prog w) A (eval vx env) (fun vv s5 =>
        wpAny (model prog w) A (dictSet D kv vv) (fun _ s6 => ∃ m, m < n ∧ I m s6) NoE s5) NoE s4) NoE s3) NoE s2) NoE s1) NoE s) (n : Nat) (h : I n s) :
    codeAny (model prog w) A (.compLoop (dc2E kx vx t0 i0 t1 i1 scope pos) 1 it (.ref D) env) R s := by
  refine codeAny_loop rfl I (fun n s hI => ?_) n h
  show wpAny _ A ((compTurn (dc2E kx vx t0 i0 t1 i1 scope pos) 1 it (.ref D) env).onRaise (fun x => do noteFrame x env; theTreesLotGoes x)) _ _ s
  refine wpAny_noted ?_
  show wpAny _ _ (standAt i1.pos >>= fun _ => (pyNext it >>= _)) _ _ s
  refine wpAny_bind (wpAny_standAt (wpAny_bind (thnF (turn n s hI) fun r s1 h1 => ?_)))
  cases r with
  | none => exact wpAny_pure h1
  | some v =>
    show wpAny _ _ (letOwnedTupleGo t1 it v >>= fun _ => (assign t1 env v >>= _)) _ _ s1
    refine wpAny_bind (thnF h1 fun _ s2 h2 => wpAny_bind (thnF h2 fun _ s3 h3 => ?_))
    show wpAny _ _ ((eval kx env >>= fun kv => (holding [kv] (eval vx env) >>= _)) >>= _) _ _ s3
    refine wpAny_bind (wpAny_bind (thnF h3 fun kv s4 h4 => wpAny_bind (wpAny_holding (thnF h4 fun vv s5 h5 => ?_))))
    refine wpAny_bind (wpAny_standAt (wpAny_holding (thnF h5 fun _ s6 h6 => ?_)))
    exact wpAny_pure ⟨rfl, h6⟩
theorem dc2_outer (hs : ∀ x, foldedSetIterable i1 env x = pure x) (I : Nat → Shared → Prop) (turn : ∀ n s, I n s → wpAny (model prog w) A (pyNext it) (fun r s1 => match r with
    | none => R (.ok .next) s1
    | some v => wpAny (model prog w) A (letOwnedTupleGo t0 it v) (fun _ s2 => wpAny (model prog w) A (assign t0 env v) (fun _ s3 => wpAny (model prog w) A (eval i1 env) (fun x s4 => wpAny (model prog w) A (pyIter x) (fun it1 s5 =>
        codeAny (model prog w) A (.compStart (dc2E kx vx t0 i0 t1 i1 scope pos) 1 it1 (.ref D) env) (fun r s' => match r with
          | .ok _ => ∃ m, m < n ∧ I m s'
          | .error _ => False) s5) NoE s4) NoE s3) NoE s2) NoE s1) NoE s) (n : Nat) (h : I n s) :
    codeAny (model prog w) A (.compLoop (dc2E kx vx t0 i0 t1 i1 scope pos) 0 it (.ref D) env) R s := by
  refine codeAny_loop rfl I (fun n s hI => ?_) n h
  show wpAny _ A ((compTurn (dc2E kx vx t0 i0 t1 i1 scope pos) 0 it (.ref D) env).onRaise (fun x => do noteFrame x env; theTreesLotGoes x)) _ _ s
  refine wpAny_noted ?_
  show wpAny _ _ (standAt i0.pos >>= fun _ => (pyNext it >>= _)) _ _ s
  refine wpAny_bind (wpAny_standAt (wpAny_bind (thnF (turn n s hI) fun r s1 h1 => ?_)))
  cases r with
  | none => exact wpAny_pure h1
  | some v =>
    show wpAny _ _ (letOwnedTupleGo t0 it v >>= fun _ => (assign t0 env v >>= _)) _ _ s1
    refine wpAny_bind (thnF h1 fun _ s2 h2 => wpAny_bind (thnF h2 fun _ s3 h3 => ?_))
    show wpAny _ _ (eval i1 env >>= fun x => (standAt i1.pos >>= _)) _ _ s3
    refine wpAny_bind (thnF h3 fun x s4 h4 => wpAny_bind (wpAny_standAt ?_))
    show wpAny _ _ (foldedSetIterable i1 env x >>= _) _ _ s4
    refine wpAny_bind (wpAny_of_eq (hs x) ?_)
    show wpAny _ _ (holding [x] (pyIter x) >>= _) _ _ s4
    refine wpAny_bind (wpAny_holding (thnF h4 fun it1 s5 h5 => wpAny_bind (wpAny_runOwn ?_)))
    rw [Around.mark_none]
    refine codeAny_mono h5 fun r s' hr => ?_
    cases r with
    | ok f => exact wpAny_pure ⟨rfl, hr⟩
    | error e => exact hr.elim
theorem dc2_start (h0 : codeAny (model prog w) A (.compLoop (dc2E kx vx t0 i0 t1 i1 scope pos) 1 it (.ref D) env) R s)
    (h : wpAny (model prog w) A (pyIter it) (fun it' s' => codeAny (model prog w) A (.compLoop (dc2E kx vx t0 i0 t1 i1 scope pos) 1 it' (.ref D) env) R s') NoE s) :
    codeAny (model prog w) A (.compStart (dc2E kx vx t0 i0 t1 i1 scope pos) 1 it (.ref D) env) R s := by
  refine codeAny_of_tree ?_
  show wpAny _ A ((compStart (dc2E kx vx t0 i0 t1 i1 scope pos) 1 it (.ref D) env).onRaise (fun x => do noteFrame x env; standAt theWindowsPlace)) _ _ s
  refine wpAny_notedAt ?_
  unfold compStart
  show wpAny _ _ (ask >>= _) _ _ s
  refine wpAny_bind (wpAny_askSetting (wpAny_ite ?_))
  split
  · first
      | exact wpAny_pure ⟨rfl, h0⟩
      | exact wpAny_bind (wpAny_pure (wpAny_pure ⟨rfl, h0⟩))
  · refine wpAny_bind (wpAny_rule ?_)
    show wpAny _ _ (standAt i1.pos >>= fun _ => (pyIter it >>= _)) _ _ s
    exact wpAny_bind (wpAny_standAt (wpAny_bind (thnF h fun it' s' h' => wpAny_pure ⟨rfl, h'⟩)))
end
/-- what is asked of such a comprehension -/
def tDc2 (wi : TI) (g : TG) (wi1 : TI) (g1 : TG) (tk tv : TE) (vs vs1 : List Nat) : TE := fun σ H Q => wi σ H fun J H1 => ∀ D, H1 D = none → ∃ W : Nat → Nat → Hp → Prop, (∃ m, W 0 m (upd H1 D (.dK []))) ∧ ∀ i m H, W i m H →
  (J.stop i H ∧ Q (.ref D) H) ∨ (J.go i H ∧ ∃ Nx : Hp → Prop, (∀ H', Nx H' → ∃ m', m' < m ∧ W (i + 1) m' H') ∧ ∀ x H', J.yld i H x H' → g x (wipe σ vs) H' fun σ2 H2 => wipe σ2 vs = wipe σ vs ∧
    wi1 σ2 H2 fun J1 H4 => ∃ W1 : Nat → Nat → Hp → Prop, (∃ m, W1 0 m H4) ∧ ∀ j k H, W1 j k H →
      (J1.stop j H ∧ Nx H) ∨ (J1.go j H ∧ ∃ Nx1 : Hp → Prop, (∀ H', Nx1 H' → ∃ k', k' < k ∧ W1 (j + 1) k' H') ∧ ∀ x H', J1.yld j H x H' → g1 x (wipe σ2 vs1) H' fun σ3 H5 => wipe σ3 vs1 = wipe σ2 vs1 ∧
        tk σ3 H5 fun y H6 => tv σ3 H6 fun z H7 => ∃ kvs k, y = kV k ∧ H7 D = some (.dK kvs) ∧ kvs.length < sizeLine ∧ Nx1 (upd H7 D (.dK (putK kvs k z)))))
section
variable {X : Cx}
/-- the objects of an iterator, as they stood at its last turn -/
theorem pinned_at {Y : Cx} {ps : List (Addr × Obj)} {σ : L2.St} {H : Hp} {fp : List Addr} {h0 : Heap} {s' : Shared} (I : Inv Y (ps ++ pinsAt fp h0) σ H s') {b : Addr} (hb : b ∈ fp) {o : Obj} (e : h0.get? b = some o) : s'.heap.get? b = some o ∧ H b = none := by
  have z := I.pin (b, o) (List.mem_append_right _ (List.mem_append_right _ (mem_pinsAt hb e)))
  exact ⟨z.1, z.2.1⟩
theorem pe_dc2 {kx vx t0 i0 t1 i1 : Expr} {scope : Scope} {own : List (Str × Nat)} {vs1 : List Nat} {pos : Pos} {wi wi1 : TI} {g g1 : TG} {tk tv : TE} (hc : X.calm = true) (hN : X.N.Nodup) (hi : PI X t0 i0 wi) (ok : BlkOk X.N X.env.scope scope own) (hv : ∀ i ∈ vs1, i ∈ own.map (·.2))
    (hg : ∀ (s : Shared) (H : Hp) (C : Addr) (cl : List (Str × Addr)) (fp : List Addr), PG (X.blk s H scope (compEnvC scope cl C X.env) fp) t0 g)
    (hi1 : ∀ (s : Shared) (H : Hp) (C : Addr) (cl : List (Str × Addr)) (fp : List Addr), PI (X.blk s H scope (compEnvC scope cl C X.env) fp) t1 i1 wi1)
    (hg1 : ∀ (s : Shared) (H : Hp) (C : Addr) (cl : List (Str × Addr)) (fp : List Addr), PG (X.blk s H scope (compEnvC scope cl C X.env) fp) t1 g1)
    (hk : ∀ (s : Shared) (H : Hp) (C : Addr) (cl : List (Str × Addr)) (fp : List Addr), PE (X.blk s H scope (compEnvC scope cl C X.env) fp) kx tk)
    (he : ∀ (s : Shared) (H : Hp) (C : Addr) (cl : List (Str × Addr)) (fp : List Addr), PE (X.blk s H scope (compEnvC scope cl C X.env) fp) vx tv)
    (hs : ∀ x, foldedSetIterable i0 X.env x = pure x := by intro _; rfl) (hs1 : ∀ env x, foldedSetIterable i1 env x = pure x := by intro _ _; rfl) :
    PE X (dc2E kx vx t0 i0 t1 i1 scope pos) (tDc2 wi g wi1 g1 tk tv (own.map (·.2)) vs1) := by
  refine ⟨fun pins s σ H Q I h => ?_⟩
  rw [arm_eval_DictComp]
  have clo : ∀ y ∈ scope.names, y.2 = .free → ∃ c, X.env.cells.lookup y.1 = some c := fun y hy e => (ok.free y hy e).elim (fun k => I.ok.has _ (.inl k)) fun k => I.ok.has _ (.inr k)
  refine wpAny_comprehension_free (use := none) rfl hs (closure_ok clo) ok.kind (fun y hy e => (ok.uniq y hy).trans (congrArg some e)) (thn (hi.run pins s σ H _ I h) fun xv s1 hx => thn hx fun itv s2 hp => ?_)
  obtain ⟨it, fp, tn, J, H2, rfl, I2, T, tn2, f2, q⟩ := hp
  refine wpAny_newObj_type (newEnv_comp ?_)
  have nD : H2 s2.heap.objs.size = none := I2.hok.fresh (Nat.le_refl _)
  obtain ⟨W, ⟨m0, w0⟩, turn⟩ := q _ nD
  -- the new dict
  have sD : ∀ b ∈ fp, b < s2.heap.objs.size := fun b hb => (T.obj _ _ tn2 b hb).elim fun o e => Heap.lt_size e.1
  have I3 : Inv X pins σ (upd H2 s2.heap.objs.size (.dK [])) { s2 with heap := s2.heap.push { cls := .type "dict", data := .dict #[] } } :=
    I2.laid (t' := s2.toks) (fun b o e => Heap.get?_push_of_some _ e) (Nat.le_refl _) (dk_empty s2.heap I2.big)
  have tn3 : tn 0 (s2.heap.push { cls := .type "dict", data := .dict #[] }) := T.keep _ _ _ tn2 fun b _ o e => Heap.get?_push_of_some _ e
  have f3 : ∀ b ∈ fp, FpOk X pins (upd H2 s2.heap.objs.size (.dK [])) b ∧ b < (s2.heap.push { cls := .type "dict", data := .dict #[] }).objs.size := fun b hb => by
    have lt := sD b hb
    refine ⟨⟨?_, (f2 b hb).2⟩, ?_⟩
    · rw [upd_ne (Nat.ne_of_lt lt)]
      exact (f2 b hb).1
    · rw [Heap.size_push]
      exact Nat.lt_succ_of_lt lt
  generalize s2.heap.objs.size = D at *
  generalize e3 : ({ s2 with heap := s2.heap.push { cls := .type "dict", data := .dict #[] } } : Shared) = s3 at *
  have h3 : s3.heap = s2.heap.push { cls := .type "dict", data := .dict #[] } := by rw [← e3]
  rw [← h3] at tn3 f3
  generalize upd H2 D (.dK []) = H3 at *
  have I4 := block_start I3 ok hN f3
  have pg := hg s3 H3 s3.heap.objs.size (cellsFrom (s3.heap.objs.size + 1) scope.names (cloFrom X.env.cells scope.names [])) fp
  have pi1 := hi1 s3 H3 s3.heap.objs.size (cellsFrom (s3.heap.objs.size + 1) scope.names (cloFrom X.env.cells scope.names [])) fp
  have pg1 := hg1 s3 H3 s3.heap.objs.size (cellsFrom (s3.heap.objs.size + 1) scope.names (cloFrom X.env.cells scope.names [])) fp
  have pk := hk s3 H3 s3.heap.objs.size (cellsFrom (s3.heap.objs.size + 1) scope.names (cloFrom X.env.cells scope.names [])) fp
  have pv := he s3 H3 s3.heap.objs.size (cellsFrom (s3.heap.objs.size + 1) scope.names (cloFrom X.env.cells scope.names [])) fp
  show codeAny _ _ (.compStart (dc2E kx vx t0 i0 t1 i1 scope pos) 0 (.ref it) (.ref D) (compEnvC scope (cellsFrom (s3.heap.objs.size + 1) scope.names (cloFrom X.env.cells scope.names [])) s3.heap.objs.size X.env)) (compPost (model X.prog X.w) X.A X.xe none _ (.ref D) s3.heap.objs.size) { s3 with heap := pushCells (s3.heap.push { cls := .type "dict", data := .dict #[] }) scope.names }
  generalize ece : compEnvC scope (cellsFrom (s3.heap.objs.size + 1) scope.names (cloFrom X.env.cells scope.names [])) s3.heap.objs.size X.env = ce at *
  have cL : ce.locals = s3.heap.objs.size := by
    subst ece
    rfl
  have tn4 : tn 0 (pushCells (s3.heap.push { cls := .type "dict", data := .dict #[] }) scope.names) := T.keep _ _ _ tn3 fun b _ o e => pushCells_keeps _ _ _ _ (Heap.get?_push_of_some _ e)
  have n3 : ∀ b ∈ fp, H3 b = none := fun b hb => (f3 b hb).1.1
  generalize es4 : ({ s3 with heap := pushCells (s3.heap.push { cls := .type "dict", data := .dict #[] }) scope.names } : Shared) = s4 at I4 ⊢
  have tn4' : tn 0 s4.heap := by
    rw [← es4]
    exact tn4
  -- a block's own objects are the block's to turn
  have mine : ∀ {σ' : L2.St} {H' : Hp} {s' : Shared}, Inv (X.blk s3 H3 scope ce fp) [] σ' H' s' → (∀ b ∈ fp, H' b = none) → ∀ b ∈ fp, FpOk (X.blk s3 H3 scope ce fp) [] H' b := fun I' hn b hb =>
    ⟨hn b hb, (I'.ok.exf b hb).1, I'.ok.exfs b hb, .inl hb, (fun x c e => (I'.ok.exf b hb).2 x c e), fun p hp => nomatch hp⟩
  let Bt : Nat → Shared → Prop := fun n s' => ∃ i H', Inv (X.blk s3 H3 scope ce fp) [] (wipe σ (own.map (·.2))) H' s' ∧ tn i s'.heap ∧ (∀ b ∈ fp, H' b = none) ∧ W i n H'
  have loop : codeAny (model X.prog X.w) X.A (.compLoop (dc2E kx vx t0 i0 t1 i1 scope pos) 0 (.ref it) (.ref D) ce) (compPost (model X.prog X.w) X.A X.xe none (EP X pins σ Q) (.ref D) s3.heap.objs.size) s4 := by
    refine dc2_outer (hs1 ce) Bt ?_ m0 ⟨0, H3, I4, tn4', n3, w0⟩
    rintro n s5 ⟨i, H5, I5, tn5, n5, w5⟩
    rcases turn i n H5 w5 with ⟨stop, fin⟩ | ⟨go, Nx, hNx, step⟩
    · refine thnF (T.done (X.blk s3 H3 scope ce fp) rfl rfl rfl hc i [] s5 _ H5 NoE I5 (mine I5 n5) tn5 stop) fun r s6 hr => ?_
      obtain ⟨rfl, I6⟩ := hr
      have I7 : Inv X pins σ H5 s6 := I3.call' (ch := fp) I6.os I6.base I6.hok I6.bare fun b hb => ⟨(f3 b hb).1.2.2.2.1, (f3 b hb).1.2.1, (f3 b hb).1.2.2.2.2.1, (f3 b hb).1.2.2.2.2.2⟩
      have free : H5 s3.heap.objs.size = none := by
        rw [← cL]
        exact I6.free
      obtain ⟨m, hn, _⟩ := I6.loc
      have hn : s6.heap.Ns ce.locals m := hn
      rw [cL] at hn
      obtain ⟨g0, g1', g2, g3, g4, g5⟩ := I3.fpOk (Nat.le_refl _) free
      refine ⟨m, hn, fun h'' sb => ?_⟩
      exact ⟨.ref D, H5, I7.turned (t' := s6.toks) (fun b o hb e => (sb.2 b hb).trans e) g0 g1' g3 g4 g5, rfl, fin⟩
    · refine thnF (T.item (X.blk s3 H3 scope ce fp) rfl rfl rfl hc i [] s5 _ H5 NoE I5 (mine I5 n5) tn5 go) fun r s6 hr => ?_
      obtain ⟨u, rfl, h6⟩ := hr
      refine thnF h6 fun _ s7 h7 => ?_
      obtain ⟨x, H7, I7, r7, y7, tn7, n7⟩ := h7
      have P7 := I7.pinned (mine I7 n7) (T.obj _ _ tn7)
      refine thnF (pg.run _ s7 _ H7 x u _ P7 r7 (step x H7 y7)) fun _ s8 h8 => ?_
      obtain ⟨σ8, H8, I8, w8, q8⟩ := h8
      -- back to the next turn of the first clause
      have turned : ∀ {σ9 : L2.St} {s' : Shared} {H' : Hp}, Inv (X.blk s3 H3 scope ce fp) ([] ++ pinsAt fp s7.heap) σ9 H' s' → (wipe σ (own.map (·.2))).length = σ9.length → (∀ (j : Nat) v, (wipe σ (own.map (·.2)))[j]? = some (some v) → σ9[j]? = some (some v)) → Nx H' → ∃ m, m < n ∧ Bt m s' := by
        intro σ9 s' H' I' hl hkn nx
        obtain ⟨m', hm, w'⟩ := hNx H' nx
        refine ⟨m', hm, i + 1, H', (I'.unpinned (pins := [])).weak hl hkn, T.keep _ _ _ tn7 fun b hb o e => (pinned_at I' hb e).1, fun b hb => ?_, w'⟩
        obtain ⟨o, e, _⟩ := T.obj _ _ tn7 b hb
        exact (pinned_at I' hb e).2
      have known : ∀ (j : Nat) v, (wipe σ (own.map (·.2)))[j]? = some (some v) → (wipe σ8 vs1)[j]? = some (some v) := fun j v e => by
        rw [← w8] at e
        obtain ⟨e1, e2⟩ := wipe_some e
        rw [wipe_out fun z => e2 (hv j z)]
        exact e1
      have long : (wipe σ (own.map (·.2))).length = (wipe σ8 vs1).length := by rw [← w8, wipe_length, wipe_length]
      refine thnF (pi1.run _ s8 σ8 H8 _ I8 q8) fun xv s9 hx => thnF hx fun itv s10 hp => ?_
      obtain ⟨it1, fp1, tn1, J1, H10, rfl, I10, T1, tn10, f10, W1, ⟨m1, w1⟩, turn1⟩ := hp
      have mine1 : ∀ {H' : Hp}, (∀ b ∈ fp1, H' b = none) → ∀ b ∈ fp1, FpOk (X.blk s3 H3 scope ce fp) ([] ++ pinsAt fp s7.heap) H' b := fun hn b hb => ⟨hn b hb, (f10 b hb).2⟩
      let Bi : Nat → Shared → Prop := fun k s' => ∃ j H', Inv (X.blk s3 H3 scope ce fp) ([] ++ pinsAt fp s7.heap) (wipe σ8 vs1) H' s' ∧ tn1 j s'.heap ∧ (∀ b ∈ fp1, H' b = none) ∧ W1 j k H'
      have inner : codeAny (model X.prog X.w) X.A (.compLoop (dc2E kx vx t0 i0 t1 i1 scope pos) 1 (.ref it1) (.ref D) ce) (fun r s' => match r with
          | .ok _ => ∃ m, m < n ∧ Bt m s'
          | .error _ => False) s10 := by
        refine dc2_inner Bi ?_ m1 ⟨0, H10, I10.weak (wipe_length _ _) (fun j v e => (wipe_some e).1), tn10, fun b hb => (f10 b hb).1, w1⟩
        rintro k s11 ⟨j, H11, I11, tn11, n11, w11⟩
        rcases turn1 j k H11 w11 with ⟨stop1, nx1⟩ | ⟨go1, Nx1, hNx1, step1⟩
        · refine thnF (T1.done (X.blk s3 H3 scope ce fp) rfl rfl rfl hc j _ s11 (wipe σ8 vs1) H11 NoE I11 (mine1 n11) tn11 stop1) fun r s12 hr => ?_
          obtain ⟨rfl, I12⟩ := hr
          exact turned I12 long known nx1
        · refine thnF (T1.item (X.blk s3 H3 scope ce fp) rfl rfl rfl hc j _ s11 (wipe σ8 vs1) H11 NoE I11 (mine1 n11) tn11 go1) fun r s12 hr => ?_
          obtain ⟨u1, rfl, h12⟩ := hr
          refine thnF h12 fun _ s13 h13 => ?_
          obtain ⟨x1, H13, I13, r13, y13, tn13, n13⟩ := h13
          have P13 := I13.pinned (mine1 n13) (T1.obj _ _ tn13)
          refine thnF (pg1.run _ s13 (wipe σ8 vs1) H13 x1 u1 _ P13 r13 (step1 x1 H13 y13)) fun _ s14 h14 => ?_
          obtain ⟨σ14, H14, I14, w14, q14⟩ := h14
          refine thnF (pk.run _ s14 σ14 H14 _ I14 q14) fun kv s15 h15 => ?_
          obtain ⟨yk, H15, I15, r15, q15⟩ := h15
          refine thnF (pv.run _ s15 σ14 H15 _ I15 q15) fun vv s16 h16 => ?_
          obtain ⟨yv, H16, I16, r16, kvs, key, rfl, hD, hlt, nx⟩ := h16
          refine d_dictSet (X := X.blk s3 H3 scope ce fp) I16 hD hlt r15 r16 fun s17 I17 => ?_
          obtain ⟨m', hm, w'⟩ := hNx1 _ nx
          refine ⟨m', hm, j + 1, _, I17.unpinned.weak (by rw [← w14, wipe_length]) (fun j v e => by rw [← w14] at e; exact (wipe_some e).1), T1.keep _ _ _ tn13 fun b hb o e => (pinned_at I17 hb e).1, fun b hb => ?_, w'⟩
          obtain ⟨o, e, _⟩ := T1.obj _ _ tn13 b hb
          exact (pinned_at I17 hb e).2
      exact dc2_start inner (T1.self X.A 0 _ _ _ tn10 inner)
  exact codeAny_compStart_dict loop (T.self X.A 0 _ _ _ tn4' loop)
end
end Tr
/-! Dicts whose keys are tuples of tuples: the kind of such keys -/
namespace Nst
open PySem
open Sem (wp)
section
variable {prog : Program} {w : World} {K : Type} [DecidableEq K] (knd : KeyKind prog w K)
/-- references to tuples that are keys -/
inductive Refs (h : Heap) : List (List K) → List Value → Prop
  | nil : Refs h [] []
  | cons {k : List K} {b : Addr} {ks : List (List K)} {vs : List Value} : IsTupleKey knd h k b → Refs h ks vs → Refs h (k :: ks) (.ref b :: vs)
/-- a tuple of such -/
def IsN (h : Heap) (ks : List (List K)) (a : Addr) : Prop := ∃ (o : Obj) (items : Array Value) (n : Nat), h.get? a = some o ∧ o.cls = .type "tuple" ∧ o.data = .seq items n ∧ Refs knd h ks items.toList
def hashN (ks : List (List K)) : Int := reduceHash (Builtin.Tuple.tupleHashOf (ks.map (tupleKeyHash knd)))
def drw : List (List K) → Nat
  | [] => 0
  | k :: r => k.length + 1 + drw r
theorem drw_app : ∀ a b : List (List K), drw (a ++ b) = drw a + drw b
  | [], b => by simp [drw]
  | k :: r, b => by
    show k.length + 1 + drw (r ++ b) = k.length + 1 + drw r + drw b
    rw [drw_app r b]
    omega
variable {knd}
theorem Refs.inj {h : Heap} {x y : List (List K)} {vs : List Value} (a : Refs knd h x vs) (b : Refs knd h y vs) : x = y := by
  induction a generalizing y with
  | nil => cases b; rfl
  | cons p _ ih =>
    cases b with
    | cons q r => rw [p.inj q, ih r]
theorem Refs.len {h : Heap} {x : List (List K)} {vs : List Value} (a : Refs knd h x vs) : x.length = vs.length := by
  induction a with
  | nil => rfl
  | cons _ _ ih => simp [ih]
theorem Refs.keeps {h h' : Heap} {x : List (List K)} {vs : List Value} {d : Addr} {o : Obj} {es ep} (a : Refs knd h x vs) (ho : h.get? d = some o) (hd : o.data = .dict es ep) (hs : Heap.SameBut d h h') : Refs knd h' x vs := by
  induction a with
  | nil => exact .nil
  | cons p _ ih => exact .cons (p.keeps ho hd hs) ih
theorem IsN.ty {s : Shared} {ks : List (List K)} {a : Addr} (x : IsN knd s.heap ks a) : s.TypeIs (.ref a) "tuple" := by
  obtain ⟨o, _, _, ho, hc, _⟩ := x
  exact ⟨o, ho, hc⟩
theorem IsN.inj {h : Heap} {a : Addr} {x y : List (List K)} (p : IsN knd h x a) (q : IsN knd h y a) : x = y := by
  obtain ⟨o, items, n, ho, _, hd, hi⟩ := p
  obtain ⟨o', items', n', ho', _, hd', hi'⟩ := q
  have e := Option.some.inj (ho.symm.trans ho')
  subst e
  rw [hd] at hd'
  injection hd' with e1 _
  subst e1
  exact hi.inj hi'
theorem IsN.keeps {h h' : Heap} {ks : List (List K)} {a d : Addr} {o : Obj} {es ep} (x : IsN knd h ks a) (ho : h.get? d = some o) (hd : o.data = .dict es ep) (hs : Heap.SameBut d h h') : IsN knd h' ks a := by
  obtain ⟨o', items, n, ho', hc, hd', hi⟩ := x
  have hne : a ≠ d := fun e => by
    rw [e, ho] at ho'
    cases ho'
    rw [hd] at hd'
    cases hd'
  exact ⟨o', items, n, (hs.2 a hne).trans ho', hc, hd', hi.keeps ho hd hs⟩
variable {A : Around} {E : Value → Shared → Prop} {s : Shared}
theorem hash_n {ks : List (List K)} {a : Addr} {Q : Int → Shared → Prop} (hu : A.units + 1 < cLine) (hk : IsN knd s.heap ks a) (h : Q (hashN knd ks) { s with toks := s.toks + (drw ks + 1) }) :
    wpAny (model prog w) A (pyHash (.ref a)) Q E s := by
  have hT := hk.ty
  obtain ⟨o, items, n, ho, _, hd, hi⟩ := hk
  unfold pyHash
  first | unfold pyHashByItsType | skip
  first | refine wpAny_bind (wpAny_cRoomFor_or (.inr (by omega)) ?_) | skip
  refine wpAny_bind (wpAny_specialOf hT F.slot_tuple_hash.lookup ?_)
  show wpAny _ _ (if (some (Value.builtin "tuple.__hash__") == some Value.none) = true then _ else _) Q E s
  rw [if_neg (by rw [beq_builtin_none]; decide)]
  refine wpAny_bind (wpAny_specialOf hT F.slot_tuple_hash.lookup ?_)
  show wpAny _ _ (callSpecialIfBoundUnlessNone? (.ref a) "__hash__" _ >>= _) Q E s
  refine wpAny_bind (wpAny_callSpecialIfBoundUnlessNone?_slot hT F.slot_tuple_hash (wpAny_call_entry F.slot_tuple_hash hT F.entry_tuple_hash ?_ (F.args_tuple_hash_1 _)))
  show wpAny _ _ (Builtin.Tuple.tupleItemsOf (.ref a) >>= _) _ _ s
  refine wpAny_bind (wpAny_tupleItemsOf ho hd (wpAny_bind ?_))
  rw [← Array.forIn_toList]
  refine wpAny_forIn_list _ (fun rest (b : Array Int) s' => ∃ done left, ks = done ++ left ∧ Refs knd s.heap left rest ∧ b.toList = done.map (tupleKeyHash knd) ∧ s' = { s with toks := s.toks + drw done }) _ ?_ ?_ _ _ ⟨[], ks, rfl, hi, rfl, rfl⟩
  · rintro x rest b s' ⟨done, left, rfl, hl, hb, rfl⟩
    cases hl with
    | @cons k c ks' _ p hl' =>
      have hin : A.in1.units < cLine := hu
      refine wpAny_bind (wpAny_pyHash_tuple hin p ?_)
      have fin : ∃ d' l', done ++ k :: ks' = d' ++ l' ∧ Refs knd s.heap l' rest ∧ (b.push (tupleKeyHash knd k)).toList = d'.map (tupleKeyHash knd) ∧ ({ s with toks := s.toks + drw done + (k.length + 1) } : Shared) = { s with toks := s.toks + drw d' } := by
        refine ⟨done ++ [k], ks', by simp, hl', by simp [hb], ?_⟩
        rw [drw_app]
        show ({ s with toks := s.toks + drw done + (k.length + 1) } : Shared) = { s with toks := s.toks + (drw done + (k.length + 1 + 0)) }
        rw [Nat.add_zero, Nat.add_assoc]
      first
        | exact wpAny_pure fin
        | exact wpAny_bind (wpAny_pure (wpAny_pure fin))
  · rintro b s' ⟨done, left, rfl, hl, hb, rfl⟩
    cases hl
    rw [List.append_nil] at h
    show wpAny _ _ (retInt (Builtin.Tuple.tupleHashOf b.toList)) _ _ _
    rw [hb]
    refine wpAny_ret_mkInt ?_
    show wpAny _ _ (if (decide (-(2 : Int) ^ 63 ≤ Builtin.Tuple.tupleHashOf (done.map (tupleKeyHash knd))) && decide (Builtin.Tuple.tupleHashOf (done.map (tupleKeyHash knd)) < 2 ^ 63)) = true then _ else _) Q E _
    unfold hashN reduceHash at h
    by_cases hr : (decide (-(2 : Int) ^ 63 ≤ Builtin.Tuple.tupleHashOf (done.map (tupleKeyHash knd))) && decide (Builtin.Tuple.tupleHashOf (done.map (tupleKeyHash knd)) < 2 ^ 63)) = true
    · rw [if_pos hr]
      rw [if_pos hr] at h
      exact wpAny_pure (by simpa [Nat.add_assoc] using h)
    · rw [if_neg hr]
      rw [if_neg hr] at h
      exact wpAny_bind (wpAny_rule (wpAny_pure (by simpa [Nat.add_assoc] using h)))
theorem eq_tree {x y : List (List K)} {a b : Addr} {P : Fin → Shared → Prop} (hu : A.units < cLine) (hx : IsN knd s.heap x a) (hy : IsN knd s.heap y b) (h : P (.done (.ret (.bool (decide (x = y))))) s) :
    wpAny (model prog w) A (Builtin.«tuple.__eq__» ⟨[.ref a, .ref b], []⟩) P E s := by
  have hTb := hy.ty
  obtain ⟨oa, xs, na, hoa, _, hda, hia⟩ := hx
  obtain ⟨ob, ys, nb, hob, _, hdb, hib⟩ := hy
  show wpAny _ _ (isInstance (.ref b) (.type "tuple") >>= _) _ _ s
  refine wpAny_bind (wpAny_isInstance hTb isSubtype_tuple_tuple ?_)
  simp only [Bool.not_true, Bool.false_eq_true, if_false]
  refine wpAny_bind (wpAny_tupleItemsOf hoa hda (wpAny_bind (wpAny_tupleItemsOf hob hdb (wpAny_bind ?_))))
  refine wpAny_forIn_list _ (fun rest r s' => r.1 = none ∧ s' = s ∧ ∃ x' y' xs' ys', rest = List.zip xs' ys' ∧ Refs knd s.heap x' xs' ∧ Refs knd s.heap y' ys' ∧ decide (x' = y') = decide (x = y) ∧ (xs'.length == ys'.length) = (xs.size == ys.size)) _ ?_ ?_ _ _
    ⟨rfl, rfl, x, y, xs.toList, ys.toList, rfl, hia, hib, rfl, by simp⟩
  · rintro ⟨u, v⟩ rest r s' ⟨hr, rfl, x', y', xs', ys', hz, hx', hy', hdec, hlen⟩
    cases hx' with
    | nil => simp at hz
    | @cons k1 b1 x'' xs'' p1 hx'' =>
      cases hy' with
      | nil => simp at hz
      | @cons k2 b2 y'' ys'' p2 hy'' =>
        simp only [List.zip_cons_cons, List.cons.injEq, Prod.mk.injEq] at hz
        obtain ⟨⟨rfl, rfl⟩, rfl⟩ := hz
        refine wpAny_bind (wpAny_eqBool_tuple hu p1 p2 ?_)
        by_cases hk : k1 = k2
        · subst hk
          rw [decide_eq_true rfl]
          simp only [Bool.not_true, Bool.false_eq_true, if_false]
          refine wpAny_pure ⟨rfl, rfl, x'', y'', xs'', ys'', rfl, hx'', hy'', ?_, by simpa using hlen⟩
          rw [← hdec]
          by_cases hxy : x'' = y''
          · simp [hxy]
          · simp [hxy]
        · rw [decide_eq_false hk]
          simp only [Bool.not_false, if_true]
          have hf : decide (x = y) = false := by
            rw [← hdec]
            simp [hk]
          rw [hf] at h
          exact wpAny_bind (wpAny_pure (wpAny_pure (wpAny_pure h)))
  · rintro ⟨r1, r2⟩ s' ⟨hr, rfl, x', y', xs', ys', hz, hx', hy', hdec, hlen⟩
    have hr : r1 = none := hr
    subst hr
    refine wpAny_pure ?_
    have hfin : (xs.size == ys.size) = decide (x = y) := by
      rw [← hdec, ← hlen]
      cases hx' with
      | nil =>
        cases hy' with
        | nil => simp
        | cons _ _ => simp
      | cons _ _ =>
        cases hy' with
        | nil => simp
        | cons _ _ => simp at hz
    show P (.done (.ret (.bool (xs.size == ys.size)))) s'
    rw [hfin]
    exact h
theorem eqB_n {x y : List (List K)} {a b : Addr} {Q : Bool → Shared → Prop} (hu : A.units + 1 < cLine) (hx : IsN knd s.heap x a) (hy : IsN knd s.heap y b) (h : Q (decide (x = y)) s) :
    wpAny (model prog w) A (eqBool (.ref a) (.ref b)) Q E s := by
  unfold eqBool
  try with_reducible refine wpAny_holding ?_
  show wpAny _ _ (if (Value.ref a == Value.ref b) = true then _ else _) Q E s
  by_cases hab : (Value.ref a == Value.ref b) = true
  · rw [if_pos hab]
    have e : a = b := Value.ref.inj (beq_iff_eq.mp hab)
    subst e
    have e2 := hx.inj hy
    subst e2
    exact wpAny_bind (wpAny_rule (wpAny_pure (by simpa using h)))
  · rw [if_neg hab]
    have hin : A.in1.units < cLine := hu
    have hu0 : A.units < cLine := Nat.lt_of_succ_lt hu
    exact wpAny_bind (wpAny_richCompare_same_room (op := .Eq) hx.ty hy.ty F.slot_tuple_eq (wpAny_call_entry F.slot_tuple_eq hx.ty F.entry_tuple_eq (eq_tree hin hx hy ⟨_, rfl, (fun e => nomatch e), wpAny_truthy_bool h⟩) (F.args_tuple_eq_2 _ _)) hu0)
theorem quiet_in {ks : List K} {a : Addr} {n : Nat} {Q : Bool → Shared → Prop} (hk : IsTupleKey knd s.heap ks a) (h : Q true s) : wpAny (model prog w) A (eqIsQuiet (n + 1) (.ref a)) Q E s := by
  have hT := hk.typeIs
  obtain ⟨o, items, m, ho, _, hd, hi⟩ := hk
  unfold eqIsQuiet
  refine wpAny_bind (wpAny_specialOf hT F.slot_tuple_eq.lookup ?_)
  show wpAny _ _ (isInstance (.ref a) (.type "tuple") >>= _) _ _ s
  refine wpAny_bind (wpAny_isInstance hT isSubtype_tuple_tuple ?_)
  simp only [Bool.not_true, Bool.false_eq_true, if_false]
  refine wpAny_bind (wpAny_seqItems ho hd (wpAny_bind ?_))
  show wpAny _ _ (forIn items _ _) _ _ s
  rw [← Array.forIn_toList]
  refine wpAny_forIn_list _ (fun rest r s' => r.1 = none ∧ s' = s ∧ ∀ v ∈ rest, carriedByValue v = true) _ ?_ ?_ _ _ ⟨rfl, rfl, hi.byValue⟩
  · rintro v rest r s' ⟨hr, rfl, hall⟩
    rw [eqIsQuiet_byValue _ (hall v List.mem_cons_self)]
    refine wpAny_bind (wpAny_pure ?_)
    simp only [Bool.not_true, Bool.false_eq_true, if_false]
    exact wpAny_pure ⟨rfl, rfl, fun u hu' => hall u (List.mem_cons_of_mem _ hu')⟩
  · rintro ⟨r1, r2⟩ s' ⟨hr, rfl, _⟩
    have hr : r1 = none := hr
    subst hr
    exact wpAny_pure h
theorem quiet_n {ks : List (List K)} {a : Addr} {Q : Bool → Shared → Prop} (hk : IsN knd s.heap ks a) (h : Q true s) : wpAny (model prog w) A (eqIsQuiet 8 (.ref a)) Q E s := by
  have hT := hk.ty
  obtain ⟨o, items, m, ho, _, hd, hi⟩ := hk
  unfold eqIsQuiet
  refine wpAny_bind (wpAny_specialOf hT F.slot_tuple_eq.lookup ?_)
  show wpAny _ _ (isInstance (.ref a) (.type "tuple") >>= _) _ _ s
  refine wpAny_bind (wpAny_isInstance hT isSubtype_tuple_tuple ?_)
  simp only [Bool.not_true, Bool.false_eq_true, if_false]
  refine wpAny_bind (wpAny_seqItems ho hd (wpAny_bind ?_))
  show wpAny _ _ (forIn items _ _) _ _ s
  rw [← Array.forIn_toList]
  refine wpAny_forIn_list _ (fun rest r s' => r.1 = none ∧ s' = s ∧ ∃ ks', Refs knd s.heap ks' rest) _ ?_ ?_ _ _ ⟨rfl, rfl, _, hi⟩
  · rintro v rest r s' ⟨hr, rfl, ks', hall⟩
    cases hall with
    | @cons k b ks'' _ p hl =>
      refine wpAny_bind (quiet_in (n := 6) p ?_)
      simp only [Bool.not_true, Bool.false_eq_true, if_false]
      exact wpAny_pure ⟨rfl, rfl, ks'', hl⟩
  · rintro ⟨r1, r2⟩ s' ⟨hr, rfl, _⟩
    have hr : r1 = none := hr
    subst hr
    exact wpAny_pure h
end
/-- tuples of tuples of plain things, as keys -/
def nestKind {prog : Program} {w : World} {K : Type} [DecidableEq K] (knd : KeyKind prog w K) : HeapKind prog w (List (List K)) where
  is := IsN knd
  hash := hashN knd
  draws := fun ks => drw ks + 1
  room := fun A => A.units + 1 < cLine
  inj := fun p q => p.inj q
  keeps := fun x ho hd hs => x.keeps ho hd hs
  pyHash := fun hu hk h => hash_n hu hk h
  eqBool := fun hu hx hy h => eqB_n hu hx hy h
  quiet := fun hk h => quiet_n hk h
end Nst
/-! Dicts whose keys are tuples of tuples, over the layer -/
namespace Tr
open PySem PySem.Spec PyProof.Rows L2
abbrev NK := List (List L2.Key)
/-- the one object: such a dict, entry by entry -/
def phiN (P : Program) (w : World) (d : Addr) (xs : List (NK × Addr × Value)) : Heap → Prop := fun h => ∃ o es ep, h.get? d = some o ∧ o.ExactDict ∧ o.data = .dict es ep ∧ es.toList = xs.map (entryOfKey (Nst.nestKind (mixKind P w))) ∧ (xs.map (·.1)).Nodup
/-- at a stands the key k -/
def KeyT (H : Hp) (k : NK) (a : Addr) : Prop := ∃ bs : List Addr, H a = some (.tup (bs.map V.ref)) ∧ Paired (fun (b : Addr) (kk : List L2.Key) => H b = some (.tup (kk.map kV))) bs k
theorem paired_mono {α β : Type} {F G : α → β → Prop} {a : List α} {b : List β} (p : Paired F a b) (f : ∀ x y, F x y → G x y) : Paired G a b := Paired.mapP p f
theorem KeyT.mono {H H' : Hp} {k : NK} {a : Addr} (sm : ∀ b xs, H b = some (.tup xs) → H' b = some (.tup xs)) (h : KeyT H k a) : KeyT H' k a := by
  obtain ⟨bs, h1, h2⟩ := h
  exact ⟨bs, sm _ _ h1, paired_mono h2 fun b kk e => sm _ _ e⟩
abbrev NT (H : Hp) : List (NK × V) → List (NK × Addr × Value) → Prop := Paired fun p q => p.1 = q.1 ∧ KeyT H p.1 q.2.1 ∧ RelV p.2 q.2.2
theorem NT.mono {H H' : Hp} {kvs : List (NK × V)} {xs : List (NK × Addr × Value)} (sm : ∀ b xs, H b = some (.tup xs) → H' b = some (.tup xs)) (r : NT H kvs xs) : NT H' kvs xs := paired_mono r fun p q z => ⟨z.1, z.2.1.mono sm, z.2.2⟩
theorem NT.val {H : Hp} {kvs : List (NK × V)} {xs : List (NK × Addr × Value)} (r : NT H kvs xs) (k : NK) : RelO (valV kvs k) ((atKey xs k).map (·.2)) := by
  induction r with
  | nil => exact True.intro
  | @cons p q ps qs h t ih =>
    obtain ⟨h1, _, h2⟩ := h
    by_cases e : p.1 = k
    · have e' : q.1 = k := h1.symm.trans e
      have b : atKey (q :: qs) k = some q.2 := by simp [atKey, List.find?_cons, e']
      rw [valV_pos e, b]
      exact h2
    · have e' : ¬ q.1 = k := fun z => e (h1.trans z)
      have b : atKey (q :: qs) k = atKey qs k := by simp [atKey, List.find?_cons, e']
      rw [valV_neg e, b]
      exact ih
theorem NT.repl {H : Hp} {kvs : List (NK × V)} {xs : List (NK × Addr × Value)} (r : NT H kvs xs) (k : NK) {y : V} {u : Value} (ry : RelV y u) : NT H (kvs.map fun kv => if kv.1 = k then (kv.1, y) else kv) (xs.map (putAt k u)) := by
  induction r with
  | nil => exact .nil
  | @cons p q ps qs h t ih =>
    rw [List.map_cons, List.map_cons]
    refine .cons ?_ ih
    obtain ⟨h1, h2, h3⟩ := h
    unfold putAt
    by_cases e : p.1 = k
    · rw [if_pos e, if_pos (h1.symm.trans e)]
      exact ⟨h1, h2, ry⟩
    · rw [if_neg e, if_neg (fun z => e (h1.trans z))]
      exact ⟨h1, h2, h3⟩
theorem NT.put {H : Hp} {kvs : List (NK × V)} {xs : List (NK × Addr × Value)} (r : NT H kvs xs) (k : NK) {b : Addr} {y : V} {u : Value} (hb : KeyT H k b) (ry : RelV y u) : NT H (putK kvs k y) (storedH xs k b u) := by
  have e : (kvs.any fun kv => decide (kv.1 = k)) = (atKey xs k).isSome := by
    rw [valV_any, (r.val k).isSome_eq, Option.isSome_map]
  unfold putK storedH
  rw [e]
  by_cases q : (atKey xs k).isSome = true
  · rw [if_pos q, if_pos q]
    exact r.repl k ry
  · rw [if_neg q, if_neg q]
    exact Paired.snoc r ⟨rfl, hb, ry⟩
/-- at d stands a dict of these pairs -/
def NDict (P : Program) (w : World) (H : Hp) (d : Addr) (kvs : List (NK × V)) : Prop := kvs.length ≤ sizeLine ∧ (d == sysModules) = false ∧ ∃ xs, H d = some (.ext (phiN P w d xs)) ∧ NT H kvs xs
theorem NDict.mono {P : Program} {w : World} {H H' : Hp} {d : Addr} {kvs : List (NK × V)} (sm : Same H H') (h : NDict P w H d kvs) : NDict P w H' d kvs := by
  obtain ⟨a, b, xs, c, r⟩ := h
  exact ⟨a, b, xs, sm _ _ c, r.mono fun _ _ e => sm _ _ e⟩
section
variable {P : Program} {w : World} {H : Hp} {h : Heap} {a d : Addr}
theorem key_n {k : NK} (ok : HOk P w H h) (e : KeyT H k a) : Nst.IsN (mixKind P w) h k a := by
  obtain ⟨bs, h1, h2⟩ := e
  obtain ⟨_, its, r, o, g1, g2, n, g3⟩ := (show ObjOk P w H h a (.tup (bs.map V.ref)) from ok a _ h1)
  refine ⟨o, its.toArray, n, g1, g2, g3, ?_⟩
  have key : ∀ {bs : List Addr} {k : NK} {its : List Value}, Paired (fun (b : Addr) (kk : List L2.Key) => H b = some (.tup (kk.map kV))) bs k → Vals (bs.map V.ref) its → Nst.Refs (mixKind P w) h k its := by
    intro bs k its p
    induction p generalizing its with
    | nil =>
      intro r
      cases r
      exact .nil
    | @cons b kk bs ks hb t ih =>
      intro r
      cases r with
      | cons r1 r2 =>
        cases r1
        exact .cons (key_of ok hb) (ih r2)
  simpa using key h2 r
theorem NDict.rd {kvs : List (NK × V)} (ok : HOk P w H h) (e : NDict P w H d kvs) : kvs.length ≤ sizeLine ∧ (d == sysModules) = false ∧ ∃ xs, H d = some (.ext (phiN P w d xs)) ∧ NT H kvs xs ∧ h.DictOfH (Nst.nestKind (mixKind P w)) d xs := by
  obtain ⟨z, y, xs, e, r⟩ := e
  obtain ⟨⟨o, es, ep, h1, h2, h3, h4, h5⟩, _⟩ := (show ObjOk P w H h d (.ext (phiN P w d xs)) from ok d _ e)
  refine ⟨z, y, xs, e, r, o, es, ep, h1, h2, h3, h4, fun x hx => ?_, h5⟩
  have all : ∀ {l : List (NK × V)} {m : List (NK × Addr × Value)}, NT H l m → ∀ x ∈ m, Nst.IsN (mixKind P w) h x.1 x.2.1 := by
    intro l m q
    induction q with
    | nil => intro x hx; exact nomatch hx
    | @cons p q ps qs hq t ih =>
      intro x hx
      rcases List.mem_cons.mp hx with e | hx
      · subst e
        exact key_n ok (by rw [← hq.1]; exact hq.2.1)
      · exact ih x hx
  exact all r x hx
theorem ext_ok {xs : List (NK × Addr × Value)} (dd : h.DictOfH (Nst.nestKind (mixKind P w)) d xs) : ObjOk P w H h d (.ext (phiN P w d xs)) := by
  obtain ⟨o, es, ep, h1, h2, h3, h4, _, h5⟩ := dd
  refine ⟨⟨o, es, ep, h1, h2, h3, h4, h5⟩, ⟨o, h1⟩, fun g1 g2 q k => ?_⟩
  obtain ⟨o', es', ep', q1, q2, q3, q4, q5⟩ := q
  exact ⟨o', es', ep', k _ q1, q2, q3, q4, q5⟩
end
section
variable {X : Cx} {pins : List (Addr × Obj)} {σ : L2.St} {H : Hp} {s : Shared} {a b : Addr} {v : V} {u r : Value} {kvs : List (NK × V)} {k : NK} {A : Around} {E : Value → Shared → Prop}
theorem roomN (hu : A.units + 2 < cLine) : (Nst.nestKind (mixKind X.prog X.w)).room A.in1 := hu
theorem n_getItem {Q : Value → Shared → Prop} (hu : A.units + 2 < cLine) (I : Inv X pins σ H s) (g : NDict X.prog X.w H a kvs) (hk : KeyT H k b) (hv : valV kvs k = some v) (h : ∀ w' s', Inv X pins σ H s' → RelV v w' → Q w' s') :
    wpAny (model X.prog X.w) A (getItem (.ref a) (.ref b)) Q E s := by
  obtain ⟨z, hd, xs, e, rel, dd⟩ := g.rd I.hok
  obtain ⟨w', hw, rw'⟩ := RelO.some_of (v := v) (o := (atKey xs k).map (·.2)) (by rw [← hv]; exact rel.val k)
  obtain ⟨p, hp, hp2⟩ := Option.map_eq_some_iff.mp hw
  refine wpAny_getItem_heap (roomN hu) (key_n I.hok hk) dd hp ?_
  rw [hp2]
  exact h w' _ (I.tok _) rw'
theorem n_notIn {Q : Value → Shared → Prop} (hu : A.units + 2 < cLine) (I : Inv X pins σ H s) (g : NDict X.prog X.w H a kvs) (hk : KeyT H k b) (h : ∀ s', Inv X pins σ H s' → Q (.bool (!(valV kvs k).isSome)) s') :
    wpAny (model X.prog X.w) A (compareOp .NotIn (.ref b) (.ref a)) Q E s := by
  obtain ⟨z, hd, xs, e, rel, dd⟩ := g.rd I.hok
  refine wpAny_notIn_heap (roomN hu) (key_n I.hok hk) hd dd ?_
  have q := (rel.val k).isSome_eq
  rw [Option.isSome_map] at q
  rw [← q]
  exact h _ (I.tok _)
theorem n_setItem {Q : Unit → Shared → Prop} (hu : A.units + 2 < cLine) (I : Inv X pins σ H s) (g : NDict X.prog X.w H a kvs) (hk : KeyT H k b) (hl : kvs.length < sizeLine) (rv : RelV v r)
    (h : ∀ φ s', NDict X.prog X.w (upd H a (.ext φ)) a (putK kvs k v) → Inv X pins σ (upd H a (.ext φ)) s' → Q () s') : wpAny (model X.prog X.w) A (setItem (.ref a) (.ref b) r) Q E s := by
  obtain ⟨z, hd, xs, e, rel, dd⟩ := g.rd I.hok
  have hz : xs.length ≤ sizeLine := by rw [← Paired.length rel]; exact z
  have hl2 : (putK kvs k v).length ≤ sizeLine := by have := length_putK kvs k v; omega
  refine wpAny_setItem_heap (hsz := hz) (roomN hu) (key_n I.hok hk) dd fun h' dd' hs => ?_
  have nt : ∀ c ys, H c = some (.tup ys) → ∀ o, (upd H a o) c = some (.tup ys) := fun c ys ec o => by
    rw [upd_ne (ne_of ec e (fun z => nomatch z))]
    exact ec
  refine h (phiN X.prog X.w a (storedH xs k b r)) _ ⟨hl2, hd, _, upd_same, (rel.put k hk rv).mono fun c ys ec => nt c ys ec _⟩ ?_
  have he : ∃ q, h'.get? a = some q := let ⟨q, _, _, hq, _⟩ := dd'; ⟨q, hq⟩
  exact d_write I (by rw [e]; exact True.intro) hs he (ext_ok dd')
theorem n_dictSet {Q : Unit → Shared → Prop} (hu : A.units + 1 < cLine) (I : Inv X pins σ H s) (g : NDict X.prog X.w H a kvs) (hk : KeyT H k b) (hl : kvs.length < sizeLine) (rv : RelV v r)
    (h : ∀ φ s', NDict X.prog X.w (upd H a (.ext φ)) a (putK kvs k v) → Inv X pins σ (upd H a (.ext φ)) s' → Q () s') : wpAny (model X.prog X.w) A (dictSet a (.ref b) r) Q E s := by
  obtain ⟨z, hd, xs, e, rel, dd⟩ := g.rd I.hok
  have hz : xs.length ≤ sizeLine := by rw [← Paired.length rel]; exact z
  have hl2 : (putK kvs k v).length ≤ sizeLine := by have := length_putK kvs k v; omega
  have hr : (Nst.nestKind (mixKind X.prog X.w)).room A := hu
  refine wpAny_dictSet_heap (hsz := hz) hr (key_n I.hok hk) dd fun h' dd' hs => ?_
  have nt : ∀ c ys, H c = some (.tup ys) → ∀ o, (upd H a o) c = some (.tup ys) := fun c ys ec o => by
    rw [upd_ne (ne_of ec e (fun z => nomatch z))]
    exact ec
  refine h (phiN X.prog X.w a (storedH xs k b r)) _ ⟨hl2, hd, _, upd_same, (rel.put k hk rv).mono fun c ys ec => nt c ys ec _⟩ ?_
  have he : ∃ q, h'.get? a = some q := let ⟨q, _, _, hq, _⟩ := dd'; ⟨q, hq⟩
  exact d_write I (by rw [e]; exact True.intro) hs he (ext_ok dd')
end
/-- d[y] -/
def tNGet (P : Program) (w : World) (td ty : TE) : TE := fun σ H Q => td σ H fun x H1 => ty σ H1 fun y H2 => ∃ a kvs k b v, x = .ref a ∧ NDict P w H2 a kvs ∧ y = .ref b ∧ KeyT H2 k b ∧ valV kvs k = some v ∧ Q v H2
/-- y not in d -/
def tNNotIn (P : Program) (w : World) (ty td : TE) : TE := fun σ H Q => ty σ H fun y H1 => td σ H1 fun x H2 => ∃ a kvs k b, x = .ref a ∧ NDict P w H2 a kvs ∧ y = .ref b ∧ KeyT H2 k b ∧ Q (.bl (!(valV kvs k).isSome)) H2
/-- d[y] = v -/
def sNPut (P : Program) (w : World) (td ty tv : TE) : TS := fun D σ H => tv σ H fun v H1 => td σ H1 fun x H2 => ty σ H2 fun y H3 => ∃ a kvs k b, x = .ref a ∧ NDict P w H3 a kvs ∧ y = .ref b ∧ KeyT H3 k b ∧ kvs.length < sizeLine ∧
  ∀ φ, NDict P w (upd H3 a (.ext φ)) a (putK kvs k v) → D.nx σ (upd H3 a (.ext φ))
/-- {y: v} -/
def tNDisp (P : Program) (w : World) (ty tv : TE) : TE := fun σ H Q => ∀ p φ, H p = none → NDict P w (upd H p (.ext φ)) p [] → ty σ (upd H p (.ext φ)) fun y H1 => tv σ H1 fun v H2 => ∃ k b, y = .ref b ∧ NDict P w H2 p [] ∧ KeyT H2 k b ∧
  ∀ φ', NDict P w (upd H2 p (.ext φ')) p [(k, v)] → Q (.ref p) (upd H2 p (.ext φ'))
section
variable {X : Cx} {o i value : Expr} {pos pos' : Pos} {td ty tv : TE}
theorem pe_nget (hu : X.A.units + 2 < cLine) (ho : PE X o td) (hi : PE X i ty) (hs : NoSl i) : PE X (.Subscript o i pos) (tNGet X.prog X.w td ty) := by
  refine ⟨fun pins s σ H Q I h => ?_⟩
  refine subD_of PySem.F.slot_dict_getitem.lookup hs (thn (ho.run pins s σ H _ I h) fun u s1 ⟨x, H1, I1, rx, q1⟩ => thn (hi.run pins s1 σ H1 _ I1 q1) fun iv s2 ⟨y, H2, I2, ry, a, kvs, k, b, v, ex, g, ey, hk, hv, q2⟩ => ?_)
  subst ex ey
  obtain rfl : u = Value.ref a := rx
  obtain rfl : iv = Value.ref b := ry
  obtain ⟨_, _, xs, _, _, dd⟩ := g.rd I2.hok
  exact ⟨dd.typeIs, n_getItem hu I2 g hk hv fun w' s3 I3 rw' => ⟨v, H2, I3, rw', q2⟩⟩
theorem pc_nnotin (hu : X.A.units + 2 < cLine) (hi : PE X i ty) (ho : PE X o td) : PC X .NotIn i o (tNNotIn X.prog X.w ty td) := by
  refine ⟨fun pins s σ H Q I h => ?_⟩
  refine thn (hi.run pins s σ H _ I h) fun iv s1 ⟨y, H1, I1, ry, q1⟩ => thn (ho.run pins s1 σ H1 _ I1 q1) fun u s2 ⟨x, H2, I2, rx, a, kvs, k, b, ex, g, ey, hk, q2⟩ => ?_
  subst ex ey
  obtain rfl : u = Value.ref a := rx
  obtain rfl : iv = Value.ref b := ry
  exact n_notIn hu I2 g hk fun s3 I3 => ⟨.bl (!(valV kvs k).isSome), H2, I3, rfl, q2⟩
theorem ps_nput (hu : X.A.units + 2 < cLine) (ho : PE X o td) (hi : PE X i ty) (hv : PE X value tv) (hs : swapsWith value (some (.Subscript o i pos')) pos.line X.env = pure false) :
    PS X (.Assign [.Subscript o i pos'] value pos) (sNPut X.prog X.w td ty tv) := by
  refine ⟨fun pins s σ H D I h => ?_⟩
  refine wpAny_Assign_Subscript (thn (hv.run pins s σ H _ I h) fun r s1 ⟨v, H1, I1, rv, q1⟩ => thn (ho.run pins s1 σ H1 _ I1 q1) fun u s2 ⟨x, H2, I2, rx, q2⟩ => thn (hi.run pins s2 σ H2 _ I2 q2) fun iv s3 ⟨y, H3, I3, ry, a, kvs, k, b, ex, g, ey, hk, hl, q3⟩ => ?_) hs
  subst ex ey
  obtain rfl : u = Value.ref a := rx
  obtain rfl : iv = Value.ref b := ry
  exact n_setItem hu I3 g hk hl rv fun φ s4 g4 I4 => ⟨σ, _, I4, q3 φ g4⟩
theorem pe_ndisp {k v : Expr} (hu : X.A.units + 2 < cLine) (hk : PE X k ty) (hv : PE X v tv) : PE X (.Dict [some k] [v] pos) (tNDisp X.prog X.w ty tv) := by
  refine ⟨fun pins s σ H Q I q => ?_⟩
  have hn := I.hok.fresh (Nat.le_refl s.heap.objs.size)
  have dd0 : (s.heap.push { cls := .type "dict", data := .dict #[] }).DictOfH (Nst.nestKind (mixKind X.prog X.w)) s.heap.objs.size [] := Heap.DictOfH.new s.heap
  have I1 := I.laid (a := s.heap.objs.size) (o := .ext (phiN X.prog X.w s.heap.objs.size [])) (h' := s.heap.push { cls := .type "dict", data := .dict #[] }) (t' := s.toks) (fun _ _ q => Heap.get?_push_of_some _ q) (Nat.le_refl _) (ext_ok dd0)
  have hs0 : (s.heap.objs.size == sysModules) = false := beq_eq_false_iff_ne.mpr (Ne.symm (Nat.ne_of_lt I.big))
  have g0 : NDict X.prog X.w (upd H s.heap.objs.size (.ext (phiN X.prog X.w s.heap.objs.size []))) s.heap.objs.size [] := ⟨Nat.zero_le _, hs0, [], upd_same, .nil⟩
  refine PySem.wpAny_Dict_any rfl rfl (by simp) (by simp) (pairTrees_cons_walk (thn (hk.run pins _ σ _ _ I1 (q _ _ hn g0)) fun u s1 ⟨y, H1, I2, ry, q1⟩ => thn (hv.run pins s1 σ H1 _ I2 q1) fun r s2 ⟨x, H2, I3, rv, kk, b, ey, g2, hkt, q2⟩ => pairTrees_nil_walk ?_))
  subst ey
  obtain rfl : u = Value.ref b := ry
  unfold PySem.storeAll
  rw [List.forIn_cons]
  refine wpAny_bind (wpAny_bind (n_dictSet (by omega) I3 g2 hkt (by show 0 < sizeLine; decide) rv fun φ s3 g3 I4 => wpAny_pure ?_))
  show wpAny _ _ (forIn [] _ _) _ _ s3
  rw [List.forIn_nil]
  refine wpAny_pure ⟨.ref s.heap.objs.size, _, I4, rfl, q2 φ ?_⟩
  exact g3
end
end Tr
/-! places_of -/
namespace Tr
open PySem PySem.Spec PyProof.Rows L2
def plT (f : Fld) (ts : List Addr) : List (L2.Key × V) := (List.range ts.length).map fun k => ((Sum.inl (f k) : L2.Key), V.ref (ts.getD k 0))
theorem plT_more (f : Fld) (ts : List Addr) (t : Addr) : plT f (ts ++ [t]) = plT f ts ++ [((Sum.inl (f ts.length) : L2.Key), V.ref t)] := by
  unfold plT
  rw [List.length_append, List.length_singleton, List.range_succ, List.map_append]
  congr 1
  · refine List.map_congr_left fun k hk => ?_
    have hk := List.mem_range.mp hk
    simp only [List.getD_eq_getElem?_getD, List.getElem?_append_left hk]
  · simp [List.getD_eq_getElem?_getD]
theorem plT_val {n : Nat} {f : Fld} (hf : Full n f) (k : Nat) (hk : k < n) : ∀ (m : Nat) (ts : List Addr), ts.length = m → m ≤ n → valV (plT f ts) (Sum.inl (f k) : L2.Key) = if k < m then some (V.ref (ts.getD k 0)) else none
  | 0, ts, h, _ => by
    have e : ts = [] := List.eq_nil_of_length_eq_zero h
    subst e
    rw [if_neg (by omega)]
    rfl
  | m + 1, ts, h, hm => by
    have hne : ts ≠ [] := fun e => by
      rw [e] at h
      simp at h
    obtain ⟨us, t, e⟩ : ∃ us t, ts = us ++ [t] := ⟨ts.dropLast, ts.getLast hne, (List.dropLast_concat_getLast hne).symm⟩
    subst e
    have hu : us.length = m := by simpa using h
    have ih := plT_val hf k hk m us hu (by omega)
    rw [plT_more]
    have ihm := plT_val hf m (by omega) m us hu (by omega)
    rw [if_neg (by omega)] at ihm
    rw [valV_snoc _ _ _ _ (by rw [hu]; exact ihm), hu]
    by_cases c : k = m
    · subst c
      rw [if_pos rfl, if_pos (by omega)]
      simp [List.getD_eq_getElem?_getD, hu]
    · rw [if_neg (fun z => c (full_inj hf hk (by omega) (by injection z))), ih]
      by_cases d : k < m
      · rw [if_pos d, if_pos (by omega)]
        simp only [List.getD_eq_getElem?_getD, List.getElem?_append_left (show k < us.length by omega)]
      · rw [if_neg d, if_neg (by omega)]
/-- where each number stands, as places_of tells it -/
structure PlAt (H : Hp) (p : Addr) (R C : Nat) (f : Fld) (ts : List Addr) : Prop where
  len : ts.length = R * C
  d : H p = some (.dK (plT f ts))
  t : ∀ k, k < ts.length → H (ts.getD k 0) = some (.tup [.int (k / C : Nat), .int (k % C : Nat)])
theorem PlAt.mono {H H' : Hp} {p : Addr} {R C : Nat} {f : Fld} {ts : List Addr} (sm : Same H H') (h : PlAt H p R C f ts) : PlAt H' p R C f ts := ⟨h.len, sm _ _ h.d, fun k hk => sm _ _ (h.t k hk)⟩
def spPlaces : Sp := fun vs H Q _ => ∃ (a : Addr) (rs : List Addr) (R C : Nat) (f : Fld), vs = [.ref a] ∧ TrayAt H a rs R C f ∧ R ≤ 6 ∧ C ≤ 6 ∧ Full (R * C) f ∧ ∀ H' p ts, Same H H' → H p = none → PlAt H' p R C f ts → Q (.ref p) H'
theorem scPls : FnScope ["tray", "row", "numbers", "column", "number"] ["tray"] (defScope d_places_of) := ⟨rfl, rfl, rfl, by decide +kernel, rfl, by decide +kernel, by decide +kernel⟩
section
variable {P : Program} {w : World} {K : PySem.W.Frag} {mg : Str → Option Value} {base : Heap}
theorem ok_places {fa : Addr} {fd : FuncData} {k : Nat} (F : Fun K "places_of" "places_of" d_places_of fa fd) (mEn : mg "enumerate" = none) : FnOk P w K mg base CX0 (k + 1) fa fd ["tray"] spPlaces := by
  refine F.ok scPls (fun vs H Q E h => ?_) (fun cdv A outer s H vs Q E hr h => ?_)
  · obtain ⟨a, rs, R, C, f, rfl, _⟩ := h
    rfl
  · obtain ⟨a, rs, R, C, f, rfl, T, hR, hC, hf, q⟩ := h
    refine ⟨_, pss_one (ps_ret (pe_dc2 (own := [("row", 1), ("numbers", 2), ("column", 3), ("number", 4)]) (vs1 := [3, 4]) (g := gTup K 2 (gCons (gName 1) (gCons (gName 2) gNil))) (g1 := gTup K 2 (gCons (gName 3) (gCons (gName 4) gNil))) (wi1 := iEnum K (tCons (tVar 2) tNil)) (tk := tVar 4) (tv := tTup (tCons (tVar 1) (tCons (tVar 3) tNil))) rfl scPls.nd
        (pi_enum rfl mEn (pa_cons (pv 0) pa_nil)) (blkOk_by (own := [("row", 1), ("numbers", 2), ("column", 3), ("number", 4)]) (N := ["tray", "row", "numbers", "column", "number"]) (sc := defScope d_places_of) (by decide +kernel)) (by decide)
        (fun _ _ _ _ _ => pg_tup rfl (pgs_cons (pg_name (i := 1) scPls.nd rfl (.inl rfl)) (pgs_cons (pg_name (i := 2) scPls.nd rfl (.inl rfl)) pgs_nil)))
        (fun _ _ _ _ _ => pi_enum rfl mEn (pa_cons (pv 2) pa_nil))
        (fun _ _ _ _ _ => pg_tup rfl (pgs_cons (pg_name (i := 3) scPls.nd rfl (.inl rfl)) (pgs_cons (pg_name (i := 4) scPls.nd rfl (.inl rfl)) pgs_nil)))
        (fun _ _ _ _ _ => pv 4) (fun _ _ _ _ _ => pe_tup (pa_cons (pv 1) (pa_cons (pv 3) pa_nil))))), ?_⟩
    refine ⟨_, rfl, a, _, rfl, SqL.of T.top, fun D nD => ?_⟩
    refine lc_gen (walk_enum (K := K) (a := a) (xs := rs.map V.ref)) (fun i H1 => Same H H1 ∧ ∃ ts : List Addr, ts.length = i * C ∧ H1 D = some (.dK (plT f ts)) ∧ ∀ k, k < ts.length → H1 (ts.getD k 0) = some (.tup [.int (k / C : Nat), .int (k % C : Nat)])) ⟨same_upd nD, [], by simp, by rw [upd_same]; rfl, fun k hk => nomatch hk⟩ (fun i H1 _ p => p.1.seq (SqL.of T.top)) ?_ ?_
    · rintro i x H1 H2 hi ⟨sm, ts, hts, hD, ht⟩ ⟨T1, x1, y1, rfl, nT1, rfl, e1, e2⟩
      cases e1
      have hi : i < R := by
        rw [List.length_map, T.len] at hi
        exact hi
      obtain ⟨ri, k1, k2, k3⟩ := T.get hi
      have e2 : (rs.map V.ref)[i]? = some y1 := e2
      rw [k2] at e2
      cases e2
      have smT : Same H1 (upd H1 T1 (.tup [V.int (i : Nat), V.ref ri])) := same_upd nT1
      refine ⟨T1, _, rfl, SqT.of upd_same, rfl, _, _, rfl, _, _, rfl, rfl, rfl, ?_⟩
      have k4 := smT _ _ (sm _ _ k3)
      refine ⟨_, rfl, ri, _, rfl, SqL.of k4, ?_⟩
      have sm2 := sm.trans smT
      have hD2 := smT _ _ hD
      have ht2 := fun k hk => smT _ _ (ht k hk)
      generalize upd H1 T1 (.tup [V.int (i : Nat), V.ref ri]) = H3 at *
      refine lc_gen (walk_enum (K := K) (a := ri) (xs := rowV C f i)) (fun j H4 => Same H H4 ∧ ∃ ts : List Addr, ts.length = i * C + j ∧ H4 D = some (.dK (plT f ts)) ∧ ∀ k, k < ts.length → H4 (ts.getD k 0) = some (.tup [.int (k / C : Nat), .int (k % C : Nat)])) ⟨sm2, ts, hts, hD2, ht2⟩ (fun j H4 _ p => p.1.seq (SqL.of k3)) ?_ ?_
      · rintro j y H4 H5 hj ⟨sm4, us, hus, hD4, ht4⟩ ⟨T2, x2, y2, rfl, nT2, rfl, e3, e4⟩
        cases e3
        rw [rowV_len] at hj
        have e4 : (rowV C f i)[j]? = some y2 := e4
        rw [rowV_get hj] at e4
        cases e4
        have smT2 : Same H4 (upd H4 T2 (.tup [V.int (j : Nat), V.int (f (i * C + j))])) := same_upd nT2
        refine ⟨T2, _, rfl, SqT.of upd_same, rfl, _, _, rfl, _, _, rfl, rfl, rfl, ?_⟩
        have hD5 := smT2 _ _ hD4
        have ht5 := fun k hk => smT2 _ _ (ht4 k hk)
        have sm5 := sm4.trans smT2
        generalize upd H4 T2 (.tup [V.int (j : Nat), V.int (f (i * C + j))]) = H6 at *
        refine ⟨_, rfl, _, rfl, _, rfl, (by show 2 ≤ sizeLine; decide), fun p np => ?_⟩
        have smp : Same H6 (upd H6 p (.tup [V.int (i : Nat), V.int (j : Nat)])) := same_upd np
        have hk : i * C + j < R * C := ix_lt hi hj
        have hlen : (plT f us).length = i * C + j := by
          unfold plT
          rw [List.length_map, List.length_range, hus]
        refine ⟨_, (Sum.inl (f (i * C + j)) : L2.Key), rfl, smp _ _ hD5, ?_, ?_, us ++ [p], ?_, ?_, fun k hk2 => ?_⟩
        · rw [hlen]
          refine small1000 ?_
          have : R * C ≤ 6 * 6 := Nat.mul_le_mul hR hC
          omega
        · intro c o e
          rw [upd_ne (ne_of_none e nD)]
          exact smp _ _ (sm5 _ _ e)
        · rw [List.length_append, List.length_singleton, hus]
          omega
        · rw [upd_same, putK_new _ (by rw [plT_val hf _ hk _ us hus (by omega), if_neg (by omega)]), plT_more, hus]
        · have nDp : ∀ c o, H6 c = some o → (∀ kvs, o ≠ .dK kvs) → c ≠ D := fun c o e hne z => by
            rw [z, hD5] at e
            exact hne _ (Option.some.inj e).symm
          by_cases c : k < us.length
          · have h := ht5 k c
            have eg : (us ++ [p]).getD k 0 = us.getD k 0 := by simp only [List.getD_eq_getElem?_getD, List.getElem?_append_left c]
            rw [eg, upd_ne (nDp _ _ h (fun kvs z => by cases z))]
            exact smp _ _ h
          · have ek : k = us.length := by
              rw [List.length_append, List.length_singleton] at hk2
              omega
            have eg : (us ++ [p]).getD k 0 = p := by
              rw [ek]
              simp [List.getD_eq_getElem?_getD]
            have nDp2 : p ≠ D := fun z => by
              rw [z, hD5] at np
              cases np
            rw [eg, upd_ne nDp2, upd_same, ek, hus]
            have d1 : (i * C + j) / C = i := by
              rw [Nat.mul_comm, Nat.mul_add_div (by omega), Nat.div_eq_of_lt hj, Nat.add_zero]
            have d2 : (i * C + j) % C = j := by
              rw [Nat.mul_comm, Nat.mul_add_mod, Nat.mod_eq_of_lt hj]
            rw [d1, d2]
      · rintro H4 ⟨sm4, us, hus, hD4, ht4⟩
        rw [rowV_len] at hus
        refine ⟨sm4, us, ?_, hD4, ht4⟩
        rw [hus, Nat.add_mul, Nat.one_mul]
    · rintro H1 ⟨sm, ts, hts, hD, ht⟩
      rw [List.length_map, T.len] at hts
      exact q _ D ts sm nD ⟨hts, hD, ht⟩
end
end Tr
/-! free_places_beside -/
namespace Tr
open PySem PySem.Spec PyProof.Rows L2
/-- a new thing, from then on only read -/
def tFrz (te : TE) : TE := fun σ H Q => te σ H fun v H1 => ∃ d u, v = .ref d ∧ H1 d = some u ∧ Mut (some u) ∧ ∀ od, Q v (upd H1 d (.frz od u))
theorem pe_frz {X : Cx} {e : Expr} {te : TE} (h : PE X e te) : PE X e (tFrz te) := by
  refine ⟨fun pins s σ H Q I q => ?_⟩
  refine thn (h.run pins s σ H _ I q) fun v s1 h1 => ?_
  obtain ⟨x, H1, I1, r, d, u, ex, hd, mu, k⟩ := h1
  obtain ⟨od, I2⟩ := I1.lock hd mu
  exact ⟨x, _, I2, r, k od⟩
abbrev PlP := Nat × Nat
def prP (a : PlP) : PyData := .tuple [.int a.1, .int a.2]
theorem prP_eqv (a b : PlP) : PyData.eqv (prP a) (prP b) = decide (a = b) := by
  obtain ⟨a1, a2⟩ := a
  obtain ⟨b1, b2⟩ := b
  have e : PyData.eqv (prP (a1, a2)) (prP (b1, b2)) = (((a1 : Int) == (b1 : Int)) && (((a2 : Int) == (b2 : Int)) && true)) := by simp only [prP, PyData.eqv, PyData.eqvAll]
  rw [e]
  by_cases h1 : a1 = b1
  · by_cases h2 : a2 = b2
    · subst h1 h2
      simp
    · rw [beq_false_of_ne (by omega : (a2 : Int) ≠ b2), decide_eq_false (fun z => h2 (congrArg Prod.snd z))]
      simp
  · rw [beq_false_of_ne (by omega : (a1 : Int) ≠ b1), decide_eq_false (fun z => h1 (congrArg Prod.fst z))]
    rfl
theorem prP_lay : ∀ S : List PlP, PyData.canLayAll0 (S.map prP) = true
  | [] => rfl
  | a :: S => by
    have e : (prP a).canLay0 = true := by simp [prP, PyData.canLay0, PyData.canLayAll0]
    simp [PyData.canLayAll0, e, prP_lay S]
theorem prP_depth : ∀ S : List PlP, PyData.depthAll (S.map prP) ≤ 1
  | [] => by simp [PyData.depthAll]
  | a :: S => by
    have h1 := prP_depth S
    have h2 : (prP a).depth = 1 := by simp [prP, PyData.depth, PyData.depthAll]
    simp only [List.map_cons, PyData.depthAll]
    omega
theorem prP_shaped (a : PlP) : SeqAt.shaped (prP a) = true := by
  show ((prP a).canLay0 && decide ((prP a).depth ≤ 64)) = true
  simp [prP, PyData.canLay0, PyData.canLayAll0, PyData.depth, PyData.depthAll]
theorem prPs_shaped (S : List PlP) : SeqAt.shaped (.list (S.map prP)) = true := by
  have h1 := prP_depth S
  have h2 : PyData.depth (.list (S.map prP)) ≤ 64 := by
    simp only [PyData.depth]
    omega
  show (PyData.canLay0 (.list (S.map prP)) && decide (PyData.depth (.list (S.map prP)) ≤ 64)) = true
  rw [Bool.and_eq_true]
  exact ⟨by simp only [PyData.canLay0]; exact prP_lay S, decide_eq_true h2⟩
theorem prPs_shapedT (S : List PlP) : SeqAt.shaped (.tuple (S.map prP)) = true := by
  have h1 := prP_depth S
  have h2 : PyData.depth (.tuple (S.map prP)) ≤ 64 := by
    simp only [PyData.depth]
    omega
  show (PyData.canLay0 (.tuple (S.map prP)) && decide (PyData.depth (.tuple (S.map prP)) ≤ 64)) = true
  rw [Bool.and_eq_true]
  exact ⟨by simp only [PyData.canLay0]; exact prP_lay S, decide_eq_true h2⟩
/-- a place, as a pair -/
def PAt (H : Hp) (b : Addr) (a : PlP) : Prop := H b = some (.tup [.int (a.1 : Nat), .int (a.2 : Nat)])
theorem PAt.mono {H H' : Hp} {b : Addr} {a : PlP} (sm : Same H H') (h : PAt H b a) : PAt H' b a := sm _ _ h
abbrev PsAt (H : Hp) : List Addr → List PlP → Prop := Paired (PAt H)
theorem PsAt.mono {H H' : Hp} {bs : List Addr} {S : List PlP} (sm : Same H H') (h : PsAt H bs S) : PsAt H' bs S := paired_mono h fun b a e => e.mono sm
theorem PAt.dp {K : PySem.W.Frag} {H : Hp} {b : Addr} {a : PlP} (h : PAt H b a) : Dp K H (.ref b) (prP a) := .tup (SqT.of h) (dp_ints [(a.1 : Int), (a.2 : Int)])
theorem PsAt.dp {K : PySem.W.Frag} {H : Hp} {bs : List Addr} {S : List PlP} (h : PsAt H bs S) : DpAll K H (bs.map V.ref) (S.map prP) := by
  induction h with
  | nil => exact .nil
  | cons p _ ih => exact .cons p.dp ih
/-- a list of places -/
def LsAt (H : Hp) (a : Addr) (S : List PlP) : Prop := ∃ bs, H a = some (.lst (bs.map V.ref)) ∧ PsAt H bs S
theorem LsAt.mono {H H' : Hp} {a : Addr} {S : List PlP} (sm : Same H H') (h : LsAt H a S) : LsAt H' a S := by
  obtain ⟨bs, h1, h2⟩ := h
  exact ⟨bs, sm _ _ h1, h2.mono sm⟩
theorem LsAt.dp {K : PySem.W.Frag} {H : Hp} {a : Addr} {S : List PlP} (h : LsAt H a S) : Dp K H (.ref a) (.list (S.map prP)) := by
  obtain ⟨bs, h1, h2⟩ := h
  exact .lst (SqL.of h1) h2.dp
theorem any_prP (S : List PlP) (y : PlP) : ((S.map prP).any fun z => PyData.eqv z (prP y)) = decide (y ∈ S) := by
  rw [List.any_map]
  by_cases h : y ∈ S
  · rw [decide_eq_true h, List.any_eq_true]
    exact ⟨y, h, by show PyData.eqv (prP y) (prP y) = true; rw [prP_eqv]; exact decide_eq_true rfl⟩
  · rw [decide_eq_false h, List.any_eq_false]
    intro x hx e
    have e : PyData.eqv (prP x) (prP y) = true := e
    rw [prP_eqv] at e
    exact h (of_decide_eq_true e ▸ hx)
/-- the letters that lead from a place to one that is not settled -/
def leads (R C : Nat) (S : List PlP) (e : PlP) (w : Nat) : Bool := match nxt R C e.1 e.2 w with
  | none => false
  | some y => decide (y ∉ S)
def frL (R C : Nat) (S : List PlP) (e : PlP) : List Nat := udlr.filter (leads R C S e)
/-- an item: a letter and where it leads -/
def ItAt (R C : Nat) (S : List PlP) (e : PlP) (H : Hp) (v : V) (w : Nat) : Prop := ∃ q pp y, v = .ref q ∧ H q = some (.tup [.str (txt [w]), .ref pp]) ∧ PAt H pp y ∧ nxt R C e.1 e.2 w = some y ∧ y ∉ S
theorem ItAt.mono {R C : Nat} {S : List PlP} {e : PlP} {H H' : Hp} {v : V} {w : Nat} (sm : Same H H') (h : ItAt R C S e H v w) : ItAt R C S e H' v w := by
  obtain ⟨q, pp, y, h1, h2, h3, h4⟩ := h
  exact ⟨q, pp, y, h1, sm _ _ h2, h3.mono sm, h4⟩
def FdAt (R C : Nat) (S : List PlP) (e : PlP) (H : Hp) (l : Addr) : Prop := ∃ vs, H l = some (.lst vs) ∧ Paired (ItAt R C S e H) vs (frL R C S e)
theorem FdAt.mono {R C : Nat} {S : List PlP} {e : PlP} {H H' : Hp} {l : Addr} (sm : Same H H') (h : FdAt R C S e H l) : FdAt R C S e H' l := by
  obtain ⟨vs, h1, h2⟩ := h
  exact ⟨vs, sm _ _ h1, paired_mono h2 fun v w z => z.mono sm⟩
def kP (a : PlP) : List L2.Key := [Sum.inl ((a.1 : Nat) : Int), Sum.inl ((a.2 : Nat) : Int)]
theorem kP_inj {a b : PlP} (h : kP a = kP b) : a = b := by
  have h1 := List.head_eq_of_cons_eq h
  have h2 := List.head_eq_of_cons_eq (List.tail_eq_of_cons_eq h)
  injection h1 with h1
  injection h2 with h2
  exact Prod.ext (by omega) (by omega)
/-- for each place its list -/
def bsT (C : Nat) (ls : List Addr) : List (List L2.Key × V) := (List.range ls.length).map fun k => (kP (k / C, k % C), V.ref (ls.getD k 0))
theorem bsT_more (C : Nat) (ls : List Addr) (l : Addr) : bsT C (ls ++ [l]) = bsT C ls ++ [(kP (ls.length / C, ls.length % C), V.ref l)] := by
  unfold bsT
  rw [List.length_append, List.length_singleton, List.range_succ, List.map_append]
  congr 1
  · refine List.map_congr_left fun k hk => ?_
    have hk := List.mem_range.mp hk
    simp only [List.getD_eq_getElem?_getD, List.getElem?_append_left hk]
  · simp [List.getD_eq_getElem?_getD]
theorem bsT_val {C : Nat} {a : PlP} (hc : a.2 < C) : ∀ (m : Nat) (ls : List Addr), ls.length = m → valV (bsT C ls) (kP a) = if a.1 * C + a.2 < m then some (V.ref (ls.getD (a.1 * C + a.2) 0)) else none
  | 0, ls, h => by
    have e : ls = [] := List.eq_nil_of_length_eq_zero h
    subst e
    rw [if_neg (by omega)]
    rfl
  | m + 1, ls, h => by
    have hne : ls ≠ [] := fun e => by
      rw [e] at h
      simp at h
    obtain ⟨us, t, e⟩ : ∃ us t, ls = us ++ [t] := ⟨ls.dropLast, ls.getLast hne, (List.dropLast_concat_getLast hne).symm⟩
    subst e
    have hu : us.length = m := by simpa using h
    have cell : (m / C) * C + m % C = m := by
      rw [Nat.mul_comm]
      exact Nat.div_add_mod m C
    have ihm := bsT_val (C := C) (a := (m / C, m % C)) (Nat.mod_lt _ (by omega)) m us hu
    dsimp only at ihm
    rw [cell, if_neg (by omega)] at ihm
    rw [bsT_more, valV_snoc _ _ _ _ (by rw [hu]; exact ihm), hu, bsT_val hc m us hu]
    by_cases c : kP a = kP (m / C, m % C)
    · have ea := kP_inj c
      have ek : a.1 * C + a.2 = m := by
        rw [ea]
        exact cell
      rw [if_pos c, ek, if_pos (by omega)]
      simp [List.getD_eq_getElem?_getD, hu]
    · rw [if_neg c]
      have ne : a.1 * C + a.2 ≠ m := fun z => c (by
        have d1 : m / C = a.1 := by
          rw [← z, Nat.mul_comm, Nat.mul_add_div (by omega), Nat.div_eq_of_lt hc, Nat.add_zero]
        have d2 : m % C = a.2 := by
          rw [← z, Nat.mul_comm, Nat.mul_add_mod, Nat.mod_eq_of_lt hc]
        rw [d1, d2])
      by_cases d : a.1 * C + a.2 < m
      · rw [if_pos d, if_pos (by omega)]
        simp only [List.getD_eq_getElem?_getD, List.getElem?_append_left (show a.1 * C + a.2 < us.length by omega)]
      · rw [if_neg d, if_neg (by omega)]
structure BsAt (H : Hp) (p : Addr) (R C : Nat) (S : List PlP) (ls : List Addr) : Prop where
  len : ls.length = R * C
  d : H p = some (.dT (bsT C ls))
  l : ∀ k, k < ls.length → FdAt R C S (k / C, k % C) H (ls.getD k 0)
theorem BsAt.mono {H H' : Hp} {p : Addr} {R C : Nat} {S : List PlP} {ls : List Addr} (sm : Same H H') (h : BsAt H p R C S ls) : BsAt H' p R C S ls := ⟨h.len, sm _ _ h.d, fun k hk => (h.l k hk).mono sm⟩
def spFpb : Sp := fun vs H Q _ => ∃ (a b : Addr) (rs : List Addr) (R C : Nat) (f : Fld) (S : List PlP), vs = [.ref a, .ref b] ∧ TrayAt H a rs R C f ∧ 0 < R ∧ R ≤ 6 ∧ 0 < C ∧ C ≤ 6 ∧ Full (R * C) f ∧ LsAt H b S ∧ ∀ H' p ls, Same H H' → H p = none → BsAt H' p R C S ls → Q (.ref p) H'
theorem scFpb : FnScope ["tray", "settled", "beside", "row", "column", "found", "letter", "place"] ["tray", "settled"] (defScope d_free_places_beside) := ⟨rfl, rfl, rfl, by decide +kernel, rfl, by decide +kernel, by decide +kernel⟩
end Tr
namespace Tr
open PySem PySem.Spec PyProof.Rows L2
theorem filt_take {α : Type} {p : α → Bool} {l : List α} {i : Nat} {x : α} (h : l[i]? = some x) : (l.take (i + 1)).filter p = (l.take i).filter p ++ (if p x = true then [x] else []) := by
  rw [take_more h, List.filter_append]
  by_cases e : p x = true
  · rw [if_pos e, List.filter_cons_of_pos e]
    rfl
  · rw [if_neg e, List.filter_cons_of_neg e]
    rfl
section
variable {P : Program} {w : World} {K : PySem.W.Frag} {mg : Str → Option Value} {base : Heap}
theorem ok_fpb {fa fP fB : Addr} {fd fdP fdB : FuncData} {k jP jB : Nat} {tL : Tok} (F : Fun K "free_places_beside" "free_places_beside" d_free_places_beside fa fd) (gL : mg "LETTERS" = some (.str "udlr" tL)) (hP : jP ≤ k) (hB : jB ≤ k)
    (GP : FnOk P w K mg base CX0 jP fP fdP ["tray"] spPlaces) (gP : mg "places_of" = some (.ref fP)) (kP' : PySem.W.keepIn K (.ref fP) = true) (bP : Binds K fdP ["tray"] [])
    (GB : FnOk P w K mg base CX0 jB fB fdB ["tray", "row", "column", "letter"] spBeside) (gB : mg "place_beside" = some (.ref fB)) (kB : PySem.W.keepIn K (.ref fB) = true) (bB : Binds K fdB ["tray", "row", "column", "letter"] []) :
    FnOk P w K mg base CX0 (k + 1) fa fd ["tray", "settled"] spFpb := by
  refine F.ok scFpb (fun vs H Q E h => ?_) (fun cdv A outer s H vs Q E hr h => ?_)
  · obtain ⟨a, b, rs, R, C, f, S, rfl, _⟩ := h
    rfl
  · obtain ⟨a, b, rs, R, C, f, S, rfl, T, hR0, hR, hC0, hC, hf, hS, q⟩ := h
    have hu := hu_of hr
    have hu65 : (A.deeper (envOfC "free_places_beside" (defScope d_free_places_beside) s.heap.objs.size fa cdv)).units + 65 < cLine := by
      have := hr.un
      omega
    refine ⟨_, pss_cons (ps_set (i := 2) scFpb.nd rfl (.inl rfl) pe_dnewT)
      (pss_cons (ps_for PassesOwn.never rfl (pi_values (pe_frz (pe_call GP (hr.mono hP) (by rfl) gP kP' bP .nil pass0 (pa_cons (pv 0) pa_nil)))) (pg_tup rfl (pgs_cons (pg_name (i := 3) scFpb.nd rfl (.inl rfl)) (pgs_cons (pg_name (i := 4) scFpb.nd rfl (.inl rfl)) pgs_nil)))
        (pss_cons (ps_set (i := 5) scFpb.nd rfl (.inl rfl) (pe_lst pa_nil))
        (pss_cons (ps_for PassesOwn.never rfl (pi_str (pe_glob (v := .str "udlr") rfl gL ⟨_, rfl⟩)) (pg_name (i := 6) scFpb.nd rfl (.inl rfl))
          (pss_cons (ps_set (i := 7) scFpb.nd rfl (.inl rfl) (pe_call GB (hr.mono hB) (by rfl) gB kB bB .nil pass0 (pa_cons (pv 0) (pa_cons (pv 3) (pa_cons (pv 4) (pa_cons (pv 6) pa_nil))))))
          (pss_one (ps_if (PW.pt (pw_and (pt_cmp (pc_notN (pv 7))) (pw_and1 (pt_cmpR (op_notInD hu65) (pv 7) (pv 1) rfl))))
            (pss_one (ps_expr (pe_bm PySem.F.plainAttrs_list PySem.F.slot_list_append PySem.F.type_list_append mt_append (pv 5) (pa_cons (pe_tup (pa_cons (pv 6) (pa_cons (pv 7) pa_nil))) pa_nil)))) pss_nil))))
        (pss_one (ps_dput hu (pv 2) (pe_tup (pa_cons (pv 3) (pa_cons (pv 4) pa_nil))) (pv 5) rfl)))))
      (pss_one (ps_ret (pv 2)))), ?_⟩
    -- beside = {}
    intro bd nbd
    have s0 : Same H (upd H bd (.dT [])) := same_upd nbd
    -- places_of(tray).values()
    refine ⟨_, rfl, a, rs, R, C, f, rfl, T.mono s0, hR, hC, hf, fun H1 p ts s1 np pl => ⟨p, _, rfl, pl.d, True.intro, fun od => ?_⟩⟩
    have s01 : Same (upd H bd (.dT [])) (upd H1 p (.frz od (.dK (plT f ts)))) := fun c o e => by
      rw [upd_ne (ne_of_none e np)]
      exact s1 _ _ e
    have hbd : (upd H1 p (.frz od (.dK (plT f ts)))) bd = some (.dT []) := s01 _ _ upd_same
    have hp : (upd H1 p (.frz od (.dK (plT f ts)))) p = some (.frz od (.dK (plT f ts))) := upd_same
    have ht : ∀ k, k < ts.length → (upd H1 p (.frz od (.dK (plT f ts)))) (ts.getD k 0) = some (.tup [.int (k / C : Nat), .int (k % C : Nat)]) := fun k hk => by
      have h := pl.t k hk
      rw [upd_ne (ne_of h pl.d (fun z => by cases z))]
      exact h
    have sH : Same H (upd H1 p (.frz od (.dK (plT f ts)))) := s0.trans s01
    have npb : p ≠ bd := fun z => by
      rw [z, upd_same] at np
      cases np
    generalize upd H1 p (.frz od (.dK (plT f ts))) = H2 at *
    refine ⟨p, od, _, rfl, hp, ?_⟩
    have hlT : (plT f ts).length = R * C := by
      unfold plT
      rw [List.length_map, List.length_range, pl.len]
    -- what stays through the turns: all but the dict
    refine for_it (walk_values (d := p) (o := od) (kvs := plT f ts)) (fun i σ H3 => (∀ c o, c ≠ bd → H2 c = some o → H3 c = some o) ∧ ∃ ls : List Addr, ls.length = i ∧ H3 bd = some (.dT (bsT C ls)) ∧ (∀ k, k < ls.length → FdAt R C S (k / C, k % C) H3 (ls.getD k 0)) ∧
        ∃ v3 v4 v5 v6 v7, σ = [some (.ref a), some (.ref b), some (.ref bd), v3, v4, v5, v6, v7])
      ⟨fun c o _ e => e, [], rfl, hbd, (fun k hk => nomatch hk), none, none, none, none, none, rfl⟩ (fun i σ H3 _ h => h.1 _ _ npb hp) ?_ ?_
    · rintro i x σ H3 H4 hi ⟨k3, ls, hls, hbd3, hfd, v3, v4, v5, v6, v7, rfl⟩ ⟨rfl, kk, hx⟩
      rw [hlT] at hi
      have hx : (plT f ts)[i]? = some (kk, x) := hx
      unfold plT at hx
      rw [List.getElem?_map, List.getElem?_range (by rw [pl.len]; exact hi)] at hx
      have hx := Option.some.inj hx
      have ex : V.ref (ts.getD i 0) = x := congrArg Prod.snd hx
      subst ex
      have hti := ht i (by rw [pl.len]; exact hi)
      have tb : ts.getD i 0 ≠ bd := fun z => by
        rw [z, hbd] at hti
        cases hti
      have hti3 := k3 _ _ tb hti
      obtain ⟨c1, c2, c3⟩ := Bf.cell_div hi
      refine ⟨_, _, rfl, SqT.of hti3, rfl, _, _, rfl, _, _, rfl, rfl, ?_⟩
      -- found = []
      refine ⟨Nat.zero_le _, fun fo nfo => ?_⟩
      have fob : fo ≠ bd := fun z => by
        rw [z, hbd3] at nfo
        cases nfo
      have s4 : Same H4 (upd H4 fo (.lst [])) := same_upd nfo
      -- for letter in LETTERS
      refine ⟨_, rfl, ?_⟩
      rw [udlr_eq]
      refine for_it (walk_str (z := txt udlr)) (fun j σ H5 => Same H4 H5 ∧ ∃ vs, H5 fo = some (.lst vs) ∧ Paired (ItAt R C S (i / C, i % C) H5) vs ((udlr.take j).filter (leads R C S (i / C, i % C))) ∧
          ∃ v6 v7, σ = [some (.ref a), some (.ref b), some (.ref bd), some (.int (i / C : Nat)), some (.int (i % C : Nat)), some (.ref fo), v6, v7])
        ⟨s4, [], upd_same, .nil, v6, v7, rfl⟩ (fun _ _ _ _ _ => True.intro) ?_ ?_
      · rintro j x σ H5 H6 hj ⟨s5, vs, hfo, hvs, u6, u7, rfl⟩ ⟨rfl, l, hl, rfl⟩
        have hl : udlr[j]? = some l := by simpa using hl
        have hlo : okL l := by
          have m := List.mem_of_getElem? hl
          revert m
          unfold udlr okL
          simp
        have hj4 : j < 4 := (List.getElem?_eq_some_iff.mp hl).1
        have fm := filt_take (p := leads R C S (i / C, i % C)) hl
        have ta : a ≠ bd := fun z => by
          have := T.top
          rw [z, nbd] at this
          cases this
        have keep : ∀ c o, H c = some o → H6 c = some o := fun c o e => by
          have cb : c ≠ bd := ne_of_none e nbd
          exact s5 _ _ (k3 _ _ cb (sH _ _ e))
        have T6 : TrayAt H6 a rs R C f := T.mono keep
        have hS6 : LsAt H6 b S := hS.mono keep
        have hvl : vs.length ≤ j := by
          have e := Paired.length hvs
          have h1 := List.length_filter_le (leads R C S (i / C, i % C)) (udlr.take j)
          rw [List.length_take] at h1
          omega
        refine ⟨_, rfl, _, rfl, _, rfl, _, rfl, a, rs, R, C, f, i / C, i % C, l, rfl, T6, hR0, hlo, fun r' c' hn H7 pp s7 npp hpp => ?_, fun hn => ?_⟩
        · -- a place
          refine ⟨_, rfl, _, rfl, iteT ?_⟩
          have hP7 : PAt H7 pp (r', c') := hpp
          refine ⟨_, rfl, _, rfl, prP (r', c'), S.map prP, hP7.dp, (hS6.mono s7).dp, prP_shaped _, prPs_shaped S, _, rfl, ?_⟩
          rw [any_prP]
          by_cases hm : (r', c') ∈ S
          · rw [decide_eq_true hm]
            refine iteF ⟨s5.trans s7, vs, s7 _ _ hfo, ?_, _, _, rfl⟩
            rw [fm, if_neg (by unfold leads; dsimp only; rw [hn]; simpa using hm), List.append_nil]
            exact paired_mono hvs fun v x z => z.mono s7
          · rw [decide_eq_false hm]
            refine iteT ?_
            refine ⟨_, rfl, .inl ⟨rfl, _, SqL.of (s7 _ _ hfo)⟩, _, rfl, _, rfl, (by show 2 ≤ sizeLine; decide), fun tp ntp => ?_⟩
            have s8 : Same H7 (upd H7 tp (.tup [V.str (txt [l]), V.ref pp])) := same_upd ntp
            have hfo8 := s8 _ _ (s7 _ _ hfo)
            refine ⟨fo, vs, V.ref tp, rfl, rfl, hfo8, ?_, ?_⟩
            · exact small1000 (by omega)
            have nfoH : ∀ c o, H4 c = some o → c ≠ fo := fun c o e => ne_of_none e nfo
            have s9 : Same H4 (upd (upd H7 tp (.tup [V.str (txt [l]), V.ref pp])) fo (.lst (vs ++ [V.ref tp]))) := fun c o e => by
              rw [upd_ne (nfoH c o e)]
              exact s8 _ _ (s7 _ _ (s5 _ _ e))
            have tfo : tp ≠ fo := fun z => by
              rw [z, s7 _ _ hfo] at ntp
              cases ntp
            have pfo : pp ≠ fo := ne_of hpp (s7 _ _ hfo) (fun z => by cases z)
            refine ⟨s9, _, upd_same, ?_, _, _, rfl⟩
            rw [fm, if_pos (by unfold leads; dsimp only; rw [hn]; exact decide_eq_true hm)]
            have up : ∀ v x, ItAt R C S (i / C, i % C) H6 v x → ItAt R C S (i / C, i % C) (upd (upd H7 tp (.tup [V.str (txt [l]), V.ref pp])) fo (.lst (vs ++ [V.ref tp]))) v x := by
              rintro v x ⟨q', pq, y, h1, h2, h3, h4⟩
              refine ⟨q', pq, y, h1, ?_, ?_, h4⟩
              · rw [upd_ne (ne_of h2 hfo (fun z => by cases z))]
                exact s8 _ _ (s7 _ _ h2)
              · show (upd (upd H7 tp (.tup [V.str (txt [l]), V.ref pp])) fo (.lst (vs ++ [V.ref tp]))) pq = _
                rw [upd_ne (ne_of h3 hfo (fun z => by cases z))]
                exact s8 _ _ (s7 _ _ h3)
            refine Paired.snoc (paired_mono hvs up) ⟨tp, pp, (r', c'), rfl, ?_, ?_, hn, hm⟩
            · rw [upd_ne tfo, upd_same]
            · show (upd (upd H7 tp (.tup [V.str (txt [l]), V.ref pp])) fo (.lst (vs ++ [V.ref tp]))) pp = _
              rw [upd_ne pfo]
              exact s8 _ _ hpp
        · refine ⟨_, rfl, _, rfl, iteF ⟨s5, vs, hfo, ?_, _, _, rfl⟩⟩
          rw [fm, if_neg (by unfold leads; dsimp only; rw [hn]; simp), List.append_nil]
          exact hvs
      · rintro σ H5 ⟨s5, vs, hfo, hvs, u6, u7, rfl⟩
        have e : udlr.take (txt udlr).cps.size = udlr := by decide
        rw [e] at hvs
        -- beside[(row, column)] = found
        refine ⟨_, rfl, _, rfl, _, rfl, _, rfl, (by show 2 ≤ sizeLine; decide), fun tk ntk => ?_⟩
        have s6 : Same H5 (upd H5 tk (.tup [V.int (i / C : Nat), V.int (i % C : Nat)])) := same_upd ntk
        have hbd6 := s6 _ _ (s5 _ _ hbd3)
        have hnone : valV (bsT C ls) (kP (i / C, i % C)) = none := by
          rw [bsT_val (a := (i / C, i % C)) c2 i ls hls]
          refine if_neg ?_
          have c3 : i / C * C + i % C = i := c3
          dsimp only
          omega
        have hlen : (bsT C ls).length = i := by
          unfold bsT
          rw [List.length_map, List.length_range, hls]
        refine ⟨bd, _, rfl, DPut.t (k := kP (i / C, i % C)) hbd6 upd_same ?_, ?_⟩
        · rw [hlen]
          refine small1000 ?_
          have : R * C ≤ 6 * 6 := Nat.mul_le_mul hR hC
          omega
        rw [putK_new _ hnone]
        have s56 : ∀ c o, c ≠ bd → H4 c = some o → (upd (upd H5 tk (.tup [V.int (i / C : Nat), V.int (i % C : Nat)])) bd (.dT (bsT C ls ++ [(kP (i / C, i % C), V.ref fo)]))) c = some o := fun c o hc e => by
          rw [upd_ne hc]
          exact s6 _ _ (s5 _ _ e)
        have fup : ∀ {e : PlP} {l : Addr} {G : Hp}, (∀ c o, c ≠ bd → G c = some o → (upd (upd H5 tk (.tup [V.int (i / C : Nat), V.int (i % C : Nat)])) bd (.dT (bsT C ls ++ [(kP (i / C, i % C), V.ref fo)]))) c = some o) → G bd = some (.dT (bsT C ls)) → FdAt R C S e G l → FdAt R C S e (upd (upd H5 tk (.tup [V.int (i / C : Nat), V.int (i % C : Nat)])) bd (.dT (bsT C ls ++ [(kP (i / C, i % C), V.ref fo)]))) l := by
          rintro e l G k ge ⟨vs', h1, h2⟩
          refine ⟨vs', k _ _ (ne_of h1 ge (fun z => by cases z)) h1, paired_mono h2 ?_⟩
          rintro v x ⟨q', pq, y, g1, g2, g3, g4⟩
          exact ⟨q', pq, y, g1, k _ _ (ne_of g2 ge (fun z => by cases z)) g2, k _ _ (ne_of g3 ge (fun z => by cases z)) g3, g4⟩
        have lm : ls.length / C = i / C ∧ ls.length % C = i % C := by rw [hls]; exact ⟨rfl, rfl⟩
        refine ⟨fun c o hc e => s56 c o hc (k3 _ _ hc e), ls ++ [fo], by simp [hls], ?_, fun k hk => ?_, _, _, _, _, _, rfl⟩
        · rw [upd_same, bsT_more, lm.1, lm.2]
        · by_cases c : k < ls.length
          · have eg : (ls ++ [fo]).getD k 0 = ls.getD k 0 := by simp only [List.getD_eq_getElem?_getD, List.getElem?_append_left c]
            rw [eg]
            exact fup s56 hbd3 (hfd k c)
          · have ek : k = ls.length := by
              rw [List.length_append, List.length_singleton] at hk
              omega
            have eg : (ls ++ [fo]).getD k 0 = fo := by
              rw [ek]
              simp [List.getD_eq_getElem?_getD]
            rw [eg, ek, lm.1, lm.2]
            refine fup (G := H5) (fun c o hc e => ?_) (s5 _ _ hbd3) ⟨vs, hfo, hvs⟩
            rw [upd_ne hc]
            exact s6 _ _ e
    · rintro σ H3 ⟨k3, ls, hls, hbd3, hfd, v3, v4, v5, v6, v7, rfl⟩
      rw [hlT] at hls
      refine ⟨_, rfl, q H3 bd ls (fun c o e => k3 _ _ (ne_of_none e nbd) (sH _ _ e)) nbd ⟨hls, hbd3, hfd⟩⟩
end
end Tr
/-! standing_behind -/
namespace Tr
open PySem PySem.Spec PyProof.Rows L2
/-- a tuple of places -/
def StAt (H : Hp) (t : Addr) (st : List PlP) : Prop := ∃ bs, H t = some (.tup (bs.map V.ref)) ∧ PsAt H bs st
theorem StAt.mono {H H' : Hp} {t : Addr} {st : List PlP} (sm : Same H H') (h : StAt H t st) : StAt H' t st := by
  obtain ⟨bs, h1, h2⟩ := h
  exact ⟨bs, sm _ _ h1, h2.mono sm⟩
theorem cut1 (x : V) (r : List V) : cutV (x :: r) (some 1) none = r := by
  have e1 : HT.sIx (r.length + 1) 0 (some 1) = 1 := by
    unfold HT.sIx
    simp
  have e2 : HT.sIx (r.length + 1) (r.length + 1) none = r.length + 1 := rfl
  unfold cutV
  rw [List.length_cons, e1, e2]
  show (r.take (r.length + 1 - 1)) = r
  rw [Nat.add_sub_cancel, List.take_length]
theorem six1 (n : Nat) : HT.sIx (n + 1) 0 (some 1) ≠ 0 := by
  unfold HT.sIx
  simp
theorem Paired.at {α β : Type} {F : α → β → Prop} : ∀ {a : List α} {b : List β} {i : Nat} {x : α}, Paired F a b → a[i]? = some x → ∃ y, b[i]? = some y ∧ F x y
  | _, _, 0, x, .cons h _, e => ⟨_, rfl, Option.some.inj e ▸ h⟩
  | _, _, i + 1, x, .cons _ t, e => Paired.at (i := i) t e
  | _, _, _, _, .nil, e => by simp at e
theorem Paired.take {α β : Type} {F : α → β → Prop} : ∀ {a : List α} {b : List β} (i : Nat), Paired F a b → Paired F (a.take i) (b.take i)
  | _, _, 0, _ => .nil
  | _, _, i + 1, .nil => .nil
  | _, _, i + 1, .cons h t => .cons h (Paired.take i t)
def spStB : Sp := fun vs H Q _ => ∃ (t p : Addr) (e y : PlP) (r : List PlP), vs = [.ref t, .ref p] ∧ StAt H t (e :: r) ∧ PAt H p y ∧ r.length ≤ 100 ∧ ∀ H' t', Same H H' → H t' = none → StAt H' t' (Bf.mvL (e :: r) y) → Q (.ref t') H'
theorem scStB : FnScope ["standing", "place", "empty", "at"] ["standing", "place"] (defScope d_standing_behind) := ⟨rfl, rfl, rfl, by decide +kernel, rfl, by decide +kernel, by decide +kernel⟩
section
variable {P : Program} {w : World} {K : PySem.W.Frag} {mg : Str → Option Value} {base : Heap}
theorem ok_stB {fa : Addr} {fd : FuncData} {k : Nat} (F : Fun K "standing_behind" "standing_behind" d_standing_behind fa fd) (mT : mg "tuple" = none) : FnOk P w K mg base CX0 (k + 1) fa fd ["standing", "place"] spStB := by
  refine F.ok scStB (fun vs H Q E h => ?_) (fun cdv A outer s H vs Q E hr h => ?_)
  · obtain ⟨t, p, e, y, r, rfl, _⟩ := h
    rfl
  · obtain ⟨t, p, e, y, r, rfl, hS, hP, hl, q⟩ := h
    refine ⟨_, pss_cons (ps_set (i := 2) scStB.nd rfl (.inr rfl) (pe_ix ix_tup (pv 0) pe_int (fun _ _ => rfl)))
      (pss_one (ps_ret (pe_callTy call_tuple_of (by rfl) mT (by decide +kernel) (pa_cons (pe_op op_cat (pe_lst (pa_cons (pv 1) pa_nil))
        (pe_lc (own := [("at", 3)]) (g := gName 3) (tt := tYes) rfl scStB.nd (pi_tup (pe_slice sl_tup (pv 0) (po_some pe_int) po_none)) (blkOk_by (own := [("at", 3)]) (N := ["standing", "place", "empty", "at"]) (sc := defScope d_standing_behind) (by decide +kernel))
          (fun _ _ _ _ _ => pg_name (i := 3) scStB.nd rfl (.inl rfl)) (fun _ _ _ _ _ => pts_nil) (fun _ _ _ _ _ => pe_ifExp (pt_cmpR (r := rEqD K) (op_eqD hr.units) (pv 3) (pv 1) (nomark _)) (pv 2) (pv 3)))) pa_nil)))), ?_⟩
    obtain ⟨bs, hb, hps⟩ := hS
    cases hps with
    | @cons be _ br _ he hrp =>
      have hlen : br.length = r.length := Paired.length hrp
      -- empty = standing[0]
      refine ⟨_, rfl, t, _, 0, _, rfl, rfl, SqT.of hb, atI_nat (j := 0) rfl, ?_⟩
      -- [place]
      refine ⟨_, rfl, (by show 1 ≤ sizeLine; decide), fun l nl => ?_⟩
      have s1 : Same H (upd H l (.lst [V.ref p])) := same_upd nl
      have hl1 : (upd H l (.lst [V.ref p])) l = some (.lst [V.ref p]) := upd_same
      have hb1 := s1 _ _ hb
      generalize upd H l (.lst [V.ref p]) = H1 at *
      -- standing[1:]
      refine ⟨_, rfl, _, rfl, t, V.ref be :: br.map V.ref, rfl, SqT.of hb1, ?_, fun c nc => ?_⟩
      · rw [List.length_cons]
        exact fun z => six1 _ z.1
      rw [cut1]
      have s2 : Same H1 (upd H1 c (.tup (br.map V.ref))) := same_upd nc
      have hc2 : (upd H1 c (.tup (br.map V.ref))) c = some (.tup (br.map V.ref)) := upd_same
      generalize upd H1 c (.tup (br.map V.ref)) = H2 at *
      have s02 := s1.trans s2
      refine ⟨c, rfl, ⟨_, SqT.of hc2⟩, fun D nD => ?_⟩
      refine lc_gen (walk_tup (K := K) (a := c) (xs := br.map V.ref)) (fun i H3 => Same H2 H3 ∧ ∃ us : List Addr, H3 D = some (.lst (us.map V.ref)) ∧ PsAt H us ((r.take i).map (Bf.sw e y))) ⟨same_upd nD, [], by rw [upd_same]; rfl, .nil⟩ (fun i H3 _ p => .inl (.inl (p.1 _ _ hc2))) ?_ ?_
      · rintro i x H3 H4 hi ⟨s3, us, hD, hus⟩ ⟨rfl, hx⟩
        rw [List.length_map] at hi
        have hbi : br[i]? = some br[i] := List.getElem?_eq_getElem hi
        rw [List.getElem?_map, hbi] at hx
        cases hx
        obtain ⟨a, ha, hab⟩ := Paired.at hrp hbi
        have s03 := s02.trans s3
        refine ⟨rfl, ?_⟩
        refine ⟨_, rfl, _, rfl, prP a, prP y, (hab.mono s03).dp, (hP.mono s03).dp, prP_shaped _, prP_shaped _, _, rfl, ?_⟩
        rw [prP_eqv]
        have hul : us.length ≤ 100 := by
          have e1 := Paired.length hus
          rw [List.length_map, List.length_take] at e1
          omega
        have tk : (r.take (i + 1)).map (Bf.sw e y) = (r.take i).map (Bf.sw e y) ++ [Bf.sw e y a] := by
          rw [take_more ha, List.map_append]
          rfl
        have keep : ∀ v, Same H2 (upd H4 D (.lst (us.map V.ref ++ [v]))) := fun v c o e => by
          rw [upd_ne (ne_of_none e nD)]
          exact s3 _ _ e
        refine decI (fun z => ?_) (fun z => ?_)
        · refine ⟨_, rfl, _, hD, by rw [List.length_map]; exact small1000 (by omega), keep _, us ++ [be], by rw [upd_same, List.map_append]; rfl, ?_⟩
          rw [tk, z, Bf.sw_eq]
          exact Paired.snoc hus he
        · refine ⟨_, rfl, _, hD, by rw [List.length_map]; exact small1000 (by omega), keep _, us ++ [br[i]], by rw [upd_same, List.map_append]; rfl, ?_⟩
          rw [tk, Bf.sw_ne z]
          exact Paired.snoc hus hab
      · rintro H3 ⟨s3, us, hD, hus⟩
        rw [List.length_map, hlen, List.take_length] at hus
        have s03 := s02.trans s3
        have hul : us.length ≤ 100 := by
          have e1 := Paired.length hus
          rw [List.length_map] at e1
          omega
        refine ⟨l, D, [V.ref p], us.map V.ref, rfl, rfl, s3 _ _ (s2 _ _ hl1), hD, ?_, fun l2 nl2 => ?_⟩
        · rw [List.length_map]
          have e16 : sizeLine = 16777216 := rfl
          show 1 + us.length ≤ sizeLine
          omega
        refine ⟨l2, _, rfl, .inl ⟨SqL.of upd_same, fun t' nt' => ?_⟩⟩
        have s4 : Same H3 (upd H3 l2 (.lst ([V.ref p] ++ us.map V.ref))) := same_upd nl2
        have s5 := s4.trans (same_upd (o := .tup ([V.ref p] ++ us.map V.ref)) nt')
        refine q _ t' (s03.trans s5) ((s03.trans s4).free nt') ⟨p :: us, by rw [upd_same]; rfl, ?_⟩
        exact .cons ((hP.mono s03).mono s5) ((hus.mono s03).mono s5)
end
end Tr
/-! group_slides: what is needed of tuples of places as keys -/
namespace Tr
open PySem PySem.Spec PyProof.Rows L2
theorem eqvAll_prP : ∀ a b : List PlP, PyData.eqvAll (a.map prP) (b.map prP) = decide (a = b)
  | [], [] => by simp [PyData.eqvAll]
  | [], b :: s => by simp [PyData.eqvAll]
  | a :: r, [] => by simp [PyData.eqvAll]
  | a :: r, b :: s => by
    have e : PyData.eqvAll ((a :: r).map prP) ((b :: s).map prP) = (PyData.eqv (prP a) (prP b) && PyData.eqvAll (r.map prP) (s.map prP)) := by simp only [List.map_cons, PyData.eqvAll]
    rw [e, prP_eqv, eqvAll_prP r s]
    by_cases h1 : a = b
    · by_cases h2 : r = s
      · simp [h1, h2]
      · simp [h1, h2]
    · simp [h1]
theorem eqvT_prP (a b : List PlP) : PyData.eqv (.tuple (a.map prP)) (.tuple (b.map prP)) = decide (a = b) := by
  rw [← eqvAll_prP]
  simp only [PyData.eqv]
theorem StAt.dp {K : PySem.W.Frag} {H : Hp} {t : Addr} {st : List PlP} (h : StAt H t st) : Dp K H (.ref t) (.tuple (st.map prP)) := by
  obtain ⟨bs, h1, h2⟩ := h
  exact .tup (SqT.of h1) h2.dp
abbrev kN (st : List PlP) : NK := st.map kP
theorem kN_inj {a b : List PlP} (h : kN a = kN b) : a = b := List.map_inj_right (fun _ _ e => kP_inj e) |>.mp h
theorem StAt.key {H : Hp} {t : Addr} {st : List PlP} (h : StAt H t st) : KeyT H (kN st) t := by
  obtain ⟨bs, h1, h2⟩ := h
  refine ⟨bs, h1, ?_⟩
  clear h1
  induction h2 with
  | nil => exact .nil
  | cons p _ ih => exact .cons p ih
/-- the slides to each standing -/
def nT : List (List PlP) → List (List Nat) → List (NK × V)
  | k :: ks, t :: tx => (kN k, V.str (txt t)) :: nT ks tx
  | _, _ => []
theorem nT_len : ∀ {ks : List (List PlP)} {tx : List (List Nat)}, tx.length = ks.length → (nT ks tx).length = ks.length
  | [], [], _ => rfl
  | _ :: ks, _ :: tx, h => by
    have h : tx.length = ks.length := by simpa using h
    simp [nT, nT_len h]
  | [], _ :: _, h => by simp at h
  | _ :: _, [], h => by simp at h
theorem nT_snoc {k : List PlP} {t : List Nat} : ∀ {ks : List (List PlP)} {tx : List (List Nat)}, tx.length = ks.length → nT (ks ++ [k]) (tx ++ [t]) = nT ks tx ++ [(kN k, V.str (txt t))]
  | [], [], _ => rfl
  | _ :: ks, _ :: tx, h => by
    have h : tx.length = ks.length := by simpa using h
    simp [nT, nT_snoc h]
  | [], _ :: _, h => by simp at h
  | _ :: _, [], h => by simp at h
theorem nT_none {k : List PlP} : ∀ {ks : List (List PlP)} {tx : List (List Nat)}, tx.length = ks.length → k ∉ ks → valV (nT ks tx) (kN k) = none
  | [], [], _, _ => rfl
  | a :: ks, t :: tx, h, hm => by
    have h : tx.length = ks.length := by simpa using h
    rw [nT, valV_neg (p := (kN a, V.str (txt t))) (fun z => hm (by rw [← kN_inj z]; exact List.mem_cons_self))]
    exact nT_none h fun z => hm (List.mem_cons_of_mem _ z)
  | [], _ :: _, h, _ => by simp at h
  | _ :: _, [], h, _ => by simp at h
theorem nT_get {k : List PlP} {t : List Nat} : ∀ {ks : List (List PlP)} {tx : List (List Nat)} {i : Nat}, ks.Nodup → ks[i]? = some k → tx[i]? = some t → valV (nT ks tx) (kN k) = some (V.str (txt t))
  | a :: ks, u :: tx, 0, _, h1, h2 => by
    cases h1
    cases h2
    rw [nT]
    exact valV_pos (p := (kN k, V.str (txt t))) rfl
  | a :: ks, u :: tx, i + 1, nd, h1, h2 => by
    have h1 : ks[i]? = some k := by simpa using h1
    have h2 : tx[i]? = some t := by simpa using h2
    rw [List.nodup_cons] at nd
    rw [nT, valV_neg (p := (kN a, V.str (txt u))) (fun z => nd.1 (by rw [kN_inj z]; exact List.mem_of_getElem? h1))]
    exact nT_get nd.2 h1 h2
  | [], _, _, _, h, _ => by simp at h
  | _ :: _, [], _, _, _, h => by simp at h
theorem nT_some {k : List PlP} {ks : List (List PlP)} {tx : List (List Nat)} (hl : tx.length = ks.length) (nd : ks.Nodup) : (valV (nT ks tx) (kN k)).isSome = decide (k ∈ ks) := by
  by_cases h : k ∈ ks
  · obtain ⟨i, hi⟩ := List.mem_iff_getElem?.mp h
    have hk : i < tx.length := by
      rw [hl]
      exact (List.getElem?_eq_some_iff.mp hi).1
    rw [nT_get nd hi (List.getElem?_eq_getElem hk), decide_eq_true h]
    rfl
  · rw [nT_none hl h, decide_eq_false h]
    rfl
theorem NDict.keep {P : Program} {w : World} {H H' : Hp} {d : Addr} {kvs : List (NK × V)} (sm : ∀ b xs, H b = some (.tup xs) → H' b = some (.tup xs)) (hd : H' d = H d) (h : NDict P w H d kvs) : NDict P w H' d kvs := by
  obtain ⟨a, b, xs, c, r⟩ := h
  exact ⟨a, b, xs, hd.trans c, r.mono sm⟩
theorem plc_zero {R C : Nat} {s : Sl} (g : Good R C s) : Bf.plc (R * C) C s.1 0 = s.2 := by
  have hk : Bf.ixc C s.2 < R * C := Bf.ixc_lt g.z.r g.z.c
  have hz : s.1 (Bf.ixc C s.2) = 0 := g.z.z
  have h1 := posOf_lt g.full g.full hk
  have h2 := posOf_get g.full g.full hk
  rw [hz] at h1 h2
  have e := g.uniq _ h1 h2
  obtain ⟨c1, c2, c3⟩ := Bf.cell_div h1
  unfold Bf.plc
  have c3 : Bf.ixc C (posOf (R * C) s.1 0 / C, posOf (R * C) s.1 0 % C) = posOf (R * C) s.1 0 := c3
  rw [e] at c1 c2 c3 ⊢
  exact Bf.ixc_inj (R := R) c2 g.z.c c3
/-- what places_of tells of a number -/
theorem PlAt.get {H : Hp} {p : Addr} {R C : Nat} {f : Fld} {ts : List Addr} (h : PlAt H p R C f ts) (hf : Full (R * C) f) {v : Int} (hv : ∃ k, k < R * C ∧ f k = v) :
    ∃ b, DGet H p (.int v) (some (.ref b)) ∧ PAt H b (Bf.plc (R * C) C f v) := by
  obtain ⟨k, hk, rfl⟩ := hv
  have d := DGet.k (k := Sum.inl (f k)) h.d
  rw [plT_val hf k hk (R * C) ts h.len (Nat.le_refl _), if_pos hk] at d
  refine ⟨_, d, ?_⟩
  have t := h.t k (by rw [h.len]; exact hk)
  have e : posOf (R * C) f (f k) = k := full_inj hf (posOf_lt hf hf hk) hk (posOf_get hf hf hk)
  unfold Bf.plc PAt
  rw [e]
  exact t
/-- what free_places_beside tells of a place -/
theorem BsAt.get {H0 H : Hp} {p b : Addr} {R C : Nat} {S : List PlP} {ls : List Addr} {e : PlP} (h : BsAt H0 p R C S ls) (sm : Same H0 H) (h1 : e.1 < R) (h2 : e.2 < C) (hb : PAt H b e) : ∃ l, DGet H p (.ref b) (some (.ref l)) ∧ FdAt R C S e H0 l := by
  have hk : e.1 * C + e.2 < R * C := ix_lt h1 h2
  have d := DGet.t (k := kP e) (sm _ _ h.d) (show H b = some (.tup ((kP e).map kV)) from hb)
  rw [bsT_val h2 (R * C) ls h.len, if_pos hk] at d
  refine ⟨_, d, ?_⟩
  have t := h.l (e.1 * C + e.2) (by rw [h.len]; exact hk)
  have d1 : (e.1 * C + e.2) / C = e.1 := by rw [Nat.mul_comm, Nat.mul_add_div (by omega), Nat.div_eq_of_lt h2, Nat.add_zero]
  have d2 : (e.1 * C + e.2) % C = e.2 := by rw [Nat.mul_comm, Nat.mul_add_mod, Nat.mod_eq_of_lt h2]
  rw [d1, d2] at t
  exact t
theorem mem_frL {R C : Nat} {S : List PlP} {e : PlP} {r : List PlP} {w : Nat} (hw : okL w) {t : List PlP} (h : Bf.stW R C S (e :: r) w = some t) : w ∈ frL R C S e := by
  unfold frL
  rw [List.mem_filter]
  refine ⟨by revert hw; unfold okL udlr; simp, ?_⟩
  have h : (nxt R C e.1 e.2 w).bind (fun y => if y ∈ S then none else some (y :: r.map (Bf.sw e y))) = some t := h
  unfold leads
  cases hn : nxt R C e.1 e.2 w with
  | none => rw [hn] at h; cases h
  | some y =>
    rw [hn] at h
    have h : (if y ∈ S then none else some (y :: r.map (Bf.sw e y))) = some t := h
    by_cases hy : y ∈ S
    · rw [if_pos hy] at h; cases h
    · exact decide_eq_true hy
theorem stW_some {R C : Nat} {S : List PlP} {e y : PlP} {r : List PlP} {w : Nat} (hn : nxt R C e.1 e.2 w = some y) (hy : y ∉ S) : Bf.stW R C S (e :: r) w = some (Bf.mvL (e :: r) y) := by
  show (nxt R C e.1 e.2 w).bind (fun y => if y ∈ S then none else some (y :: r.map (Bf.sw e y))) = _
  rw [hn]
  show (if y ∈ S then none else some (y :: r.map (Bf.sw e y))) = some (Bf.mvL (e :: r) y)
  rw [if_neg hy]
  rfl
theorem mem_udlr {w : Nat} (h : w ∈ udlr) : okL w := by
  revert h
  unfold udlr okL
  simp
theorem pow_cells {R C n : Nat} (hR : R ≤ 6) (hC : C ≤ 6) (hn : n ≤ 4) : (R * C) ^ n ≤ 1679616 := by
  have h1 : R * C ≤ 36 := by
    have := Nat.mul_le_mul hR hC
    omega
  have h2 : (R * C) ^ n ≤ 36 ^ n := Nat.pow_le_pow_left h1 n
  have h3 : 36 ^ n ≤ 36 ^ 4 := Nat.pow_le_pow_right (by omega) hn
  have h4 : (36 : Nat) ^ 4 = 1679616 := by decide
  omega
end Tr
set_option maxHeartbeats 32000000
/-! group_slides -/
namespace Tr
open PySem PySem.Spec PyProof.Rows L2
def spGrp : Sp := fun vs H Q _ => ∃ (a b c d : Addr) (rs : List Addr) (R C : Nat) (s g : Sl) (grp S : List PlP), vs = [.ref a, .ref b, .ref c, .ref d] ∧ TrayAt H a rs R C s.1 ∧ Good R C s ∧ Good R C g ∧ g.2 = (R - 1, C - 1) ∧
  H b = some (.lst ((Bf.pcsOf C g.1 grp).map V.int)) ∧ LsAt H c grp ∧ LsAt H d S ∧ Bf.Agr R C S s g ∧ Bf.chk R C S grp = true ∧ (crossed (R * C) s.1 g.1 + steps s.2.1 s.2.2 g.2.1 g.2.2) % 2 = 0 ∧
  ∀ H' ws e', Same H H' → Bf.goW R C S (s.2 :: (Bf.pcsOf C g.1 grp).map (Bf.plc (R * C) C s.1)) ws = some (e' :: grp) → (∀ w ∈ ws, okL w) → ws.length ≤ (R * C) ^ (grp.length + 1) → Q (.str (txt ws)) H'
theorem scGrp : FnScope ["tray", "pieces", "group", "settled", "beside", "places", "start", "goal", "slides_to", "queue", "at", "standing", "letter", "place", "following", "number"] ["tray", "pieces", "group", "settled"] (defScope d_group_slides) := ⟨rfl, rfl, rfl, by decide +kernel, rfl, by decide +kernel, by decide +kernel⟩
section
variable {P : Program} {w : World} {K : PySem.W.Frag} {mg : Str → Option Value} {base : Heap}
theorem ok_grp {fa fB fP fS : Addr} {fd fdB fdP fdS : FuncData} {k jB jP jS : Nat} (F : Fun K "group_slides" "group_slides" d_group_slides fa fd) (mT : mg "tuple" = none) (hB : jB ≤ k) (hP : jP ≤ k) (hS : jS ≤ k)
    (GB : FnOk P w K mg base CX0 jB fB fdB ["tray", "settled"] spFpb) (gB : mg "free_places_beside" = some (.ref fB)) (kB : PySem.W.keepIn K (.ref fB) = true) (bB : Binds K fdB ["tray", "settled"] [])
    (GP : FnOk P w K mg base CX0 jP fP fdP ["tray"] spPlaces) (gP : mg "places_of" = some (.ref fP)) (kP' : PySem.W.keepIn K (.ref fP) = true) (bP : Binds K fdP ["tray"] [])
    (GS : FnOk P w K mg base CX0 jS fS fdS ["standing", "place"] spStB) (gS : mg "standing_behind" = some (.ref fS)) (kS : PySem.W.keepIn K (.ref fS) = true) (bS : Binds K fdS ["standing", "place"] []) :
    FnOk P w K mg base CX0 (k + 1) fa fd ["tray", "pieces", "group", "settled"] spGrp := by
  refine F.ok scGrp (fun vs H Q E h => ?_) (fun cdv A outer s0 H vs Q E hr h => ?_)
  · obtain ⟨a, b, c, d, rs, R, C, s, g, grp, S, rfl, _⟩ := h
    rfl
  · obtain ⟨a, b, c, d, rs, R, C, s, g, grp, S, rfl, T, gs, gg, hcr, hpc, hgrp, hSt, ag, hk, hev, q⟩ := h
    have hu := hu_of hr
    have hu2 : (A.deeper (envOfC "group_slides" (defScope d_group_slides) s0.heap.objs.size fa cdv)).units + 2 < cLine := by
      have := hr.un
      omega
    refine ⟨_, pss_cons (ps_set (i := 4) scGrp.nd rfl (.inl rfl) (pe_call GB (hr.mono hB) (by rfl) gB kB bB .nil pass0 (pa_cons (pv 0) (pa_cons (pv 3) pa_nil))))
      (pss_cons (ps_set (i := 5) scGrp.nd rfl (.inr rfl) (pe_call GP (hr.mono hP) (by rfl) gP kP' bP .nil pass0 (pa_cons (pv 0) pa_nil)))
      (pss_cons (ps_set (i := 6) scGrp.nd rfl (.inl rfl) (pe_callTy call_tuple_of (by rfl) mT (by decide +kernel) (pa_cons
          (pe_lc (own := [("number", 15)]) (g := gName 15) (tt := tYes) rfl scGrp.nd (pi_list (pe_op op_cat (pe_lst (pa_cons pe_int pa_nil)) (pv 1))) (blkOk_by (own := [("number", 15)]) (N := ["tray", "pieces", "group", "settled", "beside", "places", "start", "goal", "slides_to", "queue", "at", "standing", "letter", "place", "following", "number"]) (sc := defScope d_group_slides) (by decide +kernel))
          (fun _ _ _ _ _ => pg_name (i := 15) scGrp.nd rfl (.inl rfl)) (fun _ _ _ _ _ => pts_nil) (fun _ _ _ _ _ => pe_dget hu (pv 5) (pv 15) (fun _ _ => rfl))) pa_nil)))
      (pss_cons (ps_set (i := 7) scGrp.nd rfl (.inl rfl) (pe_callTy call_tuple_of (by rfl) mT (by decide +kernel) (pa_cons (pv 2) pa_nil)))
      (pss_cons (ps_set (i := 8) scGrp.nd rfl (.inl rfl) (pe_ndisp hu2 (pv 6) pe_str))
      (pss_cons (ps_set (i := 9) scGrp.nd rfl (.inl rfl) (pe_lst (pa_cons (pv 6) pa_nil)))
      (pss_cons (ps_set (i := 10) scGrp.nd rfl (.inl rfl) pe_int)
      (pss_cons (ps_while PassesOwn.never (pt_cmpR (r := rNeD K) (op_neD hr.units) (pe_slice sl_tup (pe_ix ix_list (pv 9) (pv 10) (fun _ _ => rfl)) (po_some pe_int) po_none) (pv 7) (nomark _))
        (pss_cons (ps_set (i := 11) scGrp.nd rfl (.inl rfl) (pe_ix ix_list (pv 9) (pv 10) (fun _ _ => rfl)))
        (pss_cons (ps_aug (i := 10) scGrp.nd rfl (.inl rfl) pe_int ip_add)
        (pss_one (ps_for PassesOwn.never rfl (pi_list (pe_dget hu (pv 4) (pe_ix ix_tup (pv 11) pe_int (fun _ _ => rfl)) (fun _ _ => rfl))) (pg_tup rfl (pgs_cons (pg_name (i := 12) scGrp.nd rfl (.inl rfl)) (pgs_cons (pg_name (i := 13) scGrp.nd rfl (.inl rfl)) pgs_nil)))
          (pss_cons (ps_set (i := 14) scGrp.nd rfl (.inl rfl) (pe_call GS (hr.mono hS) (by rfl) gS kS bS .nil pass0 (pa_cons (pv 11) (pa_cons (pv 13) pa_nil))))
          (pss_one (ps_if (pt_cmp (pc_nnotin hu2 (pv 14) (pv 8)))
            (pss_cons (ps_nput hu2 (pv 8) (pv 14) (pe_op op_add_str (pe_nget hu2 (pv 8) (pv 11) (fun _ _ => rfl)) (pv 12)) rfl)
            (pss_one (ps_expr (pe_bm PySem.F.plainAttrs_list PySem.F.slot_list_append PySem.F.type_list_append mt_append (pv 9) (pa_cons (pv 14) pa_nil)))))
            pss_nil))))))))
      (pss_one (ps_ret (pe_nget hu2 (pv 8) (pe_ix ix_list (pv 9) (pv 10) (fun _ _ => rfl)) (fun _ _ => rfl))))))))))), ?_⟩
    obtain ⟨trk, hfr, _⟩ := Bf.start_ok gs gg hcr ag hk
    have hg3 : grp.length ≤ 3 := by
      obtain ⟨_, _, _, h, _⟩ := Bf.chk_props hk
      exact h.2
    have hcl : (s.2 :: (Bf.pcsOf C g.1 grp).map (Bf.plc (R * C) C s.1)).length = grp.length + 1 := by simp [Bf.pcsOf]
    have hpw : (R * C) ^ (grp.length + 1) ≤ 1679616 := pow_cells gs.r6 gs.c6 (by omega)
    obtain ⟨erl, hrl⟩ := Bf.reach2 gs gg hcr ag hk hev
    -- beside, places
    refine ⟨_, rfl, _, rfl, a, d, rs, R, C, s.1, S, rfl, T, gs.r0, gs.r6, gs.c0, gs.c6, gs.full, hSt, fun H1 p1 ls s1 np1 hbs => ?_⟩
    refine ⟨_, rfl, a, rs, R, C, s.1, rfl, T.mono s1, gs.r6, gs.c6, gs.full, fun H2 p2 ts s2 np2 hpl => ?_⟩
    have s02 := s1.trans s2
    have hbs2 := hbs.mono s2
    have hpc2 := s02 _ _ hpc
    -- start
    refine ⟨(by show 1 ≤ sizeLine; decide), fun l nl => ?_⟩
    have s3 : Same H2 (upd H2 l (.lst [V.int 0])) := same_upd nl
    refine ⟨_, rfl, l, b, [V.int 0], _, rfl, rfl, upd_same, s3 _ _ hpc2, ?_, fun l2 nl2 => ?_⟩
    · have e16 : sizeLine = 16777216 := rfl
      simp only [List.length_map, Bf.pcsOf, List.length_singleton]
      omega
    have s4 := s3.trans (same_upd (o := .lst ([V.int 0] ++ (Bf.pcsOf C g.1 grp).map V.int)) nl2)
    have hl2 : (upd (upd H2 l (.lst [V.int 0])) l2 (.lst ([V.int 0] ++ (Bf.pcsOf C g.1 grp).map V.int))) l2 = some (.lst ((0 :: Bf.pcsOf C g.1 grp).map V.int)) := upd_same
    generalize upd (upd H2 l (.lst [V.int 0])) l2 (.lst ([V.int 0] ++ (Bf.pcsOf C g.1 grp).map V.int)) = H3 at *
    refine ⟨l2, rfl, ⟨_, SqL.of hl2⟩, fun D nD => ?_⟩
    have hpl3 := hpl.mono s4
    refine lc_gen (walk_list (K := K) (a := l2) (xs := (0 :: Bf.pcsOf C g.1 grp).map V.int)) (fun i H4 => Same H3 H4 ∧ ∃ us : List Addr, H4 D = some (.lst (us.map V.ref)) ∧ PsAt H4 us (((0 :: Bf.pcsOf C g.1 grp).take i).map (Bf.plc (R * C) C s.1))) ⟨same_upd nD, [], by rw [upd_same]; rfl, .nil⟩ (fun i H4 _ p => p.1.seq (SqL.of hl2)) ?_ ?_
    · rintro i x H4 H5 hi ⟨s5, us, hD, hus⟩ ⟨rfl, hx⟩
      rw [List.length_map] at hi
      have hbi : (0 :: Bf.pcsOf C g.1 grp)[i]? = some (0 :: Bf.pcsOf C g.1 grp)[i] := List.getElem?_eq_getElem hi
      rw [List.getElem?_map, hbi] at hx
      cases hx
      have hex : ∃ k, k < R * C ∧ s.1 k = (0 :: Bf.pcsOf C g.1 grp)[i] := by
        rcases List.mem_cons.mp (List.mem_of_getElem? hbi) with z | z
        · exact ⟨Bf.ixc C s.2, Bf.ixc_lt gs.z.r gs.z.c, by rw [z]; exact gs.z.z⟩
        · obtain ⟨x, hx, e⟩ := List.mem_map.mp z
          obtain ⟨hm, _⟩ := Bf.chk_props hk
          obtain ⟨⟨x1, x2, _⟩, _⟩ := hm x hx
          have hkx : Bf.ixc C x < R * C := Bf.ixc_lt x1 x2
          exact ⟨_, posOf_lt gg.full gs.full hkx, by rw [← e]; exact posOf_get gg.full gs.full hkx⟩
      obtain ⟨pb, hdg, hpb⟩ := (hpl3.mono s5).get gs.full hex
      have hul : us.length ≤ 1000 := by
        have e1 := Paired.length hus
        rw [List.length_map, List.length_take] at e1
        have : (0 :: Bf.pcsOf C g.1 grp).length = grp.length + 1 := by simp [Bf.pcsOf]
        omega
      have keep : Same H5 (upd H5 D (.lst (us.map V.ref ++ [V.ref pb]))) ∨ True := .inr trivial
      refine ⟨rfl, ?_⟩
      refine ⟨_, rfl, _, rfl, p2, _, rfl, hdg, _, hD, by rw [List.length_map]; exact small1000 hul, ?_, us ++ [pb], by rw [upd_same, List.map_append]; rfl, ?_⟩
      · intro c o e
        rw [upd_ne (ne_of_none e nD)]
        exact s5 _ _ e
      · rw [take_more hbi, List.map_append]
        have up : ∀ (v : Addr) (y : PlP), PAt H5 v y → PAt (upd H5 D (.lst (us.map V.ref ++ [V.ref pb]))) v y := fun v y h => by
          show (upd H5 D _) v = _
          rw [upd_ne (ne_of h hD (fun z => by cases z))]
          exact h
        exact Paired.snoc (paired_mono hus up) (up _ _ hpb)
    rintro H4 ⟨s5, us, hD, hus⟩
    rw [List.length_map, List.take_length] at hus
    have hus : PsAt H4 us (s.2 :: (Bf.pcsOf C g.1 grp).map (Bf.plc (R * C) C s.1)) := by
      rw [List.map_cons, plc_zero gs] at hus
      exact hus
    refine ⟨D, _, rfl, .inl ⟨SqL.of hD, fun st nst => ?_⟩⟩
    have s6 : Same H4 (upd H4 st (.tup (us.map V.ref))) := same_upd nst
    have hst : StAt (upd H4 st (.tup (us.map V.ref))) st (s.2 :: (Bf.pcsOf C g.1 grp).map (Bf.plc (R * C) C s.1)) := ⟨us, upd_same, hus.mono s6⟩
    have s26 := (s4.trans s5).trans s6
    generalize upd H4 st (.tup (us.map V.ref)) = H6 at *
    -- goal
    obtain ⟨gbs, hgb, hgps⟩ := hgrp
    refine ⟨_, rfl, c, _, rfl, .inl ⟨SqL.of (s26 _ _ (s02 _ _ hgb)), fun gl ngl => ?_⟩⟩
    have s7 : Same H6 (upd H6 gl (.tup (gbs.map V.ref))) := same_upd ngl
    have hgl : StAt (upd H6 gl (.tup (gbs.map V.ref))) gl grp := ⟨gbs, upd_same, hgps.mono ((s02.trans s26).trans s7)⟩
    have s07 := (s02.trans s26).trans s7
    have hbs7 := hbs2.mono (s26.trans s7)
    have hst7 := hst.mono s7
    generalize upd H6 gl (.tup (gbs.map V.ref)) = Hb at *
    -- slides_to, queue
    refine fun dd φ ndd nd0 => ⟨_, rfl, _, st, rfl, nd0, (hst7.mono (same_upd ndd)).key, fun φ' nd1 => ?_⟩
    have sb1 : Same Hb (upd (upd Hb dd (.ext φ)) dd (.ext φ')) := fun x o e => by
      have hn := ne_of_none e ndd
      rw [upd_ne hn, upd_ne hn]
      exact e
    generalize upd (upd Hb dd (.ext φ)) dd (.ext φ') = H8 at *
    refine ⟨_, rfl, (by show 1 ≤ sizeLine; decide), fun qa nqa => ?_⟩
    have sq : Same H8 (upd H8 qa (.lst [V.ref st])) := same_upd nqa
    have nd2 : NDict P w (upd H8 qa (.lst [V.ref st])) dd (nT [s.2 :: (Bf.pcsOf C g.1 grp).map (Bf.plc (R * C) C s.1)] [[]]) := nd1.mono sq
    have nqb : Hb qa = none := by
      cases e : Hb qa with
      | none => rfl
      | some o =>
        rw [sb1 _ _ e] at nqa
        cases nqa
    have hq9 : (upd H8 qa (.lst [V.ref st])) qa = some (.lst ([st].map V.ref)) := upd_same
    have sb9 := sb1.trans sq
    have hst9 := hst7.mono sb9
    generalize upd H8 qa (.lst [V.ref st]) = H9 at *
    refine ⟨fun m σ H' => ∃ (at' : Nat) (ks : List (List PlP)) (tx : List (List Nat)) (qs : List Addr) (v11 v12 v13 v14 v15 : Option V), m = (R * C) ^ (grp.length + 1) - at' ∧
        σ = [some (.ref a), some (.ref b), some (.ref c), some (.ref d), some (.ref p1), some (.ref p2), some (.ref st), some (.ref gl), some (.ref dd), some (.ref qa), some (.int (at' : Nat)), v11, v12, v13, v14, v15] ∧
        Same Hb H' ∧ Bf.BInv R C S (s.2 :: (Bf.pcsOf C g.1 grp).map (Bf.plc (R * C) C s.1)) grp at' ks tx ∧ NDict P w H' dd (nT ks tx) ∧ H' qa = some (.lst (qs.map V.ref)) ∧ Paired (StAt H') qs ks,
      ⟨_, 0, [_], [[]], [st], none, none, none, none, none, rfl, rfl, sb9, Bf.BInv.start, nd2, hq9, .cons hst9 .nil⟩, ?_⟩
    rintro m σ H' ⟨at', ks, tx, qs, v11, v12, v13, v14, v15, rfl, rfl, sb, inv, nd, hq, hqs⟩
    have hmore := inv.more ⟨erl, hrl⟩
    have hfew := inv.few hfr
    rw [hcl] at hfew
    have hkk : ks[at']? = some ks[at'] := List.getElem?_eq_getElem hmore
    have hql : qs.length = ks.length := Paired.length hqs
    have hqq : qs[at']? = some (qs[at']'(by omega)) := List.getElem?_eq_getElem (by omega)
    generalize qs[at']'(by omega) = ta at hqq
    obtain ⟨kx, hkx, hta⟩ := Paired.at hqs hqq
    rw [hkk] at hkx
    have hkx := Option.some.inj hkx
    have htl : at' < tx.length := by rw [inv.len]; exact hmore
    have htt : tx[at']? = some tx[at'] := List.getElem?_eq_getElem htl
    generalize tx[at'] = wk at htt
    obtain ⟨m1, m2⟩ := inv.mem hfr (List.mem_of_getElem? hkk)
    rw [hkx] at hkk m1 m2
    obtain ⟨e, r, rfl⟩ : ∃ e r, kx = e :: r := by
      cases kx with
      | nil => simp at m1
      | cons e r => exact ⟨e, r, rfl⟩
    clear hkx
    obtain ⟨w1, w2, w3⟩ := inv.way _ _ _ hkk htt
    have hrl3 : r.length ≤ 3 := by
      rw [hcl] at m1
      simp at m1
      omega
    obtain ⟨tbs, htb, htps⟩ := hta
    have hta : StAt H' ta (e :: r) := ⟨tbs, htb, htps⟩
    have hqi : (qs.map V.ref)[at']? = some (.ref ta) := by
      rw [List.getElem?_map, hqq]
      rfl
    cases htps with
    | @cons be _ br _ hbe hbr =>
      -- queue[at][1:] != goal
      refine ⟨_, rfl, _, rfl, qa, _, (at' : Int), _, rfl, rfl, SqL.of hq, atI_nat hqi, ?_⟩
      refine ⟨_, rfl, ta, V.ref be :: br.map V.ref, rfl, SqT.of htb, ?_, fun cu ncu => ?_⟩
      · rw [List.length_cons]
        exact fun z => six1 _ z.1
      rw [cut1]
      have sc : Same H' (upd H' cu (.tup (br.map V.ref))) := same_upd ncu
      have hcu : StAt (upd H' cu (.tup (br.map V.ref))) cu r := ⟨br, upd_same, PsAt.mono sc hbr⟩
      have hq1 := sc _ _ hq
      have nd1' := nd.mono sc
      have hqs1 : Paired (StAt (upd H' cu (.tup (br.map V.ref)))) qs ks := paired_mono hqs fun x y z => z.mono sc
      have hta1 := hta.mono sc
      have hbe1 := PAt.mono sc hbe
      have htb1 := sc _ _ htb
      have sbc := sb.trans sc
      generalize upd H' cu (.tup (br.map V.ref)) = G at *
      refine ⟨_, rfl, .tuple (r.map prP), .tuple (grp.map prP), hcu.dp, (hgl.mono sbc).dp, prPs_shapedT _, prPs_shapedT _, _, rfl, ?_⟩
      rw [eqvT_prP]
      by_cases hrg : r = grp
      · -- there
        rw [decide_eq_true hrg]
        refine iteF ?_
        refine ⟨_, rfl, _, rfl, _, rfl, qa, _, (at' : Int), _, rfl, rfl, SqL.of hq1, atI_nat hqi, dd, _, kN (e :: r), ta, _, rfl, nd1', rfl, hta1.key, nT_get inv.nd hkk htt, ?_⟩
        exact q G wk e (s07.trans sbc) (by rw [w1, hrg]) w3 (by omega)
      · rw [decide_eq_false hrg]
        refine iteT ?_
        have eI : ((at' : Int) + 1) = ((at' + 1 : Nat) : Int) := by omega
        refine ⟨fun σ' H2 => ∃ (ks : List (List PlP)) (tx : List (List Nat)) (qs : List Addr) (v11 v12 v13 v14 v15 : Option V),
            σ' = [some (.ref a), some (.ref b), some (.ref c), some (.ref d), some (.ref p1), some (.ref p2), some (.ref st), some (.ref gl), some (.ref dd), some (.ref qa), some (.int (at' + 1 : Nat)), v11, v12, v13, v14, v15] ∧
            Same Hb H2 ∧ Bf.BInv R C S (s.2 :: (Bf.pcsOf C g.1 grp).map (Bf.plc (R * C) C s.1)) grp (at' + 1) ks tx ∧ NDict P w H2 dd (nT ks tx) ∧ H2 qa = some (.lst (qs.map V.ref)) ∧ Paired (StAt H2) qs ks, ?_, ?_⟩
        · rintro σ' H2 ⟨ks, tx, qs, v11, v12, v13, v14, v15, e1, e2⟩
          exact ⟨(R * C) ^ (grp.length + 1) - (at' + 1), by omega, at' + 1, ks, tx, qs, v11, v12, v13, v14, v15, rfl, e1, e2⟩
        refine ⟨_, rfl, _, rfl, qa, _, (at' : Int), _, rfl, rfl, SqL.of hq1, atI_nat hqi, ?_⟩
        refine ⟨_, rfl, (at' : Int), 1, rfl, rfl, ?_⟩
        have hef := m2 e List.mem_cons_self
        obtain ⟨li, hdg, vs, hvs0, hps0⟩ := hbs7.get sbc hef.1 hef.2.1 hbe1
        have hvs := sbc _ _ hvs0
        have hps : Paired (ItAt R C S e G) vs (frL R C S e) := paired_mono hps0 fun _ _ z => z.mono sbc
        refine ⟨_, rfl, _, rfl, ta, _, 0, _, rfl, rfl, SqT.of htb1, atI_nat (j := 0) rfl, p1, _, rfl, hdg, li, rfl, ⟨_, SqL.of hvs⟩, ?_⟩
        have hmid0 : Bf.BMid R C S (s.2 :: (Bf.pcsOf C g.1 grp).map (Bf.plc (R * C) C s.1)) grp at' (e :: r) wk ((frL R C S e).take 0) ks tx := ⟨inv, hkk, htt, fun x hx => nomatch hx⟩
        have ndb : ∀ x o, Hb x = some o → x ≠ dd := fun x o e => ne_of_none e ndd
        have nqb' : ∀ x o, Hb x = some o → x ≠ qa := fun x o e => ne_of_none e nqb
        refine for_it (walk_list (K := K) (a := li) (xs := vs)) (fun i σ' H2 => ∃ (ks : List (List PlP)) (tx : List (List Nat)) (qs : List Addr) (v12 v13 v14 : Option V),
            σ' = [some (.ref a), some (.ref b), some (.ref c), some (.ref d), some (.ref p1), some (.ref p2), some (.ref st), some (.ref gl), some (.ref dd), some (.ref qa), some (.int (at' + 1 : Nat)), some (.ref ta), v12, v13, v14, v15] ∧
            Same Hb H2 ∧ StAt H2 ta (e :: r) ∧ H2 li = some (.lst vs) ∧ Paired (ItAt R C S e H2) vs (frL R C S e) ∧ Bf.BMid R C S (s.2 :: (Bf.pcsOf C g.1 grp).map (Bf.plc (R * C) C s.1)) grp at' (e :: r) wk ((frL R C S e).take i) ks tx ∧ NDict P w H2 dd (nT ks tx) ∧ H2 qa = some (.lst (qs.map V.ref)) ∧ Paired (StAt H2) qs ks)
          ⟨ks, tx, qs, v12, v13, v14, rfl, sbc, hta1, hvs, hps, hmid0, nd1', hq1, hqs1⟩ (fun i σ' H2 _ ⟨_, _, _, _, _, _, _, _, _, h, _⟩ => SqL.of h) ?_ ?_
        · rintro i x σ' H2 H3 hi ⟨ks, tx, qs, u12, u13, u14, rfl, sb2, ht2, hv2, hi2, mid, nd2, hq2, hqs2⟩ ⟨rfl, hx⟩
          obtain ⟨wl, hwl, qi, pp, y, rfl, hqi2, hpp, hn, hyS⟩ := Paired.at hi2 hx
          have hwo : okL wl := mem_udlr (List.mem_filter.mp (List.mem_of_getElem? hwl)).1
          refine ⟨qi, _, rfl, SqT.of hqi2, rfl, _, _, rfl, _, _, rfl, rfl, ?_⟩
          -- following
          refine ⟨_, rfl, _, rfl, ta, pp, e, y, r, rfl, ht2, hpp, by omega, fun H4 t' s4 nt' ht' => ?_⟩
          have hst' : Bf.stW R C S (e :: r) wl = some (Bf.mvL (e :: r) y) := stW_some hn hyS
          have sb4 := sb2.trans s4
          have ht4 := ht2.mono s4
          have hv4 := s4 _ _ hv2
          have hi4 : Paired (ItAt R C S e H4) vs (frL R C S e) := paired_mono hi2 fun _ _ z => z.mono s4
          have nd4 := nd2.mono s4
          have hq4 := s4 _ _ hq2
          have hqs4 : Paired (StAt H4) qs ks := paired_mono hqs2 fun _ _ z => z.mono s4
          have tk : (frL R C S e).take (i + 1) = (frL R C S e).take i ++ [wl] := take_more hwl
          refine ⟨_, rfl, _, rfl, dd, _, kN (Bf.mvL (e :: r) y), t', rfl, nd4, rfl, ht'.key, _, rfl, ?_⟩
          rw [nT_some mid.inv.len mid.inv.nd]
          by_cases hmem : Bf.mvL (e :: r) y ∈ ks
          · rw [decide_eq_true hmem]
            refine iteF ?_
            refine ⟨ks, tx, qs, _, _, _, rfl, sb4, ht4, hv4, hi4, ?_, nd4, hq4, hqs4⟩
            rw [tk]
            exact mid.old hst' hmem
          · rw [decide_eq_false hmem]
            refine iteT ?_
            have few2 := mid.inv.few hfr
            rw [hcl] at few2
            have hlt2 : at' < ks.length := (List.getElem?_eq_some_iff.mp mid.here).1
            have wk2 : wk.length ≤ at' := (mid.inv.way _ _ _ mid.here mid.tx).2.1
            have e16 : sizeLine = 16777216 := rfl
            have nlen := nT_len mid.inv.len
            -- slides_to[following] = slides_to[standing] + letter
            refine ⟨_, rfl, _, rfl, dd, _, kN (e :: r), ta, _, rfl, nd4, rfl, ht4.key, nT_get mid.inv.nd mid.here mid.tx, ?_⟩
            refine ⟨_, rfl, _, _, rfl, rfl, ?_, ?_⟩
            · rw [txt_len, txt_len]
              simp only [List.length_singleton]
              omega
            rw [txt_add]
            refine ⟨_, rfl, _, rfl, dd, _, kN (Bf.mvL (e :: r) y), t', rfl, nd4, rfl, ht'.key, by omega, fun φ nd5 => ?_⟩
            rw [putK_new _ (nT_none mid.inv.len hmem), ← nT_snoc mid.inv.len] at nd5
            obtain ⟨_, _, xs4, hdd4, _⟩ := nd4
            have kp5 : ∀ c o, c ≠ dd → H4 c = some o → (upd H4 dd (.ext φ)) c = some o := fun c o h e => by
              rw [upd_ne h]
              exact e
            have qd : qa ≠ dd := ne_of hq4 hdd4 (fun z => by cases z)
            have hq5 := kp5 _ _ qd hq4
            have sb5 : Same Hb (upd H4 dd (.ext φ)) := fun x o e => kp5 _ _ (ndb _ _ e) (sb4 _ _ e)
            have tp5 : ∀ c xs, H4 c = some (.tup xs) → (upd H4 dd (.ext φ)) c = some (.tup xs) := fun c xs e => kp5 _ _ (ne_of e hdd4 (fun z => by cases z)) e
            have ls5 : ∀ c xs, H4 c = some (.lst xs) → (upd H4 dd (.ext φ)) c = some (.lst xs) := fun c xs e => kp5 _ _ (ne_of e hdd4 (fun z => by cases z)) e
            have hli5 := ls5 _ _ hv4
            generalize upd H4 dd (.ext φ) = H5 at *
            -- queue.append(following)
            refine ⟨_, rfl, .inl ⟨rfl, _, SqL.of hq5⟩, _, rfl, ?_⟩
            refine ⟨qa, qs.map V.ref, V.ref t', rfl, rfl, hq5, ?_, ?_⟩
            · rw [List.length_map, Paired.length hqs4]
              omega
            have tp6 : ∀ c xs, H4 c = some (.tup xs) → (upd H5 qa (.lst (qs.map V.ref ++ [V.ref t']))) c = some (.tup xs) := fun c xs e => by
              rw [upd_ne (ne_of (tp5 _ _ e) hq5 (fun z => by cases z))]
              exact tp5 _ _ e
            have pa6 : ∀ {v : Addr} {z : PlP}, PAt H4 v z → PAt (upd H5 qa (.lst (qs.map V.ref ++ [V.ref t']))) v z := fun h => tp6 _ _ h
            have st6 : ∀ {v : Addr} {z : List PlP}, StAt H4 v z → StAt (upd H5 qa (.lst (qs.map V.ref ++ [V.ref t']))) v z := fun ⟨bs, h1, h2⟩ => ⟨bs, tp6 _ _ h1, paired_mono h2 fun _ _ z => pa6 z⟩
            have liq : li ≠ qa := nqb' _ _ hvs0
            refine ⟨ks ++ [Bf.mvL (e :: r) y], tx ++ [wk ++ [wl]], qs ++ [t'], _, _, _, rfl, fun x o e => ?_, st6 ht4, ?_, ?_, ?_, ?_, ?_, ?_⟩
            · rw [upd_ne (nqb' _ _ e)]
              exact sb5 _ _ e
            · rw [upd_ne liq]
              exact hli5
            · refine paired_mono hi4 ?_
              rintro v x ⟨q', pq, y', g1, g2, g3, g4⟩
              exact ⟨q', pq, y', g1, tp6 _ _ g2, pa6 g3, g4⟩
            · rw [tk]
              exact mid.new hwo hst' hmem
            · refine nd5.keep (fun c xs e => ?_) (upd_ne qd.symm)
              rw [upd_ne (ne_of e hq5 (fun z => by cases z))]
              exact e
            · rw [upd_same, List.map_append]
              rfl
            · exact Paired.snoc (paired_mono hqs4 fun _ _ z => st6 z) (st6 ht')
        · rintro σ' H2 ⟨ks, tx, qs, u12, u13, u14, rfl, sb2, ht2, hv2, hi2, mid, nd2, hq2, hqs2⟩
          rw [show vs.length = (frL R C S e).length from Paired.length hi2, List.take_length] at mid
          exact ⟨ks, tx, qs, _, _, _, _, _, rfl, sb2, mid.next (fun w hw t ht => mem_frL hw ht) hrg, nd2, hq2, hqs2⟩
end
end Tr
/-! groups_of_places -/
namespace Tr
open PySem PySem.Spec PyProof.Rows L2
theorem paired_app {α β : Type} {F : α → β → Prop} {a a2 : List α} {b b2 : List β} (h : Paired F a b) (h2 : Paired F a2 b2) : Paired F (a ++ a2) (b ++ b2) := by
  induction h with
  | nil => exact h2
  | cons p _ ih => exact .cons p ih
/-- a list of lists of places -/
def GsAt (H : Hp) (l : Addr) (gs : List (List PlP)) : Prop := ∃ as : List Addr, H l = some (.lst (as.map V.ref)) ∧ Paired (LsAt H) as gs
theorem GsAt.mono {H H' : Hp} {l : Addr} {gs : List (List PlP)} (sm : Same H H') (h : GsAt H l gs) : GsAt H' l gs := by
  obtain ⟨as, h1, h2⟩ := h
  exact ⟨as, sm _ _ h1, paired_mono h2 fun _ _ z => z.mono sm⟩
/-- as it grows: all of its lists are new, too -/
structure GrI (H0 : Hp) (D : Addr) (H : Hp) (as : List Addr) (gs : List (List PlP)) : Prop where
  sm : Same H0 H
  d : H D = some (.lst (as.map V.ref))
  n : H0 D = none
  p : Paired (LsAt H) as gs
  ne : ∀ a ∈ as, a ≠ D
  f : ∀ a ∈ as, H0 a = none
theorem GrI.at {H0 : Hp} {D : Addr} {H : Hp} {as : List Addr} {gs : List (List PlP)} (h : GrI H0 D H as gs) : GsAt H D gs := ⟨as, h.d, h.p⟩
theorem GrI.len {H0 : Hp} {D : Addr} {H : Hp} {as : List Addr} {gs : List (List PlP)} (h : GrI H0 D H as gs) : as.length = gs.length := Paired.length h.p
theorem GrI.start {H : Hp} {D : Addr} (n : H D = none) : GrI H D (upd H D (.lst [])) [] [] := ⟨same_upd n, upd_same, n, .nil, (fun _ h => nomatch h), (fun _ h => nomatch h)⟩
theorem GrI.mono {H0 : Hp} {D : Addr} {H H' : Hp} {as : List Addr} {gs : List (List PlP)} (h : GrI H0 D H as gs) (sm : Same H H') : GrI H0 D H' as gs := ⟨h.sm.trans sm, sm _ _ h.d, h.n, paired_mono h.p fun _ _ z => z.mono sm, h.ne, h.f⟩
theorem GrI.more {H0 : Hp} {D : Addr} {H H' : Hp} {as as2 : List Addr} {gs gs2 : List (List PlP)} (h : GrI H0 D H as gs) (sm : Same H H') (hl : Paired (LsAt H') as2 gs2) (nl : ∀ a ∈ as2, H a = none) :
    GrI H0 D (upd H' D (.lst (as.map V.ref ++ as2.map V.ref))) (as ++ as2) (gs ++ gs2) := by
  have h' := h.mono sm
  have ne2 : ∀ a ∈ as2, a ≠ D := fun a ha z => by
    have h1 := nl a ha
    rw [z, h.d] at h1
    cases h1
  have up : ∀ {a : Addr} {S : List PlP}, a ≠ D → LsAt H' a S → LsAt (upd H' D (.lst (as.map V.ref ++ as2.map V.ref))) a S := fun {a S} ha ⟨bs, h1, h2⟩ => by
    refine ⟨bs, by rw [upd_ne ha]; exact h1, paired_mono h2 fun b y z => ?_⟩
    show (upd H' D _) b = _
    rw [upd_ne (ne_of z h'.d (fun z => by cases z))]
    exact z
  have go : ∀ {bs : List Addr} {gs : List (List PlP)}, (∀ a ∈ bs, a ≠ D) → Paired (LsAt H') bs gs → Paired (LsAt (upd H' D (.lst (as.map V.ref ++ as2.map V.ref)))) bs gs := fun {bs gs} hn hp => by
    induction hp with
    | nil => exact .nil
    | cons q _ ih => exact .cons (up (hn _ List.mem_cons_self) q) (ih fun a ha => hn a (List.mem_cons_of_mem _ ha))
  refine ⟨fun c o e => ?_, by rw [upd_same, List.map_append], h.n, paired_app (go h.ne h'.p) (go ne2 hl), fun a ha => ?_, fun a ha => ?_⟩
  · rw [upd_ne (ne_of_none e h.n)]
    exact sm _ _ (h.sm _ _ e)
  · rcases List.mem_append.mp ha with z | z
    · exact h.ne a z
    · exact ne2 a z
  · rcases List.mem_append.mp ha with z | z
    · exact h.f a z
    · exact h.sm.free (nl a z)
def spGps : Sp := fun vs H Q _ => ∃ (R C : Nat), vs = [.int R, .int C] ∧ 2 ≤ R ∧ R ≤ 6 ∧ 2 ≤ C ∧ C ≤ 6 ∧ ∀ H' l, Same H H' → H l = none → GsAt H' l (Bf.groupsM R C) → Q (.ref l) H'
theorem scGps : FnScope ["rows", "columns", "groups", "row", "upper", "lower", "column"] ["rows", "columns"] (defScope d_groups_of_places) := ⟨rfl, rfl, rfl, by decide +kernel, rfl, by decide +kernel, by decide +kernel⟩
section
variable {P : Program} {w : World} {K : PySem.W.Frag} {mg : Str → Option Value} {base : Heap}
theorem ok_gps {fa : Addr} {fd : FuncData} {k : Nat} (F : Fun K "groups_of_places" "groups_of_places" d_groups_of_places fa fd) (mR : mg "range" = none) : FnOk P w K mg base CX0 (k + 1) fa fd ["rows", "columns"] spGps := by
  refine F.ok scGps (fun vs H Q E h => ?_) (fun cdv A outer s H vs Q E hr h => ?_)
  · obtain ⟨R, C, rfl, _⟩ := h
    rfl
  · obtain ⟨R, C, rfl, hR2, hR, hC2, hC, q⟩ := h
    refine ⟨_, pss_cons (ps_set (i := 2) scGps.nd rfl (.inl rfl) (pe_lst pa_nil))
      (pss_cons (ps_for PassesOwn.never rfl (pi_range1 rfl mR (pa_cons (pe_op op_subN (pv 0) pe_int) pa_nil)) (pg_name (i := 3) scGps.nd rfl (.inr rfl))
        (pss_cons (ps_expr (pe_bm PySem.F.plainAttrs_list PySem.F.slot_list_extend PySem.F.type_list_extend mt_extend (pv 2) (pa_cons
          (pe_lc (own := [("column", 6)]) (g := gName 6) (tt := tYes) rfl scGps.nd (pi_range1 rfl mR (pa_cons (pe_op op_subN (pv 1) pe_int) pa_nil)) (blkOk_by (own := [("column", 6)]) (N := ["rows", "columns", "groups", "row", "upper", "lower", "column"]) (sc := defScope d_groups_of_places) (by decide +kernel))
            (fun _ _ _ _ _ => pg_name (i := 6) scGps.nd rfl (.inl rfl)) (fun _ _ _ _ _ => pts_nil) (fun _ _ _ _ _ => pe_lst (pa_cons (pe_tup (pa_cons (pv 3) (pa_cons (pv 6) pa_nil))) pa_nil))) pa_nil)))
        (pss_one (ps_expr (pe_bm PySem.F.plainAttrs_list PySem.F.slot_list_append PySem.F.type_list_append mt_append (pv 2) (pa_cons
          (pe_lst (pa_cons (pe_tup (pa_cons (pv 3) (pa_cons (pe_op op_subN (pv 1) pe_int) pa_nil))) (pa_cons (pe_tup (pa_cons (pv 3) (pa_cons (pe_op op_subN (pv 1) pe_int) pa_nil))) pa_nil))) pa_nil))))))
      (pss_cons (ps_set (i := 4) scGps.nd rfl (.inr rfl) (pe_op op_subN (pv 0) pe_int))
      (pss_cons (ps_set (i := 5) scGps.nd rfl (.inr rfl) (pe_op op_subN (pv 0) pe_int))
      (pss_cons (ps_expr (pe_bm PySem.F.plainAttrs_list PySem.F.slot_list_extend PySem.F.type_list_extend mt_extend (pv 2) (pa_cons
          (pe_lc (own := [("column", 6)]) (g := gName 6) (tt := tYes) rfl scGps.nd (pi_range1 rfl mR (pa_cons (pe_op op_subN (pv 1) pe_int) pa_nil)) (blkOk_by (own := [("column", 6)]) (N := ["rows", "columns", "groups", "row", "upper", "lower", "column"]) (sc := defScope d_groups_of_places) (by decide +kernel))
            (fun _ _ _ _ _ => pg_name (i := 6) scGps.nd rfl (.inl rfl)) (fun _ _ _ _ _ => pts_nil) (fun _ _ _ _ _ => pe_lst (pa_cons (pe_tup (pa_cons (pv 4) (pa_cons (pv 6) pa_nil))) (pa_cons (pe_tup (pa_cons (pv 5) (pa_cons (pv 6) pa_nil))) pa_nil)))) pa_nil)))
      (pss_cons (ps_expr (pe_bm PySem.F.plainAttrs_list PySem.F.slot_list_append PySem.F.type_list_append mt_append (pv 2) (pa_cons
          (pe_lst (pa_cons (pe_tup (pa_cons (pv 4) (pa_cons (pe_op op_subN (pv 1) pe_int) pa_nil))) (pa_cons (pe_tup (pa_cons (pv 4) (pa_cons (pe_op op_subN (pv 1) pe_int) pa_nil))) (pa_cons (pe_tup (pa_cons (pv 5) (pa_cons (pe_op op_subN (pv 1) pe_int) pa_nil))) pa_nil)))) pa_nil)))
      (pss_one (ps_ret (pv 2)))))))), ?_⟩
    have e16 : sizeLine = 16777216 := rfl
    -- a tuple of two, a list of such ones
    refine ⟨Nat.zero_le _, fun G nG => ?_⟩
    have gi0 := GrI.start nG
    refine ⟨_, rfl, R, 2, rfl, rfl, hR2, ((R - 2 : Nat) : Int), rfl, by omega, by omega, ?_⟩
    rw [Int.toNat_natCast]
    refine for_it (walk_range (lo := 0) (n := R - 2)) (fun i σ H1 => ∃ as v3, GrI H G H1 as ((List.range i).flatMap fun r => ((List.range (C - 2)).map fun c => [(r, c)]) ++ [[(r, C - 2), (r, C - 1)]]) ∧
        σ = [some (.int R), some (.int C), some (.ref G), v3, none, none, none]) ⟨[], none, gi0, rfl⟩ (fun _ _ _ _ _ => True.intro) ?_ ?_
    · rintro i x σ H1 H2 hi ⟨as, v3, gi, rfl⟩ ⟨rfl, rfl⟩
      have hglen := gi.len
      have hb : ∀ i, ((List.range i).flatMap fun r => ((List.range (C - 2)).map fun c => [(r, c)]) ++ [[(r, C - 2), (r, C - 1)]]).length = i * (C - 2 + 1) := fun i => by
        rw [List.length_flatMap]
        have : ((List.range i).map fun r => (((List.range (C - 2)).map fun c => [(r, c)]) ++ [[(r, C - 2), (r, C - 1)]]).length) = List.replicate i (C - 2 + 1) := by
          rw [List.eq_replicate_iff]
          refine ⟨by simp, fun b hb => ?_⟩
          obtain ⟨r, _, rfl⟩ := List.mem_map.mp hb
          simp
        rw [this, List.sum_replicate_nat]
      rw [hb] at hglen
      have hbi : i * (C - 2 + 1) ≤ 6 * 6 := Nat.mul_le_mul (by omega) (by omega)
      -- groups.extend
      refine ⟨_, rfl, .inl ⟨rfl, _, SqL.of gi.d⟩, ?_⟩
      refine ⟨_, rfl, C, 2, rfl, rfl, hC2, ((C - 2 : Nat) : Int), rfl, by omega, by omega, fun D nD => ?_⟩
      rw [Int.toNat_natCast]
      refine lc_gen (walk_range (lo := 0) (n := C - 2)) (fun j H3 => ∃ as2, GrI H2 D H3 as2 ((List.range j).map fun c => [(i, c)])) ⟨[], GrI.start nD⟩ (fun _ _ _ _ => True.intro) ?_ ?_
      · rintro j x H3 H4 hj ⟨as2, g2⟩ ⟨rfl, rfl⟩
        refine ⟨rfl, ?_⟩
        have g2l := g2.len
        rw [List.length_map, List.length_range] at g2l
        refine ⟨_, rfl, _, rfl, (by show 2 ≤ sizeLine; decide), fun tp ntp => ⟨(by show 1 ≤ sizeLine; decide), fun lp nlp => ?_⟩⟩
        have s1 : Same H4 (upd H4 tp (.tup [V.int (0 + (i : Int)), V.int (0 + (j : Int))])) := same_upd ntp
        have hp : PAt (upd H4 tp (.tup [V.int (0 + (i : Int)), V.int (0 + (j : Int))])) tp (i, j) := by
          show (upd H4 tp _) tp = _
          rw [upd_same, Int.zero_add, Int.zero_add]
        generalize upd H4 tp (.tup [V.int (0 + (i : Int)), V.int (0 + (j : Int))]) = H5 at *
        have s2 : Same H5 (upd H5 lp (.lst [V.ref tp])) := same_upd nlp
        have hl : LsAt (upd H5 lp (.lst [V.ref tp])) lp [(i, j)] := ⟨[tp], upd_same, .cons (hp.mono s2) .nil⟩
        generalize upd H5 lp (.lst [V.ref tp]) = H6 at *
        have s3 := s1.trans s2
        refine ⟨_, s3 _ _ g2.d, by rw [List.length_map]; omega, as2 ++ [lp], ?_⟩
        rw [List.range_succ, List.map_append]
        exact g2.more s3 (.cons hl .nil) (fun a ha => by rw [List.mem_singleton.mp ha]; exact s1.free nlp)
      rintro H3 ⟨as2, g2⟩
      have g2l := g2.len
      rw [List.length_map, List.length_range] at g2l
      refine ⟨G, D, _, _, rfl, rfl, g2.sm _ _ gi.d, g2.d, by rw [List.length_map, List.length_map]; omega, ?_⟩
      have gi3 := gi.more g2.sm g2.p g2.f
      have gi3l := gi3.len
      have gi3l : (as ++ as2).length = i * (C - 2 + 1) + (C - 2) := by
        rw [gi3l, List.length_append, hb, List.length_map, List.length_range]
      rw [← List.map_append] at gi3 ⊢
      generalize upd H3 G (.lst ((as ++ as2).map V.ref)) = H4 at *
      -- groups.append
      refine ⟨_, rfl, .inl ⟨rfl, _, SqL.of gi3.d⟩, ?_⟩
      refine ⟨_, rfl, _, rfl, C, 2, rfl, rfl, hC2, (by show 2 ≤ sizeLine; decide), fun t1 nt1 => ?_⟩
      have s1 : Same H4 (upd H4 t1 (.tup [V.int (0 + (i : Int)), V.int ((C - 2 : Nat) : Int)])) := same_upd nt1
      have hp1 : PAt (upd H4 t1 (.tup [V.int (0 + (i : Int)), V.int ((C - 2 : Nat) : Int)])) t1 (i, C - 2) := by
        show (upd H4 t1 _) t1 = _
        rw [upd_same, Int.zero_add]
      generalize upd H4 t1 (.tup [V.int (0 + (i : Int)), V.int ((C - 2 : Nat) : Int)]) = H5 at *
      refine ⟨_, rfl, _, rfl, C, 1, rfl, rfl, by omega, (by show 2 ≤ sizeLine; decide), fun t2 nt2 => ?_⟩
      have s2 : Same H5 (upd H5 t2 (.tup [V.int (0 + (i : Int)), V.int ((C - 1 : Nat) : Int)])) := same_upd nt2
      have hp2 : PAt (upd H5 t2 (.tup [V.int (0 + (i : Int)), V.int ((C - 1 : Nat) : Int)])) t2 (i, C - 1) := by
        show (upd H5 t2 _) t2 = _
        rw [upd_same, Int.zero_add]
      generalize upd H5 t2 (.tup [V.int (0 + (i : Int)), V.int ((C - 1 : Nat) : Int)]) = H6 at *
      refine ⟨(by show 2 ≤ sizeLine; decide), fun lp nlp => ?_⟩
      have s3 : Same H6 (upd H6 lp (.lst [V.ref t1, V.ref t2])) := same_upd nlp
      have hl : LsAt (upd H6 lp (.lst [V.ref t1, V.ref t2])) lp [(i, C - 2), (i, C - 1)] := ⟨[t1, t2], upd_same, .cons ((hp1.mono s2).mono s3) (.cons (hp2.mono s3) .nil)⟩
      generalize upd H6 lp (.lst [V.ref t1, V.ref t2]) = H7 at *
      have s13 := (s1.trans s2).trans s3
      refine ⟨G, _, V.ref lp, rfl, rfl, s13 _ _ gi3.d, by rw [List.length_map]; omega, ?_⟩
      refine ⟨(as ++ as2) ++ [lp], _, ?_, rfl⟩
      have gi4 := gi3.more s13 (.cons hl .nil) (fun a ha => by rw [List.mem_singleton.mp ha]; exact (s1.trans s2).free nlp)
      rw [List.range_succ, List.flatMap_append]
      have e : ([i].flatMap fun r => ((List.range (C - 2)).map fun c => [(r, c)]) ++ [[(r, C - 2), (r, C - 1)]]) = ((List.range (C - 2)).map fun c => [(i, c)]) ++ [[(i, C - 2), (i, C - 1)]] := by simp
      rw [e, ← List.append_assoc]
      exact gi4
    rintro σ H1 ⟨as, v3, gi, rfl⟩
    have hglen := gi.len
    have hb : ((List.range (R - 2)).flatMap fun r => ((List.range (C - 2)).map fun c => [(r, c)]) ++ [[(r, C - 2), (r, C - 1)]]).length = (R - 2) * (C - 2 + 1) := by
      rw [List.length_flatMap]
      have : ((List.range (R - 2)).map fun r => (((List.range (C - 2)).map fun c => [(r, c)]) ++ [[(r, C - 2), (r, C - 1)]]).length) = List.replicate (R - 2) (C - 2 + 1) := by
        rw [List.eq_replicate_iff]
        refine ⟨by simp, fun b hb => ?_⟩
        obtain ⟨r, _, rfl⟩ := List.mem_map.mp hb
        simp
      rw [this, List.sum_replicate_nat]
    rw [hb] at hglen
    have hbi : (R - 2) * (C - 2 + 1) ≤ 6 * 6 := Nat.mul_le_mul (by omega) (by omega)
    refine ⟨_, rfl, R, 2, rfl, rfl, hR2, ?_⟩
    refine ⟨_, rfl, R, 1, rfl, rfl, by omega, ?_⟩
    -- groups.extend
    refine ⟨_, rfl, .inl ⟨rfl, _, SqL.of gi.d⟩, ?_⟩
    refine ⟨_, rfl, C, 2, rfl, rfl, hC2, ((C - 2 : Nat) : Int), rfl, by omega, by omega, fun D nD => ?_⟩
    rw [Int.toNat_natCast]
    refine lc_gen (walk_range (lo := 0) (n := C - 2)) (fun j H3 => ∃ as2, GrI H1 D H3 as2 ((List.range j).map fun c => [(R - 2, c), (R - 1, c)])) ⟨[], GrI.start nD⟩ (fun _ _ _ _ => True.intro) ?_ ?_
    · rintro j x H3 H4 hj ⟨as2, g2⟩ ⟨rfl, rfl⟩
      refine ⟨rfl, ?_⟩
      have g2l := g2.len
      rw [List.length_map, List.length_range] at g2l
      refine ⟨_, rfl, _, rfl, (by show 2 ≤ sizeLine; decide), fun t1 nt1 => ?_⟩
      have s1 : Same H4 (upd H4 t1 (.tup [V.int ((R - 2 : Nat) : Int), V.int (0 + (j : Int))])) := same_upd nt1
      have hp1 : PAt (upd H4 t1 (.tup [V.int ((R - 2 : Nat) : Int), V.int (0 + (j : Int))])) t1 (R - 2, j) := by
        show (upd H4 t1 _) t1 = _
        rw [upd_same, Int.zero_add]
      generalize upd H4 t1 (.tup [V.int ((R - 2 : Nat) : Int), V.int (0 + (j : Int))]) = H5 at *
      refine ⟨_, rfl, _, rfl, (by show 2 ≤ sizeLine; decide), fun t2 nt2 => ?_⟩
      have s2 : Same H5 (upd H5 t2 (.tup [V.int ((R - 1 : Nat) : Int), V.int (0 + (j : Int))])) := same_upd nt2
      have hp2 : PAt (upd H5 t2 (.tup [V.int ((R - 1 : Nat) : Int), V.int (0 + (j : Int))])) t2 (R - 1, j) := by
        show (upd H5 t2 _) t2 = _
        rw [upd_same, Int.zero_add]
      generalize upd H5 t2 (.tup [V.int ((R - 1 : Nat) : Int), V.int (0 + (j : Int))]) = H6 at *
      refine ⟨(by show 2 ≤ sizeLine; decide), fun lp nlp => ?_⟩
      have s3 : Same H6 (upd H6 lp (.lst [V.ref t1, V.ref t2])) := same_upd nlp
      have hl : LsAt (upd H6 lp (.lst [V.ref t1, V.ref t2])) lp [(R - 2, j), (R - 1, j)] := ⟨[t1, t2], upd_same, .cons ((hp1.mono s2).mono s3) (.cons (hp2.mono s3) .nil)⟩
      generalize upd H6 lp (.lst [V.ref t1, V.ref t2]) = H7 at *
      have s13 := (s1.trans s2).trans s3
      refine ⟨_, s13 _ _ g2.d, by rw [List.length_map]; omega, as2 ++ [lp], ?_⟩
      rw [List.range_succ, List.map_append]
      exact g2.more s13 (.cons hl .nil) (fun a ha => by rw [List.mem_singleton.mp ha]; exact (s1.trans s2).free nlp)
    rintro H3 ⟨as2, g2⟩
    have g2l := g2.len
    rw [List.length_map, List.length_range] at g2l
    refine ⟨G, D, _, _, rfl, rfl, g2.sm _ _ gi.d, g2.d, by rw [List.length_map, List.length_map]; omega, ?_⟩
    have gi3 := gi.more g2.sm g2.p g2.f
    have gi3l := gi3.len
    have gi3l : (as ++ as2).length = (R - 2) * (C - 2 + 1) + (C - 2) := by
      rw [gi3l, List.length_append, hb, List.length_map, List.length_range]
    rw [← List.map_append] at gi3 ⊢
    generalize upd H3 G (.lst ((as ++ as2).map V.ref)) = H4 at *
    -- groups.append
    refine ⟨_, rfl, .inl ⟨rfl, _, SqL.of gi3.d⟩, ?_⟩
    refine ⟨_, rfl, _, rfl, C, 2, rfl, rfl, hC2, (by show 2 ≤ sizeLine; decide), fun t1 nt1 => ?_⟩
    have s1 : Same H4 (upd H4 t1 (.tup [V.int ((R - 2 : Nat) : Int), V.int ((C - 2 : Nat) : Int)])) := same_upd nt1
    have hp1 : PAt (upd H4 t1 (.tup [V.int ((R - 2 : Nat) : Int), V.int ((C - 2 : Nat) : Int)])) t1 (R - 2, C - 2) := upd_same
    generalize upd H4 t1 (.tup [V.int ((R - 2 : Nat) : Int), V.int ((C - 2 : Nat) : Int)]) = H5 at *
    refine ⟨_, rfl, _, rfl, C, 1, rfl, rfl, by omega, (by show 2 ≤ sizeLine; decide), fun t2 nt2 => ?_⟩
    have s2 : Same H5 (upd H5 t2 (.tup [V.int ((R - 2 : Nat) : Int), V.int ((C - 1 : Nat) : Int)])) := same_upd nt2
    have hp2 : PAt (upd H5 t2 (.tup [V.int ((R - 2 : Nat) : Int), V.int ((C - 1 : Nat) : Int)])) t2 (R - 2, C - 1) := upd_same
    generalize upd H5 t2 (.tup [V.int ((R - 2 : Nat) : Int), V.int ((C - 1 : Nat) : Int)]) = H6 at *
    refine ⟨_, rfl, _, rfl, C, 2, rfl, rfl, hC2, (by show 2 ≤ sizeLine; decide), fun t3 nt3 => ?_⟩
    have s3 : Same H6 (upd H6 t3 (.tup [V.int ((R - 1 : Nat) : Int), V.int ((C - 2 : Nat) : Int)])) := same_upd nt3
    have hp3 : PAt (upd H6 t3 (.tup [V.int ((R - 1 : Nat) : Int), V.int ((C - 2 : Nat) : Int)])) t3 (R - 1, C - 2) := upd_same
    generalize upd H6 t3 (.tup [V.int ((R - 1 : Nat) : Int), V.int ((C - 2 : Nat) : Int)]) = H7 at *
    refine ⟨(by show 3 ≤ sizeLine; decide), fun lp nlp => ?_⟩
    have s4 : Same H7 (upd H7 lp (.lst [V.ref t1, V.ref t2, V.ref t3])) := same_upd nlp
    have hl : LsAt (upd H7 lp (.lst [V.ref t1, V.ref t2, V.ref t3])) lp [(R - 2, C - 2), (R - 2, C - 1), (R - 1, C - 2)] := ⟨[t1, t2, t3], upd_same, .cons (((hp1.mono s2).mono s3).mono s4) (.cons ((hp2.mono s3).mono s4) (.cons (hp3.mono s4) .nil))⟩
    generalize upd H7 lp (.lst [V.ref t1, V.ref t2, V.ref t3]) = H8 at *
    have s14 := ((s1.trans s2).trans s3).trans s4
    refine ⟨G, _, V.ref lp, rfl, rfl, s14 _ _ gi3.d, by rw [List.length_map]; omega, ?_⟩
    have gi4 := gi3.more s14 (.cons hl .nil) (fun a ha => by rw [List.mem_singleton.mp ha]; exact ((s1.trans s2).trans s3).free nlp)
    exact ⟨_, rfl, q _ G gi4.sm nG gi4.at⟩
end
end Tr
/-! settling_slides -/
namespace Tr
open PySem PySem.Spec PyProof.Rows L2
def spSet : Sp := fun vs H Q _ => ∃ (a b : Addr) (rs rs2 : List Addr) (R C : Nat) (s g : Sl), vs = [.ref a, .ref b] ∧ TrayAt H a rs R C s.1 ∧ Good R C s ∧ TrayAt H b rs2 R C g.1 ∧ Good R C g ∧ g.2 = (R - 1, C - 1) ∧ 2 ≤ R ∧ 2 ≤ C ∧
  (crossed (R * C) s.1 g.1 + steps s.2.1 s.2.2 g.2.1 g.2.2) % 2 = 0 ∧
  ∀ H' ws s', Same H H' → goAll R C s ws = some s' → (∀ k, k < R * C → s'.1 k = g.1 k) → (∀ w ∈ ws, okL w) → ws.length ≤ 3000000 → Q (.str (txt ws)) H'
theorem scSet : FnScope ["tray", "goal", "slides", "settled", "group", "pieces", "found", "row", "column"] ["tray", "goal"] (defScope d_settling_slides) := ⟨rfl, rfl, rfl, by decide +kernel, rfl, by decide +kernel, by decide +kernel⟩
section
variable {P : Program} {w : World} {K : PySem.W.Frag} {mg : Str → Option Value} {base : Heap}
theorem ok_set {fa fG fU fM CS : Addr} {fd fdG fdU fdM : FuncData} {k jG jU jM : Nat} (F : Fun K "settling_slides" "settling_slides" d_settling_slides fa fd) (mL : mg "len" = none) (hG : jG ≤ k) (hU : jU ≤ k) (hM : jM ≤ k)
    (GG : FnOk P w K mg base CX0 jG fG fdG ["rows", "columns"] spGps) (gG : mg "groups_of_places" = some (.ref fG)) (kG : PySem.W.keepIn K (.ref fG) = true) (bG : Binds K fdG ["rows", "columns"] [])
    (GU : FnOk P w K mg base CX0 jU fU fdU ["tray", "pieces", "group", "settled"] spGrp) (gU : mg "group_slides" = some (.ref fU)) (kU : PySem.W.keepIn K (.ref fU) = true) (bU : Binds K fdU ["tray", "pieces", "group", "settled"] [])
    (GM : FnOk P w K mg base (L2.CX P w) jM fM fdM ["tray", "slides"] (spMoved CS)) (gM : mg "moved" = some (.ref fM)) (kM : PySem.W.keepIn K (.ref fM) = true) (bM : Binds K fdM ["tray", "slides"] []) :
    FnOk P w K mg base CX0 (k + 1) fa fd ["tray", "goal"] spSet := by
  refine F.ok scSet (fun vs H Q E h => ?_) (fun cdv A outer s0 H vs Q E hr h => ?_)
  · obtain ⟨a, b, rs, rs2, R, C, s, g, rfl, _⟩ := h
    rfl
  · obtain ⟨a, b, rs, rs2, R, C, s, g, rfl, T, gs, T2, gg, hcr, hR2, hC2, hev, q⟩ := h
    refine ⟨_, pss_cons (ps_set (i := 2) scSet.nd rfl (.inl rfl) pe_str)
      (pss_cons (ps_set (i := 3) scSet.nd rfl (.inl rfl) (pe_lst pa_nil))
      (pss_cons (ps_for PassesOwn.never rfl (pi_list (pe_call GG (hr.mono hG) (by rfl) gG kG bG .nil pass0 (pa_cons (pe_callB call_len_seq (by rfl) mL PySem.boot_len (pa_cons (pv 1) pa_nil)) (pa_cons (pe_callB call_len_seq (by rfl) mL PySem.boot_len (pa_cons (pe_ix ix_list (pv 1) pe_int (fun _ _ => rfl)) pa_nil)) pa_nil)))) (pg_name (i := 4) scSet.nd rfl (.inl rfl))
        (pss_cons (ps_setLc (i := 5) (own := [("row", 7), ("column", 8)]) (g := gTup K 2 (gCons (gName 7) (gCons (gName 8) gNil))) (tt := tYes) rfl scSet.nd rfl rfl (sw_true rfl rfl rfl (by decide +kernel)) (pi_list (pv 4))
          (blkOk_by (own := [("row", 7), ("column", 8)]) (N := ["tray", "goal", "slides", "settled", "group", "pieces", "found", "row", "column"]) (sc := defScope d_settling_slides) (by decide +kernel))
          (fun _ _ _ _ _ => pg_tup rfl (pgs_cons (pg_name (i := 7) scSet.nd rfl (.inl rfl)) (pgs_cons (pg_name (i := 8) scSet.nd rfl (.inl rfl)) pgs_nil))) (fun _ _ _ _ _ => pts_nil) (fun _ _ _ _ _ => pe_ix (r := rIxL K) ix_list (pe_ix (r := rIxL K) ix_list (pv 1) (pv 7) (fun _ _ => rfl)) (pv 8) (fun _ _ => rfl)))
        (pss_cons (ps_set (i := 6) scSet.nd rfl (.inl rfl) (pe_call GU (hr.mono hU) (by rfl) gU kU bU .nil pass0 (pa_cons (pv 0) (pa_cons (pv 5) (pa_cons (pv 4) (pa_cons (pv 3) pa_nil))))))
        (pss_cons (ps_set (i := 2) scSet.nd rfl (.inl rfl) (pe_op op_add_str (pv 2) (pv 6)))
        (pss_cons (ps_set (i := 0) scSet.nd rfl (.inl rfl) (pe_call GM (hr.mono hM) (by rfl) gM kM bM .nil passL (pa_cons (pv 0) (pa_cons (pv 6) pa_nil))))
        (pss_one (ps_set (i := 3) scSet.nd rfl (.inl rfl) (pe_op op_cat (pv 3) (pv 4)))))))))
      (pss_one (ps_ret (pv 2))))), ?_⟩
    have e16 : sizeLine = 16777216 := rfl
    have hR0 := gs.r0
    refine ⟨Nat.zero_le _, fun S0 nS0 => ?_⟩
    have s1 : Same H (upd H S0 (.lst [])) := same_upd nS0
    have hS0 : LsAt (upd H S0 (.lst [])) S0 [] := ⟨[], upd_same, .nil⟩
    generalize upd H S0 (.lst []) = H1 at *
    have T21 := T2.mono s1
    obtain ⟨r1, _, b2, b3⟩ := T21.get (i := 0) gs.r0
    refine ⟨_, rfl, b, _, rfl, .inl (SqL.of T21.top), ?_⟩
    refine ⟨_, rfl, b, _, (0 : Int), _, rfl, rfl, SqL.of T21.top, atI_nat (j := 0) b2, r1, _, rfl, .inl (SqL.of b3), ?_⟩
    refine ⟨R, C, by rw [List.length_map, T2.len, rowV_len]; rfl, hR2, gs.r6, hC2, gs.c6, fun H2 G s2 nG hG => ?_⟩
    obtain ⟨as, hGl, hGp⟩ := hG
    refine ⟨G, rfl, ⟨_, SqL.of hGl⟩, ?_⟩
    have hal : as.length = (Bf.groupsM R C).length := Paired.length hGp
    refine for_it (walk_list (K := K) (a := G) (xs := as.map V.ref)) (fun i σ H3 => Same H2 H3 ∧ ∃ (ta : Addr) (trs : List Addr) (si : Sl) (wsi : List Nat) (sd : Addr) (v4 v5 v6 : Option V),
        σ = [some (.ref ta), some (.ref b), some (.str (txt wsi)), some (.ref sd), v4, v5, v6, none, none] ∧ TrayAt H3 ta trs R C si.1 ∧ Good R C si ∧ goAll R C s wsi = some si ∧ (∀ w ∈ wsi, okL w) ∧ wsi.length ≤ Bf.wlen R C ((Bf.groupsM R C).take i) ∧
        LsAt H3 sd ((Bf.groupsM R C).take i).flatten ∧ Bf.Agr R C ((Bf.groupsM R C).take i).flatten si g)
      ⟨Same.refl _, a, rs, s, [], S0, none, none, none, by rw [← empty_eq]; rfl, T.mono (s1.trans s2), gs, rfl, (fun _ h => nomatch h), Nat.zero_le _, hS0.mono s2, ⟨fun a h => nomatch h⟩⟩ (fun i σ H3 _ p => p.1.seq (SqL.of hGl)) ?_ ?_
    · rintro i x σ H3 H4 hi ⟨s3, ta, trs, si, wsi, sd, v4, v5, v6, rfl, Ti, gi, hgo, hok, hwl, hsd, ag⟩ ⟨rfl, hx⟩
      rw [List.length_map] at hi
      have hgi : (Bf.groupsM R C)[i]? = some ((Bf.groupsM R C)[i]'(by omega)) := List.getElem?_eq_getElem (by omega)
      generalize (Bf.groupsM R C)[i]'(by omega) = grp at hgi
      have hai : as[i]? = some as[i] := List.getElem?_eq_getElem hi
      rw [List.getElem?_map, hai] at hx
      cases hx
      obtain ⟨grp', hgi', hgl⟩ := Paired.at hGp hai
      rw [hgi] at hgi'
      cases hgi'
      generalize as[i] = gp at *
      have hk := Bf.chk_at hR2 gs.r6 hC2 gs.c6 hgi
      obtain ⟨hm, _, _, hg3, _⟩ := Bf.chk_props hk
      have tk : (Bf.groupsM R C).take (i + 1) = (Bf.groupsM R C).take i ++ [grp] := take_more hgi
      have hgl4 := hgl.mono s3
      have hgl4' := hgl4
      obtain ⟨bs, hbl, hbp⟩ := hgl4
      have hbln : bs.length = grp.length := Paired.length hbp
      have T24 : TrayAt H4 b rs2 R C g.1 := T21.mono (s2.trans s3)
      -- pieces
      refine ⟨_, rfl, gp, rfl, ⟨_, SqL.of hbl⟩, fun D nD => ?_⟩
      refine lc_gen (walk_list (K := K) (a := gp) (xs := bs.map V.ref)) (fun j H5 => Same H4 H5 ∧ H5 D = some (.lst ((Bf.pcsOf C g.1 (grp.take j)).map V.int))) ⟨same_upd nD, by rw [upd_same]; rfl⟩ (fun j H5 _ p => p.1.seq (SqL.of hbl)) ?_ ?_
      · rintro j x H5 H6 hj ⟨s5, hD⟩ ⟨rfl, hx⟩
        rw [List.length_map] at hj
        have hbj : bs[j]? = some bs[j] := List.getElem?_eq_getElem hj
        rw [List.getElem?_map, hbj] at hx
        cases hx
        obtain ⟨y, hy, hyp⟩ := Paired.at hbp hbj
        obtain ⟨⟨y1, y2, _⟩, _⟩ := hm y (List.mem_of_getElem? hy)
        have hyp6 := hyp.mono s5
        have T26 := T24.mono s5
        obtain ⟨ry, _, c2, c3⟩ := T26.get y1
        refine ⟨_, _, rfl, SqT.of hyp6, rfl, _, _, rfl, _, _, rfl, rfl, rfl, ?_⟩
        refine ⟨_, rfl, _, rfl, b, _, (y.1 : Int), _, rfl, rfl, SqL.of T26.top, atI_nat c2, _, rfl, ry, _, (y.2 : Int), _, rfl, rfl, SqL.of c3, atI_nat (rowV_get y2), ?_⟩
        refine ⟨_, hD, ?_, fun c o e => by rw [upd_ne (ne_of_none e nD)]; exact s5 _ _ e, ?_⟩
        · simp only [Bf.pcsOf, List.length_map, List.length_take]
          omega
        · rw [upd_same, take_more hy]
          simp [Bf.pcsOf]
      rintro H5 ⟨s5, hD⟩
      rw [List.length_map, hbln, List.take_length] at hD
      have hev' : (crossed (R * C) si.1 g.1 + steps si.2.1 si.2.2 g.2.1 g.2.2) % 2 = 0 := by
        have := par_go (by have := gs.r6; omega) gg.full g.2.1 g.2.2 gs.z gs.full hgo
        omega
      -- found
      refine ⟨_, rfl, _, rfl, _, rfl, _, rfl, ta, D, gp, sd, trs, R, C, si, g, grp, _, rfl, Ti.mono s5, gi, gg, hcr, hD, hgl4'.mono s5, hsd.mono s5, ag, hk, hev', fun H6 ws e' s6 hws hwok hwlen => ?_⟩
      obtain ⟨s', hs', gs', ag'⟩ := Bf.settle gi gg hcr ag hk hws
      have hw1 := Bf.wlen_take gs.r6 gs.c6 (i + 1)
      have hw2 : Bf.wlen R C ((Bf.groupsM R C).take (i + 1)) = Bf.wlen R C ((Bf.groupsM R C).take i) + (R * C) ^ (grp.length + 1) := by
        rw [tk, Bf.wlen_app]
        simp [Bf.wlen]
      -- slides = slides + found
      refine ⟨_, rfl, _, rfl, _, _, rfl, rfl, by rw [txt_len, txt_len]; omega, ?_⟩
      rw [txt_add]
      -- tray = moved(tray, found)
      refine ⟨_, rfl, _, rfl, ta, trs, R, C, si, ws, rfl, Ti.mono (s5.trans s6), gi, fun s'' hs'' H7 p rs' s7 np nrs T7 => ?_, fun hn => by rw [hs'] at hn; cases hn⟩
      rw [hs'] at hs''
      cases hs''
      have s47 := (s5.trans s6).trans s7
      obtain ⟨sbs, hsb, hsp⟩ := hsd.mono s47
      obtain ⟨gbs, hgb, hgp⟩ := hgl4'.mono s47
      have f1 := Bf.flat_take gs.r6 gs.c6 i
      have f2 : sbs.length = ((Bf.groupsM R C).take i).flatten.length := Paired.length hsp
      have f3 : gbs.length = grp.length := Paired.length hgp
      refine ⟨_, rfl, _, rfl, sd, gp, _, _, rfl, rfl, hsb, hgb, by rw [List.length_map, List.length_map]; omega, fun p2 np2 => ?_⟩
      have s8 : Same H7 (upd H7 p2 (.lst (sbs.map V.ref ++ gbs.map V.ref))) := same_upd np2
      have ef : ((Bf.groupsM R C).take (i + 1)).flatten = ((Bf.groupsM R C).take i).flatten ++ grp := by
        rw [tk, List.flatten_append]
        simp
      refine ⟨(s3.trans s47).trans s8, p, rs', s', wsi ++ ws, p2, _, _, _, rfl, T7.mono s8, gs', ?_, fun w hw => ?_, ?_, ?_, ?_⟩
      · rw [goAll_append, hgo]
        exact hs'
      · rcases List.mem_append.mp hw with z | z
        · exact hok w z
        · exact hwok w z
      · rw [List.length_append]
        omega
      · rw [ef]
        exact ⟨sbs ++ gbs, by rw [upd_same, List.map_append], paired_app (PsAt.mono s8 hsp) (PsAt.mono s8 hgp)⟩
      · rw [ef]
        exact ag'
    · rintro σ H3 ⟨s3, ta, trs, si, wsi, sd, v4, v5, v6, rfl, Ti, gi, hgo, hok, hwl, hsd, ag⟩
      rw [List.length_map, hal, List.take_length] at ag
      have hw1 := Bf.wlen_take gs.r6 gs.c6 (as.map V.ref).length
      exact ⟨_, rfl, q H3 wsi si ((s1.trans s2).trans s3) hgo (Bf.settled_all hR2 hC2 gi gg ag) hok (by omega)⟩
end
end Tr
/-! slides_between -/
namespace Tr
open PySem PySem.Spec PyProof.Rows L2
def spBtw : Sp := fun vs H Q _ => ∃ (a b : Addr) (R C : Nat) (s g : Sl), vs = [.ref a, .ref b] ∧ Two H a b R C s g ∧ 2 ≤ R ∧ 2 ≤ C ∧ (crossed (R * C) s.1 g.1 + steps s.2.1 s.2.2 g.2.1 g.2.2) % 2 = 0 ∧
  ∀ H' ws t, Same H H' → goAll R C s ws = some t → (∀ k, k < R * C → t.1 k = g.1 k) → ws.length ≤ 4000000 → Q (.str (txt ws)) H'
theorem scBtw : FnScope ["one", "other", "corner", "before", "after", "between"] ["one", "other"] (defScope d_slides_between) := ⟨rfl, rfl, rfl, by decide +kernel, rfl, by decide +kernel, by decide +kernel⟩
section
variable {P : Program} {w : World} {K : PySem.W.Frag} {mg : Str → Option Value} {base : Heap}
theorem ok_btw {fa fS fE fT fM fU fN CS : Addr} {fd fdS fdE fdT fdM fdU fdN : FuncData} {k jS jE jT jM jU jN : Nat} (F : Fun K "slides_between" "slides_between" d_slides_between fa fd) (mL : mg "len" = none) (hS : jS ≤ k) (hE : jE ≤ k) (hT : jT ≤ k) (hM : jM ≤ k) (hU : jU ≤ k) (hN : jN ≤ k)
    (GS : FnOk P w K mg base CX0 jS fS fdS ["start", "end"] (spStr K)) (gS : mg "straight" = some (.ref fS)) (kS : PySem.W.keepIn K (.ref fS) = true) (bS : Binds K fdS ["start", "end"] [])
    (GE : FnOk P w K mg base CX0 jE fE fdE ["tray"] spEmpty) (gE : mg "empty_place" = some (.ref fE)) (kE : PySem.W.keepIn K (.ref fE) = true) (bE : Binds K fdE ["tray"] [])
    (GT : FnOk P w K mg base CX0 jT fT fdT ["tray", "goal"] spSet) (gT : mg "settling_slides" = some (.ref fT)) (kT : PySem.W.keepIn K (.ref fT) = true) (bT : Binds K fdT ["tray", "goal"] [])
    (GM : FnOk P w K mg base (L2.CX P w) jM fM fdM ["tray", "slides"] (spMoved CS)) (gM : mg "moved" = some (.ref fM)) (kM : PySem.W.keepIn K (.ref fM) = true) (bM : Binds K fdM ["tray", "slides"] [])
    (GU : FnOk P w K mg base (L2.CX P w) jU fU fdU ["slides"] (spSlides CS undo)) (gU : mg "undone" = some (.ref fU)) (kU : PySem.W.keepIn K (.ref fU) = true) (bU : Binds K fdU ["slides"] [])
    (GN : FnOk P w K mg base (L2.CX P w) jN fN fdN ["slides"] (spSlides CS thinL)) (gN : mg "thinned" = some (.ref fN)) (kN : PySem.W.keepIn K (.ref fN) = true) (bN : Binds K fdN ["slides"] []) :
    FnOk P w K mg base CX0 (k + 1) fa fd ["one", "other"] spBtw := by
  refine F.ok scBtw (fun vs H Q E h => ?_) (fun cdv A outer s0 H vs Q E hr h => ?_)
  · obtain ⟨a, b, R, C, s, g, rfl, _⟩ := h
    rfl
  · obtain ⟨a, b, R, C, s, g, rfl, ⟨⟨rs, T⟩, ⟨rs2, T2⟩, gs, gg⟩, hR2, hC2, hev, q⟩ := h
    refine ⟨_, pss_cons (ps_set (i := 2) scBtw.nd rfl (.inl rfl) (pe_tup (pa_cons (pe_op op_subN (pe_callB call_len_seq (by rfl) mL PySem.boot_len (pa_cons (pv 0) pa_nil)) pe_int) (pa_cons (pe_op op_subN (pe_callB call_len_seq (by rfl) mL PySem.boot_len (pa_cons (pe_ix ix_list (pv 0) pe_int (fun _ _ => rfl)) pa_nil)) pe_int) pa_nil))))
      (pss_cons (ps_set (i := 3) scBtw.nd rfl (.inl rfl) (pe_call GS (hr.mono hS) (by rfl) gS kS bS .nil pass0 (pa_cons (pe_call GE (hr.mono hE) (by rfl) gE kE bE .nil pass0 (pa_cons (pv 0) pa_nil)) (pa_cons (pv 2) pa_nil))))
      (pss_cons (ps_set (i := 4) scBtw.nd rfl (.inl rfl) (pe_call GS (hr.mono hS) (by rfl) gS kS bS .nil pass0 (pa_cons (pe_call GE (hr.mono hE) (by rfl) gE kE bE .nil pass0 (pa_cons (pv 1) pa_nil)) (pa_cons (pv 2) pa_nil))))
      (pss_cons (ps_set (i := 5) scBtw.nd rfl (.inl rfl) (pe_call GT (hr.mono hT) (by rfl) gT kT bT .nil pass0 (pa_cons (pe_call GM (hr.mono hM) (by rfl) gM kM bM .nil passL (pa_cons (pv 0) (pa_cons (pv 3) pa_nil))) (pa_cons (pe_call GM (hr.mono hM) (by rfl) gM kM bM .nil passL (pa_cons (pv 1) (pa_cons (pv 4) pa_nil))) pa_nil))))
      (pss_one (ps_ret (pe_call GN (hr.mono hN) (by rfl) gN kN bN .nil passL (pa_cons (pe_op op_add_str (pe_op op_add_str (pv 3) (pv 5)) (pe_call GU (hr.mono hU) (by rfl) gU kU bU .nil passL (pa_cons (pv 4) pa_nil))) pa_nil))))))), ?_⟩
    have e16 : sizeLine = 16777216 := rfl
    have hR6 := gs.r6
    have hC6 := gs.c6
    obtain ⟨r1, _, b2, b3⟩ := T.get (i := 0) gs.r0
    -- corner
    refine ⟨_, rfl, a, _, rfl, .inl (SqL.of T.top), R, 1, by rw [List.length_map, T.len], rfl, by omega, ?_⟩
    refine ⟨_, rfl, a, _, (0 : Int), _, rfl, rfl, SqL.of T.top, atI_nat (j := 0) b2, r1, _, rfl, .inl (SqL.of b3), C, 1, by rw [rowV_len], rfl, by omega, (by show 2 ≤ sizeLine; decide), fun cp ncp => ?_⟩
    have s1 : Same H (upd H cp (.tup [V.int ((R - 1 : Nat) : Int), V.int ((C - 1 : Nat) : Int)])) := same_upd ncp
    have hcp : (upd H cp (.tup [V.int ((R - 1 : Nat) : Int), V.int ((C - 1 : Nat) : Int)])) cp = some (.tup [V.int ((R - 1 : Nat) : Int), V.int ((C - 1 : Nat) : Int)]) := upd_same
    generalize upd H cp (.tup [V.int ((R - 1 : Nat) : Int), V.int ((C - 1 : Nat) : Int)]) = H1 at *
    -- before
    obtain ⟨f, r, c⟩ := s
    obtain ⟨h, r', c'⟩ := g
    have zr : r < R := gs.z.r
    have zc : c < C := gs.z.c
    have zr' : r' < R := gg.z.r
    have zc' : c' < C := gg.z.c
    refine ⟨_, rfl, a, rs, R, C, f, r, c, rfl, T.mono s1, gs.z, gs.uniq, by omega, fun H2 ep s2 nep hep => ?_⟩
    refine ⟨_, rfl, ep, cp, r, c, R - 1, C - 1, rfl, SqT.of hep, SqT.of (s2 _ _ hcp), by omega, by omega, by omega, by omega, ?_⟩
    -- after
    refine ⟨_, rfl, b, rs2, R, C, h, r', c', rfl, T2.mono (s1.trans s2), gg.z, gg.uniq, by omega, fun H3 ep2 s3 nep2 hep2 => ?_⟩
    refine ⟨_, rfl, ep2, cp, r', c', R - 1, C - 1, rfl, SqT.of hep2, SqT.of ((s2.trans s3) _ _ hcp), by omega, by omega, by omega, by omega, ?_⟩
    have s03 := (s1.trans s2).trans s3
    obtain ⟨f1, g1⟩ := Bf.go_str (R := R) (C := C) (f := f) zr zc (show R - 1 < R by omega) (show C - 1 < C by omega)
    obtain ⟨f2, g2⟩ := Bf.go_str (R := R) (C := C) (f := h) zr' zc' (show R - 1 < R by omega) (show C - 1 < C by omega)
    have l1 := Bf.strL_len (r := r) (c := c) (r' := R - 1) (c' := C - 1) (by omega) (by omega) (by omega) (by omega)
    have l2 := Bf.strL_len (r := r') (c := c') (r' := R - 1) (c' := C - 1) (by omega) (by omega) (by omega) (by omega)
    have k1 : ∀ w ∈ Bf.strL r c (R - 1) (C - 1), okL w := Bf.strL_ok
    have k2 : ∀ w ∈ Bf.strL r' c' (R - 1) (C - 1), okL w := Bf.strL_ok
    generalize Bf.strL r c (R - 1) (C - 1) = wb at *
    generalize Bf.strL r' c' (R - 1) (C - 1) = wa at *
    have gs1 : Good R C (f1, R - 1, C - 1) := gs.go g1
    have gg1 : Good R C (f2, R - 1, C - 1) := gg.go g2
    have p1 := par_go (by omega) gg.full r' c' gs.z gs.full g1
    have p2 := Bf.par_goR (by omega) gs1.full (R - 1) (C - 1) gg.z gg.full g2
    have hev2 : (crossed (R * C) f1 f2 + steps (R - 1) (C - 1) (R - 1) (C - 1)) % 2 = 0 := by
      dsimp only at p1 p2 hev
      omega
    -- moved, twice; between
    refine ⟨_, rfl, _, rfl, a, rs, R, C, (f, r, c), wb, rfl, T.mono s03, gs, fun s' hs' H4 pa rsa s4 npa nrsa Ta => ?_, fun hn => by rw [g1] at hn; cases hn⟩
    rw [g1] at hs'
    cases hs'
    refine ⟨_, rfl, _, rfl, b, rs2, R, C, (h, r', c'), wa, rfl, T2.mono (s03.trans s4), gg, fun s' hs' H5 pb rsb s5 npb nrsb Tb => ?_, fun hn => by rw [g2] at hn; cases hn⟩
    rw [g2] at hs'
    cases hs'
    refine ⟨pa, pb, rsa, rsb, R, C, (f1, R - 1, C - 1), (f2, R - 1, C - 1), rfl, Ta.mono s5, gs1, Tb, gg1, rfl, hR2, hC2, hev2, fun H6 ws g' s6 g3 g4 k3 l3 => ?_⟩
    obtain ⟨hok, t, g5, g6⟩ := Bf.whole gs gg k1 k3 k2 g1 g2 g3 g4
    have lu := undo_len wa
    -- before + between + undone(after)
    refine ⟨_, rfl, _, rfl, _, _, rfl, rfl, by rw [txt_len, txt_len]; omega, ?_⟩
    rw [txt_add]
    refine ⟨_, rfl, wa, rfl, by omega, fun _ H7 s7 => ?_, fun ⟨l, m1, m2⟩ => absurd (k2 l m1) m2⟩
    refine ⟨_, _, rfl, rfl, by rw [txt_len, txt_len, List.length_append]; omega, ?_⟩
    rw [txt_add]
    have lt := thinL_len (wb ++ ws ++ undo wa)
    have ll : (wb ++ ws ++ undo wa).length ≤ 3000024 := by
      rw [List.length_append, List.length_append]
      omega
    refine ⟨wb ++ ws ++ undo wa, rfl, by omega, fun _ H8 s8 => ?_, fun ⟨l, m1, m2⟩ => absurd (hok l m1) m2⟩
    exact q H8 _ t ((((s03.trans s4).trans s5).trans s6).trans (s7.trans s8)) g5 g6 (by omega)
end
end Tr
namespace Bf
open Tr
theorem inv_le2 : ∀ l : List Nat, inv l ≤ l.length * l.length
  | [] => Nat.le_refl 0
  | a :: r => by
    have h := inv_le2 r
    have h2 : r.countP (fun b => decide (b < a)) ≤ r.length := List.countP_le_length
    rw [inv_cons, List.length_cons, Nat.add_mul, Nat.mul_add]
    omega
theorem crossed_le2 {R C : Nat} (f g : Fld) (hR : R ≤ 6) (hC : C ≤ 6) : crossed (R * C) f g ≤ 1296 := by
  have := inv_le2 (crossL (R * C) f g)
  rw [crossL_len] at this
  have h : R * C ≤ 36 := by
    have := Nat.mul_le_mul hR hC
    omega
  exact Nat.le_trans this (Nat.mul_le_mul h h)
theorem steps_le2 {R C : Nat} {s g : Sl} (a : Good R C s) (b : Good R C g) : steps s.2.1 s.2.2 g.2.1 g.2.2 ≤ 12 := by
  have := a.z.r
  have := a.z.c
  have := b.z.r
  have := b.z.c
  have := a.r6
  have := a.c6
  unfold steps
  omega
end Bf
/-! told -/
namespace Tr
open PySem PySem.Spec PyProof.Rows L2
theorem pcs_perm {n : Nat} {f g : Fld} (hf : Full n f) (hg : Full n g) : (pcsL n f).Perm (pcsL n g) := (hf.trans hg.symm).filter _
theorem pcs_nodup {n : Nat} {f : Fld} (hf : Full n f) : (pcsL n f).Nodup := (full_nodup hf).filter _
/-- the answer, whatever it is -/
def spAns (CL CO CP : Addr) (W : Nat → Nat → Prop) : Sp := fun vs H Q _ => ∃ (a b : Addr) (R C : Nat) (s g : Sl), vs = [.ref a, .ref b] ∧ Two H a b R C s g ∧ W R C ∧
  ∀ H' o n, Same H H' → AnsAt CL CO CP H' o n → ansB R C s g n = true → Q (.ref o) H'
theorem scTW : FnScope ["one", "other", "crossed", "steps"] ["one", "other"] (defScope d_told_of_wide) := ⟨rfl, rfl, rfl, by decide +kernel, rfl, by decide +kernel, by decide +kernel⟩
theorem scTN : FnScope ["one", "other", "first", "second"] ["one", "other"] (defScope d_told_of_narrow) := ⟨rfl, rfl, rfl, by decide +kernel, rfl, by decide +kernel, by decide +kernel⟩
section
variable {P : Program} {w : World} {K : PySem.W.Frag} {mg : Str → Option Value} {base : Heap}
theorem ok_tw {fa fX fA fB CL CO CP fIL fSL fIO fSO : Addr} {fd fdX fdA fdB fdIL fdIO : FuncData} {k jX jA jB jIL jIO : Nat} (F : Fun K "told_of_wide" "told_of_wide" d_told_of_wide fa fd) (hX : jX ≤ k) (hA : jA ≤ k) (hB : jB ≤ k) (hIL : jIL + 1 ≤ k) (hIO : jIO + 1 ≤ k)
    (GX : FnOk P w K mg base CX0 jX fX fdX ["one", "other"] spCrP) (gX : mg "crossed_pairs" = some (.ref fX)) (kX : PySem.W.keepIn K (.ref fX) = true) (bX : Binds K fdX ["one", "other"] [])
    (GA : FnOk P w K mg base CX0 jA fA fdA ["one", "other"] spStA) (gA : mg "steps_apart" = some (.ref fA)) (kA : PySem.W.keepIn K (.ref fA) = true) (bA : Binds K fdA ["one", "other"] [])
    (GB : FnOk P w K mg base CX0 jB fB fdB ["one", "other"] spBtw) (gB : mg "slides_between" = some (.ref fB)) (kB : PySem.W.keepIn K (.ref fB) = true) (bB : Binds K fdB ["one", "other"] [])
    (TL : ClsT K mg "Led" CL fIL fSL ["slides"]) (GIL : FnOk P w K mg base CX0 jIL fIL fdIL ["self", "slides"] (spI1 "slides" CL)) (bIL : Binds K fdIL ["self", "slides"] [])
    (TO : ClsT K mg "Odd" CO fIO fSO ["crossed", "steps"]) (GIO : FnOk P w K mg base CX0 jIO fIO fdIO ["self", "crossed", "steps"] (spI2 "crossed" "steps" CO)) (bIO : Binds K fdIO ["self", "crossed", "steps"] []) :
    FnOk P w K mg base CX0 (k + 1) fa fd ["one", "other"] (spAns CL CO CP fun R C => 2 ≤ R ∧ 2 ≤ C) := by
  refine F.ok scTW (fun vs H Q E h => ?_) (fun cdv A outer s0 H vs Q E hr h => ?_)
  · obtain ⟨a, b, R, C, s, g, rfl, _⟩ := h
    rfl
  · obtain ⟨a, b, R, C, s, g, rfl, T, ⟨hR2, hC2⟩, q⟩ := h
    have hrL := hr.mono hIL
    have hrO := hr.mono hIO
    refine ⟨_, pss_cons (ps_set (i := 2) scTW.nd rfl (.inl rfl) (pe_call GX (hr.mono hX) (by rfl) gX kX bX .nil pass0 (pa_cons (pv 0) (pa_cons (pv 1) pa_nil))))
      (pss_cons (ps_set (i := 3) scTW.nd rfl (.inl rfl) (pe_call GA (hr.mono hA) (by rfl) gA kA bA .nil pass0 (pa_cons (pv 0) (pa_cons (pv 1) pa_nil))))
      (pss_cons (ps_if (pt_cmpR op_eq (pe_op op_mod (pe_op op_add (pv 2) (pv 3)) pe_int) pe_int (nomark _)) (pss_one (ps_ret (pe_make TO.mkc GIO hrO (by rfl) TO.g bIO .nil pass0 (pa_cons (pv 2) (pa_cons (pv 3) pa_nil))))) pss_nil)
      (pss_one (ps_ret (pe_make TL.mkc GIL hrL (by rfl) TL.g bIL .nil pass0 (pa_cons (pe_call GB (hr.mono hB) (by rfl) gB kB bB .nil pass0 (pa_cons (pv 0) (pa_cons (pv 1) pa_nil))) pa_nil)))))), ?_⟩
    obtain ⟨rs, Ta⟩ := T.one
    obtain ⟨rs2, Tb⟩ := T.two
    have hcr := Bf.crossed_le2 s.1 g.1 T.g1.r6 T.g1.c6
    have hst := Bf.steps_le2 T.g1 T.g2
    refine ⟨_, rfl, _, rfl, a, b, rs, rs2, R, C, s.1, g.1, rfl, Ta, Tb, T.g1.r6, T.g1.c6, T.g1.full, T.g2.full, fun H1 s1 => ?_⟩
    refine ⟨_, rfl, _, rfl, a, b, rs, rs2, R, C, s, g, rfl, Ta.mono s1, Tb.mono s1, T.g1, T.g2, fun H2 s2 => ?_⟩
    have s02 := s1.trans s2
    refine ⟨_, rfl, _, rfl, _, _, rfl, rfl, _, 2, rfl, rfl, (by show (0 : Int) < 2; decide), rfl, _, rfl, ?_⟩
    refine decI (fun z => ?_) (fun z => ?_)
    · have z := V.int.inj z
      refine ⟨_, rfl, _, rfl, fun x dx nx ndx nex => ?_⟩
      have s3 : Same H2 (upd (upd H2 dx (.own x)) x (.ins CO dx [])) := (same_upd ndx).trans (same_upd (by rw [upd_ne nex.symm]; exact nx))
      refine ⟨x, dx, _, _, rfl, upd_same, fun fs h1 h2 h3 h4 => ⟨rfl, ?_⟩⟩
      refine q _ x (.O (crossed (R * C) s.1 g.1 : Nat) (steps s.2.1 s.2.2 g.2.1 g.2.2 : Nat)) (fun y o e => ?_) ⟨dx, fs, upd_same, h1, h2, h3, by omega, by omega⟩ ?_
      · rw [upd_ne (ne_of_none (s02 _ _ e) nx)]
        exact s3 _ _ (s02 _ _ e)
      · show decide _ = true
        exact decide_eq_true ⟨by omega, by omega, rfl, rfl⟩
    · have z : ¬ (((crossed (R * C) s.1 g.1 : Nat) : Int) + (steps s.2.1 s.2.2 g.2.1 g.2.2 : Nat)) % 2 = 1 := fun h => z (congrArg V.int h)
      have hev : (crossed (R * C) s.1 g.1 + steps s.2.1 s.2.2 g.2.1 g.2.2) % 2 = 0 := by omega
      refine ⟨_, rfl, _, rfl, a, b, R, C, s, g, rfl, T.mono s02, hR2, hC2, hev, fun H3 ws t s3 hgo hag hlen => ?_⟩
      refine fun x dx nx ndx nex => ?_
      have s4 : Same H3 (upd (upd H3 dx (.own x)) x (.ins CL dx [])) := (same_upd ndx).trans (same_upd (by rw [upd_ne nex.symm]; exact nx))
      refine ⟨x, dx, _, rfl, upd_same, fun fs h1 h2 => ⟨rfl, ?_⟩⟩
      have s03 := s02.trans s3
      refine q _ x (.L ws) (fun y o e => ?_) ⟨dx, fs, upd_same, h1, h2, hlen⟩ ?_
      · rw [upd_ne (ne_of_none (s03 _ _ e) nx)]
        exact s4 _ _ (s03 _ _ e)
      · show ledB R C s ws g.1 = true
        unfold ledB
        rw [hgo]
        exact decide_eq_true hag
theorem ok_tn {fa fX fA fB CL CO CP fIL fSL fIP fSP : Addr} {fd fdX fdA fdB fdIL fdIP : FuncData} {k jX jA jB jIL jIP : Nat} (F : Fun K "told_of_narrow" "told_of_narrow" d_told_of_narrow fa fd) (mZ : mg "zip" = none) (hX : jX ≤ k) (hA : jA ≤ k) (hB : jB ≤ k) (hIL : jIL + 1 ≤ k) (hIP : jIP + 1 ≤ k)
    (GX : FnOk P w K mg base CX0 jX fX fdX ["tray"] spPcs) (gX : mg "pieces_of" = some (.ref fX)) (kX : PySem.W.keepIn K (.ref fX) = true) (bX : Binds K fdX ["tray"] [])
    (GA : FnOk P w K mg base CX0 jA fA fdA ["start", "end"] (spStr K)) (gA : mg "straight" = some (.ref fA)) (kA : PySem.W.keepIn K (.ref fA) = true) (bA : Binds K fdA ["start", "end"] [])
    (GB : FnOk P w K mg base CX0 jB fB fdB ["tray"] spEmpty) (gB : mg "empty_place" = some (.ref fB)) (kB : PySem.W.keepIn K (.ref fB) = true) (bB : Binds K fdB ["tray"] [])
    (TL : ClsT K mg "Led" CL fIL fSL ["slides"]) (GIL : FnOk P w K mg base CX0 jIL fIL fdIL ["self", "slides"] (spI1 "slides" CL)) (bIL : Binds K fdIL ["self", "slides"] [])
    (TP : ClsT K mg "Passed" CP fIP fSP ["one", "other"]) (GIP : FnOk P w K mg base CX0 jIP fIP fdIP ["self", "one", "other"] (spI2 "one" "other" CP)) (bIP : Binds K fdIP ["self", "one", "other"] []) :
    FnOk P w K mg base CX0 (k + 1) fa fd ["one", "other"] (spAns CL CO CP fun R C => R = 1 ∨ C = 1) := by
  refine F.ok scTN (fun vs H Q E h => ?_) (fun cdv A outer s0 H vs Q E hr h => ?_)
  · obtain ⟨a, b, R, C, s, g, rfl, _⟩ := h
    rfl
  · obtain ⟨a, b, R, C, s, g, rfl, T, hm, q⟩ := h
    have hrL := hr.mono hIL
    have hrP := hr.mono hIP
    refine ⟨_, pss_cons (ps_for PassesOwn.never rfl (pi_zip rfl mZ (pa_cons (pe_call GX (hr.mono hX) (by rfl) gX kX bX .nil pass0 (pa_cons (pv 0) pa_nil)) (pa_cons (pe_call GX (hr.mono hX) (by rfl) gX kX bX .nil pass0 (pa_cons (pv 1) pa_nil)) pa_nil))) (pg_tup rfl (pgs_cons (pg_name (i := 2) scTN.nd rfl (.inl rfl)) (pgs_cons (pg_name (i := 3) scTN.nd rfl (.inl rfl)) pgs_nil)))
        (pss_one (ps_if (pt_cmpR op_ne (pv 2) (pv 3) (nomark _)) (pss_one (ps_ret (pe_make TP.mkc GIP hrP (by rfl) TP.g bIP .nil pass0 (pa_cons (pv 2) (pa_cons (pv 3) pa_nil))))) pss_nil)))
      (pss_one (ps_ret (pe_make TL.mkc GIL hrL (by rfl) TL.g bIL .nil pass0 (pa_cons (pe_call GA (hr.mono hA) (by rfl) gA kA bA .nil pass0 (pa_cons (pe_call GB (hr.mono hB) (by rfl) gB kB bB .nil pass0 (pa_cons (pv 0) pa_nil)) (pa_cons (pe_call GB (hr.mono hB) (by rfl) gB kB bB .nil pass0 (pa_cons (pv 1) pa_nil)) pa_nil))) pa_nil)))), ?_⟩
    obtain ⟨rs, Ta⟩ := T.one
    obtain ⟨rs2, Tb⟩ := T.two
    have g1 := T.g1
    have g2 := T.g2
    have hp := pcs_perm g1.full g2.full
    have nd1 := pcs_nodup g1.full
    have hlen := hp.length_eq
    have hRC : R * C ≤ 36 := by
      have := Nat.mul_le_mul g1.r6 g1.c6
      omega
    refine ⟨_, rfl, a, rs, R, C, s.1, rfl, Ta, g1.r6, g1.c6, fun H1 p1 s1 np1 hp1 => ?_⟩
    refine ⟨_, rfl, b, rs2, R, C, g.1, rfl, Tb.mono s1, g1.r6, g1.c6, fun H2 p2 s2 np2 hp2 => ?_⟩
    have s02 := s1.trans s2
    have hp12 := s2 _ _ hp1
    refine ⟨p1, p2, _, _, rfl, SqL.of hp12, SqL.of hp2, ?_⟩
    refine for_it (walk_zip (K := K) (a := p1) (b := p2) (xs := (pcsL (R * C) s.1).map V.int) (ys := (pcsL (R * C) g.1).map V.int) rfl) (fun i σ H3 => Same H2 H3 ∧ (∀ j, j < i → (pcsL (R * C) s.1)[j]? = (pcsL (R * C) g.1)[j]?) ∧ ∃ v2 v3, σ = [some (.ref a), some (.ref b), v2, v3])
      ⟨Same.refl _, (fun j hj => absurd hj (Nat.not_lt_zero _)), none, none, rfl⟩ (fun i σ H3 _ p => ⟨p.1.seq (SqL.of hp12), p.1.seq (SqL.of hp2)⟩) ?_ ?_
    · rintro i x σ H3 H4 hi ⟨s3, hsame, v2, v3, rfl⟩ ⟨T1, x1, y1, rfl, nT1, rfl, e1, e2⟩
      have s4 : Same H3 (upd H3 T1 (.tup [x1, y1])) := same_upd nT1
      rw [List.length_map, List.length_map] at hi
      have hix : i < (pcsL (R * C) s.1).length := by omega
      have hiy : i < (pcsL (R * C) g.1).length := by omega
      have ex : (pcsL (R * C) s.1)[i]? = some (pcsL (R * C) s.1)[i] := List.getElem?_eq_getElem hix
      have ey : (pcsL (R * C) g.1)[i]? = some (pcsL (R * C) g.1)[i] := List.getElem?_eq_getElem hiy
      have e1 : ((pcsL (R * C) s.1).map V.int)[i]? = some x1 := e1
      have e2 : ((pcsL (R * C) g.1).map V.int)[i]? = some y1 := e2
      rw [List.getElem?_map, ex] at e1
      rw [List.getElem?_map, ey] at e2
      cases e1
      cases e2
      generalize (pcsL (R * C) s.1)[i] = x at *
      generalize (pcsL (R * C) g.1)[i] = y at *
      refine ⟨T1, _, rfl, SqT.of upd_same, rfl, _, _, rfl, _, _, rfl, rfl, ?_⟩
      refine ⟨_, rfl, _, rfl, rfl, _, rfl, ?_⟩
      by_cases hxy : x = y
      · refine iteNS (by rw [hxy]) ⟨s3.trans s4, fun j hj => ?_, _, _, rfl⟩
        by_cases c : j < i
        · exact hsame j c
        · have : j = i := by omega
          rw [this, ex, ey, hxy]
      · have hne : ¬ V.int x = V.int y := fun e => hxy (V.int.inj e)
        rw [decide_eq_false hne]
        refine iteT ?_
        obtain ⟨o1, o2, my, mx⟩ := Bf.first_diff hp nd1 ex ey hxy hsame
        have ox : 0 < x ∧ x < (R * C : Nat) := (pcs_mem g1.full x).mp (List.mem_of_getElem? ex)
        have oy : 0 < y ∧ y < (R * C : Nat) := (pcs_mem g2.full y).mp (List.mem_of_getElem? ey)
        have i1 := (pcs_idx g1.full ox oy).mp o1
        have i2 := (pcs_idx g2.full oy ox).mp o2
        generalize hG : upd H3 T1 (.tup [V.int x, V.int y]) = G at *
        refine ⟨_, rfl, _, rfl, fun z dz nz ndz nez => ?_⟩
        have s5 : Same G (upd (upd G dz (.own z)) z (.ins CP dz [])) := (same_upd ndz).trans (same_upd (by rw [upd_ne nez.symm]; exact nz))
        have s0G := (s02.trans s3).trans s4
        refine ⟨z, dz, _, _, rfl, upd_same, fun fs h1 h2 h3 h4 => ⟨rfl, ?_⟩⟩
        refine q _ z (.P x y) (fun y o e => ?_) ⟨dz, fs, upd_same, h1, h2, h3, by omega, by omega, h4⟩ ?_
        · rw [upd_ne (ne_of_none (s0G _ _ e) nz)]
          exact s5 _ _ (s0G _ _ e)
        · show passedB R C s.1 g.1 x y = true
          unfold passedB
          rw [if_neg (by omega)]
          refine decide_eq_true ?_
          rw [decide_eq_true i1, decide_eq_false (by omega)]
          decide
    · rintro σ H3 ⟨s3, hsame, v2, v3, rfl⟩
      have hall : pcsL (R * C) s.1 = pcsL (R * C) g.1 := by
        apply List.ext_getElem?
        intro j
        by_cases c : j < min ((pcsL (R * C) s.1).map V.int).length ((pcsL (R * C) g.1).map V.int).length
        · exact hsame j c
        · rw [List.length_map, List.length_map] at c
          rw [List.getElem?_eq_none (by omega), List.getElem?_eq_none (by omega)]
      have s03 := s02.trans s3
      obtain ⟨f, r, c⟩ := s
      obtain ⟨h, r', c'⟩ := g
      have zr : r < R := g1.z.r
      have zc : c < C := g1.z.c
      have zr' : r' < R := g2.z.r
      have zc' : c' < C := g2.z.c
      have hR6 := g1.r6
      have hC6 := g1.c6
      refine ⟨_, rfl, a, rs, R, C, f, r, c, rfl, Ta.mono s03, g1.z, g1.uniq, by omega, fun H4 p s4 np hp => ?_⟩
      refine ⟨_, rfl, b, rs2, R, C, h, r', c', rfl, Tb.mono (s03.trans s4), g2.z, g2.uniq, by omega, fun H5 p' s5 np' hp' => ?_⟩
      refine ⟨p, p', r, c, r', c', rfl, SqT.of (s5 _ _ hp), SqT.of hp', by omega, by omega, by omega, by omega, ?_⟩
      have s05 := (s03.trans s4).trans s5
      obtain ⟨f1, hgo⟩ := Bf.go_str (R := R) (C := C) (f := f) zr zc zr' zc'
      have hl := Bf.strL_len (r := r) (c := c) (r' := r') (c' := c') (by omega) (by omega) (by omega) (by omega)
      have gg := g1.go hgo
      have hpc := Bf.pcsF_go hm (Bf.strL_ok) g1.z hgo
      have hag : ∀ k, k < R * C → f1 k = h k := Bf.pcsF_same (p := r' * C + c') (ix_lt zr' zc') gg.z.z g2.z.z gg.uniq g2.uniq (hpc.trans hall)
      refine fun x dx nx ndx nex => ?_
      have s6 : Same H5 (upd (upd H5 dx (.own x)) x (.ins CL dx [])) := (same_upd ndx).trans (same_upd (by rw [upd_ne nex.symm]; exact nx))
      refine ⟨x, dx, _, rfl, upd_same, fun fs h1 h2 => ⟨rfl, ?_⟩⟩
      refine q _ x (.L (Bf.strL r c r' c')) (fun y o e => ?_) ⟨dx, fs, upd_same, h1, h2, by omega⟩ ?_
      · rw [upd_ne (ne_of_none (s05 _ _ e) nx)]
        exact s6 _ _ (s05 _ _ e)
      · show ledB R C (f, r, c) (Bf.strL r c r' c') h = true
        unfold ledB
        rw [hgo]
        exact decide_eq_true hag
end
end Tr
namespace Tr
open PySem PySem.Spec PyProof.Rows L2
theorem scTold : FnScope ["one", "other"] ["one", "other"] (defScope d_told) := ⟨rfl, rfl, rfl, by decide +kernel, rfl, by decide +kernel, by decide +kernel⟩
section
variable {P : Program} {w : World} {K : PySem.W.Frag} {mg : Str → Option Value} {base : Heap}
theorem ok_told {fa CL CO CP fT fW fX fY : Addr} {fd fdT fdW fdX fdY : FuncData} {k jT jW jX jY : Nat} (F : Fun K "told" "told" d_told fa fd) (mL : mg "len" = none) (hT : jT ≤ k) (hW : jW ≤ k) (hX : jX ≤ k) (hY : jY ≤ k)
    (GT : FnOk P w K mg base CX0 jT fT fdT ["tray"] spCheckT) (gT : mg "check_tray" = some (.ref fT)) (kT : PySem.W.keepIn K (.ref fT) = true) (bT : Binds K fdT ["tray"] [])
    (GW : FnOk P w K mg base CX0 jW fW fdW ["tray"] spWide) (gW : mg "is_wide" = some (.ref fW)) (kW : PySem.W.keepIn K (.ref fW) = true) (bW : Binds K fdW ["tray"] [])
    (GX : FnOk P w K mg base CX0 jX fX fdX ["one", "other"] (spAns CL CO CP fun R C => 2 ≤ R ∧ 2 ≤ C)) (gX : mg "told_of_wide" = some (.ref fX)) (kX : PySem.W.keepIn K (.ref fX) = true) (bX : Binds K fdX ["one", "other"] [])
    (GY : FnOk P w K mg base CX0 jY fY fdY ["one", "other"] (spAns CL CO CP fun R C => R = 1 ∨ C = 1)) (gY : mg "told_of_narrow" = some (.ref fY)) (kY : PySem.W.keepIn K (.ref fY) = true) (bY : Binds K fdY ["one", "other"] []) :
    FnOk P w K mg base (L2.CX P w) (k + 1) fa fd ["one", "other"] (spTold CL CO CP) := by
  refine F.okX scTold (fun vs H Q E h => ?_) (fun cdv A outer s0 H vs Q E hr h => ?_)
  · obtain ⟨a, b, R, C, s, g, rfl, _⟩ := h
    rfl
  · obtain ⟨a, b, R, C, s, g, rfl, T, q⟩ := h
    refine ⟨_, pss_cons (ps_expr (pe_call GT (hr.mono hT) (by rfl) gT kT bT .nil pass0 (pa_cons (pv 0) pa_nil)))
      (pss_cons (ps_expr (pe_call GT (hr.mono hT) (by rfl) gT kT bT .nil pass0 (pa_cons (pv 1) pa_nil)))
      (pss_cons (ps_if (PW.pt (pw_or (pt_cmpR op_ne (pe_callB call_len_seq (by rfl) mL PySem.boot_len (pa_cons (pv 0) pa_nil)) (pe_callB call_len_seq (by rfl) mL PySem.boot_len (pa_cons (pv 1) pa_nil)) (nomark _))
          (pw_or1 (pt_cmpR op_ne (pe_callB call_len_seq (by rfl) mL PySem.boot_len (pa_cons (pe_ix ix_list (pv 0) pe_int (fun _ _ => rfl)) pa_nil)) (pe_callB call_len_seq (by rfl) mL PySem.boot_len (pa_cons (pe_ix ix_list (pv 1) pe_int (fun _ _ => rfl)) pa_nil)) (nomark _)))))
          pss_never pss_nil)
      (pss_cons (ps_if (pt_val (pe_call GW (hr.mono hW) (by rfl) gW kW bW .nil pass0 (pa_cons (pv 0) pa_nil))) (pss_one (ps_ret (pe_call GX (hr.mono hX) (by rfl) gX kX bX .nil pass0 (pa_cons (pv 0) (pa_cons (pv 1) pa_nil))))) pss_nil)
      (pss_one (ps_ret (pe_call GY (hr.mono hY) (by rfl) gY kY bY .nil pass0 (pa_cons (pv 0) (pa_cons (pv 1) pa_nil)))))))), ?_⟩
    obtain ⟨rs, Ta⟩ := T.one
    obtain ⟨rs2, Tb⟩ := T.two
    have g1 := T.g1
    have g2 := T.g2
    refine ⟨_, rfl, a, rs, R, C, s.1, rfl, Ta, g1.r0, g1.r6, g1.c0, g1.c6, g1.full, fun H1 s1 => ?_⟩
    refine ⟨_, rfl, b, rs2, R, C, g.1, rfl, Tb.mono s1, g1.r0, g1.r6, g1.c0, g1.c6, g2.full, fun H2 s2 => ?_⟩
    have s02 := s1.trans s2
    have Ta2 := Ta.mono s02
    have Tb2 := Tb.mono s02
    obtain ⟨r0, _, a2, a3⟩ := Ta2.get (i := 0) g1.r0
    obtain ⟨r1, _, b2, b3⟩ := Tb2.get (i := 0) g1.r0
    refine ⟨_, rfl, a, _, rfl, .inl (SqL.of Ta2.top), _, rfl, b, _, rfl, .inl (SqL.of Tb2.top), rfl, _, rfl, ?_⟩
    refine iteNS (by rw [List.length_map, Ta2.len, List.length_map, Tb2.len]) ?_
    refine ⟨_, rfl, a, _, (0 : Int), _, rfl, rfl, SqL.of Ta2.top, atI_nat (j := 0) a2, r0, _, rfl, .inl (SqL.of a3), _, rfl, b, _, (0 : Int), _, rfl, rfl, SqL.of Tb2.top, atI_nat (j := 0) b2, r1, _, rfl, .inl (SqL.of b3), rfl, _, rfl, ?_⟩
    refine iteNS (by rw [rowV_len, rowV_len]) ?_
    refine ⟨_, rfl, a, rs, R, C, s.1, rfl, Ta2, g1.r0, _, rfl, ?_⟩
    refine decI (fun z => ?_) (fun z => ?_)
    · exact ⟨_, rfl, _, rfl, a, b, R, C, s, g, rfl, T.mono s02, by omega, fun H' o n sm h1 h2 => q H' o n (s02.trans sm) h1 h2⟩
    · have h1 := g1.r0
      have h2 := g1.c0
      exact ⟨_, rfl, _, rfl, a, b, R, C, s, g, rfl, T.mono s02, by omega, fun H' o n sm h1 h2 => q H' o n (s02.trans sm) h1 h2⟩
end
end Tr
/-! defs that run where no repr is under way -/
namespace Tr
open PySem PySem.Spec PyProof.Rows L2
/-- a promise of a def, for calls with no repr under way -/
structure FnG (P : Program) (w : World) (K : PySem.W.Frag) (mg : Str → Option Value) (base : Heap) (CX : CXT) (k : Nat) (f : Addr) (fd : FuncData) (ps : List Str) (sp : Sp) : Prop where
  num : ∀ {vs H Q E}, sp vs H Q E → vs.length = ps.length
  go : ∀ {A : Around} {outer : List Env} {s : Shared} {H : Hp} {args : Args} {us : List Value} {vs : List V} {Q : VK} {E : XK}, A.guards = some [] → Room k A → Env0 P w K mg base A outer s H → BindsTo s fd args (ps.zip us) → Vals vs us → sp vs H Q E →
    codeAny (model P w) A (.call (.ref f) args) (CR CX outer P w H s Q E) s
theorem FnG.mono {P : Program} {w : World} {K : PySem.W.Frag} {mg : Str → Option Value} {base : Heap} {CX : CXT} {j k : Nat} {f : Addr} {fd : FuncData} {ps : List Str} {sp : Sp} (G : FnG P w K mg base CX j f fd ps sp) (h : j ≤ k) : FnG P w K mg base CX k f fd ps sp :=
  ⟨G.num, fun hg hr => G.go hg (hr.mono h)⟩
/-- what a body's end says of the call -/
theorem end_says {CX : CXT} {P : Program} {w : World} {K : PySem.W.Frag} {mg : Str → Option Value} {base : Heap} {N : List Str} {qual : Str} {sc : Scope} {f : Addr} {cdv : Value} {A : Around} {outer : List Env} {s s' : Shared} {H : Hp} {Q : VK} {E : XK} :
    ∀ {fl : Flow}, SP (cxOf CX P w K mg base N qual sc f cdv A outer s H E) [] { nx := fun _ H' => Q .non H', rt := Q } fl s' → ∃ v u, (fl = .ret u ∨ (fl = .next ∧ u = Value.none)) ∧ RelV v u ∧ ∃ σ' H', Inv (cxOf CX P w K mg base N qual sc f cdv A outer s H E) [] σ' H' s' ∧ Q v H'
  | .ret u, ⟨v, σ', H', J, rv, q⟩ => ⟨v, u, .inl rfl, rv, σ', H', J, q⟩
  | .next, ⟨σ', H', J, q⟩ => ⟨.non, .none, .inr ⟨rfl, rfl⟩, rfl, σ', H', J, q⟩
  | .brk, ⟨_, _, _, q⟩ => q.elim
  | .cont, ⟨_, _, _, q⟩ => q.elim
section
variable {P : Program} {w : World} {K : PySem.W.Frag} {mg : Str → Option Value} {base : Heap}
theorem okG {x qual : Str} {st : Stmt} {f : Addr} {fd : FuncData} {N ps : List Str} {k : Nat} {sp : Sp} (F : Fun K x qual st f fd) (S : FnScope N ps (defScope st)) (num : ∀ vs H Q E, sp vs H Q E → vs.length = ps.length)
    (body : ∀ (cdv : Value) (A : Around) (outer : List Env) (s : Shared) (H : Hp) (vs : List V) (Q : VK) (E : XK), A.guards = some [] → Room k (A.deeper (envOfC qual (defScope st) s.heap.objs.size f cdv)) → sp vs H Q E →
      ∃ t, PSs (cxOf CX0 P w K mg base N qual (defScope st) f cdv A outer s H E).nox (defBody st) t ∧ t { nx := fun _ H' => Q .non H', rt := Q } (start N vs) H) : FnG P w K mg base CX0 (k + 1) f fd ps sp := by
  obtain ⟨oc, od, kV, doc, pm, an, cdv, ct, osl, rfl, lk, hcd⟩ := F.ex
  refine ⟨fun h => num _ _ _ _ h, ?_⟩
  intro A outer s H args us vs Q E hg hr e0 hb r hsp
  have inK : K.In s.heap := e0.mod.kin.keeps fun b o e => (e0.bs b o e).1
  have cells : ∀ y ∈ ps.zip us, (defScope st).names.lookup y.1 = some .local ∨ ((defScope st).names.lookup y.1 = some .cell ∧ ((cellsFrom (s.heap.objs.size + 1) (defScope st).names []).lookup y.1).isSome = true) := by
    rintro ⟨n, v⟩ hy
    exact (S.par n (List.of_mem_zip hy).1).imp id fun q => ⟨q, PySem.W.cellsFrom_some _ _ _ (.inl q)⟩
  refine codeAny_call_function hr.depth (inK _ _ lk) rfl S.co S.gen rfl (PySem.W.codeRec_of inK hcd) (hb _ _ _ _ (wpAny_newFunctionEnv_cells S.kind cells ?_))
  rintro env rfl s1 x
  refine ⟨(e0.mod.nolimit.keeps fun b o e => (e0.bs b o e).1).keeps x.toInCall.keep, codeAny_func ?_⟩
  obtain ⟨t, ht, hq⟩ := body cdv A outer s H vs Q E hg (hr.deeper _) hsp
  refine wpAny_mono (ht.nox.run [] s1 (start N vs) H _ (inv_start S hr.hd e0 (num _ _ _ _ hsp) r x) hq) ?_ (fun e s' hs => hs)
  intro fl s' hs
  obtain ⟨v, u, hfl, rv, σ', H', J, q⟩ := end_says hs
  have ce : CE outer P w H s Q u s' := ⟨v, H', J.os, J.bare, J.base, J.hok, rv, q⟩
  rcases hfl with rfl | ⟨rfl, rfl⟩
  · exact ce
  · exact ce
end
section
variable {X : Cx} {k : Nat} {f : Addr} {fd : FuncData} {ps : List Str} {sp : Sp} {x : Str} {p pos : Pos} {e : Expr} {es : List Expr} {t : TA}
/-- a call of such a def, where no repr is under way -/
theorem pe_callG (hG : X.A.guards = some []) (F : FnG X.prog X.w X.K X.mg X.base CX0 k f fd ps sp) (hr : Room k X.A) (hg : Gl X x) (hm : X.mg x = some (.ref f)) (hk : PySem.W.keepIn X.K (.ref f) = true) (hb : Binds X.K fd ps [])
    (ha : PA X (e :: es) t) (hdb : (x == ("__debug__" : Str)) = false := by decide) (he : starEach (e :: es) X.env = (false, eval e X.env) :: starEach es X.env := by rfl) (hpl : (backTo pos (starEach es X.env)).any (·.1) = false := by rfl) :
    PE X (.Call (.Name x p) (e :: es) [] pos) (tCall sp [] E0 t) := by
  refine ⟨fun pins s σ H Q I h => wpAny_Call_Name_kw (ld_glob I hg hm (PySem.W.callWith_K (h₀ := X.base) I.ok.mod.kin hk ?_ he hpl) hdb)⟩
  refine thn (ha.run pos pins s σ H _ I h) ?_
  rintro us s1 ⟨vs, H1, I1, r, q⟩
  refine ⟨I1.kIn, wpAny_call (codeAny_mono (F.go hG hr I1.env0 (hb s1 us I1.kIn ?_) (r.append .nil) q) ?_)⟩
  · have h1 := F.num q
    have h2 := (r.append (.nil : Vals [] [])).length
    rw [← h2]
    exact h1
  · intro res s' hq
    match res, hq with
    | .error _, hq => exact hq.elim
    | .ok (.ret u), hq => exact I1.after hq
    | .ok .next, hq => exact hq.elim
    | .ok .brk, hq => exact hq.elim
    | .ok .cont, hq => exact hq.elim
/-- str of a list of lists .. of what can be told -/
theorem call_strG (hG : X.A.guards = some []) : CallR X (.type "str") (fun xs H Q => ∃ a d, xs = [.ref a] ∧ Dp X.K H (.ref a) d ∧ d.showable = true ∧ d.hasDict = false ∧ X.A.units + (d.depth + 3) < cLine ∧ d.shown.length ≤ sizeLine ∧ Q (.str d.shown) H) := by
  intro pins s σ H xs us Q I r h
  obtain ⟨a, d, rfl, hd, h1, h2, h3, h4, q⟩ := h
  obtain ⟨u, rfl, rx⟩ := vals1 r
  cases rx
  obtain ⟨as, rd⟩ := Dp.reads I d _ _ hd (show RelV (.ref a) (.ref a) from rfl)
  exact str_of_reads rd h1 (fun z => by rw [h2] at z; cases z) hG h3 (fun _ _ e => e) (fun h' u tk hk => ⟨.str d.shown, H, I.kept (t' := tk) hk, ⟨_, rfl⟩, q⟩) h4
end
end Tr
/-! a law's def that holds where no repr is under way: the end -/
namespace Tr
open PySem PySem.Spec PyProof.Rows L2
/-- what is tracked at the start: at most the script -/
structure Init (P : Program) (w : World) (K : PySem.W.Frag) (s : Shared) (a : Addr) (H : Hp) : Prop where
  only : ∀ b u, H b = some u → b = a ∧ K.lookup a = none ∧ ∃ ob xs, u = .frz ob (.lst xs)
  hok : HOk P w H s.heap
theorem Init.none {P : Program} {w : World} {K : PySem.W.Frag} {s : Shared} {a : Addr} : Init P w K s a (fun _ => none) := ⟨(fun _ _ h => nomatch h), (fun _ _ h => nomatch h)⟩
theorem Init.one {P : Program} {w : World} {K : PySem.W.Frag} {s : Shared} {a : Addr} {vs : List Value} {ns : List Int} (hk : K.lookup a = Option.none) (ha : s.heap.get? a = some { cls := .type "list", data := .seq vs.toArray }) (hi : IntsAre vs ns) (hl : ns.length ≤ sizeLine) :
    Init P w K s a (upd (fun _ => Option.none) a (.frz { cls := .type "list", data := .seq vs.toArray } (.lst (ns.map V.int)))) := by
  constructor
  · intro b u h
    by_cases e : b = a
    · subst e
      rw [upd_same] at h
      exact ⟨rfl, hk, _, _, (Option.some.inj h).symm⟩
    · rw [upd_ne e] at h
      cases h
  · intro b u h
    by_cases e : b = a
    · subst e
      rw [upd_same] at h
      cases h
      exact ⟨ha, by rw [List.length_map]; exact hl, vs, _, vals_ints hi, ha⟩
    · rw [upd_ne e] at h
      cases h
/-- the def is called on the script, as the world lays it -/
theorem start_G {P : Program} {w : World} {K : PySem.W.Frag} {mg mb : Str → Option Value} {k : Nat} {fa a : Addr} {fd : FuncData} {x : Str} {sp : Sp} {s : Shared} {vs : List Value} {H : Hp} (I : Init P w K s a H)
    (KX : K.In s.heap) (hns : s.heap.Ns mainGlobals mg) (hb : s.heap.Ns builtinsNs mb) (hbb : ∀ x : Str, x ≠ "__name__" → mb x = bootBuiltins x) (hlim : s.heap.NoLimit) (hg : s.gens = #[]) (ha : s.heap.get? a = some { cls := .type "list", data := .seq vs.toArray }) (hr : Room k callerA)
    (G : ∀ base : Heap, K.In base → base.Ns mainGlobals mg → FnG P w K mg base CX0 k fa fd [x] sp) (hbind : ∀ (s : Shared) (u : Value), BindsTo s fd ⟨[u], []⟩ [(x, u)]) (hsp : sp [.ref a] H (fun v _ => v = .bl true) fun _ _ _ => False) :
    codeAny (model P w) callerA (.call (.ref fa) ⟨[.ref a], []⟩) (fun r s' => r = .ok (.ret (.bool true)) ∧ OldK s.heap s'.heap ∧ s'.os = s.os ∧ AllBare s'.gens) s := by
  have free : ∀ {b : Addr} {o : Obj}, s.heap.get? b = some o → (b = a → K.lookup a ≠ Option.none ∨ ∀ vs n, o.data ≠ .seq vs n) → H b = Option.none := by
    intro b o ho hne
    cases q : H b with
    | none => rfl
    | some u =>
      obtain ⟨rfl, hk, _⟩ := I.only b u q
      rcases hne rfl with z | z
      · exact absurd hk z
      · rw [ha] at ho
        cases ho
        exact absurd rfl (z vs.toArray _)
  have ns_of : ∀ {b : Addr} {m : Str → Option Value}, s.heap.Ns b m → (hidT s.heap H).Ns b m := by
    rintro b m ⟨o, es, ep, e, d, r⟩
    exact ⟨o, es, ep, hidT_get e (free e fun _ => .inr fun vs n z => by rw [d] at z; cases z), d, r⟩
  have inK : K.In (hidT s.heap H) := fun b o e => hidT_get (KX b o e) (free (KX b o e) fun z => .inl (by rw [← z, e]; exact fun h => nomatch h))
  have md : Mod K mg (hidT s.heap H) := by
    obtain ⟨mc, h1, h2⟩ := hlim
    exact ⟨inK, ns_of hns, ⟨mb, ns_of hb, hbb⟩, ⟨mc, ns_of h1, h2⟩⟩
  have env : Env0 P w K mg (hidT s.heap H) callerA [] s H := ⟨rfl, md, fun _ _ e => of_hidT e, Nat.le_of_eq (hidT_size _ _), trivial, fun b hb => absurd (show b ∈ ([] : List Addr) from hb) (by simp), I.hok, AllBare.of_eq hg⟩
  refine codeAny_mono ((G _ inK (ns_of hns)).go (us := [.ref a]) (vs := [.ref a]) rfl hr env (hbind s (.ref a)) (.cons rfl .nil) hsp) ?_
  intro res s' h
  match res, h with
  | .error _, h => exact h.elim
  | .ok .next, h => exact h.elim
  | .ok .brk, h => exact h.elim
  | .ok .cont, h => exact h.elim
  | .ok (.ret u), ⟨v, H', os, bare, un, hok', rv, q⟩ =>
    have q : v = .bl true := q
    subst q
    obtain rfl : u = Value.bool true := rv
    refine ⟨rfl, OldK.of_keep ?_, os, bare⟩
    intro b o e
    cases q : H b with
    | none => exact un.keep b o e q (by intro z; exact absurd (show b ∈ ([] : List Addr) from z) (by simp)) (by simp)
    | some u =>
      obtain ⟨_, _, ob, xs, rfl⟩ := I.only b u q
      obtain ⟨e1, _⟩ := I.hok b _ q
      obtain ⟨e2, _⟩ := hok' b _ (un.frzs b ob _ q)
      rw [e] at e1
      cases e1
      exact e2
theorem walk_G {l : PySem.W.OpenLaw} {n k : Nat} {q : Program} {loose : List Str} {XP : (Str → Option Value) → Heap → Prop} {YP : World → Heap → Prop} {d : DefRec} {K : Params → PySem.W.Frag} {sp : World → Sp} {x : Str}
    (hn : l.most = some n) (hn2 : n ≤ sizeLine) (hdf : d.params.defaults = []) (hr : Room k callerA) (hY : ∀ (w : World) (h : Heap), YP w h → (K w.params).In h)
    (G : ∀ (w : World) (mg : Str → Option Value) (fa : Addr) (h : Heap), (K w.params).In h → h.Ns mainGlobals mg → mg d.name = some (.ref fa) →
      ∃ fd : FuncData, (∀ (s : Shared) (u : Value), BindsTo s fd ⟨[u], []⟩ [(x, u)]) ∧ ∀ base : Heap, (K w.params).In base → base.Ns mainGlobals mg → FnG l.prog w (K w.params) mg base CX0 k fa fd [x] (sp w))
    (hsp : ∀ (w : World) (H : Hp) (a : Addr) (ns : List Int), ns.length ≤ n → (∀ z ∈ ns, Builtin.Int.intBits z ≤ 1048576) → SqL (K w.params) H a (ns.map V.int) → sp w [.ref a] H (fun v _ => v = .bl true) fun _ _ _ => False) :
    PySem.W.WalkO q loose XP YP l.row.toRowW d [] (fun f vs => PySem.call f vs) := by
  refine Att.attach_callB hn hdf ?_
  intro w s₀ s mg mb fa o pm cd doc a vs ns Gr Y ho hd hcd hmg hobj hints hlen hbits hg
  have KX := hY w _ Y
  obtain ⟨fd, hb, hF⟩ := G w mg fa _ KX Gr.T.g hmg
  have hl := Nat.le_trans hlen hn2
  cases hk : (K w.params).lookup a with
  | none => exact start_G (Init.one hk hobj hints hl) KX Gr.T.g Gr.T.b Gr.T.builtins Gr.T.nolimit hg hobj hr hF hb (hsp w _ a ns hlen hbits (.inl (.inr ⟨_, upd_same⟩)))
  | some o =>
    have e := KX a o hk
    rw [hobj] at e
    cases e
    refine start_G Init.none KX Gr.T.g Gr.T.b Gr.T.builtins Gr.T.nolimit hg hobj hr hF hb (hsp w _ a ns hlen hbits (.inr ⟨_, vs.toArray, _, hk, rfl, rfl, rfl, ?_, ?_⟩))
    · rw [List.size_toArray, hints.length]
      exact hl
    · simpa using vals_ints hints
end Tr
/-! All trays that slides lead to; half of all -/
namespace Bf
open Tr
/-! ### all orders -/
def ins (a : Int) : List Int → List (List Int)
  | [] => [[a]]
  | b :: l => (a :: b :: l) :: (ins a l).map (b :: ·)
def perms : List Int → List (List Int)
  | [] => [[]]
  | a :: l => (perms l).flatMap (ins a)
theorem mem_ins {a : Int} : ∀ {l x : List Int}, x ∈ ins a l ↔ ∃ u v, l = u ++ v ∧ x = u ++ a :: v
  | [], x => by
    constructor
    · intro h
      rw [List.mem_singleton.mp h]
      exact ⟨[], [], rfl, rfl⟩
    · rintro ⟨u, v, h1, h2⟩
      obtain ⟨rfl, rfl⟩ := List.append_eq_nil_iff.mp h1.symm
      exact List.mem_singleton.mpr h2
  | b :: l, x => by
    show x ∈ (a :: b :: l) :: (ins a l).map (b :: ·) ↔ _
    rw [List.mem_cons, List.mem_map]
    constructor
    · rintro (h | ⟨y, hy, rfl⟩)
      · exact ⟨[], b :: l, rfl, h⟩
      · obtain ⟨u, v, h1, h2⟩ := mem_ins.mp hy
        exact ⟨b :: u, v, by rw [h1]; rfl, by rw [h2]; rfl⟩
    · rintro ⟨u, v, h1, h2⟩
      match u, h1, h2 with
      | [], h1, h2 =>
        have h1 : b :: l = v := h1
        exact .inl (by rw [h2, h1]; rfl)
      | c :: u, h1, h2 =>
        have e1 := List.head_eq_of_cons_eq h1
        have e2 := List.tail_eq_of_cons_eq h1
        subst e1
        exact .inr ⟨u ++ a :: v, mem_ins.mpr ⟨u, v, e2, rfl⟩, by rw [h2]; rfl⟩
theorem mem_perms : ∀ {l x : List Int}, x ∈ perms l ↔ x.Perm l
  | [], x => by
    show x ∈ [[]] ↔ _
    rw [List.mem_singleton]
    exact ⟨fun h => by rw [h], fun h => List.perm_nil.mp h⟩
  | a :: l, x => by
    show x ∈ (perms l).flatMap (ins a) ↔ _
    rw [List.mem_flatMap]
    constructor
    · rintro ⟨y, hy, hx⟩
      obtain ⟨u, v, rfl, rfl⟩ := mem_ins.mp hx
      exact List.perm_middle.trans ((mem_perms.mp hy).cons a)
    · intro h
      have ha : a ∈ x := h.mem_iff.mpr List.mem_cons_self
      obtain ⟨u, v, rfl⟩ := List.append_of_mem ha
      refine ⟨u ++ v, mem_perms.mpr ?_, mem_ins.mpr ⟨u, v, rfl, rfl⟩⟩
      exact (List.perm_cons a).mp (List.perm_middle.symm.trans h)
abbrev rgI (n : Nat) : List Int := (List.range n).map fun k : Nat => (k : Int)
def PL (n : Nat) : List (List Int) := perms (rgI n)
/-! ### two numbers exchanged -/
theorem crossL_exch {n : Nat} {f g g' : Fld} (hf : Full n f) (hg : Full n g) (hg' : Full n g') {p q : Nat} (hp : p < n) (hq : q < n) (hne : p ≠ q) (h1 : g' p = g q) (h2 : g' q = g p) (h3 : ∀ k, k < n → k ≠ p → k ≠ q → g' k = g k) :
    (crossed n f g + crossed n f g') % 2 = 1 := by
  have ha := posOf_lt hg hf hp
  have hb := posOf_lt hg hf hq
  have fa := posOf_get hg hf hp
  have fb := posOf_get hg hf hq
  generalize posOf n f (g p) = a at *
  generalize posOf n f (g q) = b at *
  have gne : g p ≠ g q := fun e => hne (full_inj hg hp hq e)
  have hab : a ≠ b := fun e => gne (by rw [← fa, ← fb, e])
  have pos : ∀ {g : Fld}, Full n g → ∀ k, k < n → posOf n g (g k) = k := fun {g} hg k hk => full_inj hg (posOf_lt hg hg hk) hk (posOf_get hg hg hk)
  have la : a < (crossL n f g).length := by rw [crossL_len]; exact ha
  have lb : b < (crossL n f g).length := by rw [crossL_len]; exact hb
  have xat : ∀ {i : Nat} (hi : i < n) (hl : i < (crossL n f g).length), (crossL n f g)[i] = posOf n g (f i) := fun {i} hi hl => by
    have e1 := crossL_get (f := f) (g := g) hi
    rw [List.getElem?_eq_getElem hl] at e1
    exact Option.some.inj e1
  have xa : (crossL n f g)[a] = p := by rw [xat ha, fa, pos hg p hp]
  have xb : (crossL n f g)[b] = q := by rw [xat hb, fb, pos hg q hq]
  have e : crossL n f g' = ((crossL n f g).set a ((crossL n f g)[b])).set b ((crossL n f g)[a]) := by
    apply List.ext_getElem
    · rw [crossL_len, List.length_set, List.length_set, crossL_len]
    · intro i k1 k2
      have hi : i < n := by rw [crossL_len] at k1; exact k1
      have e1 := crossL_get (f := f) (g := g') hi
      rw [List.getElem?_eq_getElem k1] at e1
      rw [Option.some.inj e1]
      simp only [List.getElem_set, xa, xb]
      by_cases c1 : b = i
      · subst c1
        rw [if_pos rfl, fb, ← h1]
        exact pos hg' p hp
      · rw [if_neg c1]
        by_cases c2 : a = i
        · subst c2
          rw [if_pos rfl, fa, ← h2]
          exact pos hg' q hq
        · rw [if_neg c2, xat hi (by rw [crossL_len]; exact hi)]
          have k1 := posOf_lt hf hg hi
          have k2 := posOf_get hf hg hi
          have n1 : posOf n g (f i) ≠ p := fun z => c2 (by
            rw [z] at k2
            exact full_inj hf ha hi (fa.trans k2))
          have n2 : posOf n g (f i) ≠ q := fun z => c1 (by
            rw [z] at k2
            exact full_inj hf hb hi (fb.trans k2))
          have : g' (posOf n g (f i)) = f i := (h3 _ k1 n1 n2).trans k2
          have k := pos hg' _ k1
          rw [this] at k
          exact k
  have k := inv_set_set (crossL_nodup hf hg) hab la lb
  rw [← e] at k
  exact k
/-- a list of numbers as a field -/
def fo (l : List Int) : Fld := fun k => l.getD k 0
theorem allV_fo {l : List Int} {n : Nat} (h : l.length = n) : allV n (fo l) = l := by
  apply List.ext_getElem?
  intro i
  unfold allV fo
  by_cases hi : i < n
  · rw [List.getElem?_map, List.getElem?_range hi]
    simp [List.getD_eq_getElem?_getD, show i < l.length by omega]
  · rw [List.getElem?_eq_none (by simp; omega), List.getElem?_eq_none (by omega)]
theorem fo_allV {n : Nat} {f : Fld} {k : Nat} (hk : k < n) : fo (allV n f) k = f k := by
  unfold fo allV
  simp [List.getD_eq_getElem?_getD, hk]
theorem full_fo {n : Nat} {l : List Int} (h : l.Perm (rgI n)) : Full n (fo l) := by
  have hl : l.length = n := by rw [h.length_eq]; simp
  unfold Full
  rw [allV_fo hl]
  exact h
/-- the tray of an order -/
def slOf (C : Nat) (l : List Int) : Sl := (fo l, l.idxOf 0 / C, l.idxOf 0 % C)
theorem good_slOf {R C : Nat} (hR0 : 0 < R) (hR : R ≤ 6) (hC0 : 0 < C) (hC : C ≤ 6) {l : List Int} (h : l.Perm (rgI (R * C))) : Good R C (slOf C l) := by
  have hl : l.length = R * C := by rw [h.length_eq]; simp
  have h0 : (0 : Int) ∈ l := h.mem_iff.mpr (List.mem_map.mpr ⟨0, List.mem_range.mpr (Nat.mul_pos hR0 hC0), rfl⟩)
  have hi := List.idxOf_lt_length_of_mem h0
  have hg := List.getElem_idxOf hi
  obtain ⟨c1, c2, c3⟩ := cell_div (R := R) (C := C) (k := l.idxOf 0) (by omega)
  refine ⟨hR0, hR, hC0, hC, full_fo h, ⟨c1, c2, ?_⟩⟩
  show fo l (ixc C (l.idxOf 0 / C, l.idxOf 0 % C)) = 0
  rw [c3]
  unfold fo
  rw [List.getD_eq_getElem?_getD, List.getElem?_eq_getElem hi, hg]
  rfl
def evenB (R C : Nat) (s : Sl) (l : List Int) : Bool := decide ((crossed (R * C) s.1 (fo l) + steps s.2.1 s.2.2 (slOf C l).2.1 (slOf C l).2.2) % 2 = 0)
def sw12 (l : List Int) : List Int := l.map fun v => if v = 1 then 2 else if v = 2 then 1 else v
theorem sw12_sw12 (l : List Int) : sw12 (sw12 l) = l := by
  unfold sw12
  rw [List.map_map]
  have : ∀ v : Int, ((fun v : Int => if v = 1 then 2 else if v = 2 then 1 else v) ∘ fun v : Int => if v = 1 then 2 else if v = 2 then 1 else v) v = v := fun v => by
    show (if (if v = 1 then (2 : Int) else if v = 2 then 1 else v) = 1 then (2 : Int) else if (if v = 1 then (2 : Int) else if v = 2 then 1 else v) = 2 then 1 else (if v = 1 then (2 : Int) else if v = 2 then 1 else v)) = v
    by_cases h1 : v = 1
    · subst h1; rfl
    · by_cases h2 : v = 2
      · subst h2; rfl
      · simp [h1, h2]
  rw [List.map_congr_left fun v _ => this v]
  exact List.map_id _
theorem idx_sw12 : ∀ l : List Int, (sw12 l).idxOf 0 = l.idxOf 0
  | [] => rfl
  | v :: l => by
    have ih := idx_sw12 l
    show ((if v = 1 then (2 : Int) else if v = 2 then 1 else v) :: sw12 l).idxOf 0 = (v :: l).idxOf 0
    simp only [List.idxOf_cons, ih]
    by_cases h1 : v = 1
    · subst h1; rfl
    · by_cases h2 : v = 2
      · subst h2; rfl
      · rw [if_neg h1, if_neg h2]
theorem sw12_perm {n : Nat} (hn : 3 ≤ n) {l : List Int} (h : l.Perm (rgI n)) : (sw12 l).Perm (rgI n) := by
  have h1 : (sw12 l).Perm (sw12 (rgI n)) := h.map _
  refine h1.trans ?_
  have nd : (rgI n).Nodup := by
    unfold List.Nodup
    rw [List.pairwise_map]
    exact List.nodup_range.imp fun h e => h (by omega)
  have nd2 : (sw12 (rgI n)).Nodup := by
    unfold sw12 List.Nodup
    rw [List.pairwise_map]
    refine nd.imp fun {a b} hab e => hab ?_
    by_cases a1 : a = 1 <;> by_cases a2 : a = 2 <;> by_cases b1 : b = 1 <;> by_cases b2 : b = 2 <;> simp_all <;> omega
  refine (List.perm_ext_iff_of_nodup nd2 nd).mpr fun x => ?_
  have m : ∀ y : Int, y ∈ rgI n ↔ 0 ≤ y ∧ y < n := fun y => by
    rw [List.mem_map]
    constructor
    · rintro ⟨k, hk, rfl⟩
      have := List.mem_range.mp hk
      omega
    · rintro ⟨a, b⟩
      exact ⟨y.toNat, List.mem_range.mpr (by omega), by omega⟩
  unfold sw12
  rw [List.mem_map, m]
  constructor
  · rintro ⟨y, hy, rfl⟩
    have := (m y).mp hy
    by_cases h1 : y = 1
    · subst h1; simp; omega
    · by_cases h2 : y = 2
      · subst h2; simp; omega
      · simp [h1, h2]; omega
  · rintro ⟨a, b⟩
    by_cases h1 : x = 1
    · exact ⟨2, (m 2).mpr (by omega), by simp [h1]⟩
    · by_cases h2 : x = 2
      · exact ⟨1, (m 1).mpr (by omega), by simp [h2]⟩
      · exact ⟨x, (m x).mpr ⟨a, b⟩, by simp [h1, h2]⟩
theorem even_sw12 {R C : Nat} {s : Sl} (hs : Good R C s) (hn : 3 ≤ R * C) {l : List Int} (h : l.Perm (rgI (R * C))) : evenB R C s (sw12 l) = !evenB R C s l := by
  have hl : l.length = R * C := by rw [h.length_eq]; simp
  have h' := sw12_perm hn h
  have m1 : (1 : Int) ∈ l := h.mem_iff.mpr (List.mem_map.mpr ⟨1, List.mem_range.mpr (by omega), rfl⟩)
  have m2 : (2 : Int) ∈ l := h.mem_iff.mpr (List.mem_map.mpr ⟨2, List.mem_range.mpr (by omega), rfl⟩)
  obtain ⟨p, hp⟩ := List.mem_iff_getElem?.mp m1
  obtain ⟨q, hq⟩ := List.mem_iff_getElem?.mp m2
  have hpl := (List.getElem?_eq_some_iff.mp hp).1
  have hql := (List.getElem?_eq_some_iff.mp hq).1
  have at_ : ∀ k, fo (sw12 l) k = (fun v : Int => if v = 1 then (2 : Int) else if v = 2 then 1 else v) (fo l k) := fun k => by
    unfold fo sw12
    simp only [List.getD_eq_getElem?_getD, List.getElem?_map]
    cases l[k]? with
    | none => rfl
    | some v => rfl
  have gp : fo l p = 1 := by unfold fo; rw [List.getD_eq_getElem?_getD, hp]; rfl
  have gq : fo l q = 2 := by unfold fo; rw [List.getD_eq_getElem?_getD, hq]; rfl
  have hpq : p ≠ q := fun e => by rw [e, gq] at gp; cases gp
  have hf := full_fo h
  have c := crossL_exch (g := fo l) (g' := fo (sw12 l)) hs.full hf (full_fo h') (p := p) (q := q) (by omega) (by omega) hpq (by rw [at_, gp, gq]; rfl) (by rw [at_, gp, gq]; rfl) fun k hk k1 k2 => by
    rw [at_]
    have n1 : fo l k ≠ 1 := fun e => k1 (full_inj hf hk (by omega) (e.trans gp.symm))
    have n2 : fo l k ≠ 2 := fun e => k2 (full_inj hf hk (by omega) (e.trans gq.symm))
    show (if fo l k = 1 then (2 : Int) else if fo l k = 2 then 1 else fo l k) = fo l k
    rw [if_neg n1, if_neg n2]
  have e2 : (slOf C (sw12 l)).2 = (slOf C l).2 := by
    unfold slOf
    rw [idx_sw12]
  unfold evenB
  rw [e2]
  by_cases d : (crossed (R * C) s.1 (fo l) + steps s.2.1 s.2.2 (slOf C l).2.1 (slOf C l).2.2) % 2 = 0
  · rw [decide_eq_true d, decide_eq_false (by omega)]
    rfl
  · rw [decide_eq_false d, decide_eq_true (by omega)]
    rfl
theorem filt_two {α : Type} (p : α → Bool) : ∀ l : List α, (l.filter p).length + (l.filter fun x => !p x).length = l.length
  | [] => rfl
  | x :: l => by
    have ih := filt_two p l
    cases h : p x with
    | true => rw [List.filter_cons_of_pos h, List.filter_cons_of_neg (by simp [h]), List.length_cons, List.length_cons]; omega
    | false => rw [List.filter_cons_of_neg (by simp [h]), List.filter_cons_of_pos (by simp [h]), List.length_cons, List.length_cons]; omega
/-- half of all are even -/
theorem half {R C : Nat} {s : Sl} (hs : Good R C s) (hn : 3 ≤ R * C) {N : Nat} (hN : (PL (R * C)).length = 2 * N) (nd : (PL (R * C)).Nodup) : ((PL (R * C)).filter (evenB R C s)).length = N := by
  have memP : ∀ l, l ∈ PL (R * C) ↔ l.Perm (rgI (R * C)) := fun l => mem_perms
  have swP : ((PL (R * C)).map sw12).Perm (PL (R * C)) := by
    refine (List.perm_ext_iff_of_nodup ?_ nd).mpr fun x => ?_
    · unfold List.Nodup
      rw [List.pairwise_map]
      exact nd.imp fun {a b} hab e => hab (by rw [← sw12_sw12 a, e, sw12_sw12])
    · rw [List.mem_map]
      constructor
      · rintro ⟨y, hy, rfl⟩
        exact (memP _).mpr (sw12_perm hn ((memP _).mp hy))
      · intro hx
        exact ⟨sw12 x, (memP _).mpr (sw12_perm hn ((memP _).mp hx)), sw12_sw12 x⟩
  have e1 := (swP.filter (evenB R C s)).length_eq
  rw [List.filter_map, List.length_map] at e1
  have e2 : (PL (R * C)).filter (evenB R C s ∘ sw12) = (PL (R * C)).filter fun l => !evenB R C s l :=
    List.filter_congr fun l hl => even_sw12 hs hn ((memP l).mp hl)
  rw [e2] at e1
  have e3 := filt_two (evenB R C s) (PL (R * C))
  omega
theorem erase_ins {a : Int} {l x : List Int} (ha : a ∉ l) (h : x ∈ ins a l) : x.erase a = l := by
  obtain ⟨u, v, rfl, rfl⟩ := mem_ins.mp h
  rw [List.erase_append_right _ (fun m => ha (List.mem_append.mpr (.inl m))), List.erase_cons_head]
theorem ins_nodup {a : Int} : ∀ {l : List Int}, a ∉ l → (ins a l).Nodup
  | [], _ => by simp [ins]
  | b :: l, h => by
    have ih := ins_nodup (a := a) (l := l) fun m => h (List.mem_cons_of_mem _ m)
    show ((a :: b :: l) :: (ins a l).map (b :: ·)).Nodup
    rw [List.nodup_cons]
    refine ⟨fun m => ?_, ?_⟩
    · obtain ⟨y, _, e⟩ := List.mem_map.mp m
      exact h (by rw [List.head_eq_of_cons_eq e]; exact List.mem_cons_self)
    · unfold List.Nodup
      rw [List.pairwise_map]
      exact ih.imp fun hab e => hab (List.tail_eq_of_cons_eq e)
theorem perms_nodup : ∀ {l : List Int}, l.Nodup → (perms l).Nodup
  | [], _ => by simp [perms]
  | a :: l, h => by
    rw [List.nodup_cons] at h
    show ((perms l).flatMap (ins a)).Nodup
    have na : ∀ y ∈ perms l, a ∉ y := fun y hy m => h.1 ((mem_perms.mp hy).mem_iff.mp m)
    unfold List.Nodup
    rw [List.pairwise_flatMap]
    refine ⟨fun y hy => ins_nodup (na y hy), List.Pairwise.imp_of_mem ?_ (perms_nodup h.2)⟩
    intro y z hy hz hyz x hx x' hx' e
    subst e
    exact hyz ((erase_ins (na y hy) hx).symm.trans (erase_ins (na z hz) hx'))
theorem rgI_nodup (n : Nat) : (rgI n).Nodup := by
  unfold List.Nodup
  rw [List.pairwise_map]
  exact List.nodup_range.imp fun h e => h (by omega)
theorem PL_nodup (n : Nat) : (PL n).Nodup := perms_nodup (rgI_nodup n)
theorem PL4 : (PL 4).length = 2 * 12 := by decide +kernel
theorem PL6 : (PL 6).length = 2 * 360 := by decide +kernel
end Bf
/-! What a search over whole trays finds -/
namespace Bf
open Tr
theorem crossed_right {n : Nat} {f g g' : Fld} (h : ∀ k, k < n → g k = g' k) : crossed n f g = crossed n f g' := by
  have e : allV n g = allV n g' := List.map_congr_left fun k hk => h k (List.mem_range.mp hk)
  unfold crossed crossL posOf
  rw [e]
abbrev kyS (n : Nat) (s : Sl) : List Int := allV n s.1
theorem kyS_eq {n : Nat} {s t : Sl} : kyS n s = kyS n t ↔ ∀ k, k < n → s.1 k = t.1 k := by
  constructor
  · intro h k hk
    have := congrArg (fun l : List Int => l[k]?) h
    simpa [kyS, allV, hk] using this
  · intro h
    exact List.map_congr_left fun k hk => h k (List.mem_range.mp hk)
theorem sub_len {α : Type} [DecidableEq α] : ∀ {l m : List α}, l.Nodup → (∀ x ∈ l, x ∈ m) → l.length ≤ m.length
  | [], _, _, _ => Nat.zero_le _
  | a :: l, m, nd, h => by
    rw [List.nodup_cons] at nd
    have ha := h a List.mem_cons_self
    have h1 := List.length_erase_of_mem ha
    have h2 : 0 < m.length := List.length_pos_of_mem ha
    have ih := sub_len (l := l) (m := m.erase a) nd.2 fun x hx => (List.mem_erase_of_ne (fun e : x = a => nd.1 (by rw [← e]; exact hx))).mpr (h x (List.mem_cons_of_mem _ hx))
    rw [List.length_cons]
    omega
structure Seen (R C : Nat) (s0 : Sl) (at' : Nat) (ss : List Sl) : Prop where
  first : ss[0]? = some s0
  nd : (ss.map (kyS (R * C))).Nodup
  way : ∀ s ∈ ss, ∃ ws, goAll R C s0 ws = some s
  done : ∀ (j : Nat) (s : Sl), j < at' → ss[j]? = some s → ∀ (w : Nat) (t : Sl), go1 R C s w = some t → kyS (R * C) t ∈ ss.map (kyS (R * C))
  le : at' ≤ ss.length
theorem Seen.start {R C : Nat} {s0 : Sl} : Seen R C s0 0 [s0] := ⟨rfl, by simp, fun s hs => ⟨[], by rw [List.mem_singleton.mp hs]; rfl⟩, fun j s hj => absurd hj (Nat.not_lt_zero _), Nat.zero_le _⟩
theorem Seen.good {R C : Nat} {s0 s : Sl} {at' : Nat} {ss : List Sl} (b : Seen R C s0 at' ss) (g : Good R C s0) (h : s ∈ ss) : Good R C s := by
  obtain ⟨ws, e⟩ := b.way s h
  exact g.go e
theorem Seen.few {R C : Nat} {s0 : Sl} {at' : Nat} {ss : List Sl} (b : Seen R C s0 at' ss) (g : Good R C s0) : ss.length ≤ (PL (R * C)).length := by
  have h := sub_len (m := PL (R * C)) b.nd fun x hx => by
    obtain ⟨s, hs, rfl⟩ := List.mem_map.mp hx
    exact mem_perms.mpr (b.good g hs).full
  rw [List.length_map] at h
  exact h
structure SMid (R C : Nat) (s0 : Sl) (at' : Nat) (s : Sl) (ls : List Nat) (ss : List Sl) : Prop where
  inv : Seen R C s0 at' ss
  here : ss[at']? = some s
  got : ∀ w ∈ ls, ∀ t, go1 R C s w = some t → kyS (R * C) t ∈ ss.map (kyS (R * C))
theorem SMid.skip {R C : Nat} {s0 s : Sl} {at' w : Nat} {ls : List Nat} {ss : List Sl} (b : SMid R C s0 at' s ls ss) (h : go1 R C s w = none) : SMid R C s0 at' s (ls ++ [w]) ss :=
  ⟨b.inv, b.here, fun x hx t ht => by
    rcases List.mem_append.mp hx with m | m
    · exact b.got x m t ht
    · rw [List.mem_singleton.mp m, h] at ht
      cases ht⟩
theorem SMid.old {R C : Nat} {s0 s t : Sl} {at' w : Nat} {ls : List Nat} {ss : List Sl} (b : SMid R C s0 at' s ls ss) (h : go1 R C s w = some t) (hm : kyS (R * C) t ∈ ss.map (kyS (R * C))) : SMid R C s0 at' s (ls ++ [w]) ss :=
  ⟨b.inv, b.here, fun x hx u hu => by
    rcases List.mem_append.mp hx with m | m
    · exact b.got x m u hu
    · rw [List.mem_singleton.mp m, h] at hu
      rw [← Option.some.inj hu]
      exact hm⟩
theorem SMid.new {R C : Nat} {s0 s t : Sl} {at' w : Nat} {ls : List Nat} {ss : List Sl} (b : SMid R C s0 at' s ls ss) (h : go1 R C s w = some t) (hm : kyS (R * C) t ∉ ss.map (kyS (R * C))) : SMid R C s0 at' s (ls ++ [w]) (ss ++ [t]) := by
  obtain ⟨⟨first, nd, way, done, le⟩, here, got⟩ := b
  have hlt : at' < ss.length := (List.getElem?_eq_some_iff.mp here).1
  have more : ∀ {x : List Int}, x ∈ ss.map (kyS (R * C)) → x ∈ (ss ++ [t]).map (kyS (R * C)) := fun h => by
    rw [List.map_append]
    exact List.mem_append.mpr (.inl h)
  refine ⟨⟨?_, ?_, fun u hu => ?_, fun j u hj hu x y hy => ?_, by simp; omega⟩, ?_, fun x hx u hu => ?_⟩
  · rw [List.getElem?_append_left (by omega)]
    exact first
  · rw [List.map_append, List.nodup_append]
    refine ⟨nd, by simp, fun a ha c hc e => ?_⟩
    rw [List.map_singleton, List.mem_singleton] at hc
    exact hm (hc ▸ e ▸ ha)
  · rcases List.mem_append.mp hu with m | m
    · exact way u m
    · rw [List.mem_singleton.mp m]
      obtain ⟨ws, e⟩ := way s (List.mem_of_getElem? here)
      refine ⟨ws ++ [w], ?_⟩
      rw [goAll_append, e]
      show goAll R C s [w] = some t
      rw [goAll_one]
      exact h
  · rw [List.getElem?_append_left (by omega)] at hu
    exact more (done j u hj hu x y hy)
  · rw [List.getElem?_append_left hlt]
    exact here
  · rcases List.mem_append.mp hx with m | m
    · exact more (got x m u hu)
    · rw [List.mem_singleton.mp m, h] at hu
      rw [← Option.some.inj hu, List.map_append]
      exact List.mem_append.mpr (.inr List.mem_cons_self)
theorem SMid.next {R C : Nat} (hR : R ≤ 9) {s0 s : Sl} {at' : Nat} {ls : List Nat} {ss : List Sl} (b : SMid R C s0 at' s ls ss) (hl : ∀ w, okL w → w ∈ ls) : Seen R C s0 (at' + 1) ss := by
  obtain ⟨⟨first, nd, way, done, le⟩, here, got⟩ := b
  have hlt : at' < ss.length := (List.getElem?_eq_some_iff.mp here).1
  refine ⟨first, nd, way, fun j u hj hu x y hy => ?_, hlt⟩
  by_cases e : j = at'
  · rw [e, here] at hu
    have hu := Option.some.inj hu
    subst hu
    exact got x (hl x (go1_ok hR hy)) y hy
  · exact done j u (by omega) hu x y hy
/-- all is found that slides lead to -/
theorem Seen.all {R C : Nat} {s0 : Sl} {ss : List Sl} (b : Seen R C s0 ss.length ss) (g : Good R C s0) : ∀ {ws : List Nat} {s t : Sl}, Good R C s → kyS (R * C) s ∈ ss.map (kyS (R * C)) → goAll R C s ws = some t → kyS (R * C) t ∈ ss.map (kyS (R * C))
  | [], s, t, _, hm, h => by
    have e := Option.some.inj h
    subst e
    exact hm
  | w :: ws, s, t, hs, hm, h => by
    have h : (go1 R C s w).bind (fun s' => goAll R C s' ws) = some t := h
    cases e : go1 R C s w with
    | none => rw [e] at h; cases h
    | some s1 =>
      rw [e] at h
      have hs1 : Good R C s1 := hs.go (ws := [w]) (by rw [goAll_one]; exact e)
      obtain ⟨u, hu, hk⟩ := List.mem_map.mp hm
      have gu := b.good g hu
      have ag := kyS_eq.mp hk
      obtain ⟨u1, e1, e2, e3⟩ := goAll_agr (same_place hs gu fun k hk => (ag k hk).symm) (fun k hk => (ag k hk).symm) (show goAll R C s [w] = some s1 by rw [goAll_one]; exact e)
      rw [goAll_one] at e1
      obtain ⟨j, hj⟩ := List.mem_iff_getElem?.mp hu
      have m := b.done j u (List.getElem?_eq_some_iff.mp hj).1 hj w u1 e1
      rw [show kyS (R * C) u1 = kyS (R * C) s1 from (kyS_eq.mpr e3).symm] at m
      exact Seen.all b g hs1 m h
/-- where it is even slides lead to it -/
theorem lead_to {R C : Nat} (h1 : 2 ≤ R) (h3 : 2 ≤ C) {s g : Sl} (hs : Good R C s) (hg : Good R C g) (hev : (crossed (R * C) s.1 g.1 + steps s.2.1 s.2.2 g.2.1 g.2.2) % 2 = 0) : ∃ ws t, goAll R C s ws = some t ∧ ∀ k, k < R * C → t.1 k = g.1 k := by
  obtain ⟨f, r, c⟩ := s
  obtain ⟨h, r', c'⟩ := g
  obtain ⟨f1, e1⟩ := go_str (R := R) (C := C) (f := f) hs.z.r hs.z.c (show R - 1 < R by omega) (show C - 1 < C by omega)
  obtain ⟨f2, e2⟩ := go_str (R := R) (C := C) (f := h) hg.z.r hg.z.c (show R - 1 < R by omega) (show C - 1 < C by omega)
  dsimp only at e1 e2
  have gs1 : Good R C (f1, R - 1, C - 1) := hs.go e1
  have gg1 : Good R C (f2, R - 1, C - 1) := hg.go e2
  have hR6 := hs.r6
  have p1 := par_go (by omega) hg.full r' c' hs.z hs.full e1
  have p2 := par_goR (by omega) gs1.full (R - 1) (C - 1) hg.z hg.full e2
  have hev2 : (crossed (R * C) f1 f2 + steps (R - 1) (C - 1) (R - 1) (C - 1)) % 2 = 0 := by
    dsimp only at p1 p2 hev
    omega
  have go : ∀ i, i ≤ (groupsM R C).length → ∃ ws t, (∀ w ∈ ws, okL w) ∧ goAll R C (f1, R - 1, C - 1) ws = some t ∧ Agr R C ((groupsM R C).take i).flatten t (f2, R - 1, C - 1) := by
    intro i
    induction i with
    | zero => exact fun _ => ⟨[], _, (fun _ h => nomatch h), rfl, ⟨fun a h => nomatch h⟩⟩
    | succ i ih =>
      intro hi
      obtain ⟨ws, t, hok, hgo, ag⟩ := ih (by omega)
      have hgi : (groupsM R C)[i]? = some ((groupsM R C)[i]'(by omega)) := List.getElem?_eq_getElem (by omega)
      generalize (groupsM R C)[i]'(by omega) = grp at hgi
      have hk := chk_at h1 hs.r6 h3 hs.c6 hgi
      have gt := gs1.go hgo
      have hev3 : (crossed (R * C) t.1 f2 + steps t.2.1 t.2.2 (R - 1) (C - 1)) % 2 = 0 := by
        have := par_go (by omega) gg1.full (R - 1) (C - 1) gs1.z gs1.full hgo
        dsimp only at this
        omega
      obtain ⟨e', rl⟩ := reach2 gt gg1 rfl ag hk hev3
      obtain ⟨ws2, hok2, hw⟩ := rl.way
      obtain ⟨t2, hgo2, _, ag2⟩ := settle gt gg1 rfl ag hk hw
      refine ⟨ws ++ ws2, t2, fun w hw => ?_, ?_, ?_⟩
      · rcases List.mem_append.mp hw with m | m
        · exact hok w m
        · exact hok2 w m
      · rw [goAll_append, hgo]
        exact hgo2
      · rw [take_more hgi, List.flatten_append]
        simpa using ag2
  obtain ⟨ws, t, hok, hgo, ag⟩ := go _ (Nat.le_refl _)
  rw [List.take_length] at ag
  have hall := settled_all h1 h3 (gs1.go hgo) gg1 ag
  obtain ⟨_, t', h4, h5⟩ := whole hs hg (strL_ok) hok (strL_ok) e1 e2 hgo hall
  exact ⟨_, t', h4, h5⟩
/-- found are just the even ones -/
theorem Seen.even {R C : Nat} (h1 : 2 ≤ R) (h3 : 2 ≤ C) {s0 : Sl} {ss : List Sl} (b : Seen R C s0 ss.length ss) (g : Good R C s0) {l : List Int} (hl : l.Perm (rgI (R * C))) : l ∈ ss.map (kyS (R * C)) ↔ evenB R C s0 l = true := by
  have hlen : l.length = R * C := by rw [hl.length_eq]; simp
  have gl := good_slOf g.r0 g.r6 g.c0 g.c6 hl
  have hR6 := g.r6
  unfold evenB
  rw [decide_eq_true_eq]
  constructor
  · intro m
    obtain ⟨s, hs, rfl⟩ := List.mem_map.mp m
    obtain ⟨ws, e⟩ := b.way s hs
    have gs := b.good g hs
    have ag : ∀ k, k < R * C → s.1 k = fo (kyS (R * C) s) k := fun k hk => (fo_allV hk).symm
    have ev := led_even (by omega) g.z g.full e
    have sp := same_place gs gl ag
    rw [crossed_right ag, sp] at ev
    exact ev
  · intro ev
    obtain ⟨ws, t, h4, h5⟩ := lead_to h1 h3 g gl ev
    have m0 : kyS (R * C) s0 ∈ ss.map (kyS (R * C)) := List.mem_map.mpr ⟨s0, List.mem_of_getElem? b.first, rfl⟩
    have m := Seen.all b g g m0 h4
    have e : kyS (R * C) t = l := by
      have : kyS (R * C) t = allV (R * C) (fo l) := List.map_congr_left fun k hk => h5 k (List.mem_range.mp hk)
      rw [this, allV_fo hlen]
    rw [e] at m
    exact m
theorem Seen.count {R C : Nat} (h1 : 2 ≤ R) (h3 : 2 ≤ C) {s0 : Sl} {ss : List Sl} (b : Seen R C s0 ss.length ss) (g : Good R C s0) {N : Nat} (hN : (PL (R * C)).length = 2 * N) : ss.length = N := by
  have h4 : 2 * 2 ≤ R * C := Nat.mul_le_mul h1 h3
  have p : (ss.map (kyS (R * C))).Perm ((PL (R * C)).filter (evenB R C s0)) := by
    refine (List.perm_ext_iff_of_nodup b.nd ((PL_nodup _).filter _)).mpr fun x => ?_
    rw [List.mem_filter]
    constructor
    · intro m
      have hx : x.Perm (rgI (R * C)) := by
        obtain ⟨s, hs, rfl⟩ := List.mem_map.mp m
        exact (b.good g hs).full
      exact ⟨mem_perms.mpr hx, (b.even h1 h3 g hx).mp m⟩
    · rintro ⟨m, e⟩
      exact (b.even h1 h3 g (mem_perms.mp m)).mpr e
  have := p.length_eq
  rw [List.length_map, half g (by omega) hN (PL_nodup _)] at this
  exact this
end Bf
/-! The text of a small tray -/
namespace Tr
open PySem PySem.Spec PyProof.Rows L2
theorem int_txt {v : Int} (h0 : 0 ≤ v) (h : v < 10) : (toString v : Str) = txt [48 + v.toNat] := by
  obtain ⟨k, rfl⟩ := Int.eq_ofNat_of_zero_le h0
  have hk : k < 10 := by omega
  have all : ∀ k : Nat, k < 10 → ((toString (k : Int) : String) : Str) = txt [48 + (k : Int).toNat] := by decide +kernel
  exact all k hk
/-- texts, one behind another -/
def sepL : List (List Nat) → List Nat
  | [] => []
  | [x] => x
  | x :: y :: r => x ++ [44, 32] ++ sepL (y :: r)
def moreL : List (List Nat) → List Nat
  | [] => []
  | x :: r => [44, 32] ++ x ++ moreL r
theorem sepL_more (x : List Nat) : ∀ r, sepL (x :: r) = x ++ moreL r
  | [] => by simp [sepL, moreL]
  | y :: r => by
    have ih := sepL_more y r
    show x ++ [44, 32] ++ sepL (y :: r) = x ++ ([44, 32] ++ y ++ moreL r)
    rw [ih]
    simp
theorem txt2 : ((", " : String) : Str) = txt [44, 32] := by decide +kernel
theorem txt0 : (("" : String) : Str) = txt [] := by decide +kernel
theorem txtO : (("[" : String) : Str) = txt [91] := by decide +kernel
theorem txtC : (("]" : String) : Str) = txt [93] := by decide +kernel
theorem from_more : ∀ (r : List (List Nat)) (k : Nat) (acc : List Nat), textFrom (k + 1) (txt acc) (r.map txt) = txt (acc ++ moreL r)
  | [], k, acc => by
    show txt acc = txt (acc ++ [])
    rw [List.append_nil]
  | x :: r, k, acc => by
    have ih := from_more r (k + 1) (acc ++ [44, 32] ++ x)
    show textFrom (k + 1 + 1) (txt acc ++ (if k + 1 > 0 then ", " else "" : String) ++ txt x) (r.map txt) = _
    rw [if_pos (by omega), txt2, txt_add, txt_add, ih]
    simp [moreL]
theorem list_txt (x : List Nat) (r : List (List Nat)) : listText ((x :: r).map txt) = txt ([91] ++ sepL (x :: r) ++ [93]) := by
  show textFrom (0 + 1) ((("[" : String) : Str) ++ (if 0 > 0 then ", " else "" : String) ++ txt x) (r.map txt) ++ (("]" : String) : Str) = _
  rw [if_neg (by omega), txt0, txtO, txtC, txt_add, txt_add, from_more, txt_add, sepL_more]
  simp
theorem shownAll_map : ∀ l : List PyData, PyData.shownAll l = l.map PyData.shown
  | [] => by simp [PyData.shownAll]
  | x :: l => by simp [PyData.shownAll, shownAll_map l]
/-- a row's codes -/
def rowT (C : Nat) (f : Fld) (i : Nat) : List Nat := [91] ++ sepL ((List.range C).map fun j => [48 + (f (i * C + j)).toNat]) ++ [93]
def trayT (R C : Nat) (f : Fld) : List Nat := [91] ++ sepL ((List.range R).map (rowT C f)) ++ [93]
theorem map_txt {L : List PyData} {T : List (List Nat)} (h : L.map PyData.shown = T.map txt) : PyData.shownAll L = T.map txt := by rw [shownAll_map, h]
theorem row_shown {C : Nat} {f : Fld} {i : Nat} (hC : 0 < C) (h : ∀ j, j < C → 0 ≤ f (i * C + j) ∧ f (i * C + j) < 10) : (rowD C f i).shown = txt (rowT C f i) := by
  have e : PyData.shownAll ((List.range C).map fun j => PyData.int (f (i * C + j))) = ((List.range C).map fun j => [48 + (f (i * C + j)).toNat]).map txt := by
    refine map_txt ?_
    rw [List.map_map, List.map_map]
    refine List.map_congr_left fun j hj => ?_
    obtain ⟨h1, h2⟩ := h j (List.mem_range.mp hj)
    show (PyData.int (f (i * C + j))).shown = _
    simp only [PyData.shown]
    exact int_txt h1 h2
  show (PyData.list ((List.range C).map fun j => PyData.int (f (i * C + j)))).shown = _
  simp only [PyData.shown]
  rw [e]
  unfold rowT
  match C, hC with
  | C + 1, _ =>
    rw [List.range_succ_eq_map, List.map_cons]
    exact list_txt _ _
theorem tray_shown {R C : Nat} {f : Fld} (hR : 0 < R) (hC : 0 < C) (h : ∀ k, k < R * C → 0 ≤ f k ∧ f k < 10) : (rowsD C f (List.range R)).shown = txt (trayT R C f) := by
  have e : PyData.shownAll ((List.range R).map (rowD C f)) = ((List.range R).map (rowT C f)).map txt := by
    refine map_txt ?_
    rw [List.map_map, List.map_map]
    refine List.map_congr_left fun i hi => row_shown hC fun j hj => h _ (ix_lt (List.mem_range.mp hi) hj)
  show (PyData.list ((List.range R).map (rowD C f))).shown = _
  simp only [PyData.shown]
  rw [e]
  unfold trayT
  match R, hR with
  | R + 1, _ =>
    rw [List.range_succ_eq_map, List.map_cons]
    exact list_txt _ _
/-- the numbers of the text, in their order -/
def digits (l : List Nat) : List Nat := l.filter fun c => decide (48 ≤ c ∧ c ≤ 57)
theorem digits_app (a b : List Nat) : digits (a ++ b) = digits a ++ digits b := List.filter_append ..
theorem digits_sep : ∀ r : List (List Nat), digits (sepL r) = (r.map digits).flatten
  | [] => rfl
  | [x] => by simp [sepL]
  | x :: y :: r => by
    have ih := digits_sep (y :: r)
    show digits (x ++ [44, 32] ++ sepL (y :: r)) = _
    rw [digits_app, digits_app, ih]
    have : digits [44, 32] = [] := by decide
    rw [this]
    simp
theorem flat_each (g : Nat → Nat) : ∀ l : List Nat, (l.map fun j => [g j]).flatten = l.map g
  | [] => rfl
  | a :: l => by rw [List.map_cons, List.flatten_cons, flat_each g l]; rfl
theorem digits_row {C : Nat} {f : Fld} {i : Nat} (h : ∀ j, j < C → 0 ≤ f (i * C + j) ∧ f (i * C + j) < 10) : digits (rowT C f i) = (List.range C).map fun j => 48 + (f (i * C + j)).toNat := by
  unfold rowT
  rw [digits_app, digits_app, digits_sep]
  have e1 : digits [91] = [] := by decide
  have e2 : digits [93] = [] := by decide
  rw [e1, e2, List.map_map, List.append_nil, List.nil_append]
  have : (List.range C).map (digits ∘ fun j => [48 + (f (i * C + j)).toNat]) = (List.range C).map fun j => [48 + (f (i * C + j)).toNat] := by
    refine List.map_congr_left fun j hj => ?_
    obtain ⟨h1, h2⟩ := h j (List.mem_range.mp hj)
    show digits [48 + (f (i * C + j)).toNat] = _
    refine List.filter_eq_self.mpr fun c hc => ?_
    rw [List.mem_singleton.mp hc]
    exact decide_eq_true (by omega)
  rw [this]
  exact flat_each _ _
theorem trayT_inj {R C : Nat} {f g : Fld} (hC : 0 < C) (hf : ∀ k, k < R * C → 0 ≤ f k ∧ f k < 10) (hg : ∀ k, k < R * C → 0 ≤ g k ∧ g k < 10) (h : trayT R C f = trayT R C g) : ∀ k, k < R * C → f k = g k := by
  have dig : ∀ {f : Fld}, (∀ k, k < R * C → 0 ≤ f k ∧ f k < 10) → digits (trayT R C f) = ((List.range R).map fun i => (List.range C).map fun j => 48 + (f (i * C + j)).toNat).flatten := fun {f} hf => by
    unfold trayT
    rw [digits_app, digits_app, digits_sep]
    have e1 : digits [91] = [] := by decide
    have e2 : digits [93] = [] := by decide
    rw [e1, e2, List.map_map, List.append_nil, List.nil_append]
    refine congrArg List.flatten (List.map_congr_left fun i hi => ?_)
    exact digits_row fun j hj => hf _ (ix_lt (List.mem_range.mp hi) hj)
  have e := congrArg digits h
  rw [dig hf, dig hg] at e
  have len : ∀ (f : Fld) (n : Nat), (((List.range n).map fun i => (List.range C).map fun j => 48 + (f (i * C + j)).toNat).flatten).length = n * C := fun f n => by
    induction n with
    | zero => simp
    | succ n ih => rw [List.range_succ, List.map_append, List.flatten_append, List.length_append, ih]; simp [Nat.add_mul]
  have row : ∀ n, n ≤ R → ((List.range n).map fun i => (List.range C).map fun j => 48 + (f (i * C + j)).toNat).flatten = ((List.range n).map fun i => (List.range C).map fun j => 48 + (g (i * C + j)).toNat).flatten → ∀ i, i < n → ∀ j, j < C → f (i * C + j) = g (i * C + j) := by
    intro n
    induction n with
    | zero => exact fun _ _ i hi => absurd hi (Nat.not_lt_zero _)
    | succ n ih =>
      intro hn e i hi j hj
      rw [List.range_succ, List.map_append, List.map_append, List.flatten_append, List.flatten_append] at e
      obtain ⟨e1, e2⟩ := List.append_inj e (by rw [len, len])
      by_cases c : i < n
      · exact ih (by omega) e1 i c j hj
      · have ei : i = n := by omega
        subst ei
        have e3 := congrArg (fun l : List Nat => l[j]?) e2
        simp [hj] at e3
        have h1 := hf (i * C + j) (ix_lt (by omega) hj)
        have h2 := hg (i * C + j) (ix_lt (by omega) hj)
        omega
  intro k hk
  obtain ⟨c1, c2, c3⟩ := Bf.cell_div hk
  have := row R (Nat.le_refl _) e (k / C) c1 (k % C) c2
  have c3 : k / C * C + k % C = k := c3
  rw [c3] at this
  exact this
theorem full_small {n : Nat} {f : Fld} (hn : n ≤ 10) (h : Full n f) : ∀ k, k < n → 0 ≤ f k ∧ f k < 10 := by
  intro k hk
  have m : f k ∈ allV n f := List.mem_map.mpr ⟨k, List.mem_range.mpr hk, rfl⟩
  obtain ⟨j, hj, e⟩ := List.mem_map.mp (h.mem_iff.mp m)
  have := List.mem_range.mp hj
  omega
end Tr
/-! _law_come_to -/
namespace Tr
open PySem PySem.Spec PyProof.Rows L2
theorem showable_all {l : List PyData} (h : ∀ x ∈ l, x.showable = true) : PyData.showableAll l = true := by
  induction l with
  | nil => simp [PyData.showableAll]
  | cons x l ih => simp [PyData.showableAll, h x List.mem_cons_self, ih fun y hy => h y (List.mem_cons_of_mem _ hy)]
theorem noDict_all {l : List PyData} (h : ∀ x ∈ l, x.hasDict = false) : PyData.hasDictAll l = false := by
  induction l with
  | nil => simp [PyData.hasDictAll]
  | cons x l ih => simp [PyData.hasDictAll, h x List.mem_cons_self, ih fun y hy => h y (List.mem_cons_of_mem _ hy)]
theorem small_log {v : Int} (h0 : 0 ≤ v) (h : v < 10) : v.natAbs.log2 < 1920 := by
  obtain ⟨k, rfl⟩ := Int.eq_ofNat_of_zero_le h0
  have hk : k < 10 := by omega
  have all : ∀ k : Nat, k < 10 → (k : Int).natAbs.log2 < 1920 := by decide +kernel
  exact all k hk
theorem rows_showable {R C : Nat} {f : Fld} (h : ∀ k, k < R * C → 0 ≤ f k ∧ f k < 10) : (rowsD C f (List.range R)).showable = true ∧ (rowsD C f (List.range R)).hasDict = false := by
  unfold rowsD
  simp only [PyData.showable, PyData.hasDict]
  refine ⟨showable_all fun x hx => ?_, noDict_all fun x hx => ?_⟩
  · obtain ⟨i, hi, rfl⟩ := List.mem_map.mp hx
    unfold rowD
    simp only [PyData.showable]
    refine showable_all fun y hy => ?_
    obtain ⟨j, hj, rfl⟩ := List.mem_map.mp hy
    obtain ⟨h1, h2⟩ := h _ (ix_lt (List.mem_range.mp hi) (List.mem_range.mp hj))
    show PyData.showable (.int _) = true
    simp only [PyData.showable]
    exact decide_eq_true (small_log h1 h2)
  · obtain ⟨i, hi, rfl⟩ := List.mem_map.mp hx
    unfold rowD
    simp only [PyData.hasDict]
    refine noDict_all fun y hy => ?_
    obtain ⟨j, hj, rfl⟩ := List.mem_map.mp hy
    show PyData.hasDict (.int _) = false
    simp only [PyData.hasDict]
theorem sepL_len {m : Nat} : ∀ {r : List (List Nat)}, (∀ x ∈ r, x.length ≤ m) → (sepL r).length ≤ r.length * (m + 2)
  | [], _ => Nat.zero_le _
  | [x], h => by
    have := h x List.mem_cons_self
    simp only [sepL, List.length_singleton]
    omega
  | x :: y :: r, h => by
    have h1 := h x List.mem_cons_self
    have ih := sepL_len (m := m) (r := y :: r) fun z hz => h z (List.mem_cons_of_mem _ hz)
    show (x ++ [44, 32] ++ sepL (y :: r)).length ≤ _
    rw [List.length_append, List.length_append, List.length_cons (a := x), Nat.add_mul]
    show x.length + 2 + _ ≤ _
    omega
theorem trayT_len {R C : Nat} {f : Fld} (hR : R ≤ 6) (hC : C ≤ 6) : (trayT R C f).length ≤ 1000 := by
  have row : ∀ x ∈ (List.range R).map (rowT C f), x.length ≤ 20 := fun x hx => by
    obtain ⟨i, _, rfl⟩ := List.mem_map.mp hx
    unfold rowT
    have := sepL_len (m := 1) (r := (List.range C).map fun j => [48 + (f (i * C + j)).toNat]) fun x hx => by
      obtain ⟨j, _, rfl⟩ := List.mem_map.mp hx
      simp
    rw [List.length_map, List.length_range] at this
    rw [List.length_append, List.length_append]
    show 1 + _ + 1 ≤ 20
    omega
  have := sepL_len row
  rw [List.length_map, List.length_range] at this
  unfold trayT
  rw [List.length_append, List.length_append]
  show 1 + _ + 1 ≤ 1000
  omega
abbrev kyT (R C : Nat) (s : Sl) : L2.Key := Sum.inr (txt (trayT R C s.1))
theorem kyT_inj {R C : Nat} {s t : Sl} (hn : R * C ≤ 10) (hs : Good R C s) (ht : Good R C t) : kyT R C s = kyT R C t ↔ Bf.kyS (R * C) s = Bf.kyS (R * C) t := by
  constructor
  · intro h
    exact Bf.kyS_eq.mpr (trayT_inj hs.c0 (full_small hn hs.full) (full_small hn ht.full) (txt_inj (Sum.inr.inj h)))
  · intro h
    have ag := Bf.kyS_eq.mp h
    refine congrArg (fun l => (Sum.inr (txt l) : L2.Key)) ?_
    unfold trayT
    refine congrArg (fun l => [91] ++ sepL l ++ [93]) (List.map_congr_left fun i hi => ?_)
    unfold rowT
    refine congrArg (fun l => [91] ++ sepL l ++ [93]) (List.map_congr_left fun j hj => ?_)
    rw [ag _ (ix_lt (List.mem_range.mp hi) (List.mem_range.mp hj))]
theorem mem_keys {R C : Nat} (hn : R * C ≤ 10) {t : Sl} (ht : Good R C t) {ss : List Sl} (hs : ∀ s ∈ ss, Good R C s) : kyT R C t ∈ ss.map (kyT R C) ↔ Bf.kyS (R * C) t ∈ ss.map (Bf.kyS (R * C)) := by
  constructor
  · intro m
    obtain ⟨s, hm, e⟩ := List.mem_map.mp m
    exact List.mem_map.mpr ⟨s, hm, (kyT_inj hn (hs s hm) ht).mp e⟩
  · intro m
    obtain ⟨s, hm, e⟩ := List.mem_map.mp m
    exact List.mem_map.mpr ⟨s, hm, (kyT_inj hn (hs s hm) ht).mpr e⟩
/-- all that is found -/
def NearAt (H : Hp) (d : Addr) (R C : Nat) (ss : List Sl) : Prop := ∃ kvs : List (L2.Key × V), H d = some (.dK kvs) ∧ kvs.map Prod.fst = ss.map (kyT R C)
theorem near_has {R C : Nat} {ss : List Sl} {kvs : List (L2.Key × V)} (h : kvs.map Prod.fst = ss.map (kyT R C)) (k : L2.Key) : (valV kvs k).isSome = true ↔ k ∈ ss.map (kyT R C) := by
  rw [← valV_any, ← h, List.any_eq_true, List.mem_map]
  constructor
  · rintro ⟨p, hp, e⟩
    exact ⟨p, hp, of_decide_eq_true e⟩
  · rintro ⟨p, hp, e⟩
    exact ⟨p, hp, decide_eq_true e⟩
/-- a tray that waits; none of its lists is the waiting list -/
def QAt (R C : Nat) (wq : Addr) (H : Hp) (q : Addr) (t : Sl) : Prop := ∃ rs, TrayAt H q rs R C t.1 ∧ q ≠ wq ∧ ∀ r ∈ rs, r ≠ wq
theorem QAt.mono {R C : Nat} {wq : Addr} {H H' : Hp} {q : Addr} {t : Sl} (sm : Same H H') (h : QAt R C wq H q t) : QAt R C wq H' q t := by
  obtain ⟨rs, T, h1, h2⟩ := h
  exact ⟨rs, T.mono sm, h1, h2⟩
theorem TrayAt.updO {H : Hp} {x a : Addr} {o : HO} {rs : List Addr} {R C : Nat} {f : Fld} (T : TrayAt H a rs R C f) (h1 : a ≠ x) (h2 : ∀ r ∈ rs, r ≠ x) : TrayAt (upd H x o) a rs R C f :=
  ⟨by rw [upd_ne h1]; exact T.top, T.len, fun i r e => by rw [upd_ne (h2 r (List.mem_of_getElem? e))]; exact T.row i r e, T.nd, T.na⟩
theorem QAt.updQ {R C : Nat} {wq : Addr} {H : Hp} {q : Addr} {t : Sl} {o : HO} (h : QAt R C wq H q t) : QAt R C wq (upd H wq o) q t := by
  obtain ⟨rs, T, h1, h2⟩ := h
  exact ⟨rs, T.updO h1 h2, h1, h2⟩
theorem QAt.updD {R C : Nat} {wq d : Addr} {H : Hp} {q : Addr} {t : Sl} {o : HO} {kvs : List (L2.Key × V)} (hd : H d = some (.dK kvs)) (h : QAt R C wq H q t) : QAt R C wq (upd H d o) q t := by
  obtain ⟨rs, T, h1, h2⟩ := h
  refine ⟨rs, T.updO (ne_of T.top hd (fun z => by cases z)) (fun r m => ?_), h1, h2⟩
  obtain ⟨i, hi⟩ := List.mem_iff_getElem?.mp m
  exact ne_of (T.row i r hi) hd (fun z => by cases z)
def spCome : Sp := fun vs H Q _ => ∃ (a : Addr) (rs : List Addr) (R C : Nat) (s : Sl), vs = [.ref a] ∧ TrayAt H a rs R C s.1 ∧ Good R C s ∧ R * C ≤ 6 ∧ ∀ H' d ss, Same H H' → Bf.Seen R C s ss.length ss → NearAt H' d R C ss → Q (.ref d) H'
theorem scCome : FnScope ["_law_tray_here", "_law_seen", "_law_waiting", "_law_at", "_law_letter", "_law_further"] ["_law_tray_here"] (defScope d_law_come_to) := ⟨rfl, rfl, rfl, by decide +kernel, rfl, by decide +kernel, by decide +kernel⟩
section
variable {P : Program} {w : World} {K : PySem.W.Frag} {mg : Str → Option Value} {base : Heap}
theorem ok_come {fa fS : Addr} {fd fdS : FuncData} {k jS : Nat} (F : Fun K "_law_come_to" "_law_come_to" d_law_come_to fa fd) (mSt : mg "str" = none) (mL : mg "len" = none) (hS : jS ≤ k)
    (GS : FnOk P w K mg base CX0 jS fS fdS ["_law_tray_here", "_law_slides"] spSlid) (gS : mg "_law_slid" = some (.ref fS)) (kS : PySem.W.keepIn K (.ref fS) = true) (bS : Binds K fdS ["_law_tray_here", "_law_slides"] []) :
    FnG P w K mg base CX0 (k + 1) fa fd ["_law_tray_here"] spCome := by
  refine okG F scCome (fun vs H Q E h => ?_) (fun cdv A outer s0 H vs Q E hg hr h => ?_)
  · obtain ⟨a, rs, R, C, s, rfl, _⟩ := h
    rfl
  · obtain ⟨a, rs, R, C, s, rfl, T, gs, hn, q⟩ := h
    have hu := hu_of hr
    have hG : (A.deeper (envOfC "_law_come_to" (defScope d_law_come_to) s0.heap.objs.size fa cdv)).guards = some [] := hg
    refine ⟨_, pss_cons (ps_set (i := 1) scCome.nd rfl (.inl rfl) pe_dnewK)
      (pss_cons (ps_dput hu (pv 1) (pe_callTy (call_strG hG) (by rfl) mSt (by decide +kernel) (pa_cons (pv 0) pa_nil)) (pv 0) rfl)
      (pss_cons (ps_set (i := 2) scCome.nd rfl (.inl rfl) (pe_lst (pa_cons (pv 0) pa_nil)))
      (pss_cons (ps_set (i := 3) scCome.nd rfl (.inl rfl) pe_int)
      (pss_cons (ps_while PassesOwn.never (pt_cmpR op_lt (pv 3) (pe_callB call_len_seq (by rfl) mL PySem.boot_len (pa_cons (pv 2) pa_nil)) (nomark _))
        (pss_cons (ps_for PassesOwn.never rfl (pi_str pe_str) (pg_name (i := 4) scCome.nd rfl (.inl rfl))
          (pss_cons (ps_set (i := 5) scCome.nd rfl (.inl rfl) (pe_call GS (hr.mono hS) (by rfl) gS kS bS .nil pass0 (pa_cons (pe_ix ix_list (pv 2) (pv 3) (fun _ _ => rfl)) (pa_cons (pv 4) pa_nil))))
          (pss_one (ps_if (PW.pt (pw_and (pt_cmp (pc_notN (pv 5))) (pw_and1 (pt_cmp (pc_dnotin hu (pe_callTy (call_strG hG) (by rfl) mSt (by decide +kernel) (pa_cons (pv 5) pa_nil)) (pv 1))))))
            (pss_cons (ps_dput hu (pv 1) (pe_callTy (call_strG hG) (by rfl) mSt (by decide +kernel) (pa_cons (pv 5) pa_nil)) (pv 5) rfl)
            (pss_one (ps_expr (pe_bm PySem.F.plainAttrs_list PySem.F.slot_list_append PySem.F.type_list_append mt_append (pv 2) (pa_cons (pv 5) pa_nil))))) pss_nil))))
        (pss_one (ps_set (i := 3) scCome.nd rfl (.inl rfl) (pe_op op_add (pv 3) pe_int)))))
      (pss_one (ps_ret (pv 1))))))), ?_⟩
    have e16 : sizeLine = 16777216 := rfl
    have hun := hr.un
    have hpl : (Bf.PL (R * C)).length ≤ 720 := by
      have : ∀ n, n ≤ 6 → (Bf.PL n).length ≤ 720 := by decide +kernel
      exact this _ hn
    have hn10 : R * C ≤ 10 := by omega
    -- str of a tray
    have facts : ∀ {t : Sl}, Good R C t → (rowsD C t.1 (List.range R)).showable = true ∧ (rowsD C t.1 (List.range R)).hasDict = false ∧ (A.deeper (envOfC "_law_come_to" (defScope d_law_come_to) s0.heap.objs.size fa cdv)).units + ((rowsD C t.1 (List.range R)).depth + 3) < cLine ∧
        (rowsD C t.1 (List.range R)).shown.length ≤ sizeLine ∧ (rowsD C t.1 (List.range R)).shown = txt (trayT R C t.1) := by
      intro t gt
      have sm := full_small hn10 gt.full
      obtain ⟨h1, h2⟩ := rows_showable sm
      have h3 := tray_shown gt.r0 gt.c0 sm
      refine ⟨h1, h2, ?_, ?_, h3⟩
      · have := depth_rows (C := C) (f := t.1) (List.range R)
        have e : (rowsD C t.1 (List.range R)).depth ≤ 3 := by
          unfold rowsD
          simp only [PyData.depth]
          omega
        omega
      · rw [h3, txt_len]
        have := trayT_len (f := t.1) gs.r6 gs.c6
        omega
    intro d nd
    have s1 : Same H (upd H d (.dK [])) := same_upd nd
    have hd1 : (upd H d (.dK [])) d = some (.dK []) := upd_same
    obtain ⟨f1, f2, f3, f4, f5⟩ := facts gs
    refine ⟨_, rfl, _, rfl, _, rfl, a, _, rfl, (T.mono s1).dp, f1, f2, f3, f4, ?_⟩
    rw [f5]
    refine ⟨d, _, rfl, DPut.k (k := kyT R C s) hd1 (by decide), ?_⟩
    rw [putK_new _ rfl]
    have kp : ∀ c o, H c = some o → c ≠ d := fun c o e => ne_of_none e nd
    have s2 : Same H (upd (upd H d (.dK [])) d (.dK ([] ++ [(kyT R C s, V.ref a)]))) := fun c o e => by
      rw [upd_ne (kp c o e), upd_ne (kp c o e)]
      exact e
    have hd2 : (upd (upd H d (.dK [])) d (.dK ([] ++ [(kyT R C s, V.ref a)]))) d = some (.dK [(kyT R C s, V.ref a)]) := upd_same
    generalize upd (upd H d (.dK [])) d (.dK ([] ++ [(kyT R C s, V.ref a)])) = H2 at *
    refine ⟨_, rfl, (by show 1 ≤ sizeLine; decide), fun wq nwq => ?_⟩
    have s3 : Same H2 (upd H2 wq (.lst [V.ref a])) := same_upd nwq
    have hd3 := s3 _ _ hd2
    have hw3 : (upd H2 wq (.lst [V.ref a])) wq = some (.lst ([a].map V.ref)) := upd_same
    have nwH : H wq = none := s2.free nwq
    have s03 := s2.trans s3
    generalize upd H2 wq (.lst [V.ref a]) = H3 at *
    refine ⟨fun m σ H' => ∃ (at' : Nat) (ss : List Sl) (qs : List Addr) (kvs : List (L2.Key × V)) (v4 v5 : Option V), m = (Bf.PL (R * C)).length - at' ∧ σ = [some (.ref a), some (.ref d), some (.ref wq), some (.int (at' : Nat)), v4, v5] ∧ Same H H' ∧
        Bf.Seen R C s at' ss ∧ H' d = some (.dK kvs) ∧ kvs.map Prod.fst = ss.map (kyT R C) ∧ H' wq = some (.lst (qs.map V.ref)) ∧ Paired (QAt R C wq H') qs ss,
      ⟨_, 0, [s], [a], _, none, none, rfl, rfl, s03, Bf.Seen.start, hd3, rfl, hw3, .cons ⟨rs, T.mono s03, ne_of_none T.top nwH, fun r m => ne_of_none (T.row _ r (List.mem_iff_getElem?.mp m).choose_spec) nwH⟩ .nil⟩, ?_⟩
    rintro m σ H' ⟨at', ss, qs, kvs, v4, v5, rfl, rfl, sm, inv, hd, hkv, hwq, hqs⟩
    have few := inv.few gs
    have hql : qs.length = ss.length := Paired.length hqs
    refine ⟨_, rfl, _, rfl, wq, _, rfl, .inl (SqL.of hwq), _, _, rfl, rfl, _, rfl, ?_⟩
    rw [List.length_map, hql]
    refine decI (fun hlt => ?_) (fun hlt => ?_)
    · have hlt : at' < ss.length := by omega
      have hss : ss[at']? = some ss[at'] := List.getElem?_eq_getElem hlt
      generalize ss[at'] = st at hss
      have hqq : qs[at']? = some (qs[at']'(by omega)) := List.getElem?_eq_getElem (by omega)
      generalize qs[at']'(by omega) = tq at hqq
      have gst := inv.good gs (List.mem_of_getElem? hss)
      refine ⟨fun σ' H2 => ∃ (ss : List Sl) (qs : List Addr) (kvs : List (L2.Key × V)) (v4 v5 : Option V), σ' = [some (.ref a), some (.ref d), some (.ref wq), some (.int (at' + 1 : Nat)), v4, v5] ∧ Same H H2 ∧
          Bf.Seen R C s (at' + 1) ss ∧ H2 d = some (.dK kvs) ∧ kvs.map Prod.fst = ss.map (kyT R C) ∧ H2 wq = some (.lst (qs.map V.ref)) ∧ Paired (QAt R C wq H2) qs ss, ?_, ?_⟩
      · rintro σ' H2 ⟨ss', qs', kvs', v4', v5', e1, e2⟩
        exact ⟨(Bf.PL (R * C)).length - (at' + 1), by omega, at' + 1, ss', qs', kvs', v4', v5', rfl, e1, e2⟩
      rw [udlr_eq]
      refine ⟨_, rfl, for_it (walk_str (z := txt udlr)) (fun i σ' H2 => ∃ (ss : List Sl) (qs : List Addr) (kvs : List (L2.Key × V)) (v4 v5 : Option V), σ' = [some (.ref a), some (.ref d), some (.ref wq), some (.int (at' : Nat)), v4, v5] ∧ Same H H2 ∧
          Bf.SMid R C s at' st (udlr.take i) ss ∧ H2 d = some (.dK kvs) ∧ kvs.map Prod.fst = ss.map (kyT R C) ∧ H2 wq = some (.lst (qs.map V.ref)) ∧ Paired (QAt R C wq H2) qs ss)
        ⟨ss, qs, kvs, v4, v5, rfl, sm, ⟨inv, hss, fun x hx => nomatch hx⟩, hd, hkv, hwq, hqs⟩ (fun _ _ _ _ _ => True.intro) ?_ ?_⟩
      · rintro i x σ' H2 H4 hi ⟨ss, qs, kvs, u4, u5, rfl, sm2, mid, hd2, hkv2, hwq2, hqs2⟩ ⟨rfl, l, hl, rfl⟩
        have hl : udlr[i]? = some l := by simpa using hl
        have tk : udlr.take (i + 1) = udlr.take i ++ [l] := take_more hl
        have few2 := mid.inv.few gs
        have hlt2 : at' < ss.length := (List.getElem?_eq_some_iff.mp mid.here).1
        have hqq2 : qs[at']? = some (qs[at']'(by have := Paired.length hqs2; omega)) := List.getElem?_eq_getElem _
        generalize qs[at']'(by have := Paired.length hqs2; omega) = tq2 at hqq2
        obtain ⟨st', hst', rq, Tq, _, _⟩ := Paired.at hqs2 hqq2
        rw [mid.here] at hst'
        cases hst'
        have hqi : (qs.map V.ref)[at']? = some (.ref tq2) := by
          rw [List.getElem?_map, hqq2]
          rfl
        refine ⟨_, rfl, _, rfl, wq, _, (at' : Int), _, rfl, rfl, SqL.of hwq2, atI_nat hqi, _, rfl, ?_⟩
        refine ⟨tq2, rq, R, C, st, [l], rfl, Tq, gst, fun t ht H5 p rs5 s5 np5 nrs5 T5 => ?_, fun hnn H5 s5 => ?_⟩
        · rw [goAll_one] at ht
          have gt : Good R C t := gst.go (ws := [l]) (by rw [goAll_one]; exact ht)
          obtain ⟨f1, f2, f3, f4, f5⟩ := facts gt
          have sm5 := sm2.trans s5
          have hd5 := s5 _ _ hd2
          have hwq5 := s5 _ _ hwq2
          have hqs5 : Paired (QAt R C wq H5) qs ss := Paired.mapP hqs2 fun _ _ z => z.mono s5
          have hal : ∀ u ∈ ss, Good R C u := fun u hu => mid.inv.good gs hu
          have pq : QAt R C wq H5 p t := ⟨rs5, T5, (fun z => by rw [z, hwq2] at np5; cases np5), (fun r m z => by have := nrs5 r m; rw [z, hwq2] at this; cases this)⟩
          refine ⟨_, rfl, _, rfl, iteT ?_⟩
          refine ⟨_, rfl, p, _, rfl, T5.dp, f1, f2, f3, f4, ?_⟩
          rw [f5]
          refine ⟨_, rfl, d, _, rfl, DGet.k (k := kyT R C t) hd5, _, rfl, ?_⟩
          by_cases m : kyT R C t ∈ ss.map (kyT R C)
          · rw [(near_has hkv2 _).mpr m]
            refine iteF ⟨ss, qs, kvs, _, _, rfl, sm5, ?_, hd5, hkv2, hwq5, hqs5⟩
            rw [tk]
            exact mid.old ht ((mem_keys hn10 gt hal).mp m)
          · have hv : valV kvs (kyT R C t) = none := by
              cases e : valV kvs (kyT R C t) with
              | none => rfl
              | some v => exact absurd ((near_has hkv2 _).mp (by rw [e]; rfl)) m
            rw [hv]
            refine iteT ?_
            have hkl : kvs.length = ss.length := by
              have := congrArg List.length hkv2
              rw [List.length_map, List.length_map] at this
              exact this
            refine ⟨_, rfl, _, rfl, _, rfl, p, _, rfl, T5.dp, f1, f2, f3, f4, ?_⟩
            rw [f5]
            refine ⟨d, _, rfl, DPut.k (k := kyT R C t) hd5 (by omega), ?_⟩
            rw [putK_new _ hv]
            have wd : wq ≠ d := ne_of hwq5 hd5 (fun z => by cases z)
            have hwq6 : (upd H5 d (.dK (kvs ++ [(kyT R C t, V.ref p)]))) wq = some (.lst (qs.map V.ref)) := by
              rw [upd_ne wd]
              exact hwq5
            have hd6 : (upd H5 d (.dK (kvs ++ [(kyT R C t, V.ref p)]))) d = some (.dK (kvs ++ [(kyT R C t, V.ref p)])) := upd_same
            have sm6 : Same H (upd H5 d (.dK (kvs ++ [(kyT R C t, V.ref p)]))) := fun c o e => by
              rw [upd_ne (kp c o e)]
              exact sm5 _ _ e
            have hqs6 : Paired (QAt R C wq (upd H5 d (.dK (kvs ++ [(kyT R C t, V.ref p)])))) qs ss := Paired.mapP hqs5 fun _ _ z => z.updD hd5
            have pq6 : QAt R C wq (upd H5 d (.dK (kvs ++ [(kyT R C t, V.ref p)]))) p t := pq.updD hd5
            generalize upd H5 d (.dK (kvs ++ [(kyT R C t, V.ref p)])) = H6 at *
            refine ⟨_, rfl, .inl ⟨rfl, _, SqL.of hwq6⟩, _, rfl, wq, qs.map V.ref, V.ref p, rfl, rfl, hwq6, ?_, ?_⟩
            · rw [List.length_map, Paired.length hqs6]
              omega
            refine ⟨ss ++ [t], qs ++ [p], kvs ++ [(kyT R C t, V.ref p)], _, _, rfl, fun c o e => ?_, ?_, ?_, ?_, ?_, ?_⟩
            · rw [upd_ne (ne_of_none e nwH)]
              exact sm6 _ _ e
            · rw [tk]
              exact mid.new ht (fun z => m ((mem_keys hn10 gt hal).mpr z))
            · rw [upd_ne wd.symm]
              exact hd6
            · rw [List.map_append, List.map_append, hkv2]
              rfl
            · rw [upd_same, List.map_append]
              rfl
            · exact Paired.snoc (Paired.mapP hqs6 fun _ _ z => z.updQ) pq6.updQ
        · rw [goAll_one] at hnn
          refine ⟨_, rfl, _, rfl, iteF ⟨ss, qs, kvs, _, _, rfl, sm2.trans s5, ?_, s5 _ _ hd2, hkv2, s5 _ _ hwq2, Paired.mapP hqs2 fun _ _ z => z.mono s5⟩⟩
          rw [tk]
          exact mid.skip hnn
      · rintro σ' H2 ⟨ss, qs, kvs, u4, u5, rfl, sm2, mid, hd2, hkv2, hwq2, hqs2⟩
        have e : udlr.take (txt udlr).cps.size = udlr := by decide
        rw [e] at mid
        have hR6 := gs.r6
        refine ⟨_, rfl, _, 1, rfl, rfl, ss, qs, kvs, _, _, rfl, sm2, mid.next (by omega) (fun w hw => ?_), hd2, hkv2, hwq2, hqs2⟩
        rcases hw with rfl | rfl | rfl | rfl <;> decide
    · have e : at' = ss.length := by
        have := inv.le
        omega
      subst e
      exact ⟨_, rfl, q H' d ss sm inv ⟨kvs, hd, hkv⟩⟩
end
end Tr
/-! law -/
namespace Tr
open PySem PySem.Spec PyProof.Rows L2
theorem cut_most {xs : List V} (h : xs.length ≤ 63) : cutV xs none (some 63) = xs := by
  unfold cutV
  rw [HT.sIx_none, show HT.sIx xs.length xs.length (some 63) = min 63 xs.length from HT.sIx_nat _ _ 63]
  rw [List.drop_zero, Nat.sub_zero, Nat.min_eq_right h, List.take_length]
theorem cut_to (xs : List V) (n : Nat) : cutV xs none (some (n : Int)) = xs.take n := by
  unfold cutV
  rw [HT.sIx_none, HT.sIx_nat, List.drop_zero, Nat.sub_zero]
  by_cases h : n ≤ xs.length
  · rw [Nat.min_eq_left h]
  · rw [Nat.min_eq_right (by omega), List.take_length, List.take_of_length_le (by omega)]
theorem good_of {R C : Nat} {f : Fld} (hR0 : 0 < R) (hR : R ≤ 6) (hC0 : 0 < C) (hC : C ≤ 6) (h : Full (R * C) f) : ∃ r c, Good R C (f, r, c) := by
  obtain ⟨p, hp, hz⟩ := full_zero (Nat.mul_pos hR0 hC0) h
  obtain ⟨c1, c2, c3⟩ := Bf.cell_div hp
  refine ⟨p / C, p % C, hR0, hR, hC0, hC, h, c1, c2, ?_⟩
  show f (Bf.ixc C (p / C, p % C)) = 0
  rw [c3]
  exact hz
theorem near_iff {R C : Nat} (h1 : 2 ≤ R) (h3 : 2 ≤ C) (hn : R * C ≤ 6) {s g : Sl} {ss : List Sl} (hs : Good R C s) (hg : Good R C g) (b : Bf.Seen R C s ss.length ss) : kyT R C g ∈ ss.map (kyT R C) ↔ (crossed (R * C) s.1 g.1 + steps s.2.1 s.2.2 g.2.1 g.2.2) % 2 = 0 := by
  rw [mem_keys (by omega) hg (fun u hu => b.good hs hu), b.even h1 h3 hs hg.full]
  unfold Bf.evenB
  rw [decide_eq_true_eq]
  have gl := Bf.good_slOf (R := R) (C := C) hg.r0 hg.r6 hg.c0 hg.c6 (l := Bf.kyS (R * C) g) hg.full
  have ag : ∀ k, k < R * C → g.1 k = Bf.fo (Bf.kyS (R * C) g) k := fun k hk => (Bf.fo_allV hk).symm
  have sp := Bf.same_place hg gl ag
  rw [Bf.crossed_right ag, sp]
/-- the answer is Led just where pairs and steps are even together -/
theorem ans_kind {R C : Nat} (hm : 1 < min R C) {s g : Sl} (hs : Good R C s) (hg : Good R C g) {n : AnsK} (h : ansB R C s g n = true) :
    (n.isL = true ∧ n.isO = false ∧ (crossed (R * C) s.1 g.1 + steps s.2.1 s.2.2 g.2.1 g.2.2) % 2 = 0 ∧ ∃ ws, n = .L ws ∧ ledB R C s ws g.1 = true) ∨ (n.isL = false ∧ n.isO = true ∧ (crossed (R * C) s.1 g.1 + steps s.2.1 s.2.2 g.2.1 g.2.2) % 2 = 1) := by
  cases n with
  | L ws =>
    have h : ledB R C s ws g.1 = true := h
    refine .inl ⟨rfl, rfl, ?_, ws, rfl, h⟩
    cases hg' : goAll R C s ws with
    | none =>
      unfold ledB at h
      rw [hg'] at h
      cases h
    | some s' =>
      have ag : ∀ k, k < R * C → s'.1 k = g.1 k := by
        unfold ledB at h
        rw [hg'] at h
        exact of_decide_eq_true h
      have ev := led_even (by have := hs.r6; omega) hs.z hs.full hg'
      rw [Bf.crossed_right ag, Bf.same_place (hs.go hg') hg ag] at ev
      exact ev
  | O x y =>
    have h : decide (1 < min R C ∧ (x + y) % 2 = 1 ∧ x = (crossed (R * C) s.1 g.1 : Nat) ∧ y = (steps s.2.1 s.2.2 g.2.1 g.2.2 : Nat)) = true := h
    obtain ⟨_, h2, h3, h4⟩ := of_decide_eq_true h
    exact .inr ⟨rfl, rfl, by omega⟩
  | P x y =>
    have h : passedB R C s.1 g.1 x y = true := h
    unfold passedB at h
    rw [if_pos (.inl hm)] at h
    cases h
def spLaw (K : PySem.W.Frag) : Sp := fun vs H Q _ => ∃ (a : Addr) (ns : List Int), vs = [.ref a] ∧ SqL K H a (ns.map V.int) ∧ ns.length ≤ 63 ∧ (∀ z ∈ ns, Builtin.Int.intBits z ≤ 1048576) ∧ ∀ H', Q (.bl true) H'
theorem scLaw3 : FnScope ["_law_script", "_law_cells", "_law_small", "_law_near", "_law_number", "_law_other", "_law_found", "_law_wide", "_law_cell"] ["_law_script"] (defScope d_law) := ⟨rfl, rfl, rfl, by decide +kernel, rfl, by decide +kernel, by decide +kernel⟩
section
variable {P : Program} {w : World} {K : PySem.W.Frag} {mg : Str → Option Value} {base : Heap}
theorem ok_law3 {fa fD fT fC fN fM CA CL CO CP CS : Addr} {fd fdD fdT fdC fdN fdM : FuncData} {k jD jT jC jN jM : Nat} (F : Fun K "law" "law" d_law fa fd) (mSum : mg "sum" = none) (mI : mg "isinstance" = none) (mL : mg "len" = none) (mR : mg "range" = none) (mSt : mg "str" = none)
    (Kn : Kinds K CA CL CO CP) (gL : mg "Led" = some (.ref CL)) (gO : mg "Odd" = some (.ref CO)) (nf : NoAttr K CL "slides") (hD : jD ≤ k) (hT : jT ≤ k) (hC : jC ≤ k) (hN : jN ≤ k) (hM : jM ≤ k)
    (GD : FnOk P w K mg base CX0 jD fD fdD ["_law_cell", "_law_by"] spDigits) (gD : mg "_law_digits" = some (.ref fD)) (kD : PySem.W.keepIn K (.ref fD) = true) (bD : Binds K fdD ["_law_cell", "_law_by"] [])
    (GT : FnOk P w K mg base CX0 jT fT fdT ["_law_number", "_law_rows", "_law_columns"] spTrayL) (gT : mg "_law_tray" = some (.ref fT)) (kT : PySem.W.keepIn K (.ref fT) = true) (bT : Binds K fdT ["_law_number", "_law_rows", "_law_columns"] [])
    (GC : FnG P w K mg base CX0 jC fC fdC ["_law_tray_here"] spCome) (gC : mg "_law_come_to" = some (.ref fC)) (kC : PySem.W.keepIn K (.ref fC) = true) (bC : Binds K fdC ["_law_tray_here"] [])
    (GN : FnOk P w K mg base (L2.CX P w) jN fN fdN ["one", "other"] (spTold CL CO CP)) (gN : mg "told" = some (.ref fN)) (kN : PySem.W.keepIn K (.ref fN) = true) (bN : Binds K fdN ["one", "other"] [])
    (GM : FnOk P w K mg base (L2.CX P w) jM fM fdM ["tray", "slides"] (spMoved CS)) (gM : mg "moved" = some (.ref fM)) (kM : PySem.W.keepIn K (.ref fM) = true) (bM : Binds K fdM ["tray", "slides"] []) :
    FnG P w K mg base CX0 (k + 1) fa fd ["_law_script"] (spLaw K) := by
  refine okG F scLaw3 (fun vs H Q E h => ?_) (fun cdv A outer s0 H vs Q E hg hr h => ?_)
  · obtain ⟨a, ns, rfl, _⟩ := h
    rfl
  · obtain ⟨a, ns, rfl, hScr, hlen, hbits, q⟩ := h
    have hu := hu_of hr
    have hG : (A.deeper (envOfC "law" (defScope d_law) s0.heap.objs.size fa cdv)).guards = some [] := hg
    refine ⟨_, pss_cons (ps_set (i := 1) scLaw3.nd rfl (.inl rfl) (pe_op op_cat (pe_slice sl_list (pv 0) po_none (po_some pe_int)) (pe_lst (pa_cons pe_int pa_nil))))
      (pss_cons (ps_set (i := 2) scLaw3.nd rfl (.inl rfl) (pe_call GT (hr.mono hT) (by rfl) gT kT bT .nil pass0 (pa_cons (pe_call GD (hr.mono hD) (by rfl) gD kD bD .nil pass0 (pa_cons (pe_ix ix_list (pv 1) pe_int (fun _ _ => rfl)) (pa_cons pe_int pa_nil))) (pa_cons pe_int (pa_cons pe_int pa_nil)))))
      (pss_cons (ps_set (i := 3) scLaw3.nd rfl (.inl rfl) (pe_callG hG GC (hr.mono hC) (by rfl) gC kC bC (pa_cons (pv 2) pa_nil)))
      (pss_cons (ps_if (pt_cmpR op_ne (pe_callB call_lenD (by rfl) mL PySem.boot_len (pa_cons (pv 3) pa_nil)) pe_int (nomark _)) pss_never pss_nil)
      (pss_cons (ps_for PassesOwn.never rfl (pi_range1 rfl mR (pa_cons pe_int pa_nil)) (pg_name (i := 4) scLaw3.nd rfl (.inl rfl))
        (pss_cons (ps_set (i := 5) scLaw3.nd rfl (.inl rfl) (pe_call GT (hr.mono hT) (by rfl) gT kT bT .nil pass0 (pa_cons (pv 4) (pa_cons pe_int (pa_cons pe_int pa_nil)))))
        (pss_cons (ps_set (i := 6) scLaw3.nd rfl (.inl rfl) (pe_call GN (hr.mono hN) (by rfl) gN kN bN .nil passL (pa_cons (pv 2) (pa_cons (pv 5) pa_nil))))
        (pss_cons (ps_if (PW.pt (pw_or (pt_cmpR op_ne (pe_callB call_isi (by rfl) mI (by decide +kernel) (pa_cons (pv 6) (pa_cons (pe_glob (v := .ref CL) rfl gL rfl) pa_nil))) (pe_cmp (pc_din hu (pe_callTy (call_strG hG) (by rfl) mSt (by decide +kernel) (pa_cons (pv 5) pa_nil)) (pv 3))) (nomark _))
            (pw_or1 (pt_cmpR op_eq (pe_callB call_isi (by rfl) mI (by decide +kernel) (pa_cons (pv 6) (pa_cons (pe_glob (v := .ref CO) rfl gO rfl) pa_nil))) (pe_callB call_isi (by rfl) mI (by decide +kernel) (pa_cons (pv 6) (pa_cons (pe_glob (v := .ref CL) rfl gL rfl) pa_nil))) (nomark _))))) pss_never pss_nil)
        (pss_one (ps_if (PW.pt (pw_and (pt_val (pe_callB call_isi (by rfl) mI (by decide +kernel) (pa_cons (pv 6) (pa_cons (pe_glob (v := .ref CL) rfl gL rfl) pa_nil)))) (pw_and1 (pt_cmpR (op_neD hr.units) (pe_call GM (hr.mono hM) (by rfl) gM kM bM .nil passL (pa_cons (pv 2) (pa_cons (pe_fld (pv 6) rfl) pa_nil))) (pv 5) (nomark _))))) pss_never pss_nil))))))
      (pss_cons (ps_if (pt_cmpR op_gt (pe_op op_mod (pe_callB (cr_sum rfl) (by rfl) mSum (by decide +kernel) (pa_cons (pv 1) pa_nil)) pe_int) pe_int (nomark _)) (pss_one (ps_ret pe_bl)) pss_nil)
      (pss_cons (ps_set (i := 7) scLaw3.nd rfl (.inl rfl) (pe_call GT (hr.mono hT) (by rfl) gT kT bT .nil pass0 (pa_cons (pe_call GD (hr.mono hD) (by rfl) gD kD bD .nil pass0 (pa_cons (pe_ix ix_list (pv 1) pe_int (fun _ _ => rfl)) (pa_cons pe_int pa_nil))) (pa_cons pe_int (pa_cons pe_int pa_nil)))))
      (pss_cons (ps_set (i := 3) scLaw3.nd rfl (.inl rfl) (pe_callG hG GC (hr.mono hC) (by rfl) gC kC bC (pa_cons (pv 7) pa_nil)))
      (pss_cons (ps_if (pt_cmpR op_ne (pe_callB call_lenD (by rfl) mL PySem.boot_len (pa_cons (pv 3) pa_nil)) pe_int (nomark _)) pss_never pss_nil)
      (pss_cons (ps_for PassesOwn.never rfl (pi_list (pe_slice sl_list (pv 1) po_none (po_some pe_int))) (pg_name (i := 8) scLaw3.nd rfl (.inl rfl))
        (pss_cons (ps_set (i := 5) scLaw3.nd rfl (.inl rfl) (pe_call GT (hr.mono hT) (by rfl) gT kT bT .nil pass0 (pa_cons (pe_call GD (hr.mono hD) (by rfl) gD kD bD .nil pass0 (pa_cons (pv 8) (pa_cons pe_int pa_nil))) (pa_cons pe_int (pa_cons pe_int pa_nil)))))
        (pss_cons (ps_set (i := 6) scLaw3.nd rfl (.inl rfl) (pe_call GN (hr.mono hN) (by rfl) gN kN bN .nil passL (pa_cons (pv 7) (pa_cons (pv 5) pa_nil))))
        (pss_cons (ps_if (pt_cmpR op_ne (pe_callB call_isi (by rfl) mI (by decide +kernel) (pa_cons (pv 6) (pa_cons (pe_glob (v := .ref CL) rfl gL rfl) pa_nil))) (pe_cmp (pc_din hu (pe_callTy (call_strG hG) (by rfl) mSt (by decide +kernel) (pa_cons (pv 5) pa_nil)) (pv 3))) (nomark _)) pss_never pss_nil)
        (pss_one (ps_if (PW.pt (pw_and (pt_val (pe_callB call_isi (by rfl) mI (by decide +kernel) (pa_cons (pv 6) (pa_cons (pe_glob (v := .ref CL) rfl gL rfl) pa_nil)))) (pw_and1 (pt_cmpR (op_neD hr.units) (pe_call GM (hr.mono hM) (by rfl) gM kM bM .nil passL (pa_cons (pv 7) (pa_cons (pe_fld (pv 6) rfl) pa_nil))) (pv 5) (nomark _))))) pss_never pss_nil))))))
      (pss_one (ps_ret pe_bl))))))))))), ?_⟩
    have e16 : sizeLine = 16777216 := rfl
    have hun := hr.un
    have facts : ∀ {C : Nat} {t : Sl}, 2 * C ≤ 6 → Good 2 C t → (rowsD C t.1 (List.range 2)).showable = true ∧ (rowsD C t.1 (List.range 2)).hasDict = false ∧ (A.deeper (envOfC "law" (defScope d_law) s0.heap.objs.size fa cdv)).units + ((rowsD C t.1 (List.range 2)).depth + 3) < cLine ∧
        (rowsD C t.1 (List.range 2)).shown.length ≤ sizeLine ∧ (rowsD C t.1 (List.range 2)).shown = txt (trayT 2 C t.1) := by
      intro C t hC gt
      have sm := full_small (n := 2 * C) (by omega) gt.full
      obtain ⟨h1, h2⟩ := rows_showable sm
      have h3 := tray_shown gt.r0 gt.c0 sm
      refine ⟨h1, h2, ?_, ?_, h3⟩
      · have := depth_rows (C := C) (f := t.1) (List.range 2)
        have e : (rowsD C t.1 (List.range 2)).depth ≤ 3 := by
          unfold rowsD
          simp only [PyData.depth]
          omega
        omega
      · rw [h3, txt_len]
        have := trayT_len (f := t.1) gt.r6 gt.c6
        omega
    -- cells
    refine ⟨_, rfl, 63, rfl, a, _, rfl, hScr, fun p1 n1 => ?_⟩
    rw [cut_most (by rw [List.length_map]; exact hlen)]
    have s1 := same_upd (o := .lst (ns.map V.int)) n1
    refine ⟨(by show 1 ≤ sizeLine; decide), fun p2 n2 => ?_⟩
    have s2 := same_upd (o := .lst [V.int 3]) n2
    refine ⟨p1, p2, _, _, rfl, rfl, s2 _ _ upd_same, upd_same, ?_, fun p n3 => ?_⟩
    · rw [List.length_map]
      show ns.length + 1 ≤ sizeLine
      omega
    have hcells : (upd (upd (upd H p1 (.lst (ns.map V.int))) p2 (.lst [V.int 3])) p (.lst (ns.map V.int ++ [V.int 3]))) p = some (.lst ((ns ++ [3]).map V.int)) := by
      rw [upd_same, List.map_append]
      rfl
    generalize upd (upd (upd H p1 (.lst (ns.map V.int))) p2 (.lst [V.int 3])) p (.lst (ns.map V.int ++ [V.int 3])) = H1 at hcells ⊢
    have hcb : ∀ z ∈ ns ++ [3], Builtin.Int.intBits z ≤ 1048576 := by
      intro z hz
      rcases List.mem_append.mp hz with h | h
      · exact hbits z h
      · rw [List.mem_singleton.mp h]
        decide
    have hc0 : ∃ z, (ns ++ [3])[0]? = some z := ⟨_, List.getElem?_eq_getElem (by rw [List.length_append]; show 0 < ns.length + 1; omega)⟩
    clear s1 s2 n1 n2 n3
    generalize ns ++ [3] = cs at hcells hcb hc0
    obtain ⟨z0, hz0⟩ := hc0
    have hz0v : (cs.map V.int)[0]? = some (V.int z0) := by rw [List.getElem?_map, hz0]; rfl
    have hz0b := hcb z0 (List.mem_of_getElem? hz0)
    -- small
    refine ⟨_, rfl, p, _, 0, _, rfl, rfl, SqL.of hcells, atI_nat (j := 0) hz0v, z0, 1, rfl, by decide, hz0b, fun y0 => ?_⟩
    refine ⟨y0, 2, 2, rfl, by omega, by omega, fun H2 tS rsT f s2 nt nrT T hF => ?_⟩
    obtain ⟨r, c, g⟩ := good_of (R := 2) (C := 2) (f := f) (by omega) (by omega) (by omega) (by omega) hF
    have hcells2 := s2 _ _ hcells
    -- near
    refine ⟨_, rfl, tS, rsT, 2, 2, (f, r, c), rfl, T, g, by decide, fun H3 d ss s3 inv hnear => ?_⟩
    obtain ⟨kvs, hd, hkv⟩ := hnear
    have hcnt := inv.count (by omega) (by omega) g (N := 12) Bf.PL4
    have hkl : kvs.length = ss.length := by
      have := congrArg List.length hkv
      rw [List.length_map, List.length_map] at this
      exact this
    have hcells3 := s3 _ _ hcells2
    have T3 := T.mono s3
    refine ⟨_, rfl, d, kvs, rfl, hd, rfl, _, rfl, iteNS (congrArg V.int (by rw [hkl, hcnt]; rfl)) ?_⟩
    refine ⟨24, rfl, by decide, by decide, ?_⟩
    refine for_it (walk_range (lo := 0) (n := 24)) (fun i σ H' => Same H3 H' ∧ ∃ v4 v5 v6, σ = [some (.ref a), some (.ref p), some (.ref tS), some (.ref d), v4, v5, v6, none, none])
      ⟨Same.refl _, none, none, none, rfl⟩ (fun _ _ _ _ _ => True.intro) ?_ ?_
    · rintro i x σ H4 H5 hi ⟨s4, v4, v5, v6, rfl⟩ ⟨rfl, rfl⟩
      refine ⟨_, rfl, _, 2, 2, rfl, by omega, by omega, fun H6 b rsB fB s6 nb nrB TB hFB => ?_⟩
      obtain ⟨rB, cB, gB⟩ := good_of (R := 2) (C := 2) (f := fB) (by omega) (by omega) (by omega) (by omega) hFB
      have s46 := s4.trans s6
      -- told
      refine ⟨_, rfl, _, rfl, tS, b, 2, 2, (f, r, c), (fB, rB, cB), rfl, ⟨⟨rsT, T3.mono s46⟩, ⟨rsB, TB⟩, g, gB⟩, fun H7 o n s7 hA hn => ?_⟩
      have s47 := s46.trans s7
      have hd7 := s47 _ _ hd
      have TB7 := TB.mono s7
      have kind := ans_kind (R := 2) (C := 2) (by decide) g gB hn
      have nr := near_iff (R := 2) (C := 2) (by omega) (by omega) (by omega) g gB inv
      obtain ⟨f1, f2, f3, f4, f5⟩ := facts (C := 2) (t := (fB, rB, cB)) (by omega) gB
      have isS : n.isL = (valV kvs (kyT 2 2 (fB, rB, cB))).isSome := by
        rw [Bool.eq_iff_iff, near_has hkv, nr]
        rcases kind with ⟨k1, _, k3, _⟩ | ⟨k1, _, k3⟩
        · rw [k1]
          exact ⟨fun _ => k3, fun _ => rfl⟩
        · rw [k1]
          exact ⟨(fun z => by cases z), (fun z => by omega)⟩
      refine ⟨_, rfl, .ref o, .ref CL, _, .ref CL, n.isL, rfl, .own CL, hA.ty Kn, Kn.isL n, ?_⟩
      refine ⟨_, rfl, b, _, rfl, TB7.dp, f1, f2, f3, f4, ?_⟩
      rw [f5]
      refine ⟨_, rfl, d, _, rfl, DGet.k (k := kyT 2 2 (fB, rB, cB)) hd7, rfl, _, rfl, iteNS (by rw [isS]) ?_⟩
      refine ⟨_, rfl, .ref o, .ref CO, _, .ref CO, n.isO, rfl, .own CO, hA.ty Kn, Kn.isO n, ?_⟩
      refine ⟨_, rfl, .ref o, .ref CL, _, .ref CL, n.isL, rfl, .own CL, hA.ty Kn, Kn.isL n, rfl, _, rfl, ?_⟩
      have neq : ¬ V.bl n.isO = V.bl n.isL := by
        rcases kind with ⟨k1, k2, _⟩ | ⟨k1, k2, _⟩
        · rw [k1, k2]
          exact fun z => by cases z
        · rw [k1, k2]
          exact fun z => by cases z
      rw [decide_eq_false neq]
      refine iteF ?_
      refine ⟨_, rfl, .ref o, .ref CL, _, .ref CL, n.isL, rfl, .own CL, hA.ty Kn, Kn.isL n, _, rfl, ?_⟩
      rcases kind with ⟨k1, _, _, ws, rfl, hled⟩ | ⟨k1, _⟩
      · rw [k1]
        refine iteT ?_
        obtain ⟨dx, fs, e1, e2, e3, e4⟩ := hA
        have go : ∃ s', goAll 2 2 (f, r, c) ws = some s' := by
          cases e : goAll 2 2 (f, r, c) ws with
          | some s' => exact ⟨s', rfl⟩
          | none =>
            unfold ledB at hled
            rw [e] at hled
            cases hled
        obtain ⟨s', hgo⟩ := go
        have ag : ∀ k, k < 2 * 2 → s'.1 k = fB k := by
          unfold ledB at hled
          rw [hgo] at hled
          exact of_decide_eq_true hled
        refine ⟨_, rfl, _, rfl, o, CL, dx, fs, _, rfl, e1, Kn.tL.cl, nf, e2, tS, rsT, 2, 2, (f, r, c), ws, rfl, T3.mono s47, g, fun s'' hs'' H8 p8 rs8 s8 np8 nrs8 T8 => ?_, fun hnn => by rw [hgo] at hnn; cases hnn⟩
        rw [hgo] at hs''
        cases hs''
        refine ⟨_, rfl, _, _, T8.dp, (TB7.mono s8).dp, shaped_rows _, shaped_rows _, _, rfl, ?_⟩
        rw [eqv_trays, decide_eq_true ag]
        exact iteF ⟨s47.trans s8, _, _, _, rfl⟩
      · rw [k1]
        exact iteF ⟨s47, _, _, _, rfl⟩
    rintro σ H4 ⟨s4, v4, v5, v6, rfl⟩
    have hcells4 := s4 _ _ hcells3
    refine ⟨_, rfl, p, cs, rfl, SqL.of hcells4, cs.sum, 8, rfl, rfl, (by show (0 : Int) < 8; decide), _, 0, rfl, rfl, _, rfl, decI (fun _ => ?_) (fun _ => ?_)⟩
    · exact q _
    -- wide
    refine ⟨_, rfl, p, _, 0, _, rfl, rfl, SqL.of hcells4, atI_nat (j := 0) hz0v, z0, 2, rfl, by decide, hz0b, fun y1 => ?_⟩
    refine ⟨y1, 2, 3, rfl, by omega, by omega, fun H5 t rsT f s5 nt nrT T hF => ?_⟩
    obtain ⟨r, c, g⟩ := good_of (R := 2) (C := 3) (f := f) (by omega) (by omega) (by omega) (by omega) hF
    have hcells5 := s5 _ _ hcells4
    refine ⟨_, rfl, t, rsT, 2, 3, (f, r, c), rfl, T, g, by decide, fun H3 d ss s3 inv hnear => ?_⟩
    obtain ⟨kvs, hd, hkv⟩ := hnear
    have hcnt := inv.count (by omega) (by omega) g (N := 360) Bf.PL6
    have hkl : kvs.length = ss.length := by
      have := congrArg List.length hkv
      rw [List.length_map, List.length_map] at this
      exact this
    have hcells6 := s3 _ _ hcells5
    have T3 := T.mono s3
    refine ⟨_, rfl, d, kvs, rfl, hd, rfl, _, rfl, iteNS (congrArg V.int (by rw [hkl, hcnt]; rfl)) ?_⟩
    refine ⟨_, rfl, 4, rfl, p, _, rfl, SqL.of hcells6, fun p4 n4 => ?_⟩
    have ecut : cutV (cs.map V.int) none (some 4) = (cs.take 4).map V.int := by rw [show (some (4 : Int)) = some ((4 : Nat) : Int) from rfl, cut_to, List.map_take]
    rw [ecut]
    have sp4 : Same H3 (upd H3 p4 (.lst ((cs.take 4).map V.int))) := same_upd n4
    have hp4 : (upd H3 p4 (.lst ((cs.take 4).map V.int))) p4 = some (.lst ((cs.take 4).map V.int)) := upd_same
    refine ⟨p4, rfl, ⟨_, SqL.of hp4⟩, ?_⟩
    have hd := sp4 _ _ hd
    have T3 := T3.mono sp4
    generalize upd H3 p4 (.lst ((cs.take 4).map V.int)) = H3 at *
    refine for_it (walk_list (K := K) (a := p4) (xs := (cs.take 4).map V.int)) (fun i σ H' => Same H3 H' ∧ ∃ v4 v5 v6 v8, σ = [some (.ref a), some (.ref p), some (.ref tS), some (.ref d), v4, v5, v6, some (.ref t), v8])
      ⟨Same.refl _, _, _, _, none, rfl⟩ (fun i σ H' _ p => p.1.seq (SqL.of hp4)) ?_ ?_
    · rintro i x σ H4' H5 hi ⟨s4, v4, v5, v6, v8, rfl⟩ ⟨rfl, hx⟩
      rw [List.length_map] at hi
      have hxi : (cs.take 4)[i]? = some (cs.take 4)[i] := List.getElem?_eq_getElem hi
      rw [List.getElem?_map, hxi] at hx
      cases hx
      have hzb : Builtin.Int.intBits (cs.take 4)[i] ≤ 1048576 := hcb _ (List.mem_of_mem_take (List.getElem_mem hi))
      refine ⟨_, rfl, _, 5, rfl, by decide, hzb, fun y2 => ?_⟩
      refine ⟨y2, 2, 3, rfl, by omega, by omega, fun H6 b rsB fB s6 nb nrB TB hFB => ?_⟩
      obtain ⟨rB, cB, gB⟩ := good_of (R := 2) (C := 3) (f := fB) (by omega) (by omega) (by omega) (by omega) hFB
      have s46 := s4.trans s6
      -- told
      refine ⟨_, rfl, _, rfl, t, b, 2, 3, (f, r, c), (fB, rB, cB), rfl, ⟨⟨rsT, T3.mono s46⟩, ⟨rsB, TB⟩, g, gB⟩, fun H7 o n s7 hA hn => ?_⟩
      have s47 := s46.trans s7
      have hd7 := s47 _ _ hd
      have TB7 := TB.mono s7
      have kind := ans_kind (R := 2) (C := 3) (by decide) g gB hn
      have nr := near_iff (R := 2) (C := 3) (by omega) (by omega) (by omega) g gB inv
      obtain ⟨f1, f2, f3, f4, f5⟩ := facts (C := 3) (t := (fB, rB, cB)) (by omega) gB
      have isS : n.isL = (valV kvs (kyT 2 3 (fB, rB, cB))).isSome := by
        rw [Bool.eq_iff_iff, near_has hkv, nr]
        rcases kind with ⟨k1, _, k3, _⟩ | ⟨k1, _, k3⟩
        · rw [k1]
          exact ⟨fun _ => k3, fun _ => rfl⟩
        · rw [k1]
          exact ⟨(fun z => by cases z), (fun z => by omega)⟩
      refine ⟨_, rfl, .ref o, .ref CL, _, .ref CL, n.isL, rfl, .own CL, hA.ty Kn, Kn.isL n, ?_⟩
      refine ⟨_, rfl, b, _, rfl, TB7.dp, f1, f2, f3, f4, ?_⟩
      rw [f5]
      refine ⟨_, rfl, d, _, rfl, DGet.k (k := kyT 2 3 (fB, rB, cB)) hd7, rfl, _, rfl, iteNS (by rw [isS]) ?_⟩
      refine ⟨_, rfl, .ref o, .ref CL, _, .ref CL, n.isL, rfl, .own CL, hA.ty Kn, Kn.isL n, _, rfl, ?_⟩
      rcases kind with ⟨k1, _, _, ws, rfl, hled⟩ | ⟨k1, _⟩
      · rw [k1]
        refine iteT ?_
        obtain ⟨dx, fs, e1, e2, e3, e4⟩ := hA
        have go : ∃ s', goAll 2 3 (f, r, c) ws = some s' := by
          cases e : goAll 2 3 (f, r, c) ws with
          | some s' => exact ⟨s', rfl⟩
          | none =>
            unfold ledB at hled
            rw [e] at hled
            cases hled
        obtain ⟨s', hgo⟩ := go
        have ag : ∀ k, k < 2 * 3 → s'.1 k = fB k := by
          unfold ledB at hled
          rw [hgo] at hled
          exact of_decide_eq_true hled
        refine ⟨_, rfl, _, rfl, o, CL, dx, fs, _, rfl, e1, Kn.tL.cl, nf, e2, t, rsT, 2, 3, (f, r, c), ws, rfl, T3.mono s47, g, fun s'' hs'' H8 p8 rs8 s8 np8 nrs8 T8 => ?_, fun hnn => by rw [hgo] at hnn; cases hnn⟩
        rw [hgo] at hs''
        cases hs''
        refine ⟨_, rfl, _, _, T8.dp, (TB7.mono s8).dp, shaped_rows _, shaped_rows _, _, rfl, ?_⟩
        rw [eqv_trays, decide_eq_true ag]
        exact iteF ⟨s47.trans s8, _, _, _, _, rfl⟩
      · rw [k1]
        exact iteF ⟨s47, _, _, _, _, rfl⟩
    rintro σ H4' ⟨s4, v4, v5, v6, v8, rfl⟩
    exact q _
end
end Tr
namespace Tr
open PySem PySem.Spec PyProof.Rows L2
theorem kit_own {K : PySem.W.Frag} {D C : Addr} {b : Bool} (h2 : PySem.W.isClsIn K C = true) (h3 : PySem.W.typeIn K (.ref C) = some (.type "type")) (h4 : PySem.W.subIn K (.ref D) (.ref C) = some b) (h5 : PySem.W.subIn K (.ref D) (.ref D) = some true) : PySem.W.kitOne K (.ref D) (.ref C) = some b := by
  unfold PySem.W.kitOne
  by_cases e : ((Value.ref D == Value.ref C) = true)
  · rw [if_pos e]
    have e2 : D = C := Value.ref.inj (beq_iff_eq.mp e)
    subst e2
    rw [h5] at h4
    exact h4
  · rw [if_neg e]
    have e2 : ((PySem.W.clsIn K C).isSome && PySem.W.typeIn K (.ref C) == some (.type "type")) = true := by
      have h2' : (PySem.W.clsIn K C).isSome = true := h2
      rw [h2', h3] <;> rfl
    show (if ((PySem.W.clsIn K C).isSome && PySem.W.typeIn K (.ref C) == some (.type "type")) = true then PySem.W.subIn K (.ref D) (.ref C) else none) = some b
    rw [if_pos e2]
    exact h4
theorem sgn_eq (a c : Nat) : ((txt [a] : Str) == txt [c]) = decide (a = c) := by
  by_cases h : a = c
  · subst h
    rw [decide_eq_true rfl]
    exact beq_self_eq_true _
  · rw [decide_eq_false h]
    exact beq_eq_false_iff_ne.mpr fun e => h (List.head_eq_of_cons_eq (txt_inj e))
theorem ns4 {K : PySem.W.Frag} {d : Addr} {n : Nat} {h1 h2 h3 h4 : Int} {t1 t2 t3 t4 : Tok} {v1 v2 v3 v4 : Value}
    (l : K.lookup d = some ⟨.type "dict", none, .dict #[⟨h1, .str "u" t1, v1⟩, ⟨h2, .str "d" t2, v2⟩, ⟨h3, .str "l" t3, v3⟩, ⟨h4, .str "r" t4, v4⟩] n, #[]⟩) (c : Nat) :
    PySem.W.nsIn K d (txt [c]) = some (if c = 117 then some v1 else if c = 100 then some v2 else if c = 108 then some v3 else if c = 114 then some v4 else none) := by
  unfold PySem.W.nsIn
  rw [l]
  have f : (#[⟨h1, .str "u" t1, v1⟩, ⟨h2, .str "d" t2, v2⟩, ⟨h3, .str "l" t3, v3⟩, ⟨h4, .str "r" t4, v4⟩] : Array DictEntry).toList.find? (fun e => e.key.isStr (txt [c])) =
      if c = 117 then some ⟨h1, .str "u" t1, v1⟩ else if c = 100 then some ⟨h2, .str "d" t2, v2⟩ else if c = 108 then some ⟨h3, .str "l" t3, v3⟩ else if c = 114 then some ⟨h4, .str "r" t4, v4⟩ else none := by
    show List.find? (fun e : DictEntry => e.key.isStr (txt [c])) [⟨h1, .str "u" t1, v1⟩, ⟨h2, .str "d" t2, v2⟩, ⟨h3, .str "l" t3, v3⟩, ⟨h4, .str "r" t4, v4⟩] = _
    rw [u_eq, d_eq, l_eq, r_eq]
    have g : ∀ (h : Int) (a : Nat) (t : Tok) (v : Value), Value.isStr (DictEntry.key ⟨h, .str (txt [a]) t, v⟩) (txt [c]) = decide (a = c) := fun h a t v => sgn_eq a c
    by_cases z1 : c = 117
    · rw [if_pos z1, List.find?_cons_of_pos (by rw [g]; exact decide_eq_true z1.symm)]
    rw [if_neg z1, List.find?_cons_of_neg (by rw [g, decide_eq_true_eq]; exact fun e => z1 e.symm)]
    by_cases z2 : c = 100
    · rw [if_pos z2, List.find?_cons_of_pos (by rw [g]; exact decide_eq_true z2.symm)]
    rw [if_neg z2, List.find?_cons_of_neg (by rw [g, decide_eq_true_eq]; exact fun e => z2 e.symm)]
    by_cases z3 : c = 108
    · rw [if_pos z3, List.find?_cons_of_pos (by rw [g]; exact decide_eq_true z3.symm)]
    rw [if_neg z3, List.find?_cons_of_neg (by rw [g, decide_eq_true_eq]; exact fun e => z3 e.symm)]
    by_cases z4 : c = 114
    · rw [if_pos z4, List.find?_cons_of_pos (by rw [g]; exact decide_eq_true z4.symm)]
    rw [if_neg z4, List.find?_cons_of_neg (by rw [g, decide_eq_true_eq]; exact fun e => z4 e.symm)]
    rfl
  dsimp only
  rw [f]
  by_cases z1 : c = 117
  · rw [if_pos z1, if_pos z1]
  rw [if_neg z1, if_neg z1]
  by_cases z2 : c = 100
  · rw [if_pos z2, if_pos z2]
  rw [if_neg z2, if_neg z2]
  by_cases z3 : c = 108
  · rw [if_pos z3, if_pos z3]
  rw [if_neg z3, if_neg z3]
  by_cases z4 : c = 114
  · rw [if_pos z4, if_pos z4]
  rw [if_neg z4, if_neg z4]
  rfl
theorem sqT_two {K : PySem.W.Frag} {p : Addr} {a b : Int} {ta tb : Tok} {od : Option Addr} {n : Nat} {sl : Array (Option Value)} (l : K.lookup p = some ⟨.type "tuple", od, .seq #[.int a ta, .int b tb] n, sl⟩) : ∀ H, SqT K H p [.int a, .int b] := fun H =>
  .inr ⟨_, #[.int a ta, .int b tb], n, l, rfl, rfl, (by show 2 ≤ sizeLine; decide), .cons ⟨_, rfl⟩ (.cons ⟨_, rfl⟩ .nil)⟩
theorem all_mk {l : PySem.W.OpenLaw} {w : World} {K : PySem.W.Frag} {h : Heap} {mg : Str → Option Value} {fa f0 f1 f2 f3 f4 f5 f6 f7 f8 f9 f10 f11 f12 f13 f14 f15 f16 f17 f18 f19 f20 f21 f22 f23 f24 f25 f26 f27 f28 f29 CS CL f30 f31 CO f32 f33 CP f34 f35 f36 CA dS p1 p2 p3 p4 dB : Addr} (X : K.In h) (G : h.Ns mainGlobals mg) (hfa : mg "law" = some (.ref fa))
    {od0 an0 : Option Addr} {sl0 : Array (Option Value)} {oc0 kV0 dc0 pm0 cd0 ct0 : Value} {od1 an1 : Option Addr} {sl1 : Array (Option Value)} {oc1 kV1 dc1 pm1 cd1 ct1 : Value} {od2 an2 : Option Addr} {sl2 : Array (Option Value)} {oc2 kV2 dc2 pm2 cd2 ct2 : Value} {od3 an3 : Option Addr} {sl3 : Array (Option Value)} {oc3 kV3 dc3 pm3 cd3 ct3 : Value} {od4 an4 : Option Addr} {sl4 : Array (Option Value)} {oc4 kV4 dc4 pm4 cd4 ct4 : Value} {od5 an5 : Option Addr} {sl5 : Array (Option Value)} {oc5 kV5 dc5 pm5 cd5 ct5 : Value} {od6 an6 : Option Addr} {sl6 : Array (Option Value)} {oc6 kV6 dc6 pm6 cd6 ct6 : Value} {od7 an7 : Option Addr} {sl7 : Array (Option Value)} {oc7 kV7 dc7 pm7 cd7 ct7 : Value} {od8 an8 : Option Addr} {sl8 : Array (Option Value)} {oc8 kV8 dc8 pm8 cd8 ct8 : Value} {od9 an9 : Option Addr} {sl9 : Array (Option Value)} {oc9 kV9 dc9 pm9 cd9 ct9 : Value} {od10 an10 : Option Addr} {sl10 : Array (Option Value)} {oc10 kV10 dc10 pm10 cd10 ct10 : Value} {od11 an11 : Option Addr} {sl11 : Array (Option Value)} {oc11 kV11 dc11 pm11 cd11 ct11 : Value} {od12 an12 : Option Addr} {sl12 : Array (Option Value)} {oc12 kV12 dc12 pm12 cd12 ct12 : Value} {od13 an13 : Option Addr} {sl13 : Array (Option Value)} {oc13 kV13 dc13 pm13 cd13 ct13 : Value} {od14 an14 : Option Addr} {sl14 : Array (Option Value)} {oc14 kV14 dc14 pm14 cd14 ct14 : Value} {od15 an15 : Option Addr} {sl15 : Array (Option Value)} {oc15 kV15 dc15 pm15 cd15 ct15 : Value} {od16 an16 : Option Addr} {sl16 : Array (Option Value)} {oc16 kV16 dc16 pm16 cd16 ct16 : Value} {od17 an17 : Option Addr} {sl17 : Array (Option Value)} {oc17 kV17 dc17 pm17 cd17 ct17 : Value} {od18 an18 : Option Addr} {sl18 : Array (Option Value)} {oc18 kV18 dc18 pm18 cd18 ct18 : Value} {od19 an19 : Option Addr} {sl19 : Array (Option Value)} {oc19 kV19 dc19 pm19 cd19 ct19 : Value} {od20 an20 : Option Addr} {sl20 : Array (Option Value)} {oc20 kV20 dc20 pm20 cd20 ct20 : Value} {od21 an21 : Option Addr} {sl21 : Array (Option Value)} {oc21 kV21 dc21 pm21 cd21 ct21 : Value} {od22 an22 : Option Addr} {sl22 : Array (Option Value)} {oc22 kV22 dc22 pm22 cd22 ct22 : Value} {od23 an23 : Option Addr} {sl23 : Array (Option Value)} {oc23 kV23 dc23 pm23 cd23 ct23 : Value} {od24 an24 : Option Addr} {sl24 : Array (Option Value)} {oc24 kV24 dc24 pm24 cd24 ct24 : Value} {od25 an25 : Option Addr} {sl25 : Array (Option Value)} {oc25 kV25 dc25 pm25 cd25 ct25 : Value} {od26 an26 : Option Addr} {sl26 : Array (Option Value)} {oc26 kV26 dc26 pm26 cd26 ct26 : Value} {od27 an27 : Option Addr} {sl27 : Array (Option Value)} {oc27 kV27 dc27 pm27 cd27 ct27 : Value} {od28 an28 : Option Addr} {sl28 : Array (Option Value)} {oc28 kV28 dc28 pm28 cd28 ct28 : Value} {od29 an29 : Option Addr} {sl29 : Array (Option Value)} {oc29 kV29 dc29 pm29 cd29 ct29 : Value} {od30 an30 : Option Addr} {sl30 : Array (Option Value)} {oc30 kV30 dc30 pm30 cd30 ct30 : Value} {od31 an31 : Option Addr} {sl31 : Array (Option Value)} {oc31 kV31 dc31 pm31 cd31 ct31 : Value} {od32 an32 : Option Addr} {sl32 : Array (Option Value)} {oc32 kV32 dc32 pm32 cd32 ct32 : Value} {od33 an33 : Option Addr} {sl33 : Array (Option Value)} {oc33 kV33 dc33 pm33 cd33 ct33 : Value} {od34 an34 : Option Addr} {sl34 : Array (Option Value)} {oc34 kV34 dc34 pm34 cd34 ct34 : Value} {od35 an35 : Option Addr} {sl35 : Array (Option Value)} {oc35 kV35 dc35 pm35 cd35 ct35 : Value} {od36 an36 : Option Addr} {sl36 : Array (Option Value)} {oc36 kV36 dc36 pm36 cd36 ct36 : Value} {tM : Tok} {tL : Tok} {ks1 ks2 ks3 ks4 qa1 qa2 qa3 qa4 qb1 qb2 qb3 qb4 : Tok} {hs1 hs2 hs3 hs4 : Int} {nS qn1 qn2 qn3 qn4 : Nat} {qd1 qd2 qd3 qd4 : Option Addr} {qs1 qs2 qs3 qs4 : Array (Option Value)} {kb1 kb2 kb3 kb4 vb1 vb2 vb3 vb4 : Tok} {hb1 hb2 hb3 hb4 : Int} {nB : Nat}
    (a0 : PySem.W.nsIn K mainGlobals "moved" = some (some (.ref f0)))
    (l0 : K.lookup f0 = some ⟨oc0, od0, .func (PySem.W.fnOf "moved" "moved" (defArgs d_moved) (defBody d_moved) (defScope d_moved) .none kV0 dc0 pm0 an0 cd0 ct0), sl0⟩)
    (c0 : PySem.W.codeIn K cd0 "moved" = true)
    (k0 : PySem.W.keepIn K (.ref f0) = true)
    (a1 : PySem.W.nsIn K mainGlobals "undone" = some (some (.ref f1)))
    (l1 : K.lookup f1 = some ⟨oc1, od1, .func (PySem.W.fnOf "undone" "undone" (defArgs d_undone) (defBody d_undone) (defScope d_undone) .none kV1 dc1 pm1 an1 cd1 ct1), sl1⟩)
    (c1 : PySem.W.codeIn K cd1 "undone" = true)
    (k1 : PySem.W.keepIn K (.ref f1) = true)
    (a2 : PySem.W.nsIn K mainGlobals "thinned" = some (some (.ref f2)))
    (l2 : K.lookup f2 = some ⟨oc2, od2, .func (PySem.W.fnOf "thinned" "thinned" (defArgs d_thinned) (defBody d_thinned) (defScope d_thinned) .none kV2 dc2 pm2 an2 cd2 ct2), sl2⟩)
    (c2 : PySem.W.codeIn K cd2 "thinned" = true)
    (k2 : PySem.W.keepIn K (.ref f2) = true)
    (a3 : PySem.W.nsIn K mainGlobals "check_tray" = some (some (.ref f3)))
    (l3 : K.lookup f3 = some ⟨oc3, od3, .func (PySem.W.fnOf "check_tray" "check_tray" (defArgs d_check_tray) (defBody d_check_tray) (defScope d_check_tray) .none kV3 dc3 pm3 an3 cd3 ct3), sl3⟩)
    (c3 : PySem.W.codeIn K cd3 "check_tray" = true)
    (k3 : PySem.W.keepIn K (.ref f3) = true)
    (a4 : PySem.W.nsIn K mainGlobals "check_slides" = some (some (.ref f4)))
    (l4 : K.lookup f4 = some ⟨oc4, od4, .func (PySem.W.fnOf "check_slides" "check_slides" (defArgs d_check_slides) (defBody d_check_slides) (defScope d_check_slides) .none kV4 dc4 pm4 an4 cd4 ct4), sl4⟩)
    (c4 : PySem.W.codeIn K cd4 "check_slides" = true)
    (k4 : PySem.W.keepIn K (.ref f4) = true)
    (a5 : PySem.W.nsIn K mainGlobals "empty_place" = some (some (.ref f5)))
    (l5 : K.lookup f5 = some ⟨oc5, od5, .func (PySem.W.fnOf "empty_place" "empty_place" (defArgs d_empty_place) (defBody d_empty_place) (defScope d_empty_place) .none kV5 dc5 pm5 an5 cd5 ct5), sl5⟩)
    (c5 : PySem.W.codeIn K cd5 "empty_place" = true)
    (k5 : PySem.W.keepIn K (.ref f5) = true)
    (a6 : PySem.W.nsIn K mainGlobals "place_beside" = some (some (.ref f6)))
    (l6 : K.lookup f6 = some ⟨oc6, od6, .func (PySem.W.fnOf "place_beside" "place_beside" (defArgs d_place_beside) (defBody d_place_beside) (defScope d_place_beside) .none kV6 dc6 pm6 an6 cd6 ct6), sl6⟩)
    (c6 : PySem.W.codeIn K cd6 "place_beside" = true)
    (k6 : PySem.W.keepIn K (.ref f6) = true)
    (a7 : PySem.W.nsIn K mainGlobals "is_wide" = some (some (.ref f7)))
    (l7 : K.lookup f7 = some ⟨oc7, od7, .func (PySem.W.fnOf "is_wide" "is_wide" (defArgs d_is_wide) (defBody d_is_wide) (defScope d_is_wide) .none kV7 dc7 pm7 an7 cd7 ct7), sl7⟩)
    (c7 : PySem.W.codeIn K cd7 "is_wide" = true)
    (k7 : PySem.W.keepIn K (.ref f7) = true)
    (a8 : PySem.W.nsIn K mainGlobals "numbers_of" = some (some (.ref f8)))
    (l8 : K.lookup f8 = some ⟨oc8, od8, .func (PySem.W.fnOf "numbers_of" "numbers_of" (defArgs d_numbers_of) (defBody d_numbers_of) (defScope d_numbers_of) .none kV8 dc8 pm8 an8 cd8 ct8), sl8⟩)
    (c8 : PySem.W.codeIn K cd8 "numbers_of" = true)
    (k8 : PySem.W.keepIn K (.ref f8) = true)
    (a9 : PySem.W.nsIn K mainGlobals "pieces_of" = some (some (.ref f9)))
    (l9 : K.lookup f9 = some ⟨oc9, od9, .func (PySem.W.fnOf "pieces_of" "pieces_of" (defArgs d_pieces_of) (defBody d_pieces_of) (defScope d_pieces_of) .none kV9 dc9 pm9 an9 cd9 ct9), sl9⟩)
    (c9 : PySem.W.codeIn K cd9 "pieces_of" = true)
    (k9 : PySem.W.keepIn K (.ref f9) = true)
    (a10 : PySem.W.nsIn K mainGlobals "crossed_pairs" = some (some (.ref f10)))
    (l10 : K.lookup f10 = some ⟨oc10, od10, .func (PySem.W.fnOf "crossed_pairs" "crossed_pairs" (defArgs d_crossed_pairs) (defBody d_crossed_pairs) (defScope d_crossed_pairs) .none kV10 dc10 pm10 an10 cd10 ct10), sl10⟩)
    (c10 : PySem.W.codeIn K cd10 "crossed_pairs" = true)
    (k10 : PySem.W.keepIn K (.ref f10) = true)
    (a11 : PySem.W.nsIn K mainGlobals "steps_apart" = some (some (.ref f11)))
    (l11 : K.lookup f11 = some ⟨oc11, od11, .func (PySem.W.fnOf "steps_apart" "steps_apart" (defArgs d_steps_apart) (defBody d_steps_apart) (defScope d_steps_apart) .none kV11 dc11 pm11 an11 cd11 ct11), sl11⟩)
    (c11 : PySem.W.codeIn K cd11 "steps_apart" = true)
    (k11 : PySem.W.keepIn K (.ref f11) = true)
    (a12 : PySem.W.nsIn K mainGlobals "straight" = some (some (.ref f12)))
    (l12 : K.lookup f12 = some ⟨oc12, od12, .func (PySem.W.fnOf "straight" "straight" (defArgs d_straight) (defBody d_straight) (defScope d_straight) .none kV12 dc12 pm12 an12 cd12 ct12), sl12⟩)
    (c12 : PySem.W.codeIn K cd12 "straight" = true)
    (k12 : PySem.W.keepIn K (.ref f12) = true)
    (a13 : PySem.W.nsIn K mainGlobals "slides_between" = some (some (.ref f13)))
    (l13 : K.lookup f13 = some ⟨oc13, od13, .func (PySem.W.fnOf "slides_between" "slides_between" (defArgs d_slides_between) (defBody d_slides_between) (defScope d_slides_between) .none kV13 dc13 pm13 an13 cd13 ct13), sl13⟩)
    (c13 : PySem.W.codeIn K cd13 "slides_between" = true)
    (k13 : PySem.W.keepIn K (.ref f13) = true)
    (a14 : PySem.W.nsIn K mainGlobals "settling_slides" = some (some (.ref f14)))
    (l14 : K.lookup f14 = some ⟨oc14, od14, .func (PySem.W.fnOf "settling_slides" "settling_slides" (defArgs d_settling_slides) (defBody d_settling_slides) (defScope d_settling_slides) .none kV14 dc14 pm14 an14 cd14 ct14), sl14⟩)
    (c14 : PySem.W.codeIn K cd14 "settling_slides" = true)
    (k14 : PySem.W.keepIn K (.ref f14) = true)
    (a15 : PySem.W.nsIn K mainGlobals "groups_of_places" = some (some (.ref f15)))
    (l15 : K.lookup f15 = some ⟨oc15, od15, .func (PySem.W.fnOf "groups_of_places" "groups_of_places" (defArgs d_groups_of_places) (defBody d_groups_of_places) (defScope d_groups_of_places) .none kV15 dc15 pm15 an15 cd15 ct15), sl15⟩)
    (c15 : PySem.W.codeIn K cd15 "groups_of_places" = true)
    (k15 : PySem.W.keepIn K (.ref f15) = true)
    (a16 : PySem.W.nsIn K mainGlobals "group_slides" = some (some (.ref f16)))
    (l16 : K.lookup f16 = some ⟨oc16, od16, .func (PySem.W.fnOf "group_slides" "group_slides" (defArgs d_group_slides) (defBody d_group_slides) (defScope d_group_slides) .none kV16 dc16 pm16 an16 cd16 ct16), sl16⟩)
    (c16 : PySem.W.codeIn K cd16 "group_slides" = true)
    (k16 : PySem.W.keepIn K (.ref f16) = true)
    (a17 : PySem.W.nsIn K mainGlobals "standing_behind" = some (some (.ref f17)))
    (l17 : K.lookup f17 = some ⟨oc17, od17, .func (PySem.W.fnOf "standing_behind" "standing_behind" (defArgs d_standing_behind) (defBody d_standing_behind) (defScope d_standing_behind) .none kV17 dc17 pm17 an17 cd17 ct17), sl17⟩)
    (c17 : PySem.W.codeIn K cd17 "standing_behind" = true)
    (k17 : PySem.W.keepIn K (.ref f17) = true)
    (a18 : PySem.W.nsIn K mainGlobals "free_places_beside" = some (some (.ref f18)))
    (l18 : K.lookup f18 = some ⟨oc18, od18, .func (PySem.W.fnOf "free_places_beside" "free_places_beside" (defArgs d_free_places_beside) (defBody d_free_places_beside) (defScope d_free_places_beside) .none kV18 dc18 pm18 an18 cd18 ct18), sl18⟩)
    (c18 : PySem.W.codeIn K cd18 "free_places_beside" = true)
    (k18 : PySem.W.keepIn K (.ref f18) = true)
    (a19 : PySem.W.nsIn K mainGlobals "places_of" = some (some (.ref f19)))
    (l19 : K.lookup f19 = some ⟨oc19, od19, .func (PySem.W.fnOf "places_of" "places_of" (defArgs d_places_of) (defBody d_places_of) (defScope d_places_of) .none kV19 dc19 pm19 an19 cd19 ct19), sl19⟩)
    (c19 : PySem.W.codeIn K cd19 "places_of" = true)
    (k19 : PySem.W.keepIn K (.ref f19) = true)
    (a20 : PySem.W.nsIn K mainGlobals "told" = some (some (.ref f20)))
    (l20 : K.lookup f20 = some ⟨oc20, od20, .func (PySem.W.fnOf "told" "told" (defArgs d_told) (defBody d_told) (defScope d_told) .none kV20 dc20 pm20 an20 cd20 ct20), sl20⟩)
    (c20 : PySem.W.codeIn K cd20 "told" = true)
    (k20 : PySem.W.keepIn K (.ref f20) = true)
    (a21 : PySem.W.nsIn K mainGlobals "told_of_wide" = some (some (.ref f21)))
    (l21 : K.lookup f21 = some ⟨oc21, od21, .func (PySem.W.fnOf "told_of_wide" "told_of_wide" (defArgs d_told_of_wide) (defBody d_told_of_wide) (defScope d_told_of_wide) .none kV21 dc21 pm21 an21 cd21 ct21), sl21⟩)
    (c21 : PySem.W.codeIn K cd21 "told_of_wide" = true)
    (k21 : PySem.W.keepIn K (.ref f21) = true)
    (a22 : PySem.W.nsIn K mainGlobals "told_of_narrow" = some (some (.ref f22)))
    (l22 : K.lookup f22 = some ⟨oc22, od22, .func (PySem.W.fnOf "told_of_narrow" "told_of_narrow" (defArgs d_told_of_narrow) (defBody d_told_of_narrow) (defScope d_told_of_narrow) .none kV22 dc22 pm22 an22 cd22 ct22), sl22⟩)
    (c22 : PySem.W.codeIn K cd22 "told_of_narrow" = true)
    (k22 : PySem.W.keepIn K (.ref f22) = true)
    (a23 : PySem.W.nsIn K mainGlobals "_law_order" = some (some (.ref f23)))
    (l23 : K.lookup f23 = some ⟨oc23, od23, .func (PySem.W.fnOf "_law_order" "_law_order" (defArgs d_law_order) (defBody d_law_order) (defScope d_law_order) .none kV23 dc23 pm23 an23 cd23 ct23), sl23⟩)
    (c23 : PySem.W.codeIn K cd23 "_law_order" = true)
    (k23 : PySem.W.keepIn K (.ref f23) = true)
    (a24 : PySem.W.nsIn K mainGlobals "_law_digits" = some (some (.ref f24)))
    (l24 : K.lookup f24 = some ⟨oc24, od24, .func (PySem.W.fnOf "_law_digits" "_law_digits" (defArgs d_law_digits) (defBody d_law_digits) (defScope d_law_digits) .none kV24 dc24 pm24 an24 cd24 ct24), sl24⟩)
    (c24 : PySem.W.codeIn K cd24 "_law_digits" = true)
    (k24 : PySem.W.keepIn K (.ref f24) = true)
    (a25 : PySem.W.nsIn K mainGlobals "_law_tray" = some (some (.ref f25)))
    (l25 : K.lookup f25 = some ⟨oc25, od25, .func (PySem.W.fnOf "_law_tray" "_law_tray" (defArgs d_law_tray) (defBody d_law_tray) (defScope d_law_tray) .none kV25 dc25 pm25 an25 cd25 ct25), sl25⟩)
    (c25 : PySem.W.codeIn K cd25 "_law_tray" = true)
    (k25 : PySem.W.keepIn K (.ref f25) = true)
    (a26 : PySem.W.nsIn K mainGlobals "_law_place" = some (some (.ref f26)))
    (l26 : K.lookup f26 = some ⟨oc26, od26, .func (PySem.W.fnOf "_law_place" "_law_place" (defArgs d_law_place) (defBody d_law_place) (defScope d_law_place) .none kV26 dc26 pm26 an26 cd26 ct26), sl26⟩)
    (c26 : PySem.W.codeIn K cd26 "_law_place" = true)
    (k26 : PySem.W.keepIn K (.ref f26) = true)
    (a27 : PySem.W.nsIn K mainGlobals "_law_slid" = some (some (.ref f27)))
    (l27 : K.lookup f27 = some ⟨oc27, od27, .func (PySem.W.fnOf "_law_slid" "_law_slid" (defArgs d_law_slid) (defBody d_law_slid) (defScope d_law_slid) .none kV27 dc27 pm27 an27 cd27 ct27), sl27⟩)
    (c27 : PySem.W.codeIn K cd27 "_law_slid" = true)
    (k27 : PySem.W.keepIn K (.ref f27) = true)
    (a28 : PySem.W.nsIn K mainGlobals "_law_come_to" = some (some (.ref f28)))
    (l28 : K.lookup f28 = some ⟨oc28, od28, .func (PySem.W.fnOf "_law_come_to" "_law_come_to" (defArgs d_law_come_to) (defBody d_law_come_to) (defScope d_law_come_to) .none kV28 dc28 pm28 an28 cd28 ct28), sl28⟩)
    (c28 : PySem.W.codeIn K cd28 "_law_come_to" = true)
    (k28 : PySem.W.keepIn K (.ref f28) = true)
    (a29 : PySem.W.nsIn K mainGlobals "law" = some (some (.ref f29)))
    (l29 : K.lookup f29 = some ⟨oc29, od29, .func (PySem.W.fnOf "law" "law" (defArgs d_law) (defBody d_law) (defScope d_law) .none kV29 dc29 pm29 an29 cd29 ct29), sl29⟩)
    (c29 : PySem.W.codeIn K cd29 "law" = true)
    (k29 : PySem.W.keepIn K (.ref f29) = true)
    (z_list : PySem.W.nsIn K mainGlobals "list" = some none)
    (z_len : PySem.W.nsIn K mainGlobals "len" = some none)
    (z_isinstance : PySem.W.nsIn K mainGlobals "isinstance" = some none)
    (z_int : PySem.W.nsIn K mainGlobals "int" = some none)
    (z_bool : PySem.W.nsIn K mainGlobals "bool" = some none)
    (z_sorted : PySem.W.nsIn K mainGlobals "sorted" = some none)
    (z_range : PySem.W.nsIn K mainGlobals "range" = some none)
    (z_str : PySem.W.nsIn K mainGlobals "str" = some none)
    (z_enumerate : PySem.W.nsIn K mainGlobals "enumerate" = some none)
    (z_abs : PySem.W.nsIn K mainGlobals "abs" = some none)
    (z_sum : PySem.W.nsIn K mainGlobals "sum" = some none)
    (z_tuple : PySem.W.nsIn K mainGlobals "tuple" = some none)
    (z_zip : PySem.W.nsIn K mainGlobals "zip" = some none)
    (vC : PySem.W.nsIn K mainGlobals "combinations" = some (some (.type "itertools.combinations")))
    (gCS : PySem.W.nsIn K mainGlobals "BadSlides" = some (some (.ref CS)))
    (iCS : PySem.W.isClsIn K CS = true)
    (tCS : PySem.W.typeIn K (.ref CS) = some (.type "type"))
    (xCS : PySem.W.excIn K CS [.type "ValueError", .type "Exception", .type "BaseException", .type "object"] "ValueError.__new__" = true)
    (kCS : PySem.W.keepIn K (.ref CS) = true)
    (bCS : PySem.W.subIn K (.ref CS) (.type "BaseException") = some true)
    (hCS : PySem.W.hasDictIn K CS = true)
    (sCSCS : PySem.W.subIn K (.ref CS) (.ref CS) = some true)
    (gCL : PySem.W.nsIn K mainGlobals "Led" = some (some (.ref CL)))
    (pgCL : PySem.W.plainGet K CL Str.empty = true)
    (hdCL : PySem.W.hasDictIn K CL = true)
    (poCL : PySem.W.plainOver K CL = true)
    (saCL : PySem.W.findIn K (.ref CL) "__setattr__" = some (some (.builtin "object.__setattr__")))
    (mkCL : PySem.W.makesIn K CL = true)
    (kcCL : PySem.W.keepIn K (.ref CL) = true)
    (nCLslides : PySem.W.findIn K (.ref CL) "slides" = some none)
    (fi30 : PySem.W.findIn K (.ref CL) "__init__" = some (some (.ref f30)))
    (if30 : PySem.W.isFn K (.ref f30) = true)
    (l30 : K.lookup f30 = some ⟨oc30, od30, .func (PySem.W.fnOf "__init__" "Led.__init__" (defArgs d_Led_init) (defBody d_Led_init) (defScope d_Led_init) .none kV30 dc30 pm30 an30 cd30 ct30), sl30⟩)
    (c30 : PySem.W.codeIn K cd30 "Led.__init__" = true)
    (k30 : PySem.W.keepIn K (.ref f30) = true)
    (fi31 : PySem.W.findIn K (.ref CL) "shows" = some (some (.ref f31)))
    (if31 : PySem.W.isFn K (.ref f31) = true)
    (l31 : K.lookup f31 = some ⟨oc31, od31, .func (PySem.W.fnOf "shows" "Led.shows" (defArgs d_Led_shows) (defBody d_Led_shows) (defScope d_Led_shows) .none kV31 dc31 pm31 an31 cd31 ct31), sl31⟩)
    (c31 : PySem.W.codeIn K cd31 "Led.shows" = true)
    (k31 : PySem.W.keepIn K (.ref f31) = true)
    (gCO : PySem.W.nsIn K mainGlobals "Odd" = some (some (.ref CO)))
    (pgCO : PySem.W.plainGet K CO Str.empty = true)
    (hdCO : PySem.W.hasDictIn K CO = true)
    (poCO : PySem.W.plainOver K CO = true)
    (saCO : PySem.W.findIn K (.ref CO) "__setattr__" = some (some (.builtin "object.__setattr__")))
    (mkCO : PySem.W.makesIn K CO = true)
    (kcCO : PySem.W.keepIn K (.ref CO) = true)
    (nCOcrossed : PySem.W.findIn K (.ref CO) "crossed" = some none)
    (nCOsteps : PySem.W.findIn K (.ref CO) "steps" = some none)
    (fi32 : PySem.W.findIn K (.ref CO) "__init__" = some (some (.ref f32)))
    (if32 : PySem.W.isFn K (.ref f32) = true)
    (l32 : K.lookup f32 = some ⟨oc32, od32, .func (PySem.W.fnOf "__init__" "Odd.__init__" (defArgs d_Odd_init) (defBody d_Odd_init) (defScope d_Odd_init) .none kV32 dc32 pm32 an32 cd32 ct32), sl32⟩)
    (c32 : PySem.W.codeIn K cd32 "Odd.__init__" = true)
    (k32 : PySem.W.keepIn K (.ref f32) = true)
    (fi33 : PySem.W.findIn K (.ref CO) "shows" = some (some (.ref f33)))
    (if33 : PySem.W.isFn K (.ref f33) = true)
    (l33 : K.lookup f33 = some ⟨oc33, od33, .func (PySem.W.fnOf "shows" "Odd.shows" (defArgs d_Odd_shows) (defBody d_Odd_shows) (defScope d_Odd_shows) .none kV33 dc33 pm33 an33 cd33 ct33), sl33⟩)
    (c33 : PySem.W.codeIn K cd33 "Odd.shows" = true)
    (k33 : PySem.W.keepIn K (.ref f33) = true)
    (gCP : PySem.W.nsIn K mainGlobals "Passed" = some (some (.ref CP)))
    (pgCP : PySem.W.plainGet K CP Str.empty = true)
    (hdCP : PySem.W.hasDictIn K CP = true)
    (poCP : PySem.W.plainOver K CP = true)
    (saCP : PySem.W.findIn K (.ref CP) "__setattr__" = some (some (.builtin "object.__setattr__")))
    (mkCP : PySem.W.makesIn K CP = true)
    (kcCP : PySem.W.keepIn K (.ref CP) = true)
    (nCPone : PySem.W.findIn K (.ref CP) "one" = some none)
    (nCPother : PySem.W.findIn K (.ref CP) "other" = some none)
    (fi34 : PySem.W.findIn K (.ref CP) "__init__" = some (some (.ref f34)))
    (if34 : PySem.W.isFn K (.ref f34) = true)
    (l34 : K.lookup f34 = some ⟨oc34, od34, .func (PySem.W.fnOf "__init__" "Passed.__init__" (defArgs d_Passed_init) (defBody d_Passed_init) (defScope d_Passed_init) .none kV34 dc34 pm34 an34 cd34 ct34), sl34⟩)
    (c34 : PySem.W.codeIn K cd34 "Passed.__init__" = true)
    (k34 : PySem.W.keepIn K (.ref f34) = true)
    (fi35 : PySem.W.findIn K (.ref CP) "shows" = some (some (.ref f35)))
    (if35 : PySem.W.isFn K (.ref f35) = true)
    (l35 : K.lookup f35 = some ⟨oc35, od35, .func (PySem.W.fnOf "shows" "Passed.shows" (defArgs d_Passed_shows) (defBody d_Passed_shows) (defScope d_Passed_shows) .none kV35 dc35 pm35 an35 cd35 ct35), sl35⟩)
    (c35 : PySem.W.codeIn K cd35 "Passed.shows" = true)
    (k35 : PySem.W.keepIn K (.ref f35) = true)
    (fi36 : PySem.W.findIn K (.ref CP) "is_first" = some (some (.ref f36)))
    (if36 : PySem.W.isFn K (.ref f36) = true)
    (l36 : K.lookup f36 = some ⟨oc36, od36, .func (PySem.W.fnOf "is_first" "Passed.is_first" (defArgs d_Passed_is_first) (defBody d_Passed_is_first) (defScope d_Passed_is_first) .none kV36 dc36 pm36 an36 cd36 ct36), sl36⟩)
    (c36 : PySem.W.codeIn K cd36 "Passed.is_first" = true)
    (k36 : PySem.W.keepIn K (.ref f36) = true)
    (gCA : PySem.W.nsIn K mainGlobals "Answer" = some (some (.ref CA)))
    (iCA : PySem.W.isClsIn K CA = true)
    (tCA : PySem.W.typeIn K (.ref CA) = some (.type "type"))
    (en : PySem.W.specialIn K (.builtin "object.__class__") "__get__" = some (some (.builtin "getset_descriptor.__get__")))
    (et : PySem.W.takesIn K (.builtin "object.__class__") = some true)
    (iCL : PySem.W.isClsIn K CL = true)
    (tCL : PySem.W.typeIn K (.ref CL) = some (.type "type"))
    (eaCL : PySem.W.findIn K (.ref CL) "__class__" = some (some (.builtin "object.__class__")))
    (emCL : PySem.W.mroIn K CL (.type "object") = some true)
    (sCLCL : PySem.W.subIn K (.ref CL) (.ref CL) = some true)
    (sCLCO : PySem.W.subIn K (.ref CL) (.ref CO) = some false)
    (sCLCP : PySem.W.subIn K (.ref CL) (.ref CP) = some false)
    (sCLCA : PySem.W.subIn K (.ref CL) (.ref CA) = some true)
    (iCO : PySem.W.isClsIn K CO = true)
    (tCO : PySem.W.typeIn K (.ref CO) = some (.type "type"))
    (eaCO : PySem.W.findIn K (.ref CO) "__class__" = some (some (.builtin "object.__class__")))
    (emCO : PySem.W.mroIn K CO (.type "object") = some true)
    (sCOCL : PySem.W.subIn K (.ref CO) (.ref CL) = some false)
    (sCOCO : PySem.W.subIn K (.ref CO) (.ref CO) = some true)
    (sCOCP : PySem.W.subIn K (.ref CO) (.ref CP) = some false)
    (sCOCA : PySem.W.subIn K (.ref CO) (.ref CA) = some true)
    (iCP : PySem.W.isClsIn K CP = true)
    (tCP : PySem.W.typeIn K (.ref CP) = some (.type "type"))
    (eaCP : PySem.W.findIn K (.ref CP) "__class__" = some (some (.builtin "object.__class__")))
    (emCP : PySem.W.mroIn K CP (.type "object") = some true)
    (sCPCL : PySem.W.subIn K (.ref CP) (.ref CL) = some false)
    (sCPCO : PySem.W.subIn K (.ref CP) (.ref CO) = some false)
    (sCPCP : PySem.W.subIn K (.ref CP) (.ref CP) = some true)
    (sCPCA : PySem.W.subIn K (.ref CP) (.ref CA) = some true)
    (vM : PySem.W.nsIn K mainGlobals "MOST" = some (some (.int 6 tM)))
    (vL : PySem.W.nsIn K mainGlobals "LETTERS" = some (some (.str "udlr" tL)))
    (vS : PySem.W.nsIn K mainGlobals "STEPS" = some (some (.ref dS)))
    (lS : K.lookup dS = some ⟨.type "dict", none, .dict #[⟨hs1, .str "u" ks1, .ref p1⟩, ⟨hs2, .str "d" ks2, .ref p2⟩, ⟨hs3, .str "l" ks3, .ref p3⟩, ⟨hs4, .str "r" ks4, .ref p4⟩] nS, #[]⟩)
    (yS : PySem.W.KeysLit w.params (#[⟨hs1, .str "u" ks1, .ref p1⟩, ⟨hs2, .str "d" ks2, .ref p2⟩, ⟨hs3, .str "l" ks3, .ref p3⟩, ⟨hs4, .str "r" ks4, .ref p4⟩] : Array DictEntry).toList)
    (wS : (dS == sysModules) = false)
    (q1 : K.lookup p1 = some ⟨.type "tuple", qd1, .seq #[.int (-1) qa1, .int (0) qb1] qn1, qs1⟩)
    (q2 : K.lookup p2 = some ⟨.type "tuple", qd2, .seq #[.int (1) qa2, .int (0) qb2] qn2, qs2⟩)
    (q3 : K.lookup p3 = some ⟨.type "tuple", qd3, .seq #[.int (0) qa3, .int (-1) qb3] qn3, qs3⟩)
    (q4 : K.lookup p4 = some ⟨.type "tuple", qd4, .seq #[.int (0) qa4, .int (1) qb4] qn4, qs4⟩)
    (vB : PySem.W.nsIn K mainGlobals "BACK" = some (some (.ref dB)))
    (lB : K.lookup dB = some ⟨.type "dict", none, .dict #[⟨hb1, .str "u" kb1, .str "d" vb1⟩, ⟨hb2, .str "d" kb2, .str "u" vb2⟩, ⟨hb3, .str "l" kb3, .str "r" vb3⟩, ⟨hb4, .str "r" kb4, .str "l" vb4⟩] nB, #[]⟩)
    (yB : PySem.W.KeysLit w.params (#[⟨hb1, .str "u" kb1, .str "d" vb1⟩, ⟨hb2, .str "d" kb2, .str "u" vb2⟩, ⟨hb3, .str "l" kb3, .str "r" vb3⟩, ⟨hb4, .str "r" kb4, .str "l" vb4⟩] : Array DictEntry).toList)
    : ∃ fd : FuncData, (∀ (s : Shared) (v : Value), BindsTo s fd ⟨[v], []⟩ [("_law_script", v)]) ∧ ∀ base : Heap, K.In base → base.Ns mainGlobals mg → FnG l.prog w K mg base CX0 8 fa fd ["_law_script"] (spLaw K) := by
  have e := hfa.symm.trans (PySem.W.mg_of X G a29)
  cases e
  have F0 := fun_mk (st := d_moved) l0 c0 k0
  have b0 := F0.binds (ps := ["tray", "slides"]) fun _ _ _ _ _ _ us hl => match us, hl with | [_, _], _ => rfl
  have g0 := PySem.W.mg_of X G a0
  have F1 := fun_mk (st := d_undone) l1 c1 k1
  have b1 := F1.binds (ps := ["slides"]) fun _ _ _ _ _ _ us hl => match us, hl with | [_], _ => rfl
  have g1 := PySem.W.mg_of X G a1
  have F2 := fun_mk (st := d_thinned) l2 c2 k2
  have b2 := F2.binds (ps := ["slides"]) fun _ _ _ _ _ _ us hl => match us, hl with | [_], _ => rfl
  have g2 := PySem.W.mg_of X G a2
  have F3 := fun_mk (st := d_check_tray) l3 c3 k3
  have b3 := F3.binds (ps := ["tray"]) fun _ _ _ _ _ _ us hl => match us, hl with | [_], _ => rfl
  have g3 := PySem.W.mg_of X G a3
  have F4 := fun_mk (st := d_check_slides) l4 c4 k4
  have b4 := F4.binds (ps := ["slides"]) fun _ _ _ _ _ _ us hl => match us, hl with | [_], _ => rfl
  have g4 := PySem.W.mg_of X G a4
  have F5 := fun_mk (st := d_empty_place) l5 c5 k5
  have b5 := F5.binds (ps := ["tray"]) fun _ _ _ _ _ _ us hl => match us, hl with | [_], _ => rfl
  have g5 := PySem.W.mg_of X G a5
  have F6 := fun_mk (st := d_place_beside) l6 c6 k6
  have b6 := F6.binds (ps := ["tray", "row", "column", "letter"]) fun _ _ _ _ _ _ us hl => match us, hl with | [_, _, _, _], _ => rfl
  have g6 := PySem.W.mg_of X G a6
  have F7 := fun_mk (st := d_is_wide) l7 c7 k7
  have b7 := F7.binds (ps := ["tray"]) fun _ _ _ _ _ _ us hl => match us, hl with | [_], _ => rfl
  have g7 := PySem.W.mg_of X G a7
  have F8 := fun_mk (st := d_numbers_of) l8 c8 k8
  have b8 := F8.binds (ps := ["tray"]) fun _ _ _ _ _ _ us hl => match us, hl with | [_], _ => rfl
  have g8 := PySem.W.mg_of X G a8
  have F9 := fun_mk (st := d_pieces_of) l9 c9 k9
  have b9 := F9.binds (ps := ["tray"]) fun _ _ _ _ _ _ us hl => match us, hl with | [_], _ => rfl
  have g9 := PySem.W.mg_of X G a9
  have F10 := fun_mk (st := d_crossed_pairs) l10 c10 k10
  have b10 := F10.binds (ps := ["one", "other"]) fun _ _ _ _ _ _ us hl => match us, hl with | [_, _], _ => rfl
  have g10 := PySem.W.mg_of X G a10
  have F11 := fun_mk (st := d_steps_apart) l11 c11 k11
  have b11 := F11.binds (ps := ["one", "other"]) fun _ _ _ _ _ _ us hl => match us, hl with | [_, _], _ => rfl
  have g11 := PySem.W.mg_of X G a11
  have F12 := fun_mk (st := d_straight) l12 c12 k12
  have b12 := F12.binds (ps := ["start", "end"]) fun _ _ _ _ _ _ us hl => match us, hl with | [_, _], _ => rfl
  have g12 := PySem.W.mg_of X G a12
  have F13 := fun_mk (st := d_slides_between) l13 c13 k13
  have b13 := F13.binds (ps := ["one", "other"]) fun _ _ _ _ _ _ us hl => match us, hl with | [_, _], _ => rfl
  have g13 := PySem.W.mg_of X G a13
  have F14 := fun_mk (st := d_settling_slides) l14 c14 k14
  have b14 := F14.binds (ps := ["tray", "goal"]) fun _ _ _ _ _ _ us hl => match us, hl with | [_, _], _ => rfl
  have g14 := PySem.W.mg_of X G a14
  have F15 := fun_mk (st := d_groups_of_places) l15 c15 k15
  have b15 := F15.binds (ps := ["rows", "columns"]) fun _ _ _ _ _ _ us hl => match us, hl with | [_, _], _ => rfl
  have g15 := PySem.W.mg_of X G a15
  have F16 := fun_mk (st := d_group_slides) l16 c16 k16
  have b16 := F16.binds (ps := ["tray", "pieces", "group", "settled"]) fun _ _ _ _ _ _ us hl => match us, hl with | [_, _, _, _], _ => rfl
  have g16 := PySem.W.mg_of X G a16
  have F17 := fun_mk (st := d_standing_behind) l17 c17 k17
  have b17 := F17.binds (ps := ["standing", "place"]) fun _ _ _ _ _ _ us hl => match us, hl with | [_, _], _ => rfl
  have g17 := PySem.W.mg_of X G a17
  have F18 := fun_mk (st := d_free_places_beside) l18 c18 k18
  have b18 := F18.binds (ps := ["tray", "settled"]) fun _ _ _ _ _ _ us hl => match us, hl with | [_, _], _ => rfl
  have g18 := PySem.W.mg_of X G a18
  have F19 := fun_mk (st := d_places_of) l19 c19 k19
  have b19 := F19.binds (ps := ["tray"]) fun _ _ _ _ _ _ us hl => match us, hl with | [_], _ => rfl
  have g19 := PySem.W.mg_of X G a19
  have F20 := fun_mk (st := d_told) l20 c20 k20
  have b20 := F20.binds (ps := ["one", "other"]) fun _ _ _ _ _ _ us hl => match us, hl with | [_, _], _ => rfl
  have g20 := PySem.W.mg_of X G a20
  have F21 := fun_mk (st := d_told_of_wide) l21 c21 k21
  have b21 := F21.binds (ps := ["one", "other"]) fun _ _ _ _ _ _ us hl => match us, hl with | [_, _], _ => rfl
  have g21 := PySem.W.mg_of X G a21
  have F22 := fun_mk (st := d_told_of_narrow) l22 c22 k22
  have b22 := F22.binds (ps := ["one", "other"]) fun _ _ _ _ _ _ us hl => match us, hl with | [_, _], _ => rfl
  have g22 := PySem.W.mg_of X G a22
  have F23 := fun_mk (st := d_law_order) l23 c23 k23
  have b23 := F23.binds (ps := ["_law_number", "_law_many"]) fun _ _ _ _ _ _ us hl => match us, hl with | [_, _], _ => rfl
  have g23 := PySem.W.mg_of X G a23
  have F24 := fun_mk (st := d_law_digits) l24 c24 k24
  have b24 := F24.binds (ps := ["_law_cell", "_law_by"]) fun _ _ _ _ _ _ us hl => match us, hl with | [_, _], _ => rfl
  have g24 := PySem.W.mg_of X G a24
  have F25 := fun_mk (st := d_law_tray) l25 c25 k25
  have b25 := F25.binds (ps := ["_law_number", "_law_rows", "_law_columns"]) fun _ _ _ _ _ _ us hl => match us, hl with | [_, _, _], _ => rfl
  have g25 := PySem.W.mg_of X G a25
  have F26 := fun_mk (st := d_law_place) l26 c26 k26
  have b26 := F26.binds (ps := ["_law_tray_here", "_law_piece"]) fun _ _ _ _ _ _ us hl => match us, hl with | [_, _], _ => rfl
  have g26 := PySem.W.mg_of X G a26
  have F27 := fun_mk (st := d_law_slid) l27 c27 k27
  have b27 := F27.binds (ps := ["_law_tray_here", "_law_slides"]) fun _ _ _ _ _ _ us hl => match us, hl with | [_, _], _ => rfl
  have g27 := PySem.W.mg_of X G a27
  have F28 := fun_mk (st := d_law_come_to) l28 c28 k28
  have b28 := F28.binds (ps := ["_law_tray_here"]) fun _ _ _ _ _ _ us hl => match us, hl with | [_], _ => rfl
  have g28 := PySem.W.mg_of X G a28
  have F29 := fun_mk (st := d_law) l29 c29 k29
  have b29 := F29.binds (ps := ["_law_script"]) fun _ _ _ _ _ _ us hl => match us, hl with | [_], _ => rfl
  have g29 := PySem.W.mg_of X G a29
  have m_list := PySem.W.mg_none_of X G z_list
  have m_len := PySem.W.mg_none_of X G z_len
  have m_isinstance := PySem.W.mg_none_of X G z_isinstance
  have m_int := PySem.W.mg_none_of X G z_int
  have m_bool := PySem.W.mg_none_of X G z_bool
  have m_sorted := PySem.W.mg_none_of X G z_sorted
  have m_range := PySem.W.mg_none_of X G z_range
  have m_str := PySem.W.mg_none_of X G z_str
  have m_enumerate := PySem.W.mg_none_of X G z_enumerate
  have m_abs := PySem.W.mg_none_of X G z_abs
  have m_sum := PySem.W.mg_none_of X G z_sum
  have m_tuple := PySem.W.mg_none_of X G z_tuple
  have m_zip := PySem.W.mg_none_of X G z_zip
  have gCb := PySem.W.mg_of X G vC
  have mCS := PySem.W.mg_of X G gCS
  have TCS : ExcT K mg "BadSlides" CS := ⟨mCS, xCS, kCS, bCS, tCS⟩
  have mCL := PySem.W.mg_of X G gCL
  have clCL : Cls K CL := ⟨pgCL, hdCL, poCL, saCL⟩
  have F30 := fun_mk (st := d_Led_init) l30 c30 k30
  have b30 := F30.binds (ps := ["self", "slides"]) fun _ _ _ _ _ _ us hl => match us, hl with | [_, _], _ => rfl
  have F31 := fun_mk (st := d_Led_shows) l31 c31 k31
  have b31 := F31.binds (ps := ["self", "one", "other"]) fun _ _ _ _ _ _ us hl => match us, hl with | [_, _, _], _ => rfl
  have mk_CL : Mk K CL f30 := ⟨mkCL, fi30, if30, kcCL⟩
  have me_CL_shows : Meth K CL "shows" f31 := ⟨fi31, if31, k31⟩
  have TCL : ClsT K mg "Led" CL f30 f31 ["slides"] := ⟨mCL, mk_CL, clCL, me_CL_shows, fun f hf => by
    have hf : f = "slides" := by simpa using hf
    subst hf; exact nCLslides⟩
  have mCO := PySem.W.mg_of X G gCO
  have clCO : Cls K CO := ⟨pgCO, hdCO, poCO, saCO⟩
  have F32 := fun_mk (st := d_Odd_init) l32 c32 k32
  have b32 := F32.binds (ps := ["self", "crossed", "steps"]) fun _ _ _ _ _ _ us hl => match us, hl with | [_, _, _], _ => rfl
  have F33 := fun_mk (st := d_Odd_shows) l33 c33 k33
  have b33 := F33.binds (ps := ["self", "one", "other"]) fun _ _ _ _ _ _ us hl => match us, hl with | [_, _, _], _ => rfl
  have mk_CO : Mk K CO f32 := ⟨mkCO, fi32, if32, kcCO⟩
  have me_CO_shows : Meth K CO "shows" f33 := ⟨fi33, if33, k33⟩
  have TCO : ClsT K mg "Odd" CO f32 f33 ["crossed", "steps"] := ⟨mCO, mk_CO, clCO, me_CO_shows, fun f hf => by
    have hf : f = "crossed" ∨ f = "steps" := by simpa using hf
    rcases hf with rfl | rfl
    · exact nCOcrossed
    · exact nCOsteps⟩
  have mCP := PySem.W.mg_of X G gCP
  have clCP : Cls K CP := ⟨pgCP, hdCP, poCP, saCP⟩
  have F34 := fun_mk (st := d_Passed_init) l34 c34 k34
  have b34 := F34.binds (ps := ["self", "one", "other"]) fun _ _ _ _ _ _ us hl => match us, hl with | [_, _, _], _ => rfl
  have F35 := fun_mk (st := d_Passed_shows) l35 c35 k35
  have b35 := F35.binds (ps := ["self", "one", "other"]) fun _ _ _ _ _ _ us hl => match us, hl with | [_, _, _], _ => rfl
  have F36 := fun_mk (st := d_Passed_is_first) l36 c36 k36
  have b36 := F36.binds (ps := ["self", "tray"]) fun _ _ _ _ _ _ us hl => match us, hl with | [_, _], _ => rfl
  have mk_CP : Mk K CP f34 := ⟨mkCP, fi34, if34, kcCP⟩
  have me_CP_shows : Meth K CP "shows" f35 := ⟨fi35, if35, k35⟩
  have me_CP_is_first : Meth K CP "is_first" f36 := ⟨fi36, if36, k36⟩
  have TCP : ClsT K mg "Passed" CP f34 f35 ["one", "other"] := ⟨mCP, mk_CP, clCP, me_CP_shows, fun f hf => by
    have hf : f = "one" ∨ f = "other" := by simpa using hf
    rcases hf with rfl | rfl
    · exact nCPone
    · exact nCPother⟩
  have mCA := PySem.W.mg_of X G gCA
  have gMo := PySem.W.mg_of X G vM
  have gLe := PySem.W.mg_of X G vL
  have SD : StepsD K w dS := by
    refine ⟨⟨_, _, lS, yS, wS⟩, fun c hc => ?_, fun c hc => ?_, fun c hc => ?_⟩
    · rcases hc with rfl | rfl | rfl | rfl
      · exact ⟨p1, ⟨_, _, _, lS, yS, ns4 lS 117, rfl⟩, sqT_two q1⟩
      · exact ⟨p2, ⟨_, _, _, lS, yS, ns4 lS 100, rfl⟩, sqT_two q2⟩
      · exact ⟨p3, ⟨_, _, _, lS, yS, ns4 lS 108, rfl⟩, sqT_two q3⟩
      · exact ⟨p4, ⟨_, _, _, lS, yS, ns4 lS 114, rfl⟩, sqT_two q4⟩
    · rcases hc with rfl | rfl | rfl | rfl
      · exact ⟨_, ns4 lS 117⟩
      · exact ⟨_, ns4 lS 100⟩
      · exact ⟨_, ns4 lS 108⟩
      · exact ⟨_, ns4 lS 114⟩
    · rw [ns4 lS c]
      unfold okL at hc
      rw [if_neg (by omega), if_neg (by omega), if_neg (by omega), if_neg (by omega)]
  have gSt := PySem.W.mg_of X G vS
  have BD : BackD K w dB := by
    refine ⟨fun c hc => ?_⟩
    rcases hc with rfl | rfl | rfl | rfl
    · exact ⟨_, _, _, lB, yB, ns4 lB 117, ⟨_, by rw [d_eq]; rfl⟩⟩
    · exact ⟨_, _, _, lB, yB, ns4 lB 100, ⟨_, by rw [u_eq]; rfl⟩⟩
    · exact ⟨_, _, _, lB, yB, ns4 lB 108, ⟨_, by rw [r_eq]; rfl⟩⟩
    · exact ⟨_, _, _, lB, yB, ns4 lB 114, ⟨_, by rw [l_eq]; rfl⟩⟩
  have gBk := PySem.W.mg_of X G vB
  refine ⟨PySem.W.fnOf "law" "law" (defArgs d_law) (defBody d_law) (defScope d_law) .none kV29 dc29 pm29 an29 cd29 ct29, fun s v => .of_eq rfl, fun base _ _ => ?_⟩
  have IL : InsT K CL := ⟨clCL, eaCL, en, et, emCL⟩
  have IO : InsT K CO := ⟨clCO, eaCO, en, et, emCO⟩
  have IP : InsT K CP := ⟨clCP, eaCP, en, et, emCP⟩
  have Kn : Kinds K CA CL CO CP := ⟨IL, IO, IP, (kit_own iCL tCL sCLCL sCLCL), (kit_own iCO tCO sCLCO sCLCL), (kit_own iCP tCP sCLCP sCLCL), (kit_own iCA tCA sCLCA sCLCL), (kit_own iCL tCL sCOCL sCOCO), (kit_own iCO tCO sCOCO sCOCO), (kit_own iCP tCP sCOCP sCOCO), (kit_own iCA tCA sCOCA sCOCO), (kit_own iCL tCL sCPCL sCPCP), (kit_own iCO tCO sCPCO sCPCP), (kit_own iCP tCP sCPCP sCPCP), (kit_own iCA tCA sCPCA sCPCP)⟩
  have OT := ok_checkT (P := l.prog) (w := w) (base := base) (k := 0) F3 gMo m_isinstance m_list m_len m_int m_bool m_sorted m_range
  have OS := ok_checkS (P := l.prog) (w := w) (base := base) (k := 0) F4 gSt SD m_isinstance m_str TCS
  have OE := ok_empty (P := l.prog) (w := w) (mg := mg) (base := base) (k := 0) F5
  have OB := ok_beside (P := l.prog) (w := w) (base := base) (k := 0) F6 gSt SD m_len
  have OM := ok_moved (k := 0) F0 TCS m_list OT g3 k3 b3 OS g4 k4 b4 OE g5 k5 b5 OB g6 k6 b6
  have OUn := ok_undone (k := 0) F1 gBk BD OS g4 k4 b4
  have OTh := ok_thinned (k := 0) F2 gBk BD OS g4 k4 b4
  have OWd := ok_wide (P := l.prog) (w := w) (base := base) (k := 0) F7 m_len
  have ONu := ok_nums (P := l.prog) (w := w) (mg := mg) (base := base) (k := 0) F8
  have OPc := ok_pcs (k := 0) F9 ONu g8 k8 b8
  have OCr := ok_crP (k := 0) F10 m_enumerate m_len gCb ONu g8 k8 b8
  have OSa := ok_stA (k := 0) F11 m_abs OE g5 k5 b5
  have OLI := ok_LI (P := l.prog) (w := w) (mg := mg) (base := base) (k := 0) F30 clCL nCLslides
  have OOI := ok_OI (P := l.prog) (w := w) (mg := mg) (base := base) (k := 0) F32 clCO nCOcrossed nCOsteps
  have OPI := ok_PI (P := l.prog) (w := w) (mg := mg) (base := base) (k := 0) F34 clCP nCPone nCPother
  have OStr := ok_str (P := l.prog) (w := w) (mg := mg) (base := base) (k := 0) F12
  have OPl := ok_places (P := l.prog) (w := w) (base := base) (k := 0) F19 m_enumerate
  have OFp := ok_fpb (k := 1) F18 gLe (by decide) (by decide) OPl g19 k19 b19 OB g6 k6 b6
  have OSt := ok_stB (P := l.prog) (w := w) (base := base) (k := 0) F17 m_tuple
  have OGr := ok_grp (k := 2) F16 m_tuple (by decide) (by decide) (by decide) OFp g18 k18 b18 OPl g19 k19 b19 OSt g17 k17 b17
  have OGp := ok_gps (P := l.prog) (w := w) (base := base) (k := 0) F15 m_range
  have OSe := ok_set (k := 3) F14 m_len (by decide) (by decide) (by decide) OGp g15 k15 b15 OGr g16 k16 b16 OM g0 k0 b0
  have OBt := ok_btw (k := 4) F13 m_len (by decide) (by decide) (by decide) (by decide) (by decide) (by decide) OStr g12 k12 b12 OE g5 k5 b5 OSe g14 k14 b14 OM g0 k0 b0 OUn g1 k1 b1 OTh g2 k2 b2
  have OTw := ok_tw (CP := CP) (k := 5) F21 (by decide) (by decide) (by decide) (by decide) (by decide) OCr g10 k10 b10 OSa g11 k11 b11 OBt g13 k13 b13 TCL OLI b30 TCO OOI b32
  have OTn := ok_tn (CO := CO) (k := 5) F22 m_zip (by decide) (by decide) (by decide) (by decide) (by decide) OPc g9 k9 b9 OStr g12 k12 b12 OE g5 k5 b5 TCL OLI b30 TCP OPI b34
  have OTo := ok_told (k := 6) F20 m_len (by decide) (by decide) (by decide) (by decide) OT g3 k3 b3 OWd g7 k7 b7 OTw g21 k21 b21 OTn g22 k22 b22
  have OO := ok_order (P := l.prog) (w := w) (base := base) (k := 0) F23 m_list m_range m_len
  have OD := ok_digits (P := l.prog) (w := w) (mg := mg) (base := base) (k := 0) F24
  have OTr := ok_trayL (k := 0) F25 m_range OO g23 k23 b23
  have OP := ok_place (P := l.prog) (w := w) (base := base) (k := 0) F26 m_range m_len
  have OSl := ok_slid (k := 0) F27 m_list m_len OP g26 k26 b26
  have OCo := ok_come (k := 2) F28 m_str m_len (by decide) OSl g27 k27 b27
  exact ok_law3 (k := 7) F29 m_sum m_isinstance m_len m_range m_str Kn mCL mCO nCLslides (by decide) (by decide) (by decide) (by decide) (by decide) OD g24 k24 b24 OTr g25 k25 b25 OCo g28 k28 b28 OTo g20 k20 b20 OM g0 k0 b0
end Tr
open PySem PySem.W PyProof.Rows
set_option maxHeartbeats 0 in
theorem PySem.Challenge.cw_slidetray_k03_tried_holds : PySem.Challenge.rw_slidetray_k03_tried.Holds := by
  w_on; o_law; k_head; (case hw => w_witness2)
  k_fill
  refine Tr.walk_G (l := PySem.Challenge.rw_slidetray_k03_tried) (n := 63) (k := 8) (x := "_law_script") (sp := fun w => Tr.spLaw _) rfl (by decide) rfl ⟨rfl, by decide, by decide⟩ (fun w h Y => PySem.W.kIn_of Y) ?F (fun _ _ a ns hl hb hS => ⟨a, ns, rfl, hS, hl, hb, fun _ => rfl⟩)
  case F =>
    intro w mg fa h KX G hmg
    refine' Tr.all_mk KX G hmg ?a0 ?l0 ?c0 ?k0 ?a1 ?l1 ?c1 ?k1 ?a2 ?l2 ?c2 ?k2 ?a3 ?l3 ?c3 ?k3 ?a4 ?l4 ?c4 ?k4 ?a5 ?l5 ?c5 ?k5 ?a6 ?l6 ?c6 ?k6 ?a7 ?l7 ?c7 ?k7 ?a8 ?l8 ?c8 ?k8 ?a9 ?l9 ?c9 ?k9 ?a10 ?l10 ?c10 ?k10 ?a11 ?l11 ?c11 ?k11 ?a12 ?l12 ?c12 ?k12 ?a13 ?l13 ?c13 ?k13 ?a14 ?l14 ?c14 ?k14 ?a15 ?l15 ?c15 ?k15 ?a16 ?l16 ?c16 ?k16 ?a17 ?l17 ?c17 ?k17 ?a18 ?l18 ?c18 ?k18 ?a19 ?l19 ?c19 ?k19 ?a20 ?l20 ?c20 ?k20 ?a21 ?l21 ?c21 ?k21 ?a22 ?l22 ?c22 ?k22 ?a23 ?l23 ?c23 ?k23 ?a24 ?l24 ?c24 ?k24 ?a25 ?l25 ?c25 ?k25 ?a26 ?l26 ?c26 ?k26 ?a27 ?l27 ?c27 ?k27 ?a28 ?l28 ?c28 ?k28 ?a29 ?l29 ?c29 ?k29 ?z_list ?z_len ?z_isinstance ?z_int ?z_bool ?z_sorted ?z_range ?z_str ?z_enumerate ?z_abs ?z_sum ?z_tuple ?z_zip ?vC ?gCS ?iCS ?tCS ?xCS ?kCS ?bCS ?hCS ?sCSCS ?gCL ?pgCL ?hdCL ?poCL ?saCL ?mkCL ?kcCL ?nCLslides ?fi30 ?if30 ?l30 ?c30 ?k30 ?fi31 ?if31 ?l31 ?c31 ?k31 ?gCO ?pgCO ?hdCO ?poCO ?saCO ?mkCO ?kcCO ?nCOcrossed ?nCOsteps ?fi32 ?if32 ?l32 ?c32 ?k32 ?fi33 ?if33 ?l33 ?c33 ?k33 ?gCP ?pgCP ?hdCP ?poCP ?saCP ?mkCP ?kcCP ?nCPone ?nCPother ?fi34 ?if34 ?l34 ?c34 ?k34 ?fi35 ?if35 ?l35 ?c35 ?k35 ?fi36 ?if36 ?l36 ?c36 ?k36 ?gCA ?iCA ?tCA ?en ?et ?iCL ?tCL ?eaCL ?emCL ?sCLCL ?sCLCO ?sCLCP ?sCLCA ?iCO ?tCO ?eaCO ?emCO ?sCOCL ?sCOCO ?sCOCP ?sCOCA ?iCP ?tCP ?eaCP ?emCP ?sCPCL ?sCPCO ?sCPCP ?sCPCA ?vM ?vL ?vS ?lS ?yS ?wS ?q1 ?q2 ?q3 ?q4 ?vB ?lB ?yB
    (case a0 => k_is); (case l0 => k_is); (case c0 => k_is); (case k0 => k_is)
    (case a1 => k_is); (case l1 => k_is); (case c1 => k_is); (case k1 => k_is)
    (case a2 => k_is); (case l2 => k_is); (case c2 => k_is); (case k2 => k_is)
    (case a3 => k_is); (case l3 => k_is); (case c3 => k_is); (case k3 => k_is)
    (case a4 => k_is); (case l4 => k_is); (case c4 => k_is); (case k4 => k_is)
    (case a5 => k_is); (case l5 => k_is); (case c5 => k_is); (case k5 => k_is)
    (case a6 => k_is); (case l6 => k_is); (case c6 => k_is); (case k6 => k_is)
    (case a7 => k_is); (case l7 => k_is); (case c7 => k_is); (case k7 => k_is)
    (case a8 => k_is); (case l8 => k_is); (case c8 => k_is); (case k8 => k_is)
    (case a9 => k_is); (case l9 => k_is); (case c9 => k_is); (case k9 => k_is)
    (case a10 => k_is); (case l10 => k_is); (case c10 => k_is); (case k10 => k_is)
    (case a11 => k_is); (case l11 => k_is); (case c11 => k_is); (case k11 => k_is)
    (case a12 => k_is); (case l12 => k_is); (case c12 => k_is); (case k12 => k_is)
    (case a13 => k_is); (case l13 => k_is); (case c13 => k_is); (case k13 => k_is)
    (case a14 => k_is); (case l14 => k_is); (case c14 => k_is); (case k14 => k_is)
    (case a15 => k_is); (case l15 => k_is); (case c15 => k_is); (case k15 => k_is)
    (case a16 => k_is); (case l16 => k_is); (case c16 => k_is); (case k16 => k_is)
    (case a17 => k_is); (case l17 => k_is); (case c17 => k_is); (case k17 => k_is)
    (case a18 => k_is); (case l18 => k_is); (case c18 => k_is); (case k18 => k_is)
    (case a19 => k_is); (case l19 => k_is); (case c19 => k_is); (case k19 => k_is)
    (case a20 => k_is); (case l20 => k_is); (case c20 => k_is); (case k20 => k_is)
    (case a21 => k_is); (case l21 => k_is); (case c21 => k_is); (case k21 => k_is)
    (case a22 => k_is); (case l22 => k_is); (case c22 => k_is); (case k22 => k_is)
    (case a23 => k_is); (case l23 => k_is); (case c23 => k_is); (case k23 => k_is)
    (case a24 => k_is); (case l24 => k_is); (case c24 => k_is); (case k24 => k_is)
    (case a25 => k_is); (case l25 => k_is); (case c25 => k_is); (case k25 => k_is)
    (case a26 => k_is); (case l26 => k_is); (case c26 => k_is); (case k26 => k_is)
    (case a27 => k_is); (case l27 => k_is); (case c27 => k_is); (case k27 => k_is)
    (case a28 => k_is); (case l28 => k_is); (case c28 => k_is); (case k28 => k_is)
    (case a29 => k_is); (case l29 => k_is); (case c29 => k_is); (case k29 => k_is)
    (case z_list => k_is); (case z_len => k_is); (case z_isinstance => k_is); (case z_int => k_is)
    (case z_bool => k_is); (case z_sorted => k_is); (case z_range => k_is); (case z_str => k_is)
    (case z_enumerate => k_is); (case z_abs => k_is); (case z_sum => k_is); (case z_tuple => k_is)
    (case z_zip => k_is); (case vC => k_is); (case gCS => k_is); (case iCS => k_is)
    (case tCS => k_is); (case xCS => k_exc); (case kCS => k_is); (case bCS => k_is)
    (case hCS => k_is); (case sCSCS => k_is); (case gCL => k_is); (case pgCL => k_is)
    (case hdCL => k_is); (case poCL => k_is); (case saCL => k_is); (case mkCL => k_is)
    (case kcCL => k_is); (case nCLslides => k_is); (case fi30 => k_is); (case if30 => k_is)
    (case l30 => k_is); (case c30 => k_is); (case k30 => k_is); (case fi31 => k_is)
    (case if31 => k_is); (case l31 => k_is); (case c31 => k_is); (case k31 => k_is)
    (case gCO => k_is); (case pgCO => k_is); (case hdCO => k_is); (case poCO => k_is)
    (case saCO => k_is); (case mkCO => k_is); (case kcCO => k_is); (case nCOcrossed => k_is)
    (case nCOsteps => k_is); (case fi32 => k_is); (case if32 => k_is); (case l32 => k_is)
    (case c32 => k_is); (case k32 => k_is); (case fi33 => k_is); (case if33 => k_is)
    (case l33 => k_is); (case c33 => k_is); (case k33 => k_is); (case gCP => k_is)
    (case pgCP => k_is); (case hdCP => k_is); (case poCP => k_is); (case saCP => k_is)
    (case mkCP => k_is); (case kcCP => k_is); (case nCPone => k_is); (case nCPother => k_is)
    (case fi34 => k_is); (case if34 => k_is); (case l34 => k_is); (case c34 => k_is)
    (case k34 => k_is); (case fi35 => k_is); (case if35 => k_is); (case l35 => k_is)
    (case c35 => k_is); (case k35 => k_is); (case fi36 => k_is); (case if36 => k_is)
    (case l36 => k_is); (case c36 => k_is); (case k36 => k_is); (case gCA => k_is)
    (case iCA => k_is); (case tCA => k_is); (case en => k_is); (case et => k_is)
    (case iCL => k_is); (case tCL => k_is); (case eaCL => k_is); (case emCL => k_is)
    (case sCLCL => k_is); (case sCLCO => k_is); (case sCLCP => k_is); (case sCLCA => k_is)
    (case iCO => k_is); (case tCO => k_is); (case eaCO => k_is); (case emCO => k_is)
    (case sCOCL => k_is); (case sCOCO => k_is); (case sCOCP => k_is); (case sCOCA => k_is)
    (case iCP => k_is); (case tCP => k_is); (case eaCP => k_is); (case emCP => k_is)
    (case sCPCL => k_is); (case sCPCO => k_is); (case sCPCP => k_is); (case sCPCA => k_is)
    (case vM => k_is); (case vL => k_is); (case vS => k_is); (case lS => k_is)
    (case yS => k_keys); (case wS => exact (by decide)); (case q1 => k_is); (case q2 => k_is)
    (case q3 => k_is); (case q4 => k_is); (case vB => k_is); (case lB => k_is)
    (case yB => k_keys)
#print axioms PySem.Challenge.cw_slidetray_k03_tried_holds
