import PyProof.Rows.All
import Wide.All
import OpenK.AllK
import Wide.FinOn
import HandS.ForMost
import HandS.Exc
import HandS.TryOnly
import HandS.ExcOwn
import HandS.WordsExc
import HandS.ExcIs
import HandS.IsInst
import HandS.Walk
import HandS.Style
import HandS.More
import HandS.Wide
import HandS.EndBits
import KE.KRevSl
import PyProof.Fits
import PyProof.SumWalkG
import Flt.Sum
import HandS.Call
import HandS.Conv
import HandS.RepeatKit
import PyProof.TupleOfSeq
import PyProof.Rows.Range3
import HandS.DictComp
import HandS.Codes
import PySem.Challenge.RW_slidetray_k04_answers_by_hand
set_option Elab.async false
set_option linter.all false
set_option maxRecDepth 100000
set_option maxHeartbeats 16000000
/-! The mathematics of trays: places, slides, undone, thinned. Core Lean alone. -/
namespace Tr
abbrev Fld := Nat → Int
/-- how far a letter leads: rows down, columns to the right; (9, 9) for what is no letter -/
def stp (w : Nat) : Int × Int := if w = 117 then (-1, 0) else if w = 100 then (1, 0) else if w = 108 then (0, -1) else if w = 114 then (0, 1) else (9, 9)
def okL (w : Nat) : Prop := w = 117 ∨ w = 100 ∨ w = 108 ∨ w = 114
instance (w : Nat) : Decidable (okL w) := by unfold okL; infer_instance
def bk (w : Nat) : Nat := if w = 117 then 100 else if w = 100 then 117 else if w = 108 then 114 else if w = 114 then 108 else w
theorem bk_no {w : Nat} (h : ¬ okL w) : bk w = w := by
  unfold okL at h
  unfold bk
  rw [if_neg (by omega), if_neg (by omega), if_neg (by omega), if_neg (by omega)]
theorem bk_bk {w : Nat} : bk (bk w) = w := by
  by_cases h : okL w
  · rcases h with rfl | rfl | rfl | rfl <;> rfl
  · rw [bk_no h, bk_no h]
theorem bk_ok {w : Nat} (h : okL w) : okL (bk w) := by rcases h with rfl | rfl | rfl | rfl <;> decide
theorem bk_ne {w : Nat} (h : okL w) : bk w ≠ w := by rcases h with rfl | rfl | rfl | rfl <;> decide
theorem bk_inj {a b : Nat} (h : bk a = bk b) : a = b := by
  have := congrArg bk h
  rwa [bk_bk, bk_bk] at this
/-- the place beside -/
def nxt (R C r c w : Nat) : Option (Nat × Nat) :=
  if 0 ≤ (r : Int) + (stp w).1 ∧ (r : Int) + (stp w).1 < R ∧ 0 ≤ (c : Int) + (stp w).2 ∧ (c : Int) + (stp w).2 < C then some (((r : Int) + (stp w).1).toNat, ((c : Int) + (stp w).2).toNat) else none
theorem nxt_some {R C r c w : Nat} (h : 0 ≤ (r : Int) + (stp w).1 ∧ (r : Int) + (stp w).1 < R ∧ 0 ≤ (c : Int) + (stp w).2 ∧ (c : Int) + (stp w).2 < C) : nxt R C r c w = some (((r : Int) + (stp w).1).toNat, ((c : Int) + (stp w).2).toNat) := if_pos h
theorem nxt_none {R C r c w : Nat} (h : ¬ (0 ≤ (r : Int) + (stp w).1 ∧ (r : Int) + (stp w).1 < R ∧ 0 ≤ (c : Int) + (stp w).2 ∧ (c : Int) + (stp w).2 < C)) : nxt R C r c w = none := if_neg h
theorem nxt_eq {R C r c w r' c' : Nat} (h : nxt R C r c w = some (r', c')) : (r' : Int) = r + (stp w).1 ∧ (c' : Int) = c + (stp w).2 ∧ r' < R ∧ c' < C := by
  unfold nxt at h
  split at h
  · rename_i k
    have e := Option.some.inj h
    have e1 := congrArg Prod.fst e
    have e2 := congrArg Prod.snd e
    dsimp only at e1 e2
    omega
  · cases h
theorem stp_bk {w : Nat} (h : okL w) : (stp (bk w)).1 = -(stp w).1 ∧ (stp (bk w)).2 = -(stp w).2 := by
  rcases h with rfl | rfl | rfl | rfl <;> decide
theorem stp_bad {w : Nat} (h : ¬ okL w) : stp w = (9, 9) := by
  unfold okL at h
  unfold stp
  rw [if_neg (by omega), if_neg (by omega), if_neg (by omega), if_neg (by omega)]
theorem stp_move {w : Nat} : (stp w).1 ≠ 0 ∨ (stp w).2 ≠ 0 := by
  unfold stp
  repeat' split
  all_goals decide
theorem nxt_back {R C r c w r' c' : Nat} (hr : r < R) (hc : c < C) (hw : okL w) (h : nxt R C r c w = some (r', c')) : nxt R C r' c' (bk w) = some (r, c) := by
  obtain ⟨e1, e2, _, _⟩ := nxt_eq h
  obtain ⟨b1, b2⟩ := stp_bk hw
  rw [nxt_some (by omega)]
  rw [b1, b2]
  refine congrArg some ?_
  have x1 : ((r' : Int) + -(stp w).1).toNat = r := by omega
  have x2 : ((c' : Int) + -(stp w).2).toNat = c := by omega
  rw [x1, x2]
theorem nxt_bad {R C r c w : Nat} (hR : R ≤ 9) (h : ¬ okL w) : nxt R C r c w = none := by
  refine nxt_none ?_
  rw [stp_bad h]
  dsimp only
  omega
theorem ix_inj {C r c r' c' : Nat} (hc : c < C) (hc' : c' < C) (h : r * C + c = r' * C + c') : r = r' ∧ c = c' := by
  have e1 : (r * C + c) / C = r := by
    rw [Nat.add_comm, Nat.add_mul_div_right _ _ (by omega), Nat.div_eq_of_lt hc, Nat.zero_add]
  have e2 : (r' * C + c') / C = r' := by
    rw [Nat.add_comm, Nat.add_mul_div_right _ _ (by omega), Nat.div_eq_of_lt hc', Nat.zero_add]
  have e : r = r' := by rw [← e1, ← e2, h]
  subst e
  exact ⟨rfl, by omega⟩
theorem ix_lt {R C r c : Nat} (hr : r < R) (hc : c < C) : r * C + c < R * C := by
  have h : (r + 1) * C ≤ R * C := Nat.mul_le_mul_right C hr
  rw [Nat.add_mul, Nat.one_mul] at h
  omega
/-- what stands at q goes to p, 0 to q -/
def put2 (f : Fld) (p q : Nat) : Fld := fun k => if k = q then 0 else if k = p then f q else f k
abbrev Sl := Fld × Nat × Nat
def go1 (R C : Nat) (s : Sl) (w : Nat) : Option Sl := (nxt R C s.2.1 s.2.2 w).map fun n => (put2 s.1 (s.2.1 * C + s.2.2) (n.1 * C + n.2), n.1, n.2)
def goAll (R C : Nat) : Sl → List Nat → Option Sl
  | s, [] => some s
  | s, w :: r => (go1 R C s w).bind fun s' => goAll R C s' r
theorem goAll_append (R C : Nat) : ∀ (a b : List Nat) (s : Sl), goAll R C s (a ++ b) = (goAll R C s a).bind fun s' => goAll R C s' b
  | [], b, s => rfl
  | w :: r, b, s => by
    show (go1 R C s w).bind (fun s' => goAll R C s' (r ++ b)) = ((go1 R C s w).bind fun s' => goAll R C s' r).bind fun s' => goAll R C s' b
    cases e : go1 R C s w with
    | none => rfl
    | some s1 => exact goAll_append R C r b s1
theorem goAll_one (R C : Nat) (s : Sl) (w : Nat) : goAll R C s [w] = go1 R C s w := by
  show (go1 R C s w).bind (fun s' => some s') = go1 R C s w
  cases go1 R C s w <;> rfl
theorem take_more {α : Type} : ∀ {l : List α} {i : Nat} {x : α}, l[i]? = some x → l.take (i + 1) = l.take i ++ [x]
  | [], i, x, h => by simp at h
  | a :: l, 0, x, h => by
    have e : a = x := Option.some.inj h
    subst e
    rfl
  | a :: l, i + 1, x, h => by
    have ih := take_more (l := l) (i := i) (x := x) h
    show a :: l.take (i + 1) = a :: l.take i ++ [x]
    rw [ih]
    rfl
theorem goAll_take {R C : Nat} {s s1 : Sl} {ws : List Nat} {i w : Nat} (h : goAll R C s (ws.take i) = some s1) (hw : ws[i]? = some w) : goAll R C s (ws.take (i + 1)) = go1 R C s1 w := by
  rw [take_more hw, goAll_append, h]
  exact goAll_one R C s1 w
theorem goAll_stop {R C : Nat} {s s1 : Sl} {ws : List Nat} {i w : Nat} (h : goAll R C s (ws.take i) = some s1) (hw : ws[i]? = some w) (hn : go1 R C s1 w = none) : goAll R C s ws = none := by
  have e : ws = ws.take (i + 1) ++ ws.drop (i + 1) := (List.take_append_drop (i + 1) ws).symm
  rw [e, goAll_append, goAll_take h hw, hn]
  rfl
/-- 0 stands at (r, c) -/
structure Zr (R C : Nat) (s : Sl) : Prop where
  r : s.2.1 < R
  c : s.2.2 < C
  z : s.1 (s.2.1 * C + s.2.2) = 0
def allV (n : Nat) (f : Fld) : List Int := (List.range n).map f
/-- all numbers from 0 on, each once -/
def Full (n : Nat) (f : Fld) : Prop := (allV n f).Perm ((List.range n).map fun k : Nat => (k : Int))
theorem go1_eq {R C : Nat} {s s' : Sl} {w : Nat} (h : go1 R C s w = some s') : nxt R C s.2.1 s.2.2 w = some (s'.2.1, s'.2.2) ∧ s' = (put2 s.1 (s.2.1 * C + s.2.2) (s'.2.1 * C + s'.2.2), s'.2.1, s'.2.2) := by
  unfold go1 at h
  cases e : nxt R C s.2.1 s.2.2 w with
  | none => rw [e] at h; cases h
  | some n =>
    rw [e] at h
    have h := Option.some.inj h
    subst h
    exact ⟨rfl, rfl⟩
theorem go1_zr {R C : Nat} {s s' : Sl} {w : Nat} (h : go1 R C s w = some s') : Zr R C s' := by
  obtain ⟨h1, h2⟩ := go1_eq h
  obtain ⟨_, _, h3, h4⟩ := nxt_eq h1
  refine ⟨h3, h4, ?_⟩
  rw [h2]
  exact if_pos rfl
theorem goAll_zr {R C : Nat} : ∀ {ws : List Nat} {s s' : Sl}, Zr R C s → goAll R C s ws = some s' → Zr R C s'
  | [], s, s', z, h => Option.some.inj h ▸ z
  | w :: r, s, s', z, h => by
    have h : (go1 R C s w).bind (fun s' => goAll R C s' r) = some s' := h
    cases e : go1 R C s w with
    | none => rw [e] at h; cases h
    | some s1 =>
      rw [e] at h
      exact goAll_zr (go1_zr e) h
theorem pq_ne {R C : Nat} {s s' : Sl} {w : Nat} (z : Zr R C s) (h : go1 R C s w = some s') : s.2.1 * C + s.2.2 ≠ s'.2.1 * C + s'.2.2 := by
  intro e
  obtain ⟨h1, h2⟩ := go1_eq h
  obtain ⟨e1, e2, h3, h4⟩ := nxt_eq h1
  obtain ⟨i1, i2⟩ := ix_inj z.c h4 e
  rcases stp_move (w := w) with m | m <;> omega
theorem go1_back {R C : Nat} {s s' : Sl} {w : Nat} (z : Zr R C s) (hw : okL w) (h : go1 R C s w = some s') : go1 R C s' (bk w) = some s := by
  obtain ⟨h1, h2⟩ := go1_eq h
  have hn := pq_ne z h
  obtain ⟨f, r, c⟩ := s
  obtain ⟨f', r', c'⟩ := s'
  dsimp only at h1 h2 hn
  have hf : f' = put2 f (r * C + c) (r' * C + c') := congrArg Prod.fst h2
  unfold go1
  dsimp only
  rw [nxt_back z.r z.c hw h1]
  show some (put2 f' (r' * C + c') (r * C + c), r, c) = some (f, r, c)
  have : put2 f' (r' * C + c') (r * C + c) = f := by
    funext k
    unfold put2
    by_cases k1 : k = r * C + c
    · rw [if_pos k1, k1]
      exact z.z.symm
    · rw [if_neg k1]
      rw [hf]
      unfold put2
      by_cases k2 : k = r' * C + c'
      · rw [if_pos k2, if_neg hn, if_pos rfl, k2]
      · rw [if_neg k2, if_neg k2, if_neg k1]
  rw [this]
def undo (ws : List Nat) : List Nat := ws.reverse.map bk
theorem undo_cons (w : Nat) (r : List Nat) : undo (w :: r) = undo r ++ [bk w] := by
  unfold undo
  rw [List.reverse_cons, List.map_append]
  rfl
theorem undo_undo (ws : List Nat) : undo (undo ws) = ws := by
  unfold undo
  rw [← List.map_reverse, List.reverse_reverse, List.map_map]
  have : (bk ∘ bk) = id := funext fun w => bk_bk
  rw [this, List.map_id]
theorem undo_ok {ws : List Nat} (h : ∀ w ∈ ws, okL w) : ∀ w ∈ undo ws, okL w := by
  intro w hw
  unfold undo at hw
  obtain ⟨x, hx, rfl⟩ := List.mem_map.mp hw
  exact bk_ok (h x (List.mem_reverse.mp hx))
theorem undo_len (ws : List Nat) : (undo ws).length = ws.length := by
  unfold undo
  rw [List.length_map, List.length_reverse]
theorem goAll_undo {R C : Nat} : ∀ {ws : List Nat} {s s' : Sl}, Zr R C s → (∀ w ∈ ws, okL w) → goAll R C s ws = some s' → goAll R C s' (undo ws) = some s
  | [], s, s', z, hk, h => by
    have e := Option.some.inj h
    subst e
    rfl
  | w :: r, s, s', z, hk, h => by
    have h : (go1 R C s w).bind (fun s' => goAll R C s' r) = some s' := h
    cases e : go1 R C s w with
    | none => rw [e] at h; cases h
    | some s1 =>
      rw [e] at h
      have ih := goAll_undo (go1_zr e) (fun x hx => hk x (List.mem_cons_of_mem _ hx)) h
      rw [undo_cons, goAll_append, ih]
      show goAll R C s1 [bk w] = some s
      rw [goAll_one]
      exact go1_back z (hk w List.mem_cons_self) e
/-! ### all numbers stay -/
theorem allV_put {n : Nat} {f : Fld} {p q : Nat} (hp : p < n) (hq : q < n) (hz : f p = 0) : allV n (put2 f p q) = ((allV n f).set p ((allV n f)[q]'(by unfold allV; simpa using hq))).set q ((allV n f)[p]'(by unfold allV; simpa using hp)) := by
  apply List.ext_getElem
  · simp [allV]
  · intro i h1 h2
    have hi : i < n := by simpa [allV] using h1
    simp only [allV, List.getElem_map, List.getElem_range, List.getElem_set]
    unfold put2
    by_cases a : i = q
    · subst a
      simp [hz]
    · rw [if_neg a, if_neg (fun e => a (Eq.symm e))]
      by_cases b : i = p
      · subst b
        simp
      · rw [if_neg b, if_neg (fun e => b (Eq.symm e))]
theorem put2_full {n : Nat} {f : Fld} {p q : Nat} (hp : p < n) (hq : q < n) (hz : f p = 0) (h : Full n f) : Full n (put2 f p q) := by
  unfold Full
  rw [allV_put hp hq hz]
  exact (List.set_set_perm (as := allV n f) (i := p) (j := q) (by unfold allV; simpa using hp) (by unfold allV; simpa using hq)).trans h
theorem go1_full {R C : Nat} {s s' : Sl} {w : Nat} (z : Zr R C s) (h : go1 R C s w = some s') (x : Full (R * C) s.1) : Full (R * C) s'.1 := by
  have z' := go1_zr h
  obtain ⟨h1, h2⟩ := go1_eq h
  rw [h2]
  exact put2_full (ix_lt z.r z.c) (ix_lt z'.r z'.c) z.z x
theorem goAll_full {R C : Nat} : ∀ {ws : List Nat} {s s' : Sl}, Zr R C s → goAll R C s ws = some s' → Full (R * C) s.1 → Full (R * C) s'.1
  | [], s, s', z, h, x => Option.some.inj h ▸ x
  | w :: r, s, s', z, h, x => by
    have h : (go1 R C s w).bind (fun s' => goAll R C s' r) = some s' := h
    cases e : go1 R C s w with
    | none => rw [e] at h; cases h
    | some s1 =>
      rw [e] at h
      exact goAll_full (go1_zr e) h (go1_full z e x)
/-- 0 stands at one place alone -/
theorem full_nodup {n : Nat} {f : Fld} (h : Full n f) : (allV n f).Nodup := by
  refine h.symm.nodup ?_
  unfold List.Nodup
  rw [List.pairwise_map]
  refine List.Pairwise.imp ?_ List.nodup_range
  intro a b hab e
  exact hab (by omega)
theorem full_inj {n : Nat} {f : Fld} (h : Full n f) {i j : Nat} (hi : i < n) (hj : j < n) (e : f i = f j) : i = j := by
  have nd := full_nodup h
  have q := (List.getElem_inj (xs := allV n f) (i := i) (j := j) (h₀ := by simpa [allV] using hi) (h₁ := by simpa [allV] using hj) nd).mp
  exact q (by simpa [allV] using e)
theorem full_zero {n : Nat} {f : Fld} (hn : 0 < n) (h : Full n f) : ∃ p, p < n ∧ f p = 0 := by
  have m : (0 : Int) ∈ allV n f := h.symm.mem_iff.mp (List.mem_map.mpr ⟨0, List.mem_range.mpr hn, rfl⟩)
  obtain ⟨p, hp, e⟩ := List.mem_map.mp m
  exact ⟨p, List.mem_range.mp hp, e⟩
/-! ### thinned -/
/-- the last one of what is left goes with its own back -/
def thS (left : List Nat) (w : Nat) : List Nat := if left.getLast? = some (bk w) then left.dropLast else left ++ [w]
def thinL (ws : List Nat) : List Nat := ws.foldl thS []
def push (w : Nat) (f : List Nat) : List Nat := if f.head? = some (bk w) then f.tail else w :: f
def thinR (ws : List Nat) : List Nat := ws.foldr push []
def Red : List Nat → Prop
  | [] => True
  | [_] => True
  | x :: y :: r => y ≠ bk x ∧ Red (y :: r)
theorem red_tail : ∀ {x : Nat} {l : List Nat}, Red (x :: l) → Red l
  | _, [], _ => True.intro
  | _, _ :: _, h => h.2
theorem red_push {w : Nat} {f : List Nat} (h : Red f) : Red (push w f) := by
  unfold push
  split
  · cases f with
    | nil => exact True.intro
    | cons x r => exact red_tail h
  · rename_i k
    cases f with
    | nil => exact True.intro
    | cons x r => exact ⟨fun e => k (by rw [e]; rfl), h⟩
theorem push_push {w : Nat} {f : List Nat} (hf : Red f) : push (bk w) (push w f) = f := by
  unfold push
  by_cases k : f.head? = some (bk w)
  · rw [if_pos k]
    cases f with
    | nil => cases k
    | cons x r =>
      have e : x = bk w := Option.some.inj k
      subst e
      show (if r.head? = some (bk (bk w)) then r.tail else bk w :: r) = bk w :: r
      refine if_neg fun e => ?_
      cases r with
      | nil => cases e
      | cons y q => exact hf.1 (Option.some.inj e)
  · rw [if_neg k]
    show (if (w :: f).head? = some (bk (bk w)) then f else bk w :: w :: f) = f
    rw [if_pos (by rw [bk_bk]; rfl)]
theorem foldr_red (left : List Nat) {f : List Nat} (h : Red f) : Red (left.foldr push f) := by
  induction left with
  | nil => exact h
  | cons x r ih => exact red_push ih
theorem thS_foldr {left : List Nat} {w : Nat} {f : List Nat} (hf : Red f) : (thS left w).foldr push f = left.foldr push (push w f) := by
  unfold thS
  split
  · rename_i k
    have e : left = left.dropLast ++ [bk w] := by
      have hne : left ≠ [] := by
        intro e
        rw [e] at k
        cases k
      have h1 := List.dropLast_concat_getLast hne
      rw [List.getLast?_eq_getLast hne] at k
      rw [Option.some.inj k] at h1
      exact h1.symm
    generalize hd : left.dropLast = d at e
    rw [e, List.foldr_append]
    show d.foldr push f = d.foldr push (push (bk w) (push w f))
    rw [push_push hf]
  · rw [List.foldr_append]
    rfl
theorem foldl_foldr : ∀ (ws left : List Nat), (ws.foldl thS left).foldr push [] = left.foldr push (ws.foldr push [])
  | [], _ => rfl
  | w :: r, left => by
    show (r.foldl thS (thS left w)).foldr push [] = left.foldr push (push w (r.foldr push []))
    rw [foldl_foldr r (thS left w)]
    exact thS_foldr (foldr_red r True.intro)
theorem red_dropLast : ∀ {l : List Nat}, Red l → Red l.dropLast
  | [], _ => True.intro
  | [_], _ => True.intro
  | [_, _], _ => True.intro
  | x :: y :: z :: r, h => ⟨h.1, red_dropLast (l := y :: z :: r) h.2⟩
theorem red_snoc : ∀ {l : List Nat} {w : Nat}, Red l → l.getLast? ≠ some (bk w) → Red (l ++ [w])
  | [], _, _, _ => True.intro
  | [x], w, _, h => ⟨fun e => h (by rw [e, bk_bk]; rfl), True.intro⟩
  | x :: y :: r, w, h, k => ⟨h.1, red_snoc (l := y :: r) h.2 (by rw [List.getLast?_cons_cons] at k; exact k)⟩
theorem red_thS {l : List Nat} {w : Nat} (h : Red l) : Red (thS l w) := by
  unfold thS
  split
  · exact red_dropLast h
  · rename_i k
    exact red_snoc h k
theorem red_foldl : ∀ {ws l : List Nat}, Red l → Red (ws.foldl thS l)
  | [], _, h => h
  | w :: r, l, h => red_foldl (ws := r) (l := thS l w) (red_thS h)
theorem foldr_self : ∀ {l : List Nat}, Red l → l.foldr push [] = l
  | [], _ => rfl
  | [_], _ => rfl
  | x :: y :: r, h => by
    show push x ((y :: r).foldr push []) = x :: y :: r
    rw [foldr_self (l := y :: r) h.2]
    exact if_neg fun e => h.1 (Option.some.inj e)
theorem thin_same (ws : List Nat) : thinL ws = thinR ws := by
  have h := foldl_foldr ws []
  have r : Red (ws.foldl thS []) := red_foldl True.intro
  rw [foldr_self r] at h
  exact h
theorem thS_len (l : List Nat) (w : Nat) : (thS l w).length ≤ l.length + 1 := by
  unfold thS
  split
  · rw [List.length_dropLast]; omega
  · rw [List.length_append]; exact Nat.le_refl _
theorem thin_take {ws : List Nat} {i w : Nat} (h : ws[i]? = some w) : thinL (ws.take (i + 1)) = thS (thinL (ws.take i)) w := by
  unfold thinL
  rw [take_more h, List.foldl_append]
  rfl
theorem foldl_len : ∀ (ws l : List Nat), (ws.foldl thS l).length ≤ l.length + ws.length
  | [], l => Nat.le_refl _
  | w :: r, l => by
    have h := foldl_len r (thS l w)
    have h2 := thS_len l w
    show (r.foldl thS (thS l w)).length ≤ l.length + (r.length + 1)
    omega
theorem thinL_len (ws : List Nat) : (thinL ws).length ≤ ws.length := by
  have h := foldl_len ws []
  simpa [thinL] using h
theorem thinL_ok {ws : List Nat} : (∀ w ∈ ws, okL w) → ∀ w ∈ thinL ws, okL w := by
  have g : ∀ (ws l : List Nat), (∀ w ∈ l, okL w) → (∀ w ∈ ws, okL w) → ∀ w ∈ ws.foldl thS l, okL w := by
    intro ws
    induction ws with
    | nil => intro l hl _; exact hl
    | cons x r ih =>
      intro l hl hw
      refine ih (thS l x) ?_ (fun y hy => hw y (List.mem_cons_of_mem _ hy))
      intro y hy
      unfold thS at hy
      split at hy
      · exact hl y (List.dropLast_subset l hy)
      · rcases List.mem_append.mp hy with h | h
        · exact hl y h
        · rw [List.mem_singleton.mp h]
          exact hw x List.mem_cons_self
  exact fun h => g ws [] (fun _ h => by cases h) h
end Tr
/-! Rules and heaps -/
namespace Tr
open PySem PySem.Spec PyProof.Rows L2
/-! ### a product of any two ints that the machine takes -/
section
variable {X : Cx}
theorem op_mulX : OpR X (binaryOp .Mult) (rI IntMulOk fun i j => .int (i * j)) := opI fun _ _ _ _ _ _ _ hc q => mul_int q hc
end
/-! ### s[::-1] of a text -/
def tRevS (te : TE) : TE := fun σ H Q => te σ H fun x H1 => ∃ z : Str, x = .str z ∧ z.length ≤ sizeLine ∧ Q (.str ⟨z.cps.toList.reverse.toArray⟩) H1
theorem pick_rev {α : Type} (xs : Array α) : ((List.range xs.size).map fun k => xs.size - 1 - k).filterMap (xs[·]?) = xs.toList.reverse := by
  have e : ((List.range xs.size).map fun k => xs.size - 1 - k) = (List.range xs.size).reverse := by
    apply List.ext_getElem
    · simp
    · intro i h1 h2
      simp at h1 h2
      simp
  rw [e, List.filterMap_reverse, PySem.W.krv_all]
theorem rev_idx (n : Nat) : Builtin.Str.strSliceIndices none none (-1) n = (List.range n).map fun k => n - 1 - k := by
  unfold Builtin.Str.strSliceIndices
  exact PySem.W.krv_sliceRange n
section
variable {X : Cx}
theorem pe_revS {e : Expr} {te : TE} {k : Nat} {p1 p2 p3 pos : Pos} (he : PE X e te) : PE X (.Subscript e (.Slice none none (some (.UnaryOp .USub (.Constant (.int 1) k p1) p2)) p3) pos) (tRevS te) := by
  refine ⟨fun pins s σ H Q I h => ?_⟩
  refine Subscript_ (thn (he.run pins s σ H _ I h) fun v s1 ⟨x, H1, I1, r1, q1⟩ => ?_)
  obtain ⟨z, ex, hz, q⟩ := q1
  subst ex
  obtain ⟨t, rfl⟩ := r1
  have hst : PO X (some (.UnaryOp .USub (.Constant (.int 1) k p1) p2)) (tPart (tUn (rU fun i => .int (-i)) (tC (.int 1)))) := po_some (pe_un un_neg pe_int)
  refine wpAny_Slice (thn (po_none.run pins s1 σ H1 (fun o H2 => o = none ∧ H2 = H1) I1 ⟨rfl, rfl⟩) fun vl s2 ⟨l, H2, I2, pl, el, e2⟩ => ?_)
  subst el e2
  refine thn (po_none.run pins s2 σ H2 (fun o H3 => o = none ∧ H3 = H2) I2 ⟨rfl, rfl⟩) fun vu s3 ⟨u, H3, I3, pu, eu, e3⟩ => ?_
  subst eu e3
  refine thn (hst.run pins s3 σ H3 (fun o H4 => o = some (-1) ∧ H4 = H3) I3 ⟨1, rfl, -1, rfl, rfl, rfl⟩) fun vs s4 ⟨o, H4, I4, ps, eo, e4⟩ => ?_
  subst eo e4
  have I5 : Inv X pins σ H4 { s4 with heap := s4.heap.push { cls := .type "slice", data := .fields #[vl, vu, vs] } } := I4.kept (t' := s4.toks) fun b ob q => Heap.get?_push_of_some _ q
  obtain ⟨l, rfl, el⟩ := IsPart.raw pl
  obtain ⟨u, rfl, eu⟩ := IsPart.raw pu
  obtain ⟨st, rfl, est⟩ := IsPart.raw ps
  show wpAny (model X.prog X.w) X.A (subscriptTail e (.Slice none none (some (.UnaryOp .USub (.Constant (.int 1) k p1) p2)) p3) (.str z t) (.ref s4.heap.objs.size)) (EP X pins σ Q) X.xe { s4 with heap := s4.heap.push { cls := .type "slice", data := .fields #[partValue l, partValue u, partValue st] } }
  refine tail_any (ops := [.ref s4.heap.objs.size, .str z t]) (typeIs_str _ _ _) F.slot_str_getitem.lookup ?_ (by with_unfolding_all rfl)
  have h0 : ((st.map (·.1)).getD 1 == 0) = false := by rw [est]; rfl
  refine wpAny_getItem_str_slice (l := l) (u := u) (st := st) ⟨_, Heap.get?_push_size _ rfl, rfl, rfl⟩ h0 ?_
  have e1 : slicePicked z l u st = (List.range z.length).map fun k => z.length - 1 - k := by
    unfold slicePicked
    rw [el, eu, est]
    exact rev_idx z.length
  unfold sliceMade
  rw [e1, est]
  have e2 : ((List.range z.length).map fun k => z.length - 1 - k).filterMap (z.cps[·]?) = z.cps.toList.reverse := pick_rev z.cps
  rw [e2]
  have c : ¬ ((((some (-1 : Int)).getD 1 == 1) && (((List.range z.length).map fun k => z.length - 1 - k).length == z.length)) = true) := by
    intro c
    have := (Bool.and_eq_true _ _).mp c
    exact absurd this.1 (by decide)
  rw [if_neg c]
  refine ⟨?_, .str _, H4, I5.tok _, ⟨_, rfl⟩, q⟩
  show z.cps.toList.reverse.toArray.size ≤ sizeLine
  rw [List.size_toArray, List.length_reverse, Array.length_toList]
  exact hz
end
/-! ### texts by their codes -/
abbrev txt (ws : List Nat) : Str := ⟨ws.toArray⟩
theorem txt_len (ws : List Nat) : (txt ws).length = ws.length := by
  show ws.toArray.size = ws.length
  exact List.size_toArray
theorem txt_add (a b : List Nat) : txt a ++ txt b = txt (a ++ b) := by
  show (⟨a.toArray ++ b.toArray⟩ : Str) = ⟨(a ++ b).toArray⟩
  rw [List.append_toArray]
theorem txt_of (z : Str) : z = txt z.cps.toList := by
  cases z
  rfl
theorem txt_inj {a b : List Nat} (h : txt a = txt b) : a = b := by
  have := congrArg (fun z : Str => z.cps.toList) h
  exact this
/-! ### heaps -/
theorem same_upd {H : Hp} {p : Addr} {o : HO} (h : H p = none) : Same H (upd H p o) := fun b x e => by
  rw [upd_ne (ne_of_none e h)]
  exact e
/-- one row of a tray, from its first place on -/
def rowV (C : Nat) (f : Fld) (i : Nat) : List V := (List.range C).map fun j => V.int (f (i * C + j))
theorem rowV_len (C : Nat) (f : Fld) (i : Nat) : (rowV C f i).length = C := by
  unfold rowV
  rw [List.length_map, List.length_range]
theorem rowV_get {C : Nat} {f : Fld} {i j : Nat} (h : j < C) : (rowV C f i)[j]? = some (V.int (f (i * C + j))) := by
  unfold rowV
  rw [List.getElem?_map, List.getElem?_range h]
  rfl
theorem rowV_set {C : Nat} {f : Fld} {i j : Nat} {v : Int} {g : Fld} (hg : ∀ k, k < C → g (i * C + k) = if k = j then v else f (i * C + k)) : (rowV C f i).set j (V.int v) = rowV C g i := by
  apply List.ext_getElem
  · simp [rowV]
  · intro k h1 h2
    have hk : k < C := by simpa [rowV] using h2
    simp only [rowV, List.getElem_set, List.getElem_map, List.getElem_range]
    rw [hg k hk]
    by_cases e : j = k
    · rw [if_pos e, if_pos e.symm]
    · rw [if_neg e, if_neg fun z => e z.symm]
/-- at a stands a tray of R rows (at rs) and C columns -/
structure TrayAt (H : Hp) (a : Addr) (rs : List Addr) (R C : Nat) (f : Fld) : Prop where
  top : H a = some (.lst (rs.map V.ref))
  len : rs.length = R
  row : ∀ i r, rs[i]? = some r → H r = some (.lst (rowV C f i))
  nd : rs.Nodup
  na : a ∉ rs
theorem TrayAt.mono {H H' : Hp} {a : Addr} {rs : List Addr} {R C : Nat} {f : Fld} (s : Same H H') (t : TrayAt H a rs R C f) : TrayAt H' a rs R C f :=
  ⟨s _ _ t.top, t.len, fun i r h => s _ _ (t.row i r h), t.nd, t.na⟩
theorem TrayAt.get {H : Hp} {a : Addr} {rs : List Addr} {R C : Nat} {f : Fld} (t : TrayAt H a rs R C f) {i : Nat} (hi : i < R) : ∃ r, rs[i]? = some r ∧ (rs.map V.ref)[i]? = some (V.ref r) ∧ H r = some (.lst (rowV C f i)) := by
  have h : i < rs.length := by rw [t.len]; exact hi
  refine ⟨rs[i], List.getElem?_eq_getElem h, ?_, t.row i _ (List.getElem?_eq_getElem h)⟩
  rw [List.getElem?_map, List.getElem?_eq_getElem h]
  rfl
theorem TrayAt.congr {H : Hp} {a : Addr} {rs : List Addr} {R C : Nat} {f g : Fld} (h : ∀ k, k < R * C → f k = g k) (t : TrayAt H a rs R C f) : TrayAt H a rs R C g := by
  refine ⟨t.top, t.len, fun i r e => ?_, t.nd, t.na⟩
  rw [t.row i r e]
  have hi : i < R := by
    rw [← t.len]
    exact (List.getElem?_eq_some_iff.mp e).1
  have : rowV C f i = rowV C g i := by
    unfold rowV
    refine List.map_congr_left fun j hj => ?_
    rw [h _ (ix_lt hi (List.mem_range.mp hj))]
  rw [this]
/-! ### the data of a tray, compared -/
def rowD (C : Nat) (f : Fld) (i : Nat) : PyData := .list ((List.range C).map fun j => PyData.int (f (i * C + j)))
theorem dp_ints {K : PySem.W.Frag} {H : Hp} : ∀ ns : List Int, DpAll K H (ns.map V.int) (ns.map PyData.int)
  | [] => .nil
  | n :: r => .cons (.int n) (dp_ints r)
theorem dp_row {K : PySem.W.Frag} {H : Hp} {C : Nat} {f : Fld} {i : Nat} {r : Addr} (h : H r = some (.lst (rowV C f i))) : Dp K H (.ref r) (rowD C f i) := by
  have e : rowV C f i = ((List.range C).map fun j => f (i * C + j)).map V.int := by
    unfold rowV
    rw [List.map_map]
    rfl
  have e2 : rowD C f i = .list (((List.range C).map fun j => f (i * C + j)).map PyData.int) := by
    unfold rowD
    rw [List.map_map]
    rfl
  rw [e] at h
  rw [e2]
  exact .lst (SqL.of h) (dp_ints _)
theorem dp_all {K : PySem.W.Frag} {H : Hp} : ∀ {vs : List V} {ds : List PyData}, vs.length = ds.length → (∀ (i : Nat) (v : V) (d : PyData), vs[i]? = some v → ds[i]? = some d → Dp K H v d) → DpAll K H vs ds
  | [], [], _, _ => .nil
  | v :: vs, d :: ds, hl, h => .cons (h 0 v d rfl rfl) (dp_all (by simpa using hl) fun i x y a b => h (i + 1) x y a b)
  | [], _ :: _, hl, _ => by simp at hl
  | _ :: _, [], hl, _ => by simp at hl
def rowsD (C : Nat) (f : Fld) (ks : List Nat) : PyData := .list (ks.map (rowD C f))
theorem dp_rows {K : PySem.W.Frag} {H : Hp} {C : Nat} {f : Fld} {a : Addr} {rs : List Addr} {ks : List Nat} (ha : H a = some (.lst (rs.map V.ref))) (hl : rs.length = ks.length) (h : ∀ (i : Nat) (r : Addr) (k : Nat), rs[i]? = some r → ks[i]? = some k → H r = some (.lst (rowV C f k))) : Dp K H (.ref a) (rowsD C f ks) := by
  refine .lst (SqL.of ha) (dp_all (by simpa using hl) fun i v d e1 e2 => ?_)
  rw [List.getElem?_map] at e1 e2
  cases q1 : rs[i]? with
  | none => rw [q1] at e1; cases e1
  | some r =>
    cases q2 : ks[i]? with
    | none => rw [q2] at e2; cases e2
    | some k =>
      rw [q1] at e1
      rw [q2] at e2
      have e1 := Option.some.inj e1
      have e2 := Option.some.inj e2
      subst e1 e2
      exact dp_row (h i r k q1 q2)
theorem TrayAt.dp {K : PySem.W.Frag} {H : Hp} {a : Addr} {rs : List Addr} {R C : Nat} {f : Fld} (t : TrayAt H a rs R C f) : Dp K H (.ref a) (rowsD C f (List.range R)) := by
  refine dp_rows t.top (by rw [t.len, List.length_range]) fun i r k e1 e2 => ?_
  have hi := (List.getElem?_eq_some_iff.mp e2).1
  rw [List.length_range] at hi
  rw [List.getElem?_range hi] at e2
  cases e2
  exact t.row i r e1
theorem lay_rows {C : Nat} {f : Fld} : ∀ ks : List Nat, PyData.canLayAll0 (ks.map (rowD C f)) = true
  | [] => rfl
  | k :: r => by
    have h := lay_rows (C := C) (f := f) r
    have h2 : PyData.canLay0 (rowD C f k) = true := by
      have e : rowD C f k = .list (((List.range C).map fun j => f (k * C + j)).map PyData.int) := by
        unfold rowD
        rw [List.map_map]
        rfl
      rw [e]
      simp only [PyData.canLay0]
      exact PySem.W.canLayAll0_ints _
    simp only [List.map_cons, PyData.canLayAll0, h, h2, Bool.and_self]
theorem depth_rows {C : Nat} {f : Fld} : ∀ ks : List Nat, PyData.depthAll (ks.map (rowD C f)) ≤ 2
  | [] => by simp [PyData.depthAll]
  | k :: r => by
    have h := depth_rows (C := C) (f := f) r
    have h2 : PyData.depth (rowD C f k) ≤ 2 := by
      have e : rowD C f k = .list (((List.range C).map fun j => f (k * C + j)).map PyData.int) := by
        unfold rowD
        rw [List.map_map]
        rfl
      rw [e]
      have := PySem.W.depthAll_ints ((List.range C).map fun j => f (k * C + j))
      simp only [PyData.depth]
      omega
    simp only [List.map_cons, PyData.depthAll]
    omega
theorem shaped_rows {C : Nat} {f : Fld} (ks : List Nat) : SeqAt.shaped (rowsD C f ks) = true := by
  have h1 := depth_rows (C := C) (f := f) ks
  have h2 : PyData.depth (rowsD C f ks) ≤ 64 := by
    unfold rowsD
    simp only [PyData.depth]
    omega
  show (PyData.canLay0 (rowsD C f ks) && decide (PyData.depth (rowsD C f ks) ≤ 64)) = true
  rw [Bool.and_eq_true]
  refine ⟨?_, decide_eq_true h2⟩
  unfold rowsD
  simp only [PyData.canLay0]
  exact lay_rows ks
theorem eqv_rows {C : Nat} {f : Fld} (ks : List Nat) : PyData.eqv (rowsD C f ks) (rowsD C f ks) = true := SeqAt.eqv_refl _ (SeqAt.canLay_of_shaped (shaped_rows ks))
end Tr
/-! The text by places -/
namespace Tr
open PySem PySem.Spec PyProof.Rows L2
def topS (i : Nat) : Stmt := PySem.Challenge.pw_slidetray_k04_answers_by_hand.main.body.getD i (.Pass ⟨0, 0, 0, 0⟩)
abbrev d_moved : Stmt := topS 8
abbrev d_check_tray : Stmt := topS 9
abbrev d_check_slides : Stmt := topS 10
abbrev d_empty_place : Stmt := topS 11
abbrev d_place_beside : Stmt := topS 12
abbrev d_is_wide : Stmt := topS 14
abbrev d_numbers_of : Stmt := topS 15
abbrev d_pieces_of : Stmt := topS 16
abbrev d_crossed_pairs : Stmt := topS 17
abbrev d_steps_apart : Stmt := topS 18
abbrev d_Led_init : Stmt := inClass (topS 21) 0
abbrev d_Led_shows : Stmt := inClass (topS 21) 1
abbrev d_Odd_init : Stmt := inClass (topS 22) 0
abbrev d_Odd_shows : Stmt := inClass (topS 22) 1
abbrev d_Passed_init : Stmt := inClass (topS 23) 0
abbrev d_Passed_shows : Stmt := inClass (topS 23) 1
abbrev d_Passed_is_first : Stmt := inClass (topS 23) 2
abbrev d_law_order : Stmt := topS 25
abbrev d_law_digits : Stmt := topS 26
abbrev d_law_tray : Stmt := topS 27
abbrev d_law_place : Stmt := topS 28
abbrev d_law_slid : Stmt := topS 29
abbrev d_law_walk : Stmt := topS 30
abbrev d_law_crossed : Stmt := topS 31
abbrev d_law_steps : Stmt := topS 32
abbrev d_law_passed : Stmt := topS 33
abbrev d_law_says : Stmt := topS 34
abbrev d_law_led_right : Stmt := topS 35
abbrev d_law_odd_right : Stmt := topS 36
abbrev d_law_passed_right : Stmt := topS 37
abbrev d_law_right : Stmt := topS 38
abbrev d_law : Stmt := topS 39
end Tr
/-! The text by places, and what the written part says -/
namespace Tr
open PySem PySem.Spec PyProof.Rows L2
/-- the written dict of the steps -/
structure StepsD (K : PySem.W.Frag) (w : World) (d : Addr) : Prop where
  ex : ∃ es n, KDict K w d es n
  at_ : ∀ c, okL c → ∃ t, KDct K w d (txt [c]) (.ref t) ∧ ∀ H, SqT K H t [.int (stp c).1, .int (stp c).2]
  yes : ∀ c, okL c → ∃ v, PySem.W.nsIn K d (txt [c]) = some (some v)
  no : ∀ c, ¬ okL c → PySem.W.nsIn K d (txt [c]) = some none
/-- the written dict of the backs -/
structure BackD (K : PySem.W.Frag) (w : World) (d : Addr) : Prop where
  at_ : ∀ c, okL c → KDct K w d (txt [c]) (.str (txt [bk c]))
theorem decI {p : Prop} [Decidable p] {A B : Prop} (h1 : p → A) (h2 : ¬ p → B) : if decide p = true then A else B := by
  by_cases h : p
  · rw [if_pos (decide_eq_true h)]
    exact h1 h
  · rw [if_neg (by simpa using h)]
    exact h2 h
end Tr
namespace Tr
open PySem PySem.Spec PyProof.Rows L2
/-- an own exception class over ValueError, at C -/
structure ExcT (K : PySem.W.Frag) (mg : Str → Option Value) (x : Str) (C : Addr) : Prop where
  g : mg x = some (.ref C)
  x : PySem.W.excIn K C [.type "ValueError", .type "Exception", .type "BaseException", .type "object"] "ValueError.__new__" = true
  k : PySem.W.keepIn K (.ref C) = true
  b : PySem.W.subIn K (.ref C) (.type "BaseException") = some true
  t : PySem.W.typeIn K (.ref C) = some (.type "type")
end Tr
namespace Tr
open PySem PySem.Spec PyProof.Rows L2
/-- any clause of a comprehension, its turn left open -/
theorem lc_gen {J : It} {n : Nat} {G : Hp → Prop} {Y : Nat → Hp → V → Hp → Prop} (w : Walk J n G Y) {H1 : Hp} {Qd : Hp → Prop} {Body : (Hp → Prop) → V → Hp → Prop} (Pv : Nat → Hp → Prop) (h0 : Pv 0 H1) (hG : ∀ i H, i ≤ n → Pv i H → G H)
    (hs : ∀ i x H H', i < n → Pv i H → Y i H x H' → Body (Pv (i + 1)) x H') (hd : ∀ H, Pv n H → Qd H) :
    ∃ W : Nat → Nat → Hp → Prop, (∃ m, W 0 m H1) ∧ ∀ i m H, W i m H →
      (J.stop i H ∧ Qd H) ∨ (J.go i H ∧ ∃ Nx : Hp → Prop, (∀ H', Nx H' → ∃ m', m' < m ∧ W (i + 1) m' H') ∧ ∀ x H', J.yld i H x H' → Body Nx x H') := by
  refine ⟨fun i m H => m = n - i ∧ i ≤ n ∧ Pv i H, ⟨n, by simp, Nat.zero_le _, h0⟩, ?_⟩
  rintro i m H ⟨rfl, hi, p⟩
  have q := hG i H hi p
  by_cases hlt : i < n
  · refine .inr ⟨w.goes i H hlt q, Pv (i + 1), fun H' p' => ⟨n - (i + 1), by omega, rfl, hlt, p'⟩, fun x H' y => hs i x H H' hlt p (w.yields i H x H' hlt q y)⟩
  · have e : i = n := by omega
    subst e
    exact .inl ⟨w.stops H q, hd H p⟩
/-- a flat list of one row behind the other -/
theorem allV_rows (C : Nat) (f : Fld) (i : Nat) : (allV (i * C) f).map V.int ++ rowV C f i = (allV ((i + 1) * C) f).map V.int := by
  unfold allV rowV
  rw [Nat.add_mul, Nat.one_mul, List.range_add, List.map_append, List.map_append, List.map_map, List.map_map, List.map_map]
  rfl
end Tr
namespace Tr
open PySem PySem.Spec PyProof.Rows L2
def rListOf (K : PySem.W.Frag) : List V → Hp → VK → Prop := fun xs H Q => ∃ p ys, xs = [.ref p] ∧ (SqL K H p ys ∨ SqT K H p ys) ∧ ∀ l, H l = none → Q (.ref l) (upd H l (.lst ys))
theorem cr_listOf {X : Cx} : CallR X (.type "list") (rListOf X.K) := call_list_of
theorem ixN_nat {n j : Nat} (h : j < n) : ixN n (j : Int) = some j := by
  unfold ixN
  rw [if_pos (by omega), if_pos (by omega)]
  simp
/-- a tray with one row more -/
theorem TrayAt.snoc {H : Hp} {D l : Addr} {rs : List Addr} {i C : Nat} {f : Fld} (T : TrayAt H D rs i C f) (hl : H l = none) (hD : l ≠ D) : TrayAt (upd (upd H l (.lst (rowV C f i))) D (.lst (rs.map V.ref ++ [V.ref l]))) D (rs ++ [l]) (i + 1) C f := by
  have hlr : l ∉ rs := fun m => by
    obtain ⟨j, hj, e⟩ := List.getElem_of_mem m
    have := T.row j l (by rw [← e]; exact List.getElem?_eq_getElem hj)
    rw [hl] at this
    cases this
  refine ⟨by rw [upd_same, List.map_append]; rfl, by rw [List.length_append, T.len]; rfl, fun j r e => ?_, ?_, ?_⟩
  · have hr : r ∈ rs ++ [l] := List.mem_of_getElem? e
    have rD : r ≠ D := by
      rcases List.mem_append.mp hr with m | m
      · exact fun z => T.na (z ▸ m)
      · rw [List.mem_singleton.mp m]
        exact hD
    rw [upd_ne rD]
    by_cases hj : j < rs.length
    · rw [List.getElem?_append_left hj] at e
      have rl : r ≠ l := fun z => hlr (z ▸ List.mem_of_getElem? e)
      rw [upd_ne rl]
      exact T.row j r e
    · rw [List.getElem?_append_right (by omega)] at e
      have hj2 : j = rs.length := by
        have := (List.getElem?_eq_some_iff.mp e).1
        have h1 : ([l] : List Addr).length = 1 := rfl
        omega
      subst hj2
      rw [Nat.sub_self] at e
      cases e
      rw [upd_same, T.len]
  · rw [List.nodup_append]
    refine ⟨T.nd, by simp, fun x hx y hy => ?_⟩
    rw [List.mem_singleton.mp hy]
    exact fun z => hlr (z ▸ hx)
  · intro m
    rcases List.mem_append.mp m with m | m
    · exact T.na m
    · exact hD (List.mem_singleton.mp m).symm
/-- one number stored -/
theorem TrayAt.put {H : Hp} {a r : Addr} {rs : List Addr} {R C i j : Nat} {f : Fld} {v : Int} (T : TrayAt H a rs R C f) (e : rs[i]? = some r) (hj : j < C) : TrayAt (upd H r (.lst ((rowV C f i).set j (V.int v)))) a rs R C (fun k => if k = i * C + j then v else f k) := by
  have ra : a ≠ r := fun z => T.na (z ▸ List.mem_of_getElem? e)
  refine ⟨by rw [upd_ne ra]; exact T.top, T.len, fun i2 r2 e2 => ?_, T.nd, T.na⟩
  by_cases z : i2 = i
  · subst z
    rw [e] at e2
    cases e2
    rw [upd_same]
    refine congrArg (fun x => some (HO.lst x)) (rowV_set fun k hk => ?_)
    by_cases y : k = j
    · rw [if_pos y, if_pos (by rw [y])]
    · rw [if_neg y, if_neg (by omega)]
  · have r2r : r2 ≠ r := fun y => z (nd_ix T.nd (y ▸ e2) e)
    rw [upd_ne r2r, T.row i2 r2 e2]
    refine congrArg (fun x => some (HO.lst x)) ?_
    unfold rowV
    refine List.map_congr_left fun k hk => congrArg V.int ?_
    exact (if_neg fun y => z (ix_inj (List.mem_range.mp hk) hj y).1).symm
/-- [list(row) for row in tray] -/
theorem lc_copy {K : PySem.W.Frag} {H : Hp} {a D : Addr} {rs : List Addr} {R C i : Nat} {f : Fld} {σ : L2.St} {Qd : Hp → Prop} (T : TrayAt H a rs R C f) (hR : R ≤ 1000) (nD : H D = none) (hi : i < σ.length)
    (q : ∀ (rs1 : List Addr) (H1 : Hp), Same H H1 → (∀ x ∈ rs1, H x = none) → TrayAt H1 D rs1 R C f → Qd H1) :
    ∃ W : Nat → Nat → Hp → Prop, (∃ m, W 0 m (upd H D (.lst []))) ∧ ∀ n m H, W n m H →
      ((Itl K a).stop n H ∧ Qd H) ∨ ((Itl K a).go n H ∧ ∃ Nx : Hp → Prop, (∀ H', Nx H' → ∃ m', m' < m ∧ W (n + 1) m' H') ∧ ∀ x H', (Itl K a).yld n H x H' → gName i x (wipe σ [i]) H' fun σ2 H2 => wipe σ2 [i] = wipe σ [i] ∧ tYes σ2 H2 fun b H3 =>
        if b = true then tCB (rListOf K) (tCons (tVar i) tNil) σ2 H3 fun y H4 => ∃ acc, H4 D = some (.lst acc) ∧ acc.length < sizeLine ∧ Nx (upd H4 D (.lst (acc ++ [y]))) else Nx H3) := by
  refine lc_gen (walk_list (K := K) (a := a) (xs := rs.map V.ref)) (fun i H1 => ∃ rs1, TrayAt H1 D rs1 i C f ∧ (∀ x ∈ rs1, H x = none) ∧ Same H H1)
    ⟨[], ⟨upd_same, rfl, fun i r e => by simp at e, List.nodup_nil, by simp⟩, (fun x m => by cases m), same_upd nD⟩ (fun i H1 _ ⟨_, _, _, s⟩ => s.seq (SqL.of T.top)) ?_ ?_
  · rintro n x H1 H2 hn ⟨rs1, T1, hx1, sm⟩ ⟨rfl, hx⟩
    have hn : n < R := by
      rw [List.length_map, T.len] at hn
      exact hn
    obtain ⟨rn, k1, k2, k3⟩ := T.get hn
    rw [k2] at hx
    cases hx
    refine ⟨?_, ?_⟩
    · show (((σ.set i none).set i (some (.ref rn))).set i none) = σ.set i none
      rw [List.set_set, List.set_set]
    · refine ⟨.ref rn, ?_, rn, _, rfl, .inl (SqL.of (sm _ _ k3)), fun l nl => ?_⟩
      · show ((σ.set i none).set i (some (V.ref rn)))[i]? = _
        rw [List.getElem?_set_self (by rw [List.length_set]; exact hi)]
      · have hlD : l ≠ D := fun z => by
          rw [z, T1.top] at nl
          cases nl
        refine ⟨_, by rw [upd_ne hlD.symm]; exact T1.top, ?_, rs1 ++ [l], T1.snoc nl hlD, ?_, ?_⟩
        · rw [List.length_map, T1.len]
          exact small1000 (by omega)
        · intro x m
          rcases List.mem_append.mp m with m | m
          · exact hx1 x m
          · rw [List.mem_singleton.mp m]
            exact sm.free nl
        · intro b o e
          rw [upd_ne (ne_of_none e nD), upd_ne (ne_of_none e (sm.free nl))]
          exact sm _ _ e
  · rintro H1 ⟨rs1, T1, hx1, sm⟩
    rw [List.length_map, T.len] at T1
    exact q rs1 H1 sm hx1 T1
theorem goAll_bad {R C : Nat} (hR : R ≤ 9) : ∀ {ws : List Nat} {s : Sl}, (∃ l ∈ ws, ¬ okL l) → goAll R C s ws = none
  | [], _, ⟨_, h, _⟩ => by cases h
  | w :: r, s, ⟨l, h, hb⟩ => by
    show (go1 R C s w).bind (fun s' => goAll R C s' r) = none
    cases e : go1 R C s w with
    | none => rfl
    | some s1 =>
      rcases List.mem_cons.mp h with z | z
      · subst z
        unfold go1 at e
        rw [nxt_bad hR hb] at e
        cases e
      · exact goAll_bad hR ⟨l, z, hb⟩
theorem go1_of_nxt {R C r c w : Nat} {f : Fld} {n : Nat × Nat} (h : nxt R C r c w = some n) : go1 R C (f, r, c) w = some (put2 f (r * C + c) (n.1 * C + n.2), n.1, n.2) := by
  unfold go1
  dsimp only
  rw [h]
  rfl
theorem go1_of_none {R C r c w : Nat} {f : Fld} (h : nxt R C r c w = none) : go1 R C (f, r, c) w = none := by
  unfold go1
  dsimp only
  rw [h]
  rfl
end Tr
namespace Tr
open PySem PySem.Spec PyProof.Rows L2
def udlr : List Nat := [117, 100, 108, 114]
theorem udlr_eq : ("udlr" : Str) = txt udlr := by decide +kernel
theorem empty_eq : ("" : Str) = txt [] := by decide +kernel
theorem glue_fold : ∀ (r : List Nat) (acc : Array Nat), (r.map fun l => txt [l]).foldl (fun (acc : Array Nat) (p : Str) => acc ++ (txt []).cps ++ p.cps) acc = acc ++ r.toArray
  | [], acc => by simp
  | c :: r, acc => by
    have h := glue_fold r (acc ++ (txt []).cps ++ (txt [c]).cps)
    show (r.map fun l => txt [l]).foldl (fun (acc : Array Nat) (p : Str) => acc ++ (txt []).cps ++ p.cps) (acc ++ (txt []).cps ++ (txt [c]).cps) = acc ++ (c :: r).toArray
    rw [h]
    apply Array.ext'
    simp
theorem join_txt (ws : List Nat) : Txt.join (txt []) (ws.map fun l => txt [l]) = txt ws := by
  show Builtin.Str.glued (txt []) (ws.map fun l => txt [l]) = txt ws
  unfold Builtin.Str.glued
  cases ws with
  | nil => rfl
  | cons c r =>
    show (⟨(r.map fun l => txt [l]).foldl (fun (acc : Array Nat) (p : Str) => acc ++ (txt []).cps ++ p.cps) (txt [c]).cps⟩ : Str) = txt (c :: r)
    rw [glue_fold]
    refine congrArg Str.mk ?_
    apply Array.ext'
    simp
theorem ones_sum (ws : List Nat) : ((ws.map fun l => txt [l]).map (·.length)).sum + (ws.map fun l => txt [l]).length * (txt []).length = ws.length := by
  have e : (txt []).length = 0 := rfl
  rw [e, Nat.mul_zero, Nat.add_zero, List.map_map]
  induction ws with
  | nil => rfl
  | cons c r ih =>
    rw [List.map_cons, List.sum_cons, ih, List.length_cons]
    have : ((fun x : Str => x.length) ∘ fun l => txt [l]) c = 1 := rfl
    rw [this]
    omega
theorem txts_map (ws : List Nat) : (ws.map fun l => V.str (txt [l])) = (ws.map fun l => txt [l]).map V.str := by
  rw [List.map_map]
  rfl
end Tr
/-! How many pairs stand the other way round: two places exchanged turn the count from even to odd or back. -/
namespace Tr
/-- pairs of a list that stand the wrong way round -/
def inv : List Nat → Nat
  | [] => 0
  | a :: r => r.countP (fun b => decide (b < a)) + inv r
theorem inv_cons (a : Nat) (r : List Nat) : inv (a :: r) = r.countP (fun b => decide (b < a)) + inv r := rfl
theorem inv_adj {l : List Nat} {a b : Nat} {r : List Nat} (h : a ≠ b) : (inv (l ++ a :: b :: r) + inv (l ++ b :: a :: r)) % 2 = 1 := by
  induction l with
  | nil =>
    show (inv (a :: b :: r) + inv (b :: a :: r)) % 2 = 1
    simp only [inv_cons, List.countP_cons]
    rcases Nat.lt_or_gt_of_ne h with h1 | h1
    · have e1 : decide (b < a) = false := decide_eq_false (by omega)
      have e2 : decide (a < b) = true := decide_eq_true h1
      simp only [e1, e2]
      simp
      omega
    · have e1 : decide (b < a) = true := decide_eq_true h1
      have e2 : decide (a < b) = false := decide_eq_false (by omega)
      simp only [e1, e2]
      simp
      omega
  | cons x l ih =>
    simp only [List.cons_append, inv_cons]
    have e : (l ++ a :: b :: r).countP (fun y => decide (y < x)) = (l ++ b :: a :: r).countP (fun y => decide (y < x)) := by
      refine List.Perm.countP_eq _ (List.Perm.append_left l (List.Perm.swap b a r))
    rw [e]
    omega
/-- an item carried over others -/
theorem inv_move {a : Nat} : ∀ (m l r : List Nat), a ∉ m → (inv (l ++ a :: (m ++ r)) + inv (l ++ (m ++ a :: r))) % 2 = m.length % 2
  | [], l, r, _ => by
    simp only [List.nil_append, List.length_nil]
    omega
  | b :: m, l, r, h => by
    have hb : a ≠ b := fun e => h (e ▸ List.mem_cons_self)
    have hm : a ∉ m := fun e => h (List.mem_cons_of_mem _ e)
    have h1 := inv_adj (l := l) (r := m ++ r) hb
    have ih := inv_move m (l ++ [b]) r hm
    simp only [List.append_assoc, List.cons_append, List.nil_append] at ih
    simp only [List.cons_append, List.length_cons]
    omega
theorem inv_swap {l m r : List Nat} {a b : Nat} (hab : a ≠ b) (ha : a ∉ m) (hb : b ∉ m) : (inv (l ++ a :: (m ++ b :: r)) + inv (l ++ b :: (m ++ a :: r))) % 2 = 1 := by
  have h1 := inv_move m l (b :: r) ha
  have h2 := inv_move m l (a :: r) hb
  have h3 := inv_adj (l := l ++ m) (r := r) hab
  simp only [List.append_assoc] at h3
  omega
/-- two places of a list exchanged -/
theorem set_set_split {xs : List Nat} {p q : Nat} (hpq : p < q) (hq : q < xs.length) : ∃ l m r a b, xs = l ++ a :: (m ++ b :: r) ∧ (xs.set p (xs[q])).set q (xs[p]'(by omega)) = l ++ b :: (m ++ a :: r) := by
  have hp : p < xs.length := by omega
  refine ⟨xs.take p, (xs.drop (p + 1)).take (q - p - 1), xs.drop (q + 1), xs[p], xs[q], ?_, ?_⟩
  · apply List.ext_getElem?
    intro i
    have e1 : (xs.drop (p + 1)).take (q - p - 1) ++ xs[q] :: xs.drop (q + 1) = xs.drop (p + 1) := by
      have h1 := (List.take_append_drop (q - p - 1) (xs.drop (p + 1))).symm
      rw [List.drop_drop, show p + 1 + (q - p - 1) = q by omega] at h1
      rw [List.drop_eq_getElem_cons hq] at h1
      exact h1.symm
    rw [e1, ← List.drop_eq_getElem_cons hp, List.take_append_drop]
  · apply List.ext_getElem
    · simp only [List.length_set, List.length_append, List.length_cons, List.length_take, List.length_drop]
      omega
    · intro i h1 h2
      simp only [List.getElem_set]
      rw [List.length_set, List.length_set] at h1
      by_cases e1 : q = i
      · subst e1
        rw [if_pos rfl]
        rw [List.getElem_append_right (by rw [List.length_take]; omega)]
        simp only [List.length_take]
        rw [List.getElem_cons]
        rw [dif_neg (by omega)]
        rw [List.getElem_append_right (by rw [List.length_take, List.length_drop]; omega)]
        simp only [List.length_take, List.length_drop]
        rw [List.getElem_cons, dif_pos (by omega)]
      · rw [if_neg e1]
        by_cases e2 : p = i
        · subst e2
          rw [if_pos rfl, List.getElem_append_right (by rw [List.length_take]; omega)]
          simp only [List.length_take]
          rw [List.getElem_cons, dif_pos (by omega)]
        · rw [if_neg e2]
          by_cases e3 : i < p
          · rw [List.getElem_append_left (by rw [List.length_take]; omega), List.getElem_take]
          · rw [List.getElem_append_right (by rw [List.length_take]; omega)]
            simp only [List.length_take]
            rw [List.getElem_cons, dif_neg (by omega)]
            by_cases e4 : i < q
            · rw [List.getElem_append_left (by rw [List.length_take, List.length_drop]; omega), List.getElem_take, List.getElem_drop]
              congr 1
              omega
            · rw [List.getElem_append_right (by rw [List.length_take, List.length_drop]; omega)]
              simp only [List.length_take, List.length_drop]
              rw [List.getElem_cons, dif_neg (by omega), List.getElem_drop]
              congr 1
              omega
theorem inv_set_set {xs : List Nat} (nd : xs.Nodup) {p q : Nat} (hne : p ≠ q) (hp : p < xs.length) (hq : q < xs.length) : (inv xs + inv ((xs.set p (xs[q])).set q (xs[p]))) % 2 = 1 := by
  have go : ∀ {p q : Nat} (hpq : p < q) (hq : q < xs.length), (inv xs + inv ((xs.set p (xs[q])).set q (xs[p]'(by omega)))) % 2 = 1 := by
    intro p q hpq hq
    obtain ⟨l, m, r, a, b, e1, e2⟩ := set_set_split hpq hq
    rw [e2]
    have nd' := nd
    rw [e1] at nd'
    rw [List.nodup_append] at nd'
    obtain ⟨_, nd2, _⟩ := nd'
    rw [List.nodup_cons] at nd2
    obtain ⟨na, nd3⟩ := nd2
    rw [List.nodup_append] at nd3
    obtain ⟨_, nd4, dj⟩ := nd3
    have hab : a ≠ b := fun e => na (List.mem_append.mpr (.inr (e ▸ List.mem_cons_self)))
    have ham : a ∉ m := fun e => na (List.mem_append.mpr (.inl e))
    have hbm : b ∉ m := fun e => dj b e b List.mem_cons_self rfl
    have h := inv_swap (l := l) (m := m) (r := r) hab ham hbm
    rw [← e1] at h
    exact h
  rcases Nat.lt_or_gt_of_ne hne with h | h
  · exact go h hq
  · have := go h hp
    have e : (xs.set p xs[q]).set q xs[p] = (xs.set q xs[p]).set p xs[q] := List.set_comm _ _ hne
    rw [e]
    exact this
end Tr
/-! Pairs and steps of two trays, together even or odd, stay so through every slide. -/
namespace Tr
theorem inv_snoc : ∀ (l : List Nat) (x : Nat), inv (l ++ [x]) = inv l + l.countP (fun y => decide (x < y))
  | [], x => rfl
  | a :: r, x => by
    have ih := inv_snoc r x
    show (r ++ [x]).countP (fun b => decide (b < a)) + inv (r ++ [x]) = (r.countP (fun b => decide (b < a)) + inv r) + (a :: r).countP (fun y => decide (x < y))
    rw [ih, List.countP_append, List.countP_cons, List.countP_cons, List.countP_nil]
    omega
/-- where a number stands -/
def posOf (n : Nat) (g : Fld) (v : Int) : Nat := (allV n g).idxOf v
/-- the places in the other of what stands in the one -/
def crossL (n : Nat) (f g : Fld) : List Nat := (allV n f).map (posOf n g)
def crossed (n : Nat) (f g : Fld) : Nat := inv (crossL n f g)
theorem crossL_len (n : Nat) (f g : Fld) : (crossL n f g).length = n := by simp [crossL, allV]
theorem crossL_get {n : Nat} {f g : Fld} {i : Nat} (h : i < n) : (crossL n f g)[i]? = some (posOf n g (f i)) := by
  simp [crossL, allV, h]
theorem full_mem {n : Nat} {f g : Fld} (hf : Full n f) (hg : Full n g) {i : Nat} (h : i < n) : f i ∈ allV n g := by
  have h1 : f i ∈ allV n f := List.mem_map.mpr ⟨i, List.mem_range.mpr h, rfl⟩
  exact (hf.trans hg.symm).mem_iff.mp h1
theorem posOf_lt {n : Nat} {f g : Fld} (hf : Full n f) (hg : Full n g) {i : Nat} (h : i < n) : posOf n g (f i) < n := by
  have h1 := List.idxOf_lt_length_of_mem (full_mem hf hg h)
  have h2 : (allV n g).length = n := by simp [allV]
  unfold posOf
  omega
theorem posOf_get {n : Nat} {f g : Fld} (hf : Full n f) (hg : Full n g) {i : Nat} (h : i < n) : g (posOf n g (f i)) = f i := by
  have hm := full_mem hf hg h
  have hl := List.idxOf_lt_length_of_mem hm
  have e := List.getElem_idxOf hl
  unfold posOf
  have e2 : ∀ k (hk : k < (allV n g).length), (allV n g)[k] = g k := fun k hk => by
    have h0 : k < n := by
      have h2 : (allV n g).length = n := by simp [allV]
      omega
    have h1 : (allV n g)[k]? = some (g k) := by simp [allV, h0]
    rw [List.getElem?_eq_getElem hk] at h1
    exact Option.some.inj h1
  rw [← e2 _ hl]
  exact e
theorem crossL_nodup {n : Nat} {f g : Fld} (hf : Full n f) (hg : Full n g) : (crossL n f g).Nodup := by
  unfold List.Nodup
  rw [List.pairwise_iff_getElem]
  intro i j hi hj hij e
  rw [crossL_len] at hi hj
  have h1 := crossL_get (f := f) (g := g) hi
  have h2 := crossL_get (f := f) (g := g) hj
  rw [List.getElem?_eq_getElem (by rw [crossL_len]; exact hi)] at h1
  rw [List.getElem?_eq_getElem (by rw [crossL_len]; exact hj)] at h2
  have h1 := Option.some.inj h1
  have h2 := Option.some.inj h2
  have e3 : posOf n g (f i) = posOf n g (f j) := by rw [← h1, ← h2]; exact e
  have e1 := posOf_get hf hg hi
  have e2 := posOf_get hf hg hj
  rw [e3] at e1
  have := full_inj hf hi hj (e1.symm.trans e2)
  omega
theorem crossL_put {n : Nat} {f g : Fld} {p q : Nat} (hp : p < n) (hq : q < n) (hz : f p = 0) :
    crossL n (put2 f p q) g = ((crossL n f g).set p ((crossL n f g)[q]'(by rw [crossL_len]; exact hq))).set q ((crossL n f g)[p]'(by rw [crossL_len]; exact hp)) := by
  apply List.ext_getElem
  · simp [crossL, allV]
  · intro i h1 h2
    have hi : i < n := by simpa [crossL, allV] using h1
    simp only [crossL, allV, List.getElem_map, List.getElem_range, List.getElem_set]
    unfold put2
    by_cases a : i = q
    · subst a
      simp [hz]
    · rw [if_neg a, if_neg (fun e => a (Eq.symm e))]
      by_cases b : i = p
      · subst b
        simp
      · rw [if_neg b, if_neg (fun e => b (Eq.symm e))]
/-- steps from one place to another -/
def steps (r c r' c' : Nat) : Nat := ((r : Int) - r').natAbs + ((c : Int) - c').natAbs
theorem crossed_go1 {R C : Nat} {s s' : Sl} {g : Fld} {w : Nat} (z : Zr R C s) (hf : Full (R * C) s.1) (hg : Full (R * C) g) (h : go1 R C s w = some s') : (crossed (R * C) s.1 g + crossed (R * C) s'.1 g) % 2 = 1 := by
  obtain ⟨h1, h2⟩ := go1_eq h
  have z' := go1_zr h
  have hp := ix_lt z.r z.c
  have hq := ix_lt z'.r z'.c
  have e : crossed (R * C) s'.1 g = inv (((crossL (R * C) s.1 g).set (s.2.1 * C + s.2.2) ((crossL (R * C) s.1 g)[s'.2.1 * C + s'.2.2]'(by rw [crossL_len]; exact hq))).set (s'.2.1 * C + s'.2.2) ((crossL (R * C) s.1 g)[s.2.1 * C + s.2.2]'(by rw [crossL_len]; exact hp))) := by
    unfold crossed
    rw [← crossL_put hp hq z.z]
    rw [h2]
  rw [e]
  exact inv_set_set (crossL_nodup hf hg) (pq_ne z h) (by rw [crossL_len]; exact hp) (by rw [crossL_len]; exact hq)
theorem steps_go1 {R C : Nat} {s s' : Sl} {w : Nat} (hw : okL w) (h : go1 R C s w = some s') (r c : Nat) : (steps s.2.1 s.2.2 r c + steps s'.2.1 s'.2.2 r c) % 2 = 1 := by
  obtain ⟨h1, _⟩ := go1_eq h
  obtain ⟨e1, e2, _, _⟩ := nxt_eq h1
  unfold steps
  rcases hw with rfl | rfl | rfl | rfl
  · have a1 : (s'.2.1 : Int) = s.2.1 + -1 := e1
    have a2 : (s'.2.2 : Int) = s.2.2 + 0 := e2
    omega
  · have a1 : (s'.2.1 : Int) = s.2.1 + 1 := e1
    have a2 : (s'.2.2 : Int) = s.2.2 + 0 := e2
    omega
  · have a1 : (s'.2.1 : Int) = s.2.1 + 0 := e1
    have a2 : (s'.2.2 : Int) = s.2.2 + -1 := e2
    omega
  · have a1 : (s'.2.1 : Int) = s.2.1 + 0 := e1
    have a2 : (s'.2.2 : Int) = s.2.2 + 1 := e2
    omega
theorem go1_ok {R C : Nat} (hR : R ≤ 9) {s s' : Sl} {w : Nat} (h : go1 R C s w = some s') : okL w := by
  obtain ⟨h1, _⟩ := go1_eq h
  by_cases k : okL w
  · exact k
  · rw [nxt_bad hR k] at h1
    cases h1
/-- pairs and steps together, even or odd, stay so -/
theorem par_go {R C : Nat} (hR : R ≤ 9) {g : Fld} (hg : Full (R * C) g) (r c : Nat) : ∀ {ws : List Nat} {s s' : Sl}, Zr R C s → Full (R * C) s.1 → goAll R C s ws = some s' →
    (crossed (R * C) s.1 g + steps s.2.1 s.2.2 r c + (crossed (R * C) s'.1 g + steps s'.2.1 s'.2.2 r c)) % 2 = 0
  | [], s, s', z, hf, h => by
    have e := Option.some.inj h
    subst e
    omega
  | w :: ws, s, s', z, hf, h => by
    have h : (go1 R C s w).bind (fun s' => goAll R C s' ws) = some s' := h
    cases e : go1 R C s w with
    | none => rw [e] at h; cases h
    | some s1 =>
      rw [e] at h
      have ih := par_go hR hg r c (go1_zr e) (go1_full z e hf) h
      have h1 := crossed_go1 z hf hg e
      have h2 := steps_go1 (go1_ok hR e) e r c
      omega
/-- a tray and itself -/
theorem crossL_self {n : Nat} {f : Fld} (hf : Full n f) : crossL n f f = List.range n := by
  apply List.ext_getElem?
  intro i
  by_cases h : i < n
  · rw [crossL_get h, List.getElem?_range h]
    refine congrArg some ?_
    have h1 := posOf_get hf hf h
    exact full_inj hf (posOf_lt hf hf h) h h1
  · rw [List.getElem?_eq_none (by rw [crossL_len]; omega), List.getElem?_eq_none (by rw [List.length_range]; omega)]
theorem inv_range : ∀ n, inv (List.range n) = 0
  | 0 => rfl
  | n + 1 => by
    rw [List.range_succ, inv_snoc, inv_range n, Nat.zero_add, List.countP_eq_zero]
    intro x hx
    have := List.mem_range.mp hx
    simp
    omega
theorem crossed_self {n : Nat} {f : Fld} (hf : Full n f) : crossed n f f = 0 := by
  unfold crossed
  rw [crossL_self hf]
  exact inv_range n
/-- what is led to is even -/
theorem led_even {R C : Nat} (hR : R ≤ 9) {s s' : Sl} {ws : List Nat} (z : Zr R C s) (hf : Full (R * C) s.1) (h : goAll R C s ws = some s') : (crossed (R * C) s.1 s'.1 + steps s.2.1 s.2.2 s'.2.1 s'.2.2) % 2 = 0 := by
  have hf' := goAll_full z h hf
  have p := par_go hR hf' s'.2.1 s'.2.2 z hf h
  rw [crossed_self hf'] at p
  have e : steps s'.2.1 s'.2.2 s'.2.1 s'.2.2 = 0 := by unfold steps; omega
  rw [e] at p
  omega
end Tr
/-! sum(a list of lists, []) -/
namespace Tr
open PySem PySem.Spec PyProof.Rows L2
def lobj (its : List Value) (n : Nat) : Obj := { cls := .type "list", data := .seq its.toArray n }
theorem args_sum2 (a b : Value) : argsOk "sum" ⟨[a, b], []⟩ := by unfold argsOk; kernel_rfl
def accL (items : Nat → List Value) : Nat → List Value
  | 0 => []
  | i + 1 => accL items i ++ items i
section
variable {prog : Program} {w : World} {A : Around} {R : Result → Shared → Prop} {I : Addr} {fp wr : List Addr} {n : Nat} {P : Nat → Value → Prop} {St : Nat → Heap → Prop}
theorem codeAny_sum_lists (W : Walks prog w A.in1 I fp wr n P St) (rows : Nat → Addr) (items : Nat → List Value) (hval : ∀ i v, P i v → v = .ref (rows i)) (S : Addr) (hS0 : ∀ b ∈ fp, b < S) (hz : ∀ i, i ≤ n → (accL items i).length ≤ sizeLine) :
    ∀ (k i : Nat) (s : Shared) (t : Addr) (c : Nat), n - i = k → i ≤ n → St i s.heap → s.heap.get? S = some { cls := .type "list", dict := none, data := .seq #[.ref t] c, slots := #[] } →
    t ≠ S → t ∉ wr → (∃ m, s.heap.get? t = some (lobj (accL items i) m)) → (∀ j, j < n → rows j ≠ S ∧ rows j ∉ wr ∧ ∃ m, s.heap.get? (rows j) = some (lobj (items j) m)) →
    (∀ h' tk t', (∀ b o, b ∉ wr → b ≠ S → s.heap.get? b = some o → h'.get? b = some o) → (∃ m, h'.get? t' = some (lobj (accL items n) m)) → (i < n → S < t') → (i = n → t' = t) → R (.ok (.ret (.ref t'))) { s with heap := h', toks := tk }) →
    codeAny (model prog w) A (.builtin "sum.loop" ⟨[.ref I, .ref S, rawInt 2, rawInt 0], []⟩) R s := by
  have hSw : S ∉ wr := fun h => Nat.lt_irrefl _ (hS0 _ (W.sub _ h))
  have hSf : S ∉ fp := fun h => Nat.lt_irrefl _ (hS0 _ h)
  intro k
  induction k with
  | zero =>
    intro i s t c hk hi hst hS htS htw hacc hrows hR
    have hin : i = n := by omega
    subst hin
    refine codeAny_builtin F.entry_sum_loop ?_
    rw [Around.under_plainId F.plain_sum_loop _]
    show wpAny _ A.in1 (seqItems? (.ref S) >>= _) _ _ s
    refine wpAny_bind (wpAny_seqItems hS rfl ?_)
    show wpAny _ A.in1 (tryCatch (pyNext (.ref I)) _ >>= _) _ _ s
    refine wpAny_bind (wpAny_tryCatch (W.done s _ _ hst fun h' tk hk' => ?_))
    obtain ⟨m, e⟩ := hacc
    exact wpAny_pure (hR h' tk t (fun b o hbw _ e => hk' b o hbw e) ⟨m, hk' _ _ htw e⟩ (fun h => absurd h (Nat.lt_irrefl _)) (fun _ => rfl))
  | succ k ih =>
    intro i s t c hk hi hst hS htS htw hacc hrows hR
    have hlt : i < n := by omega
    refine codeAny_builtin F.entry_sum_loop ?_
    rw [Around.under_plainId F.plain_sum_loop _]
    show wpAny _ A.in1 (seqItems? (.ref S) >>= _) _ _ s
    refine wpAny_bind (wpAny_seqItems hS rfl ?_)
    show wpAny _ A.in1 (tryCatch (pyNext (.ref I)) _ >>= _) _ _ s
    refine wpAny_bind (wpAny_tryCatch (W.item i s _ _ hlt hst fun v h' tk hP hst' hk' => ?_))
    have ev := hval i v hP
    subst ev
    have hS' := hk' S _ hSw hS
    obtain ⟨m, ea⟩ := hacc
    have ea' := hk' _ _ htw ea
    obtain ⟨hrS, hrw, mr, er⟩ := hrows i hlt
    have er' := hk' _ _ hrw er
    show wpAny _ A.in1 ((holding [Value.ref (rows i)] (binaryOp .Add (.ref t) (.ref (rows i)))).attempt >>= _) _ _ _
    have hz1 := hz (i + 1) hlt
    refine wpAny_bind (wpAny_attempt (wpAny_holding (PySem.P.add_list ea' er' ?_ (by rw [List.size_toArray, List.size_toArray]; have : (accL items (i + 1)).length = (accL items i).length + (items i).length := List.length_append; omega))))
    have hSlt : S < h'.objs.size := Heap.lt_size hS'
    generalize hp1 : h'.objs.size = p1 at hSlt
    have hpush : ∀ b o, h'.get? b = some o → (h'.push { cls := .type "list", data := .seq ((accL items i).toArray ++ (items i).toArray) }).get? b = some o := fun b o e => Heap.get?_push_of_some _ e
    have hnew : (h'.push { cls := .type "list", data := .seq ((accL items i).toArray ++ (items i).toArray) }).get? p1 = some (lobj (accL items (i + 1)) 0) := by
      rw [← hp1]
      have e : (accL items i).toArray ++ (items i).toArray = (accL items (i + 1)).toArray := by
        show _ = (accL items i ++ items i).toArray
        simp
      rw [e]
      exact Heap.get?_push_size _ rfl
    show wpAny _ A.in1 (updateSeq S (fun _ => #[.ref p1]) >>= _) _ _ { s with heap := h'.push { cls := .type "list", data := .seq ((accL items i).toArray ++ (items i).toArray) }, toks := tk }
    generalize (h'.push { cls := .type "list", data := .seq ((accL items i).toArray ++ (items i).toArray) }) = h1 at hpush hnew ⊢
    have hS1 := hpush _ _ hS'
    have hpS : p1 ≠ S := (Nat.ne_of_lt hSlt).symm
    have hpw : p1 ∉ wr := fun e => Nat.lt_irrefl _ (Nat.lt_trans hSlt (hS0 _ (W.sub _ e)))
    refine wpAny_bind (wpAny_updateSeq hS1 rfl ?_)
    have hS2 := Heap.get?_update_self (Obj.mapSeq fun _ => #[Value.ref p1]) hS1 rfl
    refine wpAny_bind (wpAny_letGo ?_)
    refine wpAny_bind (wpAny_updateSeq hS2 rfl (wpAny_pure ⟨plainId_quiet F.plain_sum_loop _, ?_⟩))
    have up : ∀ b o, b ≠ S → h1.get? b = some o → ((h1.update S (Obj.mapSeq fun _ => #[Value.ref p1])).update S (Obj.mapSeq fun _ => #[Value.ref p1])).get? b = some o := fun b o hb e =>
      (Heap.get?_update_other _ _ (Ne.symm hb)).trans ((Heap.get?_update_other _ _ (Ne.symm hb)).trans e)
    have upS := Heap.get?_update_self (Obj.mapSeq fun _ => #[Value.ref p1]) hS2 rfl
    refine ih (i + 1) _ p1 _ (by omega) hlt (W.frame _ _ _ hst' fun b hb o e => up b o (fun h => hSf (h ▸ hb)) (hpush b o e)) upS hpS hpw ⟨0, up _ _ hpS hnew⟩ (fun j hj => ?_) fun h'' tk'' t'' hk'' hm hlt' heq => ?_
    · obtain ⟨a1, a2, mj, ej⟩ := hrows j hj
      exact ⟨a1, a2, mj, up _ _ a1 (hpush _ _ (hk' _ _ a2 ej))⟩
    · refine hR h'' tk'' t'' (fun b o hbw hbS e => hk'' b o hbw hbS (up _ _ hbS (hpush _ _ (hk' b o hbw e)))) hm (fun _ => ?_) (fun e => absurd e (by omega))
      by_cases hn : i + 1 < n
      · exact hlt' hn
      · rw [heq (by omega)]
        exact hSlt
end
theorem sub_list_str : isSubtype (.type "list") (.type "str") = pure false := by rw [isSubtype_type]; kernel_rfl
theorem sub_list_bytes : isSubtype (.type "list") (.type "bytes") = pure false := by rw [isSubtype_type]; kernel_rfl
theorem sub_list_bytearray : isSubtype (.type "list") (.type "bytearray") = pure false := by rw [isSubtype_type]; kernel_rfl
section
variable {prog : Program} {w : World} {A : Around} {E : Value → Shared → Prop} {s : Shared}
theorem call_sum_lists {l e : Addr} {rows : List Addr} {items : Nat → List Value} {Q : Value → Shared → Prop} (hh : A.handled = none) (hl : s.heap.IsList l (rows.map Value.ref).toArray) (he : ∃ m, s.heap.get? e = some (lobj [] m)) (hne : 0 < rows.length)
    (hr : ∀ j (hj : j < rows.length), ∃ m, s.heap.get? rows[j] = some (lobj (items j) m)) (hz : ∀ i, i ≤ rows.length → (accL items i).length ≤ sizeLine)
    (h : ∀ h' tk t, (∀ b o, s.heap.get? b = some o → h'.get? b = some o) → s.heap.objs.size ≤ t → (∃ m, h'.get? t = some (lobj (accL items rows.length) m)) → Q (.ref t) { s with heap := h', toks := tk }) :
    wpAny (model prog w) A (call (.builtin "sum") [.ref l, .ref e]) Q E s := by
  refine call_function_tree F.kind_sum F.plain_sum F.entry_sum (args_sum2 _ _) ?_
  unfold Builtin.«sum»
  simp only [List.length_cons, List.length_nil]
  rw [if_neg (by decide)]
  refine wpAny_bind (wpAny_of_eq (show Builtin.Builtins.bindParams "sum" ["start"] 0 ⟨[.ref e], []⟩ = pure [some (.ref e)] from rfl) ?_)
  refine wpAny_bind (PySem.Flt.iter_list_ hl fun s₂ e2 st hfp hlI => ?_)
  subst e2
  obtain ⟨me, ee⟩ := he
  have hk2 : ∀ b o, s.heap.get? b = some o → (s.heap.push { cls := .type "list_iterator", data := .fields #[.ref l, .int 0 0] }).get? b = some o := fun b o e => Heap.get?_push_of_some _ e
  have te : Shared.TypeIs { s with heap := s.heap.push { cls := .type "list_iterator", data := .fields #[.ref l, .int 0 0] } } (.ref e) "list" := ⟨_, hk2 _ _ ee, rfl⟩
  refine wpAny_bind (wpAny_pure ?_)
  simp only [List.forIn_cons, List.forIn_nil]
  refine wpAny_bind (wpAny_bind (wpAny_bind (wpAny_isInstance (T := "list") (b := false) te sub_list_str ?_)))
  simp only [Bool.false_eq_true, if_false]
  refine wpAny_pure (wpAny_bind (wpAny_bind (wpAny_isInstance (T := "list") (b := false) te sub_list_bytes ?_)))
  simp only [Bool.false_eq_true, if_false]
  refine wpAny_pure (wpAny_bind (wpAny_bind (wpAny_isInstance (T := "list") (b := false) te sub_list_bytearray ?_)))
  simp only [Bool.false_eq_true, if_false]
  refine wpAny_pure (wpAny_pure ?_)
  refine wpAny_bind (wpAny_newObj_type ?_)
  generalize hs2 : (s.heap.push { cls := .type "list_iterator", data := .fields #[.ref l, .int 0 0] }) = h2 at st hfp hk2 te ⊢
  have hsz2 : s.heap.objs.size < h2.objs.size := by
    rw [← hs2, Heap.size_push]
    exact Nat.lt_succ_self _
  have hlt : ∀ b o, s.heap.get? b = some o → b < h2.objs.size := fun b o e => Heap.lt_size (hk2 b o e)
  have hlen : (rows.map Value.ref).toArray.size = rows.length := by rw [List.size_toArray, List.length_map]
  have W := Walks.list (prog := prog) (w := w) (A := A.in1) hh s.heap.objs.size l hlI (rows.map Value.ref).toArray
  rw [hlen] at W
  refine wpAny_pure ⟨plainId_quiet F.plain_sum_loop _, codeAny_sum_lists W (fun j => rows.getD j 0) items (fun i v hv => ?_) h2.objs.size (fun b hb => ?_) hz rows.length 0 _ e 0 rfl (Nat.zero_le _) ?_ (Heap.get?_push_size _ rfl) ?_ ?_ ⟨me, ?_⟩ (fun j hj => ?_) fun h' tk t hk hm hlt' _ => ?_⟩
  · rw [List.getElem?_toArray, List.getElem?_map] at hv
    cases q : rows[i]? with
    | none => rw [q] at hv; cases hv
    | some r =>
      rw [q] at hv
      rw [List.getD_eq_getElem?_getD, q]
      exact (Option.some.inj hv).symm
  · exact hfp b hb
  · exact W.frame 0 _ _ st fun b _ o e => Heap.get?_push_of_some _ e
  · exact Nat.ne_of_lt (hlt _ _ ee)
  · intro hm
    exact Nat.lt_irrefl _ (List.mem_singleton.mp hm ▸ Heap.lt_size ee)
  · exact Heap.get?_push_of_some _ (hk2 _ _ ee)
  · obtain ⟨m, er⟩ := hr j hj
    have ej : rows.getD j 0 = rows[j] := by rw [List.getD_eq_getElem?_getD, List.getElem?_eq_getElem hj]; rfl
    rw [ej]
    exact ⟨Nat.ne_of_lt (hlt _ _ er), fun hm => Nat.lt_irrefl _ (List.mem_singleton.mp hm ▸ Heap.lt_size er), m, Heap.get?_push_of_some _ (hk2 _ _ er)⟩
  · refine h h' tk t (fun b o eb => ?_) (Nat.le_of_lt (Nat.lt_trans hsz2 (hlt' hne))) hm
    exact hk b o (fun hm => Nat.lt_irrefl _ (List.mem_singleton.mp hm ▸ Heap.lt_size eb)) (Nat.ne_of_lt (hlt _ _ eb)) (Heap.get?_push_of_some _ (hk2 _ _ eb))
end
def accV (xss : Nat → List V) : Nat → List V
  | 0 => []
  | i + 1 => accV xss i ++ xss i
/-- sum(rows, []), rows a tracked list of tracked lists, not empty -/
def rSumL : List V → Hp → VK → Prop := fun vs H Q => ∃ (a e : Addr) (rs : List Addr) (xss : Nat → List V), vs = [.ref a, .ref e] ∧ H a = some (.lst (rs.map V.ref)) ∧ 0 < rs.length ∧ H e = some (.lst []) ∧
  (∀ j r, rs[j]? = some r → H r = some (.lst (xss j))) ∧ (∀ i, i ≤ rs.length → (accV xss i).length ≤ sizeLine) ∧ ∀ p, H p = none → Q (.ref p) (upd H p (.lst (accV xss rs.length)))
theorem vals_refs : ∀ {rs : List Addr} {its : List Value}, Vals (rs.map V.ref) its → its = rs.map Value.ref
  | [], _, .nil => rfl
  | r :: rs, _, .cons h t => by
    have e := vals_refs t
    cases h
    rw [e]
    rfl
theorem vals_acc {xss : Nat → List V} {items : Nat → List Value} : ∀ {n : Nat}, (∀ j, j < n → Vals (xss j) (items j)) → Vals (accV xss n) (accL items n)
  | 0, _ => .nil
  | n + 1, h => (vals_acc fun j hj => h j (Nat.lt_succ_of_lt hj)).append (h n (Nat.lt_succ_self n))
section
variable {X : Cx}
theorem cr_sumL (hc : X.calm = true) : CallR X (.builtin "sum") rSumL := by
  intro pins s σ H vs us Q I r h
  obtain ⟨a, e, rs, xss, rfl, ha, hne, he, hrow, hz, q⟩ := h
  obtain ⟨u1, u2, rfl, r1, r2⟩ := vals2 r
  cases r1
  cases r2
  obtain ⟨_, its, n, rv, _, ea⟩ := I.lstM ha
  have eits := vals_refs rv
  subst eits
  obtain ⟨_, ite, m, re, _, ee⟩ := I.lstM he
  cases re
  have hch : ∀ j, ∃ it : List Value, ∀ r, rs[j]? = some r → Vals (xss j) it ∧ ∃ m, s.heap.get? r = some (lobj it m) := fun j => by
    cases q : rs[j]? with
    | none => exact ⟨[], fun r z => by cases z⟩
    | some r =>
      obtain ⟨_, it, m, rj, _, ej⟩ := I.lstM (hrow j r q)
      refine ⟨it, fun r2 z => ?_⟩
      cases z
      exact ⟨rj, m, ej⟩
  have items := fun j => Classical.choose (hch j)
  have hitems := fun j => Classical.choose_spec (hch j)
  have hv : ∀ i, i ≤ rs.length → Vals (accV xss i) (accL (fun j => Classical.choose (hch j)) i) := fun i hi => vals_acc fun j hj => (hitems j _ (List.getElem?_eq_getElem (Nat.lt_of_lt_of_le hj hi))).1
  refine call_sum_lists (rows := rs) (items := fun j => Classical.choose (hch j)) (I.ok.hd hc) ⟨_, ea, rfl, n, rfl⟩ ⟨m, ee⟩ hne (fun j hj => (hitems j _ (List.getElem?_eq_getElem hj)).2) (fun i hi => ?_) fun h' tk t hk ht hm => ?_
  · rw [← (hv i hi).length]
    exact hz i hi
  · obtain ⟨n', en⟩ := hm
    exact ⟨.ref t, _, I.laid (t' := tk) (o := .lst (accV xss rs.length)) hk ht ⟨hz _ (Nat.le_refl _), _, n', hv _ (Nat.le_refl _), en⟩, rfl, q t (I.hok.fresh ht)⟩
end
end Tr
/-! xs.count(y) of flat things -/
namespace Tr
open PySem PySem.Spec PyProof.Rows L2
def rCntF (K : PySem.W.Frag) : V → List V → Hp → VK → Prop := fun x xs H Q => ∃ (p : Addr) (ys : List V) (y : V), x = .ref p ∧ xs = [y] ∧ SqL K H p ys ∧ flatV y = true ∧ ys.all flatV = true ∧ Q (.int (ys.countP (fun z => eqV z y) : Nat)) H
theorem count_flat {y : V} : ∀ {ys : List V} {its : List Value}, Vals ys its → ys.all flatV = true → its.countP (eqU y) = ys.countP (fun z => eqV z y)
  | _, _, .nil, _ => rfl
  | _ :: _, _ :: _, .cons ru t, h => by
    rw [List.all_cons, Bool.and_eq_true] at h
    rw [List.countP_cons, List.countP_cons, count_flat t h.2, eqU_of ru h.1]
section
variable {X : Cx}
theorem mt_countF : MtR X "list.count" (rCntF X.K) := by
  intro pins s σ H x xs v us Q I rx rxs h
  obtain ⟨p, ys, y, rfl, rfl, hs, fy, fys, q⟩ := h
  cases rx
  cases rxs with
  | cons ry rt =>
    rename_i uy ut
    cases rt
    obtain ⟨its, rv, ⟨⟨cls, dd, data, sl⟩, n, ho, hc, hdn, hd⟩, hlen⟩ := I.list hs
    simp only at hc hd
    subst hc hd
    refine call_meets PySem.F.slot_list_count ⟨_, ho, rfl⟩ PySem.F.entry_list_count (PySem.F.args_list_count_2 _ _)
      (SeqAt.list_countAt p its.toArray n dd sl uy (eqU y)) ⟨ho, fun u' hu' => mem_eqAt ry fy rv fys u' (by simpa using hu'), ?_⟩
    have ec : its.toArray.toList.countP (eqU y) = ys.countP (fun z => eqV z y) := count_flat rv fys
    refine ⟨.int (ys.countP (fun z => eqV z y) : Nat), H, I.tok _, ⟨s.toks, ?_⟩, q⟩
    show Value.int ((its.toArray.toList.countP (eqU y) : Nat) : Int) s.toks = Value.int ((ys.countP (fun z => eqV z y) : Nat) : Int) s.toks
    rw [ec]
end
end Tr
/-! Lists of numbers and trays, compared -/
namespace Tr
open PySem PySem.Spec PyProof.Rows L2
theorem eqvAll_ints : ∀ a b : List Int, PyData.eqvAll (a.map PyData.int) (b.map PyData.int) = decide (a = b)
  | [], [] => rfl
  | [], y :: ys => by simp [PyData.eqvAll]
  | x :: xs, [] => by simp [PyData.eqvAll]
  | x :: xs, y :: ys => by
    rw [List.map_cons, List.map_cons, PyData.eqvAll, eqvAll_ints xs ys, PyData.eqv]
    by_cases e : x = y
    · subst e
      simp
    · simp [e]
theorem eqv_ints (a b : List Int) : PyData.eqv (.list (a.map PyData.int)) (.list (b.map PyData.int)) = decide (a = b) := by
  rw [PyData.eqv, eqvAll_ints]
theorem rowD_eq (C : Nat) (f : Fld) (i : Nat) : rowD C f i = .list (((List.range C).map fun j => f (i * C + j)).map PyData.int) := by
  unfold rowD
  rw [List.map_map]
  rfl
theorem eqv_rowD (C : Nat) (f g : Fld) (i : Nat) : PyData.eqv (rowD C f i) (rowD C g i) = decide (∀ j, j < C → f (i * C + j) = g (i * C + j)) := by
  rw [rowD_eq, rowD_eq, eqv_ints]
  refine decide_eq_decide.mpr ⟨fun h j hj => ?_, fun h => ?_⟩
  · have := congrArg (fun l : List Int => l[j]?) h
    simpa [List.getElem?_map, List.getElem?_range hj] using this
  · exact List.map_congr_left fun j hj => h j (List.mem_range.mp hj)
theorem eqvAll_rows (C : Nat) (f g : Fld) : ∀ ks : List Nat, PyData.eqvAll (ks.map (rowD C f)) (ks.map (rowD C g)) = decide (∀ k ∈ ks, ∀ j, j < C → f (k * C + j) = g (k * C + j))
  | [] => by simp [PyData.eqvAll]
  | k :: r => by
    rw [List.map_cons, List.map_cons, PyData.eqvAll, eqvAll_rows C f g r, eqv_rowD, ← Bool.decide_and]
    refine decide_eq_decide.mpr ⟨fun h x hx => ?_, fun h => ⟨h k List.mem_cons_self, fun x hx => h x (List.mem_cons_of_mem _ hx)⟩⟩
    rcases List.mem_cons.mp hx with rfl | hx
    · exact h.1
    · exact h.2 x hx
theorem eqv_trays (R C : Nat) (f g : Fld) : PyData.eqv (rowsD C f (List.range R)) (rowsD C g (List.range R)) = decide (∀ k, k < R * C → f k = g k) := by
  unfold rowsD
  rw [PyData.eqv, eqvAll_rows]
  refine decide_eq_decide.mpr ⟨fun h k hk => ?_, fun h i hi j hj => h _ (ix_lt (List.mem_range.mp hi) hj)⟩
  have hC : 0 < C := by
    rcases Nat.eq_zero_or_pos C with z | z
    · subst z
      simp at hk
    · exact z
  have h1 : k / C < R := by
    rw [Nat.div_lt_iff_lt_mul hC]
    exact hk
  have := h (k / C) (List.mem_range.mpr h1) (k % C) (Nat.mod_lt _ hC)
  rwa [Nat.mul_comm, Nat.div_add_mod] at this
/-! ### a flat list of rows of one length -/
theorem flat_get {α : Type} {C : Nat} : ∀ {L : List (List α)} {i j : Nat}, (∀ l ∈ L, l.length = C) → j < C → ∀ {l}, L[i]? = some l → L.flatten[i * C + j]? = l[j]?
  | [], i, j, _, _, l, h => by simp at h
  | x :: xs, 0, j, hl, hj, l, h => by
    have e : x = l := by simpa using h
    subst e
    have hx := hl x List.mem_cons_self
    rw [List.flatten_cons, Nat.zero_mul, Nat.zero_add, List.getElem?_append_left (by omega)]
  | x :: xs, i + 1, j, hl, hj, l, h => by
    have hx := hl x List.mem_cons_self
    have h : xs[i]? = some l := by simpa using h
    rw [List.flatten_cons, List.getElem?_append_right (by rw [hx, Nat.add_mul]; omega)]
    have e : (i + 1) * C + j - x.length = i * C + j := by
      rw [hx, Nat.add_mul]
      omega
    rw [e]
    exact flat_get (fun l m => hl l (List.mem_cons_of_mem _ m)) hj h
theorem flat_len {α : Type} {C : Nat} : ∀ {L : List (List α)}, (∀ l ∈ L, l.length = C) → L.flatten.length = L.length * C
  | [], _ => by simp
  | x :: xs, hl => by
    rw [List.flatten_cons, List.length_append, hl x List.mem_cons_self, flat_len fun l m => hl l (List.mem_cons_of_mem _ m), List.length_cons, Nat.add_mul]
    omega
end Tr
namespace Tr
open PySem PySem.Spec PyProof.Rows L2
def Uniq (R C : Nat) (f : Fld) (p : Nat) : Prop := ∀ k, k < R * C → f k = 0 → k = p
/-- a tray of at most six rows and columns, all its numbers each once, 0 at (r, c) -/
structure Good (R C : Nat) (s : Sl) : Prop where
  r0 : 0 < R
  r6 : R ≤ 6
  c0 : 0 < C
  c6 : C ≤ 6
  full : Full (R * C) s.1
  z : Zr R C s
theorem Good.uniq {R C : Nat} {s : Sl} (g : Good R C s) : Uniq R C s.1 (s.2.1 * C + s.2.2) := fun k hk e => full_inj g.full hk (ix_lt g.z.r g.z.c) (e.trans g.z.z.symm)
theorem Good.go {R C : Nat} {s s' : Sl} {ws : List Nat} (g : Good R C s) (h : goAll R C s ws = some s') : Good R C s' := ⟨g.r0, g.r6, g.c0, g.c6, goAll_full g.z h g.full, goAll_zr g.z h⟩
end Tr
/-! What answers say -/
namespace Tr
open PySem PySem.Spec PyProof.Rows L2
def passedB (R C : Nat) (f g : Fld) (x y : Int) : Bool :=
  if 1 < min R C ∨ x = y ∨ ¬ (0 < x ∧ x < (R * C : Nat)) ∨ ¬ (0 < y ∧ y < (R * C : Nat)) then false
  else decide (decide (posOf (R * C) f x < posOf (R * C) f y) ≠ decide (posOf (R * C) g x < posOf (R * C) g y))
/-- the facts of a class of answers -/
structure ClsT (K : PySem.W.Frag) (mg : Str → Option Value) (x : Str) (C fI fS : Addr) (fs : List Str) : Prop where
  g : mg x = some (.ref C)
  mkc : Mk K C fI
  cl : Cls K C
  me : Meth K C "shows" fS
  nf : ∀ f ∈ fs, NoAttr K C f
/-- made: one field -/
def spI1 (f : Str) (C : Addr) : Sp := fun vs H Q _ => ∃ (x dx : Addr) (v : V), vs = [.ref x, v] ∧ H x = some (.ins C dx []) ∧
  ∀ fs : List (Str × V), fs.lookup f = some v → fs.lookup ("shows" : Str) = none → Q .non (upd H x (.ins C dx fs))
/-- made: two fields -/
def spI2 (f g : Str) (C : Addr) : Sp := fun vs H Q _ => ∃ (x dx : Addr) (v u : V), vs = [.ref x, v, u] ∧ H x = some (.ins C dx []) ∧
  ∀ fs : List (Str × V), fs.lookup f = some v → fs.lookup g = some u → fs.lookup ("shows" : Str) = none → fs.lookup ("is_first" : Str) = none → Q .non (upd H x (.ins C dx fs))
def ledB (R C : Nat) (s : Sl) (ws : List Nat) (g : Fld) : Bool := match goAll R C s ws with
  | none => false
  | some s' => decide (∀ k, k < R * C → s'.1 k = g k)
def oddB (R C : Nat) (s g : Sl) (x y : Int) : Bool := decide (1 < min R C ∧ (x + y) % 2 = 1 ∧ x = (crossed (R * C) s.1 g.1 : Nat) ∧ y = (steps s.2.1 s.2.2 g.2.1 g.2.2 : Nat))
def spShL (CL : Addr) : Sp := fun vs H Q _ => ∃ (o dx a b : Addr) (fs : List (Str × V)) (ws : List Nat) (rs rs2 : List Addr) (R C : Nat) (s g : Sl), vs = [.ref o, .ref a, .ref b] ∧ H o = some (.ins CL dx fs) ∧ fs.lookup ("slides" : Str) = some (.str (txt ws)) ∧
  TrayAt H a rs R C s.1 ∧ Good R C s ∧ TrayAt H b rs2 R C g.1 ∧ Good R C g ∧ ws.length ≤ 1000000 ∧ ∀ H', Same H H' → Q (.bl (ledB R C s ws g.1)) H'
def spShO (CO : Addr) : Sp := fun vs H Q _ => ∃ (o dx a b : Addr) (fs : List (Str × V)) (x y : Int) (rs rs2 : List Addr) (R C : Nat) (s g : Sl), vs = [.ref o, .ref a, .ref b] ∧ H o = some (.ins CO dx fs) ∧ fs.lookup ("crossed" : Str) = some (.int x) ∧ fs.lookup ("steps" : Str) = some (.int y) ∧
  TrayAt H a rs R C s.1 ∧ Good R C s ∧ TrayAt H b rs2 R C g.1 ∧ Good R C g ∧ x.natAbs ≤ 100000 ∧ y.natAbs ≤ 100000 ∧ ∀ H', Same H H' → Q (.bl (oddB R C s g x y)) H'
def spShP (CP : Addr) : Sp := fun vs H Q _ => ∃ (o dx a b : Addr) (fs : List (Str × V)) (x y : Int) (rs rs2 : List Addr) (R C : Nat) (s g : Sl), vs = [.ref o, .ref a, .ref b] ∧ H o = some (.ins CP dx fs) ∧ fs.lookup ("one" : Str) = some (.int x) ∧ fs.lookup ("other" : Str) = some (.int y) ∧ fs.lookup ("is_first" : Str) = none ∧
  TrayAt H a rs R C s.1 ∧ Good R C s ∧ TrayAt H b rs2 R C g.1 ∧ Good R C g ∧ x.natAbs ≤ 100000 ∧ y.natAbs ≤ 100000 ∧ ∀ H', Same H H' → Q (.bl (passedB R C s.1 g.1 x y)) H'
/-- two trays of the same sides -/
structure Two (H : Hp) (a b : Addr) (R C : Nat) (s g : Sl) : Prop where
  one : ∃ rs, TrayAt H a rs R C s.1
  two : ∃ rs, TrayAt H b rs R C g.1
  g1 : Good R C s
  g2 : Good R C g
theorem Two.mono {H H' : Hp} {a b : Addr} {R C : Nat} {s g : Sl} (sm : Same H H') (t : Two H a b R C s g) : Two H' a b R C s g := by
  obtain ⟨⟨rs, t1⟩, ⟨rs2, t2⟩, g1, g2⟩ := t
  exact ⟨⟨rs, t1.mono sm⟩, ⟨rs2, t2.mono sm⟩, g1, g2⟩
/-- what an answer is -/
inductive AnsK where
  | L (ws : List Nat)
  | O (x y : Int)
  | P (x y : Int)
def AnsAt (CL CO CP : Addr) (H : Hp) (o : Addr) : AnsK → Prop
  | .L ws => ∃ (dx : Addr) (fs : List (Str × V)), H o = some (.ins CL dx fs) ∧ fs.lookup ("slides" : Str) = some (.str (txt ws)) ∧ fs.lookup ("shows" : Str) = none ∧ ws.length ≤ 1000000
  | .O x y => ∃ (dx : Addr) (fs : List (Str × V)), H o = some (.ins CO dx fs) ∧ fs.lookup ("crossed" : Str) = some (.int x) ∧ fs.lookup ("steps" : Str) = some (.int y) ∧ fs.lookup ("shows" : Str) = none ∧ x.natAbs ≤ 100000 ∧ y.natAbs ≤ 100000
  | .P x y => ∃ (dx : Addr) (fs : List (Str × V)), H o = some (.ins CP dx fs) ∧ fs.lookup ("one" : Str) = some (.int x) ∧ fs.lookup ("other" : Str) = some (.int y) ∧ fs.lookup ("shows" : Str) = none ∧ x.natAbs ≤ 100000 ∧ y.natAbs ≤ 100000 ∧ fs.lookup ("is_first" : Str) = none
theorem AnsAt.mono {CL CO CP : Addr} {H H' : Hp} {o : Addr} {n : AnsK} (sm : Same H H') (h : AnsAt CL CO CP H o n) : AnsAt CL CO CP H' o n := by
  cases n with
  | L ws =>
    obtain ⟨dx, fs, e, r⟩ := h
    exact ⟨dx, fs, sm _ _ e, r⟩
  | O x y =>
    obtain ⟨dx, fs, e, r⟩ := h
    exact ⟨dx, fs, sm _ _ e, r⟩
  | P x y =>
    obtain ⟨dx, fs, e, r⟩ := h
    exact ⟨dx, fs, sm _ _ e, r⟩
def ansB (R C : Nat) (s g : Sl) : AnsK → Bool
  | .L ws => ledB R C s ws g.1
  | .O x y => oddB R C s g x y
  | .P x y => passedB R C s.1 g.1 x y
def AnsK.cls (CL CO CP : Addr) : AnsK → Addr
  | .L _ => CL
  | .O _ _ => CO
  | .P _ _ => CP
def AnsK.isL : AnsK → Bool
  | .L _ => true
  | _ => false
def AnsK.isO : AnsK → Bool
  | .O _ _ => true
  | _ => false
def AnsK.isP : AnsK → Bool
  | .P _ _ => true
  | _ => false
/-- told, of two trays of the same sides -/
def spTold (CL CO CP : Addr) : Sp := fun vs H Q _ => ∃ (a b : Addr) (R C : Nat) (s g : Sl), vs = [.ref a, .ref b] ∧ Two H a b R C s g ∧
  ∀ H' o n, Same H H' → AnsAt CL CO CP H' o n → ansB R C s g n = true → Q (.ref o) H'
/-- a class, as isinstance asks for it -/
structure InsT (K : PySem.W.Frag) (C : Addr) : Prop where
  cl : Cls K C
  fc : PySem.W.findIn K (.ref C) "__class__" = some (some (.builtin "object.__class__"))
  sp : PySem.W.specialIn K (.builtin "object.__class__") "__get__" = some (some (.builtin "getset_descriptor.__get__"))
  tk : PySem.W.takesIn K (.builtin "object.__class__") = some true
  mr : PySem.W.mroIn K C (.type "object") = some true
theorem InsT.ty {K : PySem.W.Frag} {H : Hp} {C a dx : Addr} {fs : List (Str × V)} (t : InsT K C) (h : H a = some (.ins C dx fs)) : TyX K H (.ref a) (.ref C) := .base (.ins h t.cl t.fc t.sp t.tk t.mr)
/-- the classes of answers -/
structure Kinds (K : PySem.W.Frag) (CA CL CO CP : Addr) : Prop where
  tL : InsT K CL
  tO : InsT K CO
  tP : InsT K CP
  ll : PySem.W.kitOne K (.ref CL) (.ref CL) = some true
  lo : PySem.W.kitOne K (.ref CL) (.ref CO) = some false
  lp : PySem.W.kitOne K (.ref CL) (.ref CP) = some false
  la : PySem.W.kitOne K (.ref CL) (.ref CA) = some true
  ol : PySem.W.kitOne K (.ref CO) (.ref CL) = some false
  oo : PySem.W.kitOne K (.ref CO) (.ref CO) = some true
  op : PySem.W.kitOne K (.ref CO) (.ref CP) = some false
  oa : PySem.W.kitOne K (.ref CO) (.ref CA) = some true
  pl : PySem.W.kitOne K (.ref CP) (.ref CL) = some false
  po : PySem.W.kitOne K (.ref CP) (.ref CO) = some false
  pp : PySem.W.kitOne K (.ref CP) (.ref CP) = some true
  pa : PySem.W.kitOne K (.ref CP) (.ref CA) = some true
theorem AnsAt.ty {K : PySem.W.Frag} {CA CL CO CP : Addr} {H : Hp} {o : Addr} {n : AnsK} (k : Kinds K CA CL CO CP) (h : AnsAt CL CO CP H o n) : TyX K H (.ref o) (.ref (n.cls CL CO CP)) := by
  cases n with
  | L ws =>
    obtain ⟨dx, fs, e, _⟩ := h
    exact k.tL.ty e
  | O x y =>
    obtain ⟨dx, fs, e, _⟩ := h
    exact k.tO.ty e
  | P x y =>
    obtain ⟨dx, fs, e, _⟩ := h
    exact k.tP.ty e
theorem Kinds.isL {K : PySem.W.Frag} {CA CL CO CP : Addr} (k : Kinds K CA CL CO CP) (n : AnsK) : PySem.W.kitOne K (.ref (n.cls CL CO CP)) (.ref CL) = some n.isL := by
  cases n
  · exact k.ll
  · exact k.ol
  · exact k.pl
theorem Kinds.isO {K : PySem.W.Frag} {CA CL CO CP : Addr} (k : Kinds K CA CL CO CP) (n : AnsK) : PySem.W.kitOne K (.ref (n.cls CL CO CP)) (.ref CO) = some n.isO := by
  cases n
  · exact k.lo
  · exact k.oo
  · exact k.po
theorem Kinds.isP {K : PySem.W.Frag} {CA CL CO CP : Addr} (k : Kinds K CA CL CO CP) (n : AnsK) : PySem.W.kitOne K (.ref (n.cls CL CO CP)) (.ref CP) = some n.isP := by
  cases n
  · exact k.lp
  · exact k.op
  · exact k.pp
theorem Kinds.isA {K : PySem.W.Frag} {CA CL CO CP : Addr} (k : Kinds K CA CL CO CP) (n : AnsK) : PySem.W.kitOne K (.ref (n.cls CL CO CP)) (.ref CA) = some true := by
  cases n
  · exact k.la
  · exact k.oa
  · exact k.pa
end Tr
namespace Tr
open PySem PySem.Spec PyProof.Rows L2
theorem scCheckT : FnScope ["tray", "row", "number", "numbers"] ["tray"] (defScope d_check_tray) := ⟨rfl, rfl, rfl, by decide +kernel, rfl, by decide +kernel, by decide +kernel⟩
/-- a tray's check, of a tray -/
def spCheckT : Sp := fun vs H Q _ => ∃ (a : Addr) (rs : List Addr) (R C : Nat) (f : Fld), vs = [.ref a] ∧ TrayAt H a rs R C f ∧ 0 < R ∧ R ≤ 6 ∧ 0 < C ∧ C ≤ 6 ∧ Full (R * C) f ∧ ∀ H', Same H H' → Q .non H'
theorem rows36 {R C : Nat} (h1 : R ≤ 6) (h2 : C ≤ 6) : R * C ≤ 36 := Nat.mul_le_mul h1 h2
section
variable {P : Program} {w : World} {K : PySem.W.Frag} {mg : Str → Option Value} {base : Heap}
theorem ok_checkT {fa : Addr} {fd : FuncData} {k : Nat} {t6 : Tok} (F : Fun K "check_tray" "check_tray" d_check_tray fa fd) (gM : mg "MOST" = some (.int 6 t6)) (mI : mg "isinstance" = none) (mLi : mg "list" = none) (mL : mg "len" = none) (mInt : mg "int" = none) (mB : mg "bool" = none) (mSo : mg "sorted" = none) (mR : mg "range" = none) :
    FnOk P w K mg base CX0 (k + 1) fa fd ["tray"] spCheckT := by
  refine F.ok scCheckT (fun vs H Q E h => ?_) (fun cdv A outer s H vs Q E hr h => ?_)
  · obtain ⟨a, rs, R, C, f, rfl, _⟩ := h
    rfl
  · obtain ⟨a, rs, R, C, f, rfl, T, hR0, hR, hC0, hC, hF, q⟩ := h
    have hRC := rows36 hR hC
    refine ⟨_, pss_cons (ps_if (PW.pt (pw_or (pt_not (pt_val (pe_callB call_isi (by rfl) mI (by decide +kernel) (pa_cons (pv 0) (pa_cons (pe_bltn (v := .ty "list") (by rfl) mLi (by decide +kernel) rfl) pa_nil)))))
          (pw_or1 (pt_not (pt_chain op_le op_le pe_int (pe_callB call_len_seq (by rfl) mL PySem.boot_len (pa_cons (pv 0) pa_nil)) (pe_glob (v := .int 6) rfl gM ⟨_, rfl⟩)))))) pss_never pss_nil)
      (pss_cons (ps_for PassesOwn.never rfl (pi_list (pv 0)) (pg_name (i := 1) scCheckT.nd rfl (.inl rfl))
        (pss_cons (ps_if (PW.pt (pw_or (pt_not (pt_val (pe_callB call_isi (by rfl) mI (by decide +kernel) (pa_cons (pv 1) (pa_cons (pe_bltn (v := .ty "list") (by rfl) mLi (by decide +kernel) rfl) pa_nil)))))
            (pw_or1 (pt_not (pt_chain op_le op_le pe_int (pe_callB call_len_seq (by rfl) mL PySem.boot_len (pa_cons (pv 1) pa_nil)) (pe_glob (v := .int 6) rfl gM ⟨_, rfl⟩)))))) pss_never pss_nil)
        (pss_one (ps_if (pt_cmpR op_ne (pe_callB call_len_seq (by rfl) mL PySem.boot_len (pa_cons (pv 1) pa_nil)) (pe_callB call_len_seq (by rfl) mL PySem.boot_len (pa_cons (pe_ix ix_list (pv 0) pe_int (fun _ _ => rfl)) pa_nil)) (nomark _)) pss_never pss_nil))))
      (pss_cons (ps_setLc2 (i := 3) (own := [("row", 1), ("number", 2)]) (vs1 := [2]) (g := gName 1) (g1 := gName 2) (tt := tYes) (tt1 := tYes) (te := tVar 2) (wi1 := iList K (tVar 1)) rfl scCheckT.nd rfl rfl (sw_true rfl rfl rfl (by decide +kernel)) (pi_list (pv 0))
          (blkOk_by (own := [("row", 1), ("number", 2)]) (N := ["tray", "row", "number", "numbers"]) (sc := defScope d_check_tray) (by decide +kernel)) (by decide)
          (fun _ _ _ _ _ => pg_name (i := 1) scCheckT.nd rfl (.inl rfl)) (fun _ _ _ _ _ => pts_nil) (fun _ _ _ _ _ => pi_list (pv 1)) (fun _ _ _ _ _ => pg_name (i := 2) scCheckT.nd rfl (.inl rfl)) (fun _ _ _ _ _ => pts_nil) (fun _ _ _ _ _ => pv 2))
      (pss_cons (ps_for PassesOwn.never rfl (pi_list (pv 3)) (pg_name (i := 2) scCheckT.nd rfl (.inl rfl))
        (pss_one (ps_if (PW.pt (pw_or (pt_not (pt_val (pe_callB call_isi (by rfl) mI (by decide +kernel) (pa_cons (pv 2) (pa_cons (pe_bltn (v := .ty "int") (by rfl) mInt (by decide +kernel) rfl) pa_nil)))))
          (pw_or1 (pt_val (pe_callB call_isi (by rfl) mI (by decide +kernel) (pa_cons (pv 2) (pa_cons (pe_bltn (v := .ty "bool") (by rfl) mB (by decide +kernel) rfl) pa_nil))))))) pss_never pss_nil)))
      (pss_one (ps_if (pt_cmpR (op_neD hr.units) (pe_callB cr_sorted (by rfl) mSo (by decide +kernel) (pa_cons (pv 3) pa_nil)) (pe_listRg rfl rfl mLi (prg_1 rfl mR (pe_callB call_len_seq (by rfl) mL PySem.boot_len (pa_cons (pv 3) pa_nil)))) (nomark _)) pss_never pss_nil))))), ?_⟩
    obtain ⟨r0, g1, g2, g3⟩ := T.get (i := 0) hR0
    have hlen : ((rs.map V.ref).length : Int) = R := by rw [List.length_map, T.len]
    -- isinstance(tray, list), 1 <= len(tray) <= MOST
    refine ⟨_, rfl, .ref a, .ty "list", .type "list", .type "list", true, rfl, .ty "list", .base (.lst T.top), kit_ty (by decide +kernel), _, rfl, iteF ?_⟩
    refine ⟨.ref a, rfl, a, _, rfl, .inl (SqL.of T.top), 1, _, rfl, rfl, _, rfl, ?_⟩
    rw [hlen]
    refine decI (fun _ => ?_) (fun z => absurd (by omega) z)
    refine ⟨_, 6, rfl, rfl, _, rfl, ?_⟩
    show if (!decide ((R : Int) ≤ 6)) = true then _ else _
    refine iteNS (by omega) ?_
    -- the rows
    refine ⟨_, rfl, a, rfl, ⟨_, SqL.of T.top⟩, for_list (K := K) (a := a) (xs := rs.map V.ref) (fun i σ H' => H' = H ∧ ∃ v, σ = [some (.ref a), v, none, none]) ⟨rfl, none, rfl⟩ (fun i σ H' _ p => p.1 ▸ SqL.of T.top) ?_ ?_⟩
    · rintro i x σ H' hx ⟨rfl, v, rfl⟩
      have hi : i < R := by
        have := (List.getElem?_eq_some_iff.mp hx).1
        rw [List.length_map, T.len] at this
        exact this
      obtain ⟨ri, k1, k2, k3⟩ := T.get hi
      rw [k2] at hx
      cases hx
      refine ⟨_, rfl, .ref ri, .ty "list", .type "list", .type "list", true, rfl, .ty "list", .base (.lst k3), kit_ty (by decide +kernel), _, rfl, iteF ?_⟩
      refine ⟨.ref ri, rfl, ri, _, rfl, .inl (SqL.of k3), 1, _, rfl, rfl, _, rfl, ?_⟩
      rw [rowV_len]
      refine decI (fun _ => ?_) (fun z => absurd (by omega) z)
      refine ⟨_, 6, rfl, rfl, _, rfl, ?_⟩
      show if (!decide ((C : Int) ≤ 6)) = true then _ else _
      refine iteNS (by omega) ?_
      refine ⟨.ref ri, rfl, ri, _, rfl, .inl (SqL.of k3), .ref a, rfl, a, _, 0, _, rfl, rfl, SqL.of T.top, atI_nat (j := 0) g2, r0, _, rfl, .inl (SqL.of g3), rfl, _, rfl, ?_⟩
      rw [rowV_len, rowV_len]
      refine iteNS rfl ?_
      exact ⟨rfl, _, rfl⟩
    · rintro σ H' ⟨rfl, v, rfl⟩
      -- numbers
      refine ⟨_, rfl, a, rfl, ⟨_, SqL.of T.top⟩, fun D nD => ?_⟩
      refine lc_gen (walk_list (K := K) (a := a) (xs := rs.map V.ref)) (fun i H1 => Same H' H1 ∧ H1 D = some (.lst ((allV (i * C) f).map V.int))) ⟨same_upd nD, by rw [upd_same, Nat.zero_mul]; rfl⟩ (fun i H1 _ p => p.1.seq (SqL.of T.top)) ?_ ?_
      · rintro i x H1 H2 hi ⟨sm, hD⟩ ⟨rfl, hx⟩
        have hi : i < R := by
          rw [List.length_map, T.len] at hi
          exact hi
        obtain ⟨ri, k1, k2, k3⟩ := T.get hi
        rw [k2] at hx
        cases hx
        refine ⟨rfl, ?_⟩
        have s3 := sm _ _ k3
        refine ⟨_, rfl, ri, rfl, ⟨_, SqL.of s3⟩, ?_⟩
        refine lc_gen (walk_list (K := K) (a := ri) (xs := rowV C f i)) (fun j H3 => Same H' H3 ∧ H3 D = some (.lst ((allV (i * C) f).map V.int ++ (rowV C f i).take j))) ⟨sm, by rw [hD, List.take_zero, List.append_nil]⟩ (fun j H3 _ p => p.1.seq (SqL.of k3)) ?_ ?_
        · rintro j y H3 H4 hj ⟨sm3, hD3⟩ ⟨rfl, hy⟩
          refine ⟨rfl, ?_⟩
          refine ⟨_, rfl, _, hD3, ?_, ?_, ?_⟩
          · rw [List.length_append, List.length_map, List.length_take, rowV_len]
            unfold allV
            rw [List.length_map, List.length_range]
            refine small1000 ?_
            have : i * C ≤ R * C := Nat.mul_le_mul_right C (by omega)
            omega
          · intro b o e
            rw [upd_ne (ne_of_none e nD)]
            exact sm3 _ _ e
          · rw [upd_same, take_more hy, List.append_assoc]
        · rintro H3 ⟨sm3, hD3⟩
          rw [List.take_length, allV_rows] at hD3
          exact ⟨sm3, hD3⟩
      · rintro H1 ⟨sm, hD⟩
        rw [List.length_map, T.len] at hD
        have hn : (allV (R * C) f).length = R * C := by
          unfold allV
          rw [List.length_map, List.length_range]
        -- every number
        refine ⟨_, rfl, D, rfl, ⟨_, SqL.of hD⟩, for_list (K := K) (a := D) (xs := (allV (R * C) f).map V.int) (fun i σ H2 => H2 = H1 ∧ ∃ v u, σ = [some (.ref a), v, u, some (.ref D)]) ⟨rfl, _, _, rfl⟩ (fun i σ H2 _ p => p.1 ▸ SqL.of hD) ?_ ?_⟩
        · rintro i x σ H2 hx ⟨rfl, v, u, rfl⟩
          obtain ⟨z, rfl⟩ : ∃ z, x = V.int z := by
            rw [List.getElem?_map] at hx
            cases e : (allV (R * C) f)[i]? with
            | none => rw [e] at hx; cases hx
            | some z => rw [e] at hx; exact ⟨z, (Option.some.inj hx).symm⟩
          refine ⟨_, rfl, .int z, .ty "int", .type "int", .type "int", true, rfl, .ty "int", .base (.int _), kit_ty (by decide +kernel), _, rfl, iteF ?_⟩
          refine ⟨_, rfl, .int z, .ty "bool", .type "int", .type "bool", false, rfl, .ty "bool", .base (.int _), kit_ty (by decide +kernel), _, rfl, iteF ?_⟩
          exact ⟨rfl, _, _, rfl⟩
        · rintro σ H2 ⟨rfl, v, u, rfl⟩
          -- sorted(numbers) != list(range(len(numbers)))
          refine ⟨_, rfl, D, _, rfl, SqL.of hD, by omega, fun ns' p hp hs np => ?_⟩
          have s4 : Same H2 (upd H2 p (.lst (ns'.map V.int))) := same_upd np
          refine ⟨_, rfl, D, _, rfl, .inl (s4.seq (SqL.of hD)), _, rfl, ?_, fun p2 np2 => ?_⟩
          · rw [List.length_map, hn]
            exact RgOk.of_le (by omega) (by omega) (by omega) (by omega)
          · rw [List.length_map, hn]
            have e1 : ns' = (List.range (R * C)).map fun k : Nat => (k : Int) := by
              refine PySem.W.ksm_same (hp.trans hF) hs ?_
              rw [List.pairwise_map]
              refine List.Pairwise.imp ?_ List.pairwise_lt_range
              intro x y h
              omega
            have e2 : rgV 0 ((R * C : Nat) : Int) = ns'.map V.int := by
              unfold rgV
              rw [e1, List.map_map, Int.sub_zero, Int.toNat_natCast]
              refine List.map_congr_left fun k _ => ?_
              show V.int (0 + (k : Int)) = V.int k
              rw [Int.zero_add]
            rw [e2]
            have np12 : p ≠ p2 := fun e => by
              rw [← e, upd_same] at np2
              cases np2
            refine ⟨.list (ns'.map PyData.int), .list (ns'.map PyData.int), .lst (SqL.of (by rw [upd_ne np12, upd_same])) (dp_ints _), .lst (SqL.of upd_same) (dp_ints _), PySem.W.shaped_ints _, PySem.W.shaped_ints _, _, rfl, ?_⟩
            rw [SeqAt.eqv_refl _ (SeqAt.canLay_of_shaped (PySem.W.shaped_ints _))]
            refine iteF ?_
            exact q _ ((sm.trans s4).trans (same_upd np2))
end
end Tr
namespace Tr
open PySem PySem.Spec PyProof.Rows L2
theorem scCheckS : FnScope ["slides", "letter"] ["slides"] (defScope d_check_slides) := ⟨rfl, rfl, rfl, by decide +kernel, rfl, by decide +kernel, by decide +kernel⟩
def spCheckS (CS : Addr) : Sp := fun vs H Q E => ∃ (ws : List Nat), vs = [.str (txt ws)] ∧ ((∀ l ∈ ws, okL l) → Q .non H) ∧ ((∃ l ∈ ws, ¬ okL l) → E (.ref CS) none H)
section
variable {P : Program} {w : World} {K : PySem.W.Frag} {mg : Str → Option Value} {base : Heap}
theorem ok_checkS {fa dS CS : Addr} {fd : FuncData} {k : Nat} (F : Fun K "check_slides" "check_slides" d_check_slides fa fd) (gS : mg "STEPS" = some (.ref dS)) (S : StepsD K w dS) (mI : mg "isinstance" = none) (mS : mg "str" = none) (T : ExcT K mg "BadSlides" CS) :
    FnOk P w K mg base (L2.CX P w) (k + 1) fa fd ["slides"] (spCheckS CS) := by
  refine F.okX scCheckS (fun vs H Q E h => ?_) (fun cdv A outer s H vs Q E hr h => ?_)
  · obtain ⟨ws, rfl, _⟩ := h
    rfl
  · obtain ⟨ws, rfl, q, qe⟩ := h
    obtain ⟨es, n, D⟩ := S.ex
    refine ⟨_, pss_cons (ps_if (pt_not (pt_val (pe_callB call_isi (by rfl) mI (by decide +kernel) (pa_cons (pv 0) (pa_cons (pe_bltn (v := .ty "str") (by rfl) mS (by decide +kernel) rfl) pa_nil)))))
        (pss_one (ps_raise rfl (takes_of rfl rfl rfl rfl) (pmk_own PySem.F.excBase_ValueError T.x T.g T.k (raises_own T.b T.t) rfl))) pss_nil)
      (pss_one (ps_for (passes_of rfl) rfl (pi_str (pv 0)) (pg_name (i := 1) scCheckS.nd rfl (.inl rfl))
        (pss_one (ps_if (pt_cmpR (op_notIn_kd D) (pv 1) (pe_glob (v := .ref dS) rfl gS rfl) rfl)
          (pss_one (ps_raise rfl (takes_of rfl rfl rfl rfl) (pmk_own PySem.F.excBase_ValueError T.x T.g T.k (raises_own T.b T.t) rfl))) pss_nil)))), ?_⟩
    refine ⟨_, rfl, .str (txt ws), .ty "str", .type "str", .type "str", true, rfl, .ty "str", .base (.str _), kit_ty (by decide +kernel), _, rfl, iteF ?_⟩
    refine ⟨_, rfl, _, rfl, for_it walk_str (fun i σ H' => H' = H ∧ ∃ v, σ = [some (.str (txt ws)), v] ∧ ∀ j l, j < i → ws[j]? = some l → okL l) ⟨rfl, none, rfl, fun j l hj => absurd hj (Nat.not_lt_zero _)⟩ (fun _ _ _ _ _ => True.intro) ?_ ?_⟩
    · rintro i x σ H1 H2 hi ⟨rfl, v, rfl, hok⟩ ⟨rfl, c, hc, rfl⟩
      have hc : ws[i]? = some c := by simpa using hc
      by_cases z : okL c
      · obtain ⟨v, e⟩ := S.yes c z
        refine ⟨_, rfl, txt [c], some v, rfl, rfl, e, _, rfl, iteF ⟨rfl, some (.str (txt [c])), rfl, fun j l hj hl => ?_⟩⟩
        by_cases y : j = i
        · subst y
          rw [hc] at hl
          cases hl
          exact z
        · exact hok j l (by omega) hl
      · exact ⟨_, rfl, txt [c], none, rfl, rfl, S.no c z, _, rfl, iteT (qe ⟨c, List.mem_of_getElem? hc, z⟩)⟩
    · rintro σ H1 ⟨rfl, v, rfl, hok⟩
      refine q fun l hl => ?_
      obtain ⟨j, hj, e⟩ := List.getElem_of_mem hl
      refine hok j l ?_ (by rw [← e]; exact List.getElem?_eq_getElem hj)
      simpa using hj
end
end Tr
namespace Tr
open PySem PySem.Spec PyProof.Rows L2
theorem in_row_true {C : Nat} {f : Fld} {i j : Nat} (hj : j < C) (h : f (i * C + j) = 0) : inV (.int 0) (rowV C f i) = true := by
  unfold inV
  rw [List.any_eq_true]
  refine ⟨.int (f (i * C + j)), List.mem_of_getElem? (rowV_get hj), ?_⟩
  rw [h]
  rfl
theorem in_row_false {C : Nat} {f : Fld} {i : Nat} (h : ∀ j, j < C → f (i * C + j) ≠ 0) : inV (.int 0) (rowV C f i) = false := by
  unfold inV
  rw [List.any_eq_false]
  intro x hx
  unfold rowV at hx
  obtain ⟨j, hj, rfl⟩ := List.mem_map.mp hx
  intro e
  have e : decide (f (i * C + j) = 0) = true := e
  exact h j (List.mem_range.mp hj) (of_decide_eq_true e)
theorem row_flat (C : Nat) (f : Fld) (i : Nat) : (rowV C f i).all flatV = true := by
  rw [List.all_eq_true]
  intro x hx
  unfold rowV at hx
  obtain ⟨j, hj, rfl⟩ := List.mem_map.mp hx
  rfl
theorem scEmpty : FnScope ["tray", "row", "numbers"] ["tray"] (defScope d_empty_place) := ⟨rfl, rfl, rfl, by decide +kernel, rfl, by decide +kernel, by decide +kernel⟩
def spEmpty : Sp := fun vs H Q _ => ∃ (a : Addr) (rs : List Addr) (R C : Nat) (f : Fld) (r c : Nat), vs = [.ref a] ∧ TrayAt H a rs R C f ∧ Zr R C (f, r, c) ∧ Uniq R C f (r * C + c) ∧ R ≤ 1000 ∧
  ∀ H' p, Same H H' → H p = none → H' p = some (.tup [.int r, .int c]) → Q (.ref p) H'
section
variable {P : Program} {w : World} {K : PySem.W.Frag} {mg : Str → Option Value} {base : Heap}
theorem ok_empty {fa : Addr} {fd : FuncData} {k : Nat} (F : Fun K "empty_place" "empty_place" d_empty_place fa fd) :
    FnOk P w K mg base CX0 (k + 1) fa fd ["tray"] spEmpty := by
  refine F.ok scEmpty (fun vs H Q E h => ?_) (fun cdv A outer s H vs Q E hr h => ?_)
  · obtain ⟨a, rs, R, C, f, r, c, rfl, _⟩ := h
    rfl
  · obtain ⟨a, rs, R, C, f, r, c, rfl, T, Z, U, hR, q⟩ := h
    refine ⟨_, pss_cons (ps_set (i := 1) scEmpty.nd rfl (.inl rfl) (pe_bm PySem.F.plainAttrs_list PySem.F.slot_list_index PySem.F.type_list_index mt_index
        (pe_lc (own := [("numbers", 2)]) (g := gName 2) (tt := tYes) rfl scEmpty.nd (pi_list (pv 0)) (blkOk_by (own := [("numbers", 2)]) (N := ["tray", "row", "numbers"]) (sc := defScope d_empty_place) (by decide +kernel))
          (fun _ _ _ _ _ => pg_name (i := 2) scEmpty.nd rfl (.inl rfl)) (fun _ _ _ _ _ => pts_nil) (fun _ _ _ _ _ => pe_cmpR (r := rIn K false) op_in_seq pe_int (pv 2) rfl)) (pa_cons pe_bl pa_nil)))
      (pss_one (ps_ret (pe_tup (pa_cons (pv 1) (pa_cons (pe_bm PySem.F.plainAttrs_list PySem.F.slot_list_index PySem.F.type_list_index mt_index (pe_ix ix_list (pv 0) (pv 1) (fun _ _ => rfl)) (pa_cons pe_int pa_nil)) pa_nil))))), ?_⟩
    have hrr : r < R := Z.r
    have hcc : c < C := Z.c
    have hz : f (r * C + c) = 0 := Z.z
    refine ⟨_, rfl, a, rfl, ⟨_, SqL.of T.top⟩, fun D nD => lc_list (K := K) (a := a) (xs := rs.map V.ref) (fun i H' => H' D = some (.lst ((List.range i).map fun i => V.bl (inV (.int 0) (rowV C f i)))) ∧ Same H H') ?_ ?_ ?_ ?_⟩
    · exact ⟨by rw [upd_same]; rfl, same_upd nD⟩
    · exact fun i H' _ p => p.2.seq (SqL.of T.top)
    · rintro i x H' hx ⟨hD, sm⟩
      have hi : i < R := by
        have := (List.getElem?_eq_some_iff.mp hx).1
        rw [List.length_map, T.len] at this
        exact this
      obtain ⟨ri, g1, g2, g3⟩ := T.get hi
      rw [g2] at hx
      cases hx
      refine ⟨rfl, ?_⟩
      refine ⟨_, rfl, ri, _, rfl, .inl (SqL.of (sm _ _ g3)), rfl, row_flat _ _ _, _, hD, ?_, ?_, ?_⟩
      · rw [List.length_map, List.length_range]
        exact small1000 (by omega)
      · rw [upd_same, List.range_succ, List.map_append]
        rfl
      · intro b o e
        rw [upd_ne (ne_of_none e nD)]
        exact sm _ _ e
    · rintro H' ⟨hD, sm⟩
      rw [List.length_map, T.len] at hD
      have T' := T.mono sm
      obtain ⟨ri, g1, g2, g3⟩ := T'.get hrr
      refine ⟨.inl ⟨rfl, _, SqL.of hD⟩, D, _, .bl true, r, .bl true, rfl, rfl, SqL.of hD, rfl, ?_, ?_, rfl, ?_, ?_⟩
      · rw [List.all_eq_true]
        intro x hx
        obtain ⟨j, hj, rfl⟩ := List.mem_map.mp hx
        rfl
      · rw [List.getElem?_map, List.getElem?_range hrr]
        show some (V.bl _) = _
        rw [in_row_true hcc hz]
      · intro m z' hm e
        rw [List.getElem?_map, List.getElem?_range (by omega)] at e
        have e := Option.some.inj e
        subst e
        show eqV (V.bl (inV (.int 0) (rowV C f m))) (.bl true) = false
        rw [in_row_false]
        · rfl
        · intro j hj e
          obtain ⟨e1, _⟩ := ix_inj hj hcc (U _ (ix_lt (by omega) hj) e)
          omega
      · refine ⟨_, rfl, .ref a, rfl, _, rfl, a, _, (r : Int), _, rfl, rfl, SqL.of T'.top, atI_nat g2, .inl ⟨rfl, _, SqL.of g3⟩, ri, _, .int 0, c, .int 0, rfl, rfl, SqL.of g3, rfl, row_flat _ _ _, ?_, rfl, ?_, ?_⟩
        · rw [rowV_get hcc, hz]
        · intro m z' hm e
          rw [rowV_get (by omega)] at e
          have e := Option.some.inj e
          subst e
          show decide (f (r * C + m) = 0) = false
          refine decide_eq_false fun e => ?_
          have := U _ (ix_lt hrr (by omega)) e
          omega
        · refine ⟨(by show 2 ≤ sizeLine; decide), fun p hp => q _ p (sm.trans (same_upd hp)) (sm.free hp) upd_same⟩
end
end Tr
namespace Tr
open PySem PySem.Spec PyProof.Rows L2
theorem scBeside : FnScope ["tray", "row", "column", "letter", "down", "right"] ["tray", "row", "column", "letter"] (defScope d_place_beside) := ⟨rfl, rfl, rfl, by decide +kernel, rfl, by decide +kernel, by decide +kernel⟩
def spBeside : Sp := fun vs H Q _ => ∃ (a : Addr) (rs : List Addr) (R C : Nat) (f : Fld) (r c l : Nat), vs = [.ref a, .int r, .int c, .str (txt [l])] ∧ TrayAt H a rs R C f ∧ 0 < R ∧ okL l ∧
  (∀ r' c', nxt R C r c l = some (r', c') → ∀ H' p, Same H H' → H p = none → H' p = some (.tup [.int r', .int c']) → Q (.ref p) H') ∧ (nxt R C r c l = none → Q .non H)
section
variable {P : Program} {w : World} {K : PySem.W.Frag} {mg : Str → Option Value} {base : Heap}
theorem ok_beside {fa dS : Addr} {fd : FuncData} {k : Nat} (F : Fun K "place_beside" "place_beside" d_place_beside fa fd) (gS : mg "STEPS" = some (.ref dS)) (S : StepsD K w dS) (mL : mg "len" = none) :
    FnOk P w K mg base CX0 (k + 1) fa fd ["tray", "row", "column", "letter"] spBeside := by
  refine F.ok scBeside (fun vs H Q E h => ?_) (fun cdv A outer s H vs Q E hr h => ?_)
  · obtain ⟨a, rs, R, C, f, r, c, l, rfl, _⟩ := h
    rfl
  · obtain ⟨a, rs, R, C, f, r, c, l, rfl, T, hR, hw, q, qn⟩ := h
    refine ⟨_, pss_cons (ps_asg (pe_ix ix_kdict (pe_glob (v := .ref dS) rfl gS rfl) (pv 3) (fun _ _ => rfl)) (pg_tup rfl (pgs_cons (pg_name (i := 4) scBeside.nd rfl (.inl rfl)) (pgs_cons (pg_name (i := 5) scBeside.nd rfl (.inl rfl)) pgs_nil))))
      (pss_cons (ps_set (i := 1) scBeside.nd rfl (.inl rfl) (pe_op op_add (pv 1) (pv 4)))
      (pss_cons (ps_set (i := 2) scBeside.nd rfl (.inl rfl) (pe_op op_add (pv 2) (pv 5)))
      (pss_cons (ps_if (PW.pt (pw_and (pt_chain op_le op_lt pe_int (pv 1) (pe_callB call_len_seq (by rfl) mL PySem.boot_len (pa_cons (pv 0) pa_nil)))
          (pw_and1 (pt_chain op_le op_lt pe_int (pv 2) (pe_callB call_len_seq (by rfl) mL PySem.boot_len (pa_cons (pe_ix ix_list (pv 0) pe_int (fun _ _ => rfl)) pa_nil))))))
        (pss_one (ps_ret (pe_tup (pa_cons (pv 1) (pa_cons (pv 2) pa_nil))))) pss_nil)
      (pss_one (ps_ret pe_non))))), ?_⟩
    obtain ⟨t, hk, ht⟩ := S.at_ l hw
    obtain ⟨r0, g1, g2, g3⟩ := T.get (i := 0) hR
    have hlen : ((rs.map V.ref).length : Int) = R := by rw [List.length_map, T.len]
    refine ⟨_, rfl, dS, _, _, rfl, rfl, hk, t, _, rfl, ht _, rfl, _, _, rfl, _, _, rfl, rfl, ?_⟩
    refine ⟨_, rfl, _, rfl, r, (stp l).1, rfl, rfl, ?_⟩
    refine ⟨_, rfl, _, rfl, c, (stp l).2, rfl, rfl, ?_⟩
    refine ⟨_, rfl, 0, (r : Int) + (stp l).1, rfl, rfl, _, rfl, ?_⟩
    have nn : ¬ (0 ≤ (r : Int) + (stp l).1 ∧ (r : Int) + (stp l).1 < R ∧ 0 ≤ (c : Int) + (stp l).2 ∧ (c : Int) + (stp l).2 < C) → Q V.non H := fun z => qn (nxt_none z)
    refine decI (fun z1 => ?_) (fun z1 => ⟨_, rfl, iteF (iteF (nn fun z => z1 z.1))⟩)
    refine ⟨.ref a, rfl, a, _, rfl, .inl (SqL.of T.top), _, _, rfl, rfl, _, rfl, ?_⟩
    refine decI (fun z2 => ?_) (fun z2 => iteF (nn fun z => z2 (by rw [hlen]; exact z.2.1)))
    rw [hlen] at z2
    refine ⟨_, rfl, 0, (c : Int) + (stp l).2, rfl, rfl, _, rfl, ?_⟩
    refine decI (fun z3 => ?_) (fun z3 => ⟨_, rfl, iteF (nn fun z => z3 z.2.2.1)⟩)
    refine ⟨.ref a, rfl, a, _, 0, _, rfl, rfl, SqL.of T.top, atI_nat (j := 0) g2, r0, _, rfl, .inl (SqL.of g3), _, _, rfl, rfl, _, rfl, ?_⟩
    rw [rowV_len]
    refine decI (fun z4 => ?_) (fun z4 => nn fun z => z4 z.2.2.2)
    have z2 : (r : Int) + (stp l).1 < R := z2
    have z4 : (c : Int) + (stp l).2 < C := z4
    refine ⟨_, rfl, _, rfl, (by show 2 ≤ sizeLine; decide), fun p hp => ?_⟩
    refine q _ _ (nxt_some ⟨z1, z2, z3, z4⟩) _ p (same_upd hp) hp ?_
    rw [upd_same, Int.toNat_of_nonneg z1, Int.toNat_of_nonneg z3]
end
end Tr
namespace Tr
open PySem PySem.Spec PyProof.Rows L2
theorem scMoved : FnScope ["tray", "slides", "row", "rows", "column", "letter", "place", "to_row", "to_column"] ["tray", "slides"] (defScope d_moved) := ⟨rfl, rfl, rfl, by decide +kernel, rfl, by decide +kernel, by decide +kernel⟩
def spMoved (CS : Addr) : Sp := fun vs H Q E => ∃ (a : Addr) (rs : List Addr) (R C : Nat) (s : Sl) (ws : List Nat), vs = [.ref a, .str (txt ws)] ∧ TrayAt H a rs R C s.1 ∧ Good R C s ∧
  (∀ s', goAll R C s ws = some s' → ∀ H' p rs', Same H H' → H p = none → (∀ x ∈ rs', H x = none) → TrayAt H' p rs' R C s'.1 → Q (.ref p) H') ∧
  (goAll R C s ws = none → ∀ H', Same H H' → E (.ref CS) none H')
section
variable {P : Program} {w : World} {K : PySem.W.Frag} {mg : Str → Option Value} {base : Heap}
theorem ok_moved {fa CS fT fS fE fB : Addr} {fd fdT fdS fdE fdB : FuncData} {k : Nat} (F : Fun K "moved" "moved" d_moved fa fd) (T : ExcT K mg "BadSlides" CS) (mLi : mg "list" = none)
    (GT : FnOk P w K mg base CX0 (k + 1) fT fdT ["tray"] spCheckT) (gT : mg "check_tray" = some (.ref fT)) (kT : PySem.W.keepIn K (.ref fT) = true) (bT : Binds K fdT ["tray"] [])
    (GS : FnOk P w K mg base (L2.CX P w) (k + 1) fS fdS ["slides"] (spCheckS CS)) (gS : mg "check_slides" = some (.ref fS)) (kS : PySem.W.keepIn K (.ref fS) = true) (bS : Binds K fdS ["slides"] [])
    (GE : FnOk P w K mg base CX0 (k + 1) fE fdE ["tray"] spEmpty) (gE : mg "empty_place" = some (.ref fE)) (kE : PySem.W.keepIn K (.ref fE) = true) (bE : Binds K fdE ["tray"] [])
    (GB : FnOk P w K mg base CX0 (k + 1) fB fdB ["tray", "row", "column", "letter"] spBeside) (gB : mg "place_beside" = some (.ref fB)) (kB : PySem.W.keepIn K (.ref fB) = true) (bB : Binds K fdB ["tray", "row", "column", "letter"] []) :
    FnOk P w K mg base (L2.CX P w) (k + 2) fa fd ["tray", "slides"] (spMoved CS) := by
  refine F.okX scMoved (fun vs H Q E h => ?_) (fun cdv A outer s H vs Q E hr h => ?_)
  · obtain ⟨a, rs, R, C, s, ws, rfl, _⟩ := h
    rfl
  · obtain ⟨a, rs, R, C, ⟨f, r, c⟩, ws, rfl, Ta, g, q, qe⟩ := h
    have hR := g.r6
    have hR0 := g.r0
    refine ⟨_, pss_cons (ps_expr (pe_call GT hr (by rfl) gT kT bT .nil pass0 (pa_cons (pv 0) pa_nil)))
      (pss_cons (ps_expr (pe_callS GS hr (by rfl) gS kS bS (fun σ => passAt (takes_of rfl rfl rfl rfl) σ) (pa_cons (pv 1) pa_nil)))
      (pss_cons (ps_setLc (i := 3) (own := [("row", 2)]) (g := gName 2) (tt := tYes) rfl scMoved.nd rfl rfl (sw_true rfl rfl rfl (by decide +kernel)) (pi_list (pv 0))
          (blkOk_by (own := [("row", 2)]) (N := ["tray", "slides", "row", "rows", "column", "letter", "place", "to_row", "to_column"]) (sc := defScope d_moved) (by decide +kernel))
          (fun _ _ _ _ _ => pg_name (i := 2) scMoved.nd rfl (.inl rfl)) (fun _ _ _ _ _ => pts_nil) (fun _ _ _ _ _ => pe_callTy (r := rListOf K) cr_listOf (by rfl) mLi (by decide +kernel) (pa_cons (pv 2) pa_nil)))
      (pss_cons (ps_asg (pe_call GE hr (by rfl) gE kE bE .nil pass0 (pa_cons (pv 3) pa_nil)) (pg_tup rfl (pgs_cons (pg_name (i := 2) scMoved.nd rfl (.inl rfl)) (pgs_cons (pg_name (i := 4) scMoved.nd rfl (.inl rfl)) pgs_nil))))
      (pss_cons (ps_for (passes_of rfl) rfl (pi_str (pv 1)) (pg_name (i := 5) scMoved.nd rfl (.inl rfl))
        (pss_cons (ps_set (i := 6) scMoved.nd rfl (.inl rfl) (pe_call GB hr (by rfl) gB kB bB .nil pass0 (pa_cons (pv 3) (pa_cons (pv 2) (pa_cons (pv 4) (pa_cons (pv 5) pa_nil))))))
        (pss_cons (ps_if (pt_cmp (pc_isN (pv 6))) (pss_one (ps_raise rfl (takes_of rfl rfl rfl rfl) (pmk_own PySem.F.excBase_ValueError T.x T.g T.k (raises_own T.b T.t) rfl))) pss_nil)
        (pss_cons (ps_asg (pv 6) (pg_tup rfl (pgs_cons (pg_name (i := 7) scMoved.nd rfl (.inl rfl)) (pgs_cons (pg_name (i := 8) scMoved.nd rfl (.inl rfl)) pgs_nil))))
        (pss_cons (ps_asg (pe_ix ix_list (pe_ix ix_list (pv 3) (pv 7) (fun _ _ => rfl)) (pv 8) (fun _ _ => rfl)) (pg_sub (pe_ix ix_list (pv 3) (pv 2) (fun _ _ => rfl)) (pv 4) set_list))
        (pss_cons (ps_asg pe_int (pg_sub (pe_ix ix_list (pv 3) (pv 7) (fun _ _ => rfl)) (pv 8) set_list))
        (pss_one (ps_par (i := 2) (j := 4) (by rfl) scMoved.nd rfl rfl (by decide) rfl rfl (pa_cons (pv 7) (pa_cons (pv 8) pa_nil)) (by rfl)))))))))
      (pss_one (ps_ret (pv 3))))))), ?_⟩
    -- check_tray(tray); check_slides(slides)
    refine ⟨_, rfl, a, rs, R, C, f, rfl, Ta, hR0, hR, g.c0, g.c6, g.full, fun H1 s1 => ?_⟩
    refine ⟨_, rfl, ws, rfl, fun hok => ?_, fun hbad => qe (goAll_bad (by omega) hbad) H1 s1⟩
    -- rows = [list(row) for row in tray]
    refine ⟨_, rfl, a, rfl, ⟨_, SqL.of (Ta.mono s1).top⟩, fun D nD => lc_copy (i := 2) (Ta.mono s1) (by omega) nD (by show 2 < 9; decide) fun rs1 H2 s2 nrs T2 => ?_⟩
    have s02 := s1.trans s2
    -- row, column = empty_place(rows)
    refine ⟨_, rfl, D, rs1, R, C, f, r, c, rfl, T2, g.z, g.uniq, by omega, fun H3 p s3 np hp => ?_⟩
    refine ⟨p, _, rfl, SqT.of hp, rfl, _, _, rfl, _, _, rfl, rfl, ?_⟩
    have s03 := s02.trans s3
    -- for letter in slides
    refine ⟨_, rfl, _, rfl, for_it walk_str (fun i σ H' => ∃ f' r' c' v5 v6 v7 v8, goAll R C (f, r, c) (ws.take i) = some (f', r', c') ∧ σ = [some (.ref a), some (.str (txt ws)), some (.int (r' : Nat)), some (.ref D), some (.int (c' : Nat)), v5, v6, v7, v8] ∧ Same H H' ∧ TrayAt H' D rs1 R C f')
      ⟨f, r, c, none, none, none, none, rfl, rfl, s03, T2.mono s3⟩ (fun _ _ _ _ _ => True.intro) ?_ ?_⟩
    · rintro i x σ H4 H5 hi ⟨f', r', c', v5, v6, v7, v8, hg, rfl, s4, T4⟩ ⟨rfl, l, hl, rfl⟩
      have hl : ws[i]? = some l := by simpa using hl
      have hlo : okL l := hok l (List.mem_of_getElem? hl)
      have g' : Good R C (f', r', c') := g.go hg
      refine ⟨_, rfl, _, rfl, _, rfl, _, rfl, D, rs1, R, C, f', r', c', l, rfl, T4, hR0, hlo, fun r2 c2 hn H6 p6 s6 np6 hp6 => ?_, fun hn => ?_⟩
      · refine ⟨_, rfl, _, rfl, iteF ?_⟩
        obtain ⟨_, _, hr2, hc2⟩ := nxt_eq hn
        have T6 := T4.mono s6
        obtain ⟨ra, a1, a2, a3⟩ := T6.get g'.z.r
        obtain ⟨rb, b1, b2, b3⟩ := T6.get hr2
        have hc' : c' < C := g'.z.c
        refine ⟨_, rfl, p6, _, rfl, SqT.of hp6, rfl, _, _, rfl, _, _, rfl, rfl, ?_⟩
        -- rows[row][column] = rows[to_row][to_column]
        refine ⟨.ref D, rfl, _, rfl, D, _, (r2 : Int), _, rfl, rfl, SqL.of T6.top, atI_nat b2, _, rfl, rb, _, (c2 : Int), _, rfl, rfl, SqL.of b3, atI_nat (rowV_get hc2), ?_⟩
        refine ⟨.ref D, rfl, _, rfl, D, _, (r' : Int), _, rfl, rfl, SqL.of T6.top, atI_nat a2, _, rfl, ra, _, (c' : Int), c', rfl, rfl, a3, by rw [rowV_len]; exact ixN_nat hc', ?_⟩
        have T7 := T6.put (v := f' (r2 * C + c2)) a1 hc'
        obtain ⟨rb', b1', b2', b3'⟩ := T7.get hr2
        rw [b1] at b1'
        cases b1'
        -- rows[to_row][to_column] = 0
        refine ⟨.ref D, rfl, _, rfl, D, _, (r2 : Int), _, rfl, rfl, SqL.of T7.top, atI_nat b2', _, rfl, rb, _, (c2 : Int), c2, rfl, rfl, b3', by rw [rowV_len]; exact ixN_nat hc2, ?_⟩
        have T8 := T7.put (v := 0) b1 hc2
        -- row, column = to_row, to_column
        refine ⟨_, rfl, _, rfl, _, _, rfl, put2 f' (r' * C + c') (r2 * C + c2), r2, c2, _, _, _, _, ?_, rfl, ?_, T8⟩
        · rw [goAll_take hg hl, go1_of_nxt hn]
        · intro b o e
          have nb : ∀ y ∈ rs1, b ≠ y := fun y hy z => by
            have h1 := nrs y hy
            rw [← z, s1 _ _ e] at h1
            cases h1
          rw [upd_ne (nb _ (List.mem_of_getElem? b1)), upd_ne (nb _ (List.mem_of_getElem? a1))]
          exact s6 _ _ (s4 _ _ e)
      · refine ⟨_, rfl, _, rfl, iteT ?_⟩
        exact qe (goAll_stop hg hl (go1_of_none hn)) _ s4
    · rintro σ H4 ⟨f', r', c', v5, v6, v7, v8, hg, rfl, s4, T4⟩
      have e : ws.take (txt ws).cps.size = ws := by
        show ws.take ws.toArray.size = ws
        rw [List.size_toArray, List.take_length]
      rw [e] at hg
      exact ⟨_, rfl, q _ hg H4 D rs1 s4 (s1.free nD) (fun x hx => s1.free (nrs x hx)) T4⟩
end
end Tr
/-! combinations(list, 2): the class, made, walked -/
namespace Cmb
open PySem PySem.Spec
open Sem (wp)
theorem mro_ : mroOf (.type "itertools.combinations") = pure [.type "itertools.combinations", .type "object"] := by
  rw [mroOf_type]
  kernel_rfl
theorem new_ : typeLookup (.type "itertools.combinations") "__new__" = pure (some (.builtin "itertools.combinations.__new__")) := by
  rw [typeLookup_type, builtinLookup_eq_fast]
  kernel_rfl
theorem init_ : Slot "itertools.combinations" "__init__" "object.__init__" := by
  refine .of (owner := "object") (n := "__init__") ?_ (by decide +kernel) (by decide +kernel) (by decide +kernel) (.inl (by decide +kernel)) ?_
  · rw [typeLookup_type, builtinLookup_eq_fast]
    kernel_rfl
  · rw [isSubtype_type]
    kernel_rfl
theorem sub_ : isSubtype (.type "itertools.combinations") (.type "itertools.combinations") = pure true := by
  rw [isSubtype_type]
  kernel_rfl
theorem called_ : TypeCalled "itertools.combinations" "itertools.combinations.__new__" "object.__init__" where
  notType := by decide +kernel
  canCreate := by decide +kernel
  mro := ⟨_, _, mro_⟩
  made := madeBy_type mro_ new_ (by decide +kernel)
  plain := by decide +kernel
  sub := sub_
  init := init_
theorem tcall_ (a b : Value) : checkTypeCall "itertools.combinations" ⟨[a, b], []⟩ = pure () := by kernel_rfl
theorem ncall_ (a b : Value) : checkBuiltinCall "itertools.combinations.__new__" ⟨[.type "itertools.combinations", a, b], []⟩ = pure () := by kernel_rfl
theorem enew_ : entryFor table "itertools.combinations.__new__" = some Builtin.«itertools.combinations.__new__» := entryFor_of_tree (by kernel_rfl)
theorem siter_ : Slot "itertools.combinations" "__iter__" "itertools.combinations.__iter__" := by
  refine .of (owner := "itertools.combinations") (n := "__iter__") ?_ (by decide +kernel) (by decide +kernel) (by decide +kernel) ?_ sub_
  · rw [typeLookup_type, builtinLookup_eq_fast]
    kernel_rfl
  · first | exact .inl (by decide +kernel) | exact .inr (by decide +kernel)
theorem snext_ : Slot "itertools.combinations" "__next__" "itertools.combinations.__next__" := by
  refine .of (owner := "itertools.combinations") (n := "__next__") ?_ (by decide +kernel) (by decide +kernel) (by decide +kernel) ?_ sub_
  · rw [typeLookup_type, builtinLookup_eq_fast]
    kernel_rfl
  · first | exact .inl (by decide +kernel) | exact .inr (by decide +kernel)
theorem eiter_ : entryFor table "itertools.combinations.__iter__" = some Builtin.«dict_keyiterator.__iter__» :=
  entryFor_alias (id' := "dict_keyiterator.__iter__") (by kernel_rfl) (by first | rfl | decide +kernel) (by decide +kernel) (by kernel_rfl)
theorem enext_ : entryFor table "itertools.combinations.__next__" = some Builtin.«itertools.combinations.__next__» := entryFor_of_tree (by kernel_rfl)
theorem owner_ : Manifest.owners.lookup (String.ofList ("itertools.combinations".toList.reverse).reverse) = some Manifest.sig_itertools_combinations := by kernel_rfl
theorem aiter_ (a : Value) : argsOk "itertools.combinations.__iter__" ⟨[a], []⟩ := by
  unfold argsOk
  rw [signature?_of (id := "itertools.combinations.__iter__") (n := "__iter__".toList.reverse) (o := "itertools.combinations".toList.reverse) (by kernel_rfl) owner_]
  kernel_rfl
theorem anext_ (a : Value) : argsOk "itertools.combinations.__next__" ⟨[a], []⟩ := by
  unfold argsOk
  rw [signature?_of (id := "itertools.combinations.__next__") (n := "__next__".toList.reverse) (o := "itertools.combinations".toList.reverse) (by kernel_rfl) owner_]
  kernel_rfl
theorem nodict_ : typeHasDict (.type "itertools.combinations") = false := by decide +kernel
end Cmb
/-! combinations(list, 2): made, its turns -/
namespace Cmb
open PySem PySem.Spec
open Sem (wp)
/-- the object: the pool's tuple, where it stands, the last one handed out, two places -/
abbrev IsC (h : Heap) (z pt : Addr) (st : Int) (last : Value) (a b : Nat) : Prop := h.get? z = some { cls := .type "itertools.combinations", dict := none, data := .fields #[.ref pt, .int st 0, last, .int (a : Int) 0, .int (b : Int) 0], slots := #[] }
abbrev IsP (h : Heap) (pt : Addr) (its : List Value) : Prop := h.get? pt = some { cls := .type "tuple", dict := none, data := .seq its.toArray 0, slots := #[] }
def nextC (n a b : Nat) : Option (Nat × Nat) := if b = n - 1 then (if a = n - 2 then none else some (a + 1, a + 2)) else some (a, b + 1)
section
variable {prog : Program} {w : World} {A : Around} {E : Value → Shared → Prop} {s : Shared}
theorem made_new (l : Addr) (its : List Value) (t : Tok) (hz : its.length ≤ sizeLine) :
    Meets (Builtin.«itertools.combinations.__new__» ⟨[.type "itertools.combinations", .ref l, .int 2 t], []⟩)
      (fun _ R s => s.heap.IsList l its.toArray ∧ ∀ h' z pt, z = h'.objs.size - 1 → IsC h' z pt (if 2 > its.length then 2 else 0) .none 0 1 → IsP h' pt its → s.heap.objs.size ≤ pt → pt < z → (∀ b o, s.heap.get? b = some o → h'.get? b = some o) → R (.ok (.ret (.ref z))) { s with heap := h' }) :=
  .of_wp fun prog w A R s h => by
    obtain ⟨hl, h⟩ := h
    obtain ⟨o, ho, hc, n, hd⟩ := id hl
    have hsub := sub_
    have hnd := nodict_
    have hn : its.toArray.size ≤ sizeLine := by rw [List.size_toArray]; exact hz
    have hs2 : ("itertools." ++ "combinations" : String) = "itertools.combinations" := by decide +kernel
    show wpAny _ _ (_ >>= _) _ _ s
    wp_walk
    rw [hs2, hsub]
    refine wpAny_pure ?_
    dsimp only [Bool.not_true]
    rw [if_neg (by decide)]
    refine wpAny_pure ?_
    dsimp only
    wp_walk using PyProof.Rows.collect_list (hsz := hz) hl
    have k1 : ∀ b o', s.heap.get? b = some o' → ((s.heap.push (PyProof.Rows.seqObj "list" #[] 0)).update s.heap.objs.size (Obj.mapSeq (· ++ its.toArray))).get? b = some o' := fun b o' hb =>
      (Heap.get?_update_other _ _ (Nat.ne_of_gt (Heap.lt_size hb))).trans (Heap.get?_push_of_some _ hb)
    have z1 : ((s.heap.push (PyProof.Rows.seqObj "list" #[] 0)).update s.heap.objs.size (Obj.mapSeq (· ++ its.toArray))).objs.size = s.heap.objs.size + 1 := by
      rw [Heap.size_update, Heap.size_push]
    generalize ((s.heap.push (PyProof.Rows.seqObj "list" #[] 0)).update s.heap.objs.size (Obj.mapSeq (· ++ its.toArray))) = h1 at k1 z1 ⊢
    refine ⟨_, rfl, ?_⟩
    refine h _ _ h1.objs.size ?_ (Heap.get?_push_size _ rfl) (Heap.get?_push_of_some _ (Heap.get?_push_size _ rfl)) (by omega) ?_ fun b o q => Heap.get?_push_of_some _ (Heap.get?_push_of_some _ (k1 b o q))
    · simp only [Heap.size_push]
      first | rfl | exact (Nat.add_sub_cancel ..).symm
    · rw [Heap.size_push]
      exact Nat.lt_succ_self _
end
end Cmb
/-! combinations(list, 2): its turns -/
namespace Cmb
open PySem PySem.Spec
open Sem (wp)
/-- which place goes on, what stands there then -/
def pick2 (n a b : Nat) : Option Nat := match (b != 1 + n - 2) with
  | true => some 1
  | false => match (a != 0 + n - 2) with
    | true => some 0
    | false => none
def put2L (a b : Nat) : Option Nat → Option (List Nat)
  | none => none
  | some i => some ([a, b].take i ++ (List.range (2 - i)).map ([a, b].getD i 0 + 1 + ·))
theorem put2L_eq {n a b : Nat} (h : a < b) (hb : b < n) : put2L a b (pick2 n a b) = (nextC n a b).map fun p => [p.1, p.2] := by
  unfold pick2 nextC
  by_cases e : b = n - 1
  · have e1 : (b != 1 + n - 2) = false := by simp; omega
    rw [e1, if_pos e]
    by_cases f : a = n - 2
    · have f1 : (a != 0 + n - 2) = false := by simp; omega
      simp only [f1]
      rw [if_pos f]
      rfl
    · have f1 : (a != 0 + n - 2) = true := by simp; omega
      simp only [f1]
      rw [if_neg f]
      rfl
  · have e1 : (b != 1 + n - 2) = true := by simp; omega
    rw [e1, if_neg e]
    rfl
section
variable {prog : Program} {w : World} {A : Around} {E : Value → Shared → Prop} {s : Shared}
theorem call_made {l : Addr} {its : List Value} {t : Tok} {Q : Value → Shared → Prop} (hl : s.heap.IsList l its.toArray) (hz : its.length ≤ sizeLine)
    (h : ∀ h' z pt, IsC h' z pt (if 2 > its.length then 2 else 0) .none 0 1 → IsP h' pt its → s.heap.objs.size ≤ pt → pt < z → (∀ b o, s.heap.get? b = some o → h'.get? b = some o) → Q (.ref z) { s with heap := h' }) :
    wpAny (model prog w) A (call (.type "itertools.combinations") [.ref l, .int 2 t]) Q E s := by
  refine callType_new called_ (by decide +kernel) (tcall_ _ _) (ncall_ _ _) (fun obj => F.args_object_init_3 obj _ _) enew_ (made_new l its t hz) ⟨hl, fun h' z pt e i p lt lt2 k => ?_⟩
  exact ⟨⟨_, i, rfl⟩, h h' z pt i p lt lt2 k⟩
theorem iter_self {z pt a b : Nat} {st : Int} {last : Value} {Q : Value → Shared → Prop} (hz : IsC s.heap z pt st last a b) (h : Q (.ref z) s) : wpAny (model prog w) A (pyIter (.ref z)) Q E s := by
  have hT : s.TypeIs (.ref z) "itertools.combinations" := ⟨_, hz, rfl⟩
  refine wpAny_pyIter_slot hT siter_ (wpAny_call_entry siter_ hT eiter_ ?_ (aiter_ _))
  show wpAny _ _ (ret (.ref z)) _ _ s
  exact wpAny_pure ⟨_, rfl, _, _, hT, snext_.lookup, h⟩
/-- the next pair, handed out -/
theorem give {z pt a b : Nat} {st : Int} {last x y : Value} {its : List Value} {c d : Nat} {Q : Value → Shared → Prop} (hz : IsC s.heap z pt st last c d) (hp : IsP s.heap pt its) (hx : its[a]? = some x) (hy : its[b]? = some y)
    (hQ : ∀ h', IsC h' z pt st (.ref s.heap.objs.size) c d → h'.get? s.heap.objs.size = some { cls := .type "tuple", data := .seq #[x, y] } → h'.objs.size = s.heap.objs.size + 1 → (∀ b o, b ≠ z → s.heap.get? b = some o → h'.get? b = some o) → Q (.ref s.heap.objs.size) { s with heap := h' }) :
    wpAny (model prog w) A (do
      let result ← (do
        let items ← Builtin.Itertools.itPoolItems (.ref pt)
        newTuple ([a, b].map fun i => items.getD i .none))
      let before ← field (.ref z) 2
      setField (.ref z) 2 result
      letGo [before] [result]
      ret result) (fun f s' => ∃ v, f = .done (.ret v) ∧ Q v s') E s := by
  have hlt : z < s.heap.objs.size := Heap.lt_size hz
  unfold Builtin.Itertools.itPoolItems
  refine wpAny_bind (wpAny_bind (wpAny_bind (wpAny_seqItems hp rfl (wpAny_pure ?_))))
  have e : ([a, b].map fun i => its.toArray.getD i Value.none) = [x, y] := by
    have ha : its.toArray.getD a Value.none = x := by rw [Array.getD_eq_getD_getElem?, List.getElem?_toArray, hx]; rfl
    have hb : its.toArray.getD b Value.none = y := by rw [Array.getD_eq_getD_getElem?, List.getElem?_toArray, hy]; rfl
    rw [List.map_cons, List.map_cons, List.map_nil, ha, hb]
  rw [e]
  refine wpAny_newTuple ?_ (by show 2 ≤ sizeLine; decide)
  have hz1 : (s.heap.push { cls := .type "tuple", data := .seq [x, y].toArray }).get? z = some _ := Heap.get?_push_of_some _ hz
  refine wpAny_bind (wpAny_field hz1 rfl (x := last) rfl ?_)
  refine wpAny_bind (wpAny_setField hz1 rfl (by show 2 < 5; decide) ?_)
  refine wpAny_bind (wpAny_letGo ?_)
  refine wpAny_pure ⟨_, rfl, hQ _ (Heap.get?_update_self _ hz1 rfl) ?_ ?_ ?_⟩
  · rw [Heap.get?_update_other _ _ (Nat.ne_of_lt hlt)]
    exact Heap.get?_push_size _ rfl
  · rw [Heap.size_update, Heap.size_push]
  · intro b o hb q
    rw [Heap.get?_update_other _ _ hb.symm]
    exact Heap.get?_push_of_some _ q
theorem next_first {z pt : Addr} {last x y : Value} {its : List Value} {a b : Nat} {Q : Option Value → Shared → Prop} (hz : IsC s.heap z pt 0 last a b) (hp : IsP s.heap pt its) (hne : pt ≠ z) (hx : its[a]? = some x) (hy : its[b]? = some y)
    (hQ : ∀ h', IsC h' z pt 1 (.ref s.heap.objs.size) a b → h'.get? s.heap.objs.size = some { cls := .type "tuple", data := .seq #[x, y] } → (∀ b o, b ≠ z → s.heap.get? b = some o → h'.get? b = some o) → Q (some (.ref s.heap.objs.size)) { s with heap := h' }) :
    wpAny (model prog w) A (pyNext (.ref z)) Q E s := by
  have hT : s.TypeIs (.ref z) "itertools.combinations" := ⟨_, hz, rfl⟩
  unfold pyNext
  refine wpAny_bind (wpAny_attempt (wpAny_callSpecial?_slot (name := Str.ofString "__next__") hT snext_ (wpAny_call_entry snext_ hT enext_ ?_ (anext_ _))))
  show wpAny _ _ (field (.ref z) 0 >>= _) _ _ s
  refine wpAny_bind (wpAny_field hz rfl (x := .ref pt) rfl ?_)
  show wpAny _ _ (load z >>= _) _ _ s
  refine wpAny_bind (wpAny_load hz ?_)
  show wpAny _ _ ((field (.ref z) 1 >>= _) >>= _) _ _ s
  refine wpAny_bind (wpAny_bind (wpAny_field hz rfl (x := .int 0 0) rfl (wpAny_pure ?_)))
  show wpAny _ _ (setField (.ref z) 1 (rawInt 1) >>= _) _ _ s
  refine wpAny_bind (wpAny_setField hz rfl (by show 1 < 5; decide) ?_)
  have hz1 : IsC (s.heap.update z (Obj.mapFields fun x => x.setIfInBounds 1 (rawInt 1))) z pt 1 last a b := Heap.get?_update_self _ hz rfl
  have hp1 : IsP (s.heap.update z (Obj.mapFields fun x => x.setIfInBounds 1 (rawInt 1))) pt its := (Heap.get?_update_other _ _ hne.symm).trans hp
  refine give (s := { s with heap := s.heap.update z (Obj.mapFields fun x => x.setIfInBounds 1 (rawInt 1)) }) hz1 hp1 hx hy fun h' q1 q2 q3 q4 => wpAny_pure ?_
  dsimp only at q1 q2 q3 q4
  rw [Heap.size_update] at q1 q2 ⊢
  exact hQ h' q1 q2 fun c o hc e => q4 c o hc ((Heap.get?_update_other _ _ hc.symm).trans e)
theorem next_more {z pt : Addr} {last x y : Value} {its : List Value} {a b c d : Nat} {Q : Option Value → Shared → Prop} (hz : IsC s.heap z pt 1 last a b) (hp : IsP s.heap pt its) (hne : pt ≠ z) (hn : nextC its.length a b = some (c, d)) (h2 : a < b) (hb : b < its.length) (hx : its[c]? = some x) (hy : its[d]? = some y)
    (hQ : ∀ h', IsC h' z pt 1 (.ref s.heap.objs.size) c d → h'.get? s.heap.objs.size = some { cls := .type "tuple", data := .seq #[x, y] } → (∀ b o, b ≠ z → s.heap.get? b = some o → h'.get? b = some o) → Q (some (.ref s.heap.objs.size)) { s with heap := h' }) :
    wpAny (model prog w) A (pyNext (.ref z)) Q E s := by
  have hT : s.TypeIs (.ref z) "itertools.combinations" := ⟨_, hz, rfl⟩
  unfold pyNext
  refine wpAny_bind (wpAny_attempt (wpAny_callSpecial?_slot (name := Str.ofString "__next__") hT snext_ (wpAny_call_entry snext_ hT enext_ ?_ (anext_ _))))
  show wpAny _ _ (field (.ref z) 0 >>= _) _ _ s
  refine wpAny_bind (wpAny_field hz rfl (x := .ref pt) rfl ?_)
  show wpAny _ _ (load z >>= _) _ _ s
  refine wpAny_bind (wpAny_load hz ?_)
  show wpAny _ _ ((field (.ref z) 1 >>= _) >>= _) _ _ s
  refine wpAny_bind (wpAny_bind (wpAny_field hz rfl (x := .int 1 0) rfl (wpAny_pure ?_)))
  show wpAny _ _ ((seqItems? (.ref pt) >>= _) >>= _) _ _ s
  refine wpAny_bind (wpAny_bind (wpAny_seqItems hp rfl (wpAny_pure ?_)))
  split
  · rename_i nx heq
    have e : put2L a b (pick2 its.toArray.size a b) = some nx := heq
    rw [List.size_toArray, put2L_eq h2 hb, hn] at e
    have e := Option.some.inj e
    subst e
    show wpAny _ _ (updateFields z _ >>= _) _ _ s
    refine wpAny_bind (wpAny_updateFields hz rfl ?_ (by show 5 ≤ sizeLine + 3; decide))
    have hz1 := Heap.get?_update_self (Obj.mapFields fun fs => fs.extract 0 3 ++ ([c, d].map fun (n : Nat) => rawInt n).toArray) hz rfl
    have hp1 : IsP (s.heap.update z (Obj.mapFields fun fs => fs.extract 0 3 ++ ([c, d].map fun (n : Nat) => rawInt n).toArray)) pt its := (Heap.get?_update_other _ _ hne.symm).trans hp
    refine give (s := { s with heap := s.heap.update z (Obj.mapFields fun fs => fs.extract 0 3 ++ ([c, d].map fun (n : Nat) => rawInt n).toArray) }) hz1 hp1 hx hy fun h' q1 q2 q3 q4 => wpAny_pure ?_
    dsimp only at q1 q2 q3 q4
    rw [Heap.size_update] at q1 q2 ⊢
    exact hQ h' q1 q2 fun c o hc e => q4 c o hc ((Heap.get?_update_other _ _ hc.symm).trans e)
  · rename_i heq
    have e : put2L a b (pick2 its.toArray.size a b) = none := heq
    rw [List.size_toArray, put2L_eq h2 hb, hn] at e
    cases e
theorem stop_out {A : Around} {E : Value → Shared → Prop} (hh : A.handled = none) {Q : Fin → Shared → Prop} (hQ : ∀ e h', (∃ o, h'.get? e = some o ∧ o.cls = .type "StopIteration") → (∀ b o, s.heap.get? b = some o → h'.get? b = some o) → E (.ref e) { s with heap := h' }) :
    wpAny (model prog w) A (Builtin.Itertools.itStop : Sem Fin) Q E s := by
  show wpAny _ _ (newExc (.type "StopIteration") [] >>= _) _ _ _
  refine wpAny_bind ?_
  simp only [newExc, newTuple]
  refine wpAny_bind (wpAny_newObj_type ?_ (by show 0 ≤ sizeLine; decide))
  refine wpAny_bind (m := firstArgMember _ _) (wpAny_of_eq (a := Value.none) (by first | rfl | (simp only [firstArgMember]; rfl)) ?_)
  refine wpAny_newObj_type ?_ (by size_fits)
  simp only [raiseNew]
  refine wpAny_bind (wpAny_handled ?_)
  rw [hh]
  refine wpAny_bind (wpAny_pure (wpAny_throw ?_))
  exact hQ _ _ ⟨_, Heap.get?_push_size _ rfl, rfl⟩ fun b o q => Heap.get?_push_of_some _ (Heap.get?_push_of_some _ q)
theorem next_end {z pt : Addr} {st : Int} {last : Value} {its : List Value} {a b : Nat} {Q : Option Value → Shared → Prop} (hh : A.handled = none) (hz : IsC s.heap z pt st last a b) (hp : IsP s.heap pt its) (hs : st = 2 ∨ st = 1 ∧ nextC its.length a b = none ∧ a < b ∧ b < its.length)
    (hQ : ∀ h', (∀ b o, b ≠ z → s.heap.get? b = some o → h'.get? b = some o) → Q none { s with heap := h' }) :
    wpAny (model prog w) A (pyNext (.ref z)) Q E s := by
  have hT : s.TypeIs (.ref z) "itertools.combinations" := ⟨_, hz, rfl⟩
  unfold pyNext
  refine wpAny_bind (wpAny_attempt (wpAny_callSpecial?_slot (name := Str.ofString "__next__") hT snext_ (wpAny_call_entry snext_ hT enext_ ?_ (anext_ _))))
  show wpAny _ _ (field (.ref z) 0 >>= _) _ _ s
  refine wpAny_bind (wpAny_field hz rfl (x := .ref pt) rfl ?_)
  show wpAny _ _ (load z >>= _) _ _ s
  refine wpAny_bind (wpAny_load hz ?_)
  show wpAny _ _ ((field (.ref z) 1 >>= _) >>= _) _ _ s
  refine wpAny_bind (wpAny_bind (wpAny_field hz rfl (x := .int st 0) rfl (wpAny_pure ?_)))
  have hi : A.in1.handled = none := hh
  rcases hs with rfl | ⟨rfl, hn, h2, hb⟩
  · show wpAny _ _ (rule _ >>= _) _ _ s
    refine wpAny_bind (wpAny_rule (stop_out hi fun e h' he k => ?_))
    obtain ⟨o, ho, hc⟩ := he
    refine wpAny_bind (wpAny_isInstance (T := "StopIteration") (b := true) ⟨o, ho, hc⟩ isSubtype_stop ?_)
    exact wpAny_pure (hQ _ fun b o _ q => k b o q)
  show wpAny _ _ ((seqItems? (.ref pt) >>= _) >>= _) _ _ s
  refine wpAny_bind (wpAny_bind (wpAny_seqItems hp rfl (wpAny_pure ?_)))
  split
  · rename_i nx heq
    have e : put2L a b (pick2 its.toArray.size a b) = some nx := heq
    rw [List.size_toArray, put2L_eq h2 hb, hn] at e
    cases e
  · refine wpAny_bind (wpAny_setField hz rfl (by show 1 < 5; decide) (stop_out hi fun e h' he k => ?_))
    obtain ⟨o, ho, hc⟩ := he
    refine wpAny_bind (wpAny_isInstance (T := "StopIteration") (b := true) ⟨o, ho, hc⟩ isSubtype_stop ?_)
    exact wpAny_pure (hQ _ fun b o hb q => k b o ((Heap.get?_update_other _ _ hb.symm).trans q))
end
end Cmb
/-! for a, b in combinations(list, 2) -/
namespace Tr
open PySem PySem.Spec PyProof.Rows L2
/-- all pairs of a list, the one ahead of the other -/
def prs {α : Type} : List α → List (α × α)
  | [] => []
  | x :: r => r.map (fun y => (x, y)) ++ prs r
theorem prs_map {α β : Type} (f : α → β) : ∀ l : List α, prs (l.map f) = (prs l).map fun p => (f p.1, f p.2)
  | [] => rfl
  | x :: r => by
    show (r.map f).map (fun y => (f x, y)) ++ prs (r.map f) = (r.map (fun y => (x, y)) ++ prs r).map fun p => (f p.1, f p.2)
    rw [prs_map f r, List.map_append, List.map_map, List.map_map]
    rfl
theorem prs_step {n : Nat} : ∀ (m a : Nat), a + m = n → ∀ (i : Nat) (p : Nat × Nat), (prs (List.range' a m))[i]? = some p → p.1 < p.2 ∧ p.2 < n ∧ (prs (List.range' a m))[i + 1]? = Cmb.nextC n p.1 p.2
  | 0, a, e, i, p, h => by
    have h : ([] : List (Nat × Nat))[i]? = some p := h
    simp at h
  | m + 1, a, e, i, p, h => by
    have ih := prs_step (n := n) m (a + 1) (by omega)
    have es : prs (List.range' a (m + 1)) = (List.range' (a + 1) m).map (fun y => (a, y)) ++ prs (List.range' (a + 1) m) := by
      rw [List.range'_succ]
      rfl
    rw [es] at h ⊢
    have hl : ((List.range' (a + 1) m).map (fun y => (a, y))).length = m := by simp
    by_cases hi : i < m
    · rw [List.getElem?_append_left (by rw [hl]; exact hi), List.getElem?_map, List.getElem?_range' hi] at h
      have h := Option.some.inj h
      subst h
      dsimp only
      refine ⟨by omega, by omega, ?_⟩
      by_cases hj : i + 1 < m
      · rw [List.getElem?_append_left (by rw [hl]; exact hj), List.getElem?_map, List.getElem?_range' hj]
        unfold Cmb.nextC
        rw [if_neg (by omega)]
        show some (a, a + 1 + 1 * (i + 1)) = some (a, a + 1 + 1 * i + 1)
        congr 2
      · rw [List.getElem?_append_right (by rw [hl]; omega), hl]
        have e0 : i + 1 - m = 0 := by omega
        rw [e0]
        unfold Cmb.nextC
        rw [if_pos (by omega)]
        match m, hi, e with
        | 1, _, e =>
          rw [if_pos (by omega)]
          rfl
        | m + 2, _, e =>
          rw [if_neg (by omega), List.range'_succ, List.range'_succ]
          rfl
    · rw [List.getElem?_append_right (by rw [hl]; omega), hl] at h
      obtain ⟨h1, h2, h3⟩ := ih _ _ h
      refine ⟨h1, h2, ?_⟩
      rw [List.getElem?_append_right (by rw [hl]; omega), hl]
      have e1 : i + 1 - m = i - m + 1 := by omega
      rw [e1]
      exact h3
theorem prs_range {n i : Nat} {p : Nat × Nat} (h : (prs (List.range n))[i]? = some p) : p.1 < p.2 ∧ p.2 < n ∧ (prs (List.range n))[i + 1]? = Cmb.nextC n p.1 p.2 := by
  rw [List.range_eq_range'] at h ⊢
  exact prs_step n 0 (by omega) i p h
theorem prs_first {n : Nat} (h : 2 ≤ n) : (prs (List.range n))[0]? = some (0, 1) := by
  obtain ⟨m, rfl⟩ : ∃ m, n = m + 2 := ⟨n - 2, by omega⟩
  rw [List.range_eq_range', List.range'_succ, List.range'_succ]
  rfl
theorem prs_none {α : Type} {l : List α} (h : l.length < 2) : prs l = [] := by
  match l, h with
  | [], _ => rfl
  | [x], _ => rfl
theorem prs_get {α : Type} {l : List α} {i : Nat} {a b : Nat} (h : (prs (List.range l.length))[i]? = some (a, b)) : ∃ x y, l[a]? = some x ∧ l[b]? = some y ∧ (prs l)[i]? = some (x, y) := by
  obtain ⟨h1, h2, _⟩ := prs_range h
  dsimp only at h1 h2
  have ha : a < l.length := by omega
  refine ⟨l[a], l[b], List.getElem?_eq_getElem ha, List.getElem?_eq_getElem h2, ?_⟩
  have e : l = (List.range l.length).map fun k => l.getD k l[a] := by
    apply List.ext_getElem
    · simp
    · intro k k1 k2
      simp [List.getD, k1]
  have e2 := prs_map (fun k => l.getD k l[a]) (List.range l.length)
  rw [← e] at e2
  rw [e2, List.getElem?_map, h]
  simp [List.getD, ha, h2]
theorem prs_len {α : Type} (l : List α) : (prs l).length = (prs (List.range l.length)).length := by
  match l with
  | [] => rfl
  | x :: r =>
    have e : x :: r = (List.range (x :: r).length).map fun k => (x :: r).getD k x := by
      apply List.ext_getElem
      · simp
      · intro k k1 k2
        simp only [List.getD, List.getElem_map, List.getElem_range]
        rw [List.getElem?_eq_getElem k1]
        rfl
    have e2 := prs_map (fun k => (x :: r).getD k x) (List.range (x :: r).length)
    rw [← e] at e2
    rw [e2, List.length_map]
/-- the pairs of xs, in new pairs -/
def Itcb (xs : List V) : It :=
  ⟨fun i _ => i < (prs xs).length, fun i H v H' => ∃ T x y, v = .ref T ∧ H T = none ∧ H' = upd H T (.tup [x, y]) ∧ (prs xs)[i]? = some (x, y), fun i _ => (prs xs).length ≤ i⟩
theorem walk_comb {xs : List V} : Walk (Itcb xs) (prs xs).length (fun _ => True) (YPair (fun i => (prs xs)[i]?.map Prod.fst) (fun i => (prs xs)[i]?.map Prod.snd)) := by
  refine ⟨fun i H hi _ => hi, fun H _ => Nat.le_refl _, fun i H v H' hi _ y => ?_⟩
  obtain ⟨T, x, y, e1, e2, e3, e4⟩ := y
  exact ⟨T, x, y, e1, e2, e3, (by show Option.map Prod.fst _ = _; rw [e4]; rfl), (by show Option.map Prod.snd _ = _; rw [e4]; rfl)⟩
/-- where a walk stands -/
structure CbAt (its : List Value) (z pt : Addr) (i : Nat) (h : Heap) : Prop where
  p : Cmb.IsP h pt its
  le : i ≤ (prs (List.range its.length)).length
  at_ : ∃ (st : Int) (last : Value) (a b : Nat), Cmb.IsC h z pt st last a b ∧ ((i = 0 ∧ st = (if 2 > its.length then 2 else 0) ∧ a = 0 ∧ b = 1) ∨ ∃ j, i = j + 1 ∧ st = 1 ∧ (prs (List.range its.length))[j]? = some (a, b))
theorem turn_comb {P : Program} {w : World} {K : PySem.W.Frag} {elts : List Expr} {kk : Nat} {tpos : Pos} {xs : List V} {its : List Value} {z pt : Addr} (hv : Vals xs its) (hne : pt ≠ z) :
    Turn P w K (.Tuple elts kk tpos) (Itcb xs) [z, pt] z (CbAt its z pt) where
  mem := by simp
  obj := fun i h st c hc => by
    obtain ⟨hp, _, st, last, a, b, hz, _⟩ := st
    have e : c = z ∨ c = pt := by simpa using hc
    rcases e with rfl | rfl
    · exact ⟨_, hz, fun v q => nomatch q⟩
    · exact ⟨_, hp, fun v q => nomatch q⟩
  keep := fun i h h' st k => by
    obtain ⟨hp, hl, st, last, a, b, hz, q⟩ := st
    exact ⟨k pt (by simp) _ hp, hl, st, last, a, b, k z (by simp) _ hz, q⟩
  item := by
    intro X hP hw hK hc i pins s σ H E I hf st hg
    subst hP hw hK
    obtain ⟨hp, hle, st, last, a, b, hz, hst⟩ := st
    have hg : i < (prs xs).length := hg
    have hlen := hv.length
    have hg2 : i < (prs (List.range its.length)).length := by
      rw [prs_len, hlen] at hg
      exact hg
    have hzl : z < s.heap.objs.size := Heap.lt_size hz
    have hpl : pt < s.heap.objs.size := Heap.lt_size hp
    -- what is handed out
    obtain ⟨⟨c, d⟩, hcd⟩ : ∃ p, (prs (List.range its.length))[i]? = some p := ⟨_, List.getElem?_eq_getElem hg2⟩
    obtain ⟨x, y, hx, hy, hxy⟩ := prs_get (l := xs) (i := i) (a := c) (b := d) (by rw [hlen]; exact hcd)
    obtain ⟨u1, hu1, r1⟩ := hv.get hx
    obtain ⟨u2, hu2, r2⟩ := hv.get hy
    have fin : ∀ h' : Heap, Cmb.IsC h' z pt 1 (.ref s.heap.objs.size) c d → h'.get? s.heap.objs.size = some { cls := .type "tuple", data := .seq #[u1, u2] } → (∀ b o, b ≠ z → s.heap.get? b = some o → h'.get? b = some o) →
        ∃ u, some (Value.ref s.heap.objs.size) = some u ∧ wpAny (model X.prog X.w) X.A (letOwnedTupleGo (.Tuple elts kk tpos) (.ref z) u) (fun _ s2 => ∃ x H', Inv X pins σ H' s2 ∧ RelV x u ∧ (Itcb xs).yld i H x H' ∧ CbAt its z pt (i + 1) s2.heap ∧ ∀ b ∈ [z, pt], H' b = none) E { s with heap := h' } := by
      intro h' q1 q2 q3
      refine ⟨_, rfl, go_of q1 rfl rfl (by decide +kernel) ?_⟩
      have new : ObjOk X.prog X.w (upd H s.heap.objs.size (.tup [x, y])) h' s.heap.objs.size (.tup [x, y]) :=
        ⟨by show 2 ≤ sizeLine; decide, [u1, u2], .cons r1 (.cons r2 .nil), ⟨_, q2, rfl, _, rfl⟩⟩
      have I1 : Inv X pins σ (upd H s.heap.objs.size (.tup [x, y])) { s with heap := h' } :=
        I.turnedNew (t' := s.toks) (ch := [z, pt]) (fun c o hb q => q3 c o (fun e => hb (by simp [e])) q) hf (Nat.le_refl _) new
      refine ⟨.ref s.heap.objs.size, _, I1, rfl, ⟨_, x, y, rfl, I.hok.fresh (Nat.le_refl _), rfl, hxy⟩, ⟨q3 _ _ hne hp, by omega, _, _, c, d, q1, .inr ⟨i, rfl, rfl, hcd⟩⟩, fun c hcm => ?_⟩
      have hlt : c < s.heap.objs.size := by
        have e : c = z ∨ c = pt := by simpa using hcm
        rcases e with rfl | rfl
        · exact hzl
        · exact hpl
      rw [upd_ne (Nat.ne_of_lt hlt)]
      exact (hf c hcm).1
    rcases hst with ⟨rfl, rfl, rfl, rfl⟩ | ⟨j, rfl, rfl, hj⟩
    · have h2 : 2 ≤ its.length := by
        rcases Nat.lt_or_ge its.length 2 with k | k
        · have e := prs_none (l := List.range its.length) (by simpa using k)
          rw [e] at hg2
          exact absurd hg2 (by simp)
        · exact k
      have hcd' := prs_first h2
      rw [hcd'] at hcd
      have e := Option.some.inj hcd
      have e1 : 0 = c := congrArg Prod.fst e
      have e2 : 1 = d := congrArg Prod.snd e
      subst e1 e2
      rw [if_neg (by omega)] at hz
      exact Cmb.next_first hz hp hne hu1 hu2 fin
    · obtain ⟨h1, h2, h3⟩ := prs_range hj
      rw [h3] at hcd
      exact Cmb.next_more hz hp hne hcd h1 h2 hu1 hu2 fin
  done := by
    intro X hP hw hK hc i pins s σ H E I hf st hg
    subst hP hw hK
    obtain ⟨hp, hle, st, last, a, b, hz, hst⟩ := st
    have hg : (prs xs).length ≤ i := hg
    rw [prs_len, hv.length] at hg
    have ei : i = (prs (List.range its.length)).length := by omega
    refine Cmb.next_end (I.ok.hd hc) hz hp ?_ fun h' hk => ⟨rfl, I.turnedL (t' := s.toks) (ch := [z, pt]) (fun c o hb q => hk c o (fun e => hb (by simp [e])) q) hf⟩
    rcases hst with ⟨rfl, rfl, rfl, rfl⟩ | ⟨j, rfl, rfl, hj⟩
    · refine .inl (if_pos ?_)
      rcases Nat.lt_or_ge its.length 2 with k | k
      · exact k
      · have h0 := prs_first k
        have := (List.getElem?_eq_some_iff.mp h0).1
        omega
    · obtain ⟨h1, h2, h3⟩ := prs_range hj
      refine .inr ⟨rfl, ?_, h1, h2⟩
      rw [← h3, List.getElem?_eq_none (by omega)]
  self := fun A i s Q E st h => by
    obtain ⟨hp, hle, st, last, a, b, hz, hst⟩ := st
    exact Cmb.iter_self hz h
def iComb (K : PySem.W.Frag) (ta : TA) : TI := fun σ H R => ta σ H fun vs H1 => ∃ a xs, vs = [.ref a, .int 2] ∧ SqL K H1 a xs ∧ R (Itcb xs) H1
theorem pi_comb {X : Cx} {e e2 : Expr} {ta : TA} {p pos tpos : Pos} {elts : List Expr} {kk : Nat} (hg : Gl X "combinations") (hm : X.mg "combinations" = some (.type "itertools.combinations")) (ha : PA X [e, e2] ta)
    (hs : starEach [e, e2] X.env = (false, eval e X.env) :: starEach [e2] X.env := by rfl) (hpl : (backTo pos (starEach [e2] X.env)).any (·.1) = false := by rfl) :
    PI X (.Tuple elts kk tpos) (.Call (.Name "combinations" p) [e, e2] [] pos) (iComb X.K ta) := by
  refine ⟨fun pins s σ H R I h => ?_⟩
  refine Call_ (ld_glob I hg hm (callWith_type1 (thn (ha.run pos pins s σ H _ I h) fun us s1 ⟨vs, H1, I1, r1, q1⟩ => ?_) hs hpl))
  obtain ⟨a, xs, ex, hq, q⟩ := q1
  subst ex
  cases r1 with
  | cons r rr =>
    cases rr with
    | cons r' rr =>
      cases rr
      cases r
      obtain ⟨t, rfl⟩ := r'
      obtain ⟨its, rv, p1, hz⟩ := I1.list hq
      have hz' : its.length ≤ sizeLine := by rw [← rv.length]; exact hz
      refine Cmb.call_made p1.isList hz' fun h' z pt c1 c2 l1 l2 k => Cmb.iter_self c1 ?_
      have I2 : Inv X pins σ H1 { s1 with heap := h' } := I1.kept (t' := s1.toks) k
      refine ⟨z, [z, pt], CbAt its z pt, Itcb xs, H1, rfl, I2, turn_comb rv (Nat.ne_of_lt l2), ⟨c2, Nat.zero_le _, _, _, 0, 1, c1, .inl ⟨rfl, rfl, rfl, rfl⟩⟩, fun c hcm => ?_, q⟩
      have hle : s1.heap.objs.size ≤ c := by
        have e : c = z ∨ c = pt := by simpa using hcm
        rcases e with rfl | rfl
        · exact Nat.le_trans l1 (Nat.le_of_lt l2)
        · exact l1
      exact I1.fpOk hle (I1.hok.fresh hle)
end Tr
/-! What two trays are compared by -/
namespace Tr
open PySem PySem.Spec PyProof.Rows L2
theorem scWide : FnScope ["tray"] ["tray"] (defScope d_is_wide) := ⟨rfl, rfl, rfl, by decide +kernel, rfl, by decide +kernel, by decide +kernel⟩
theorem scNums : FnScope ["tray", "row", "number"] ["tray"] (defScope d_numbers_of) := ⟨rfl, rfl, rfl, by decide +kernel, rfl, by decide +kernel, by decide +kernel⟩
theorem scPcs : FnScope ["tray", "number"] ["tray"] (defScope d_pieces_of) := ⟨rfl, rfl, rfl, by decide +kernel, rfl, by decide +kernel, by decide +kernel⟩
theorem scCrP : FnScope ["one", "other", "places", "turn", "number", "place", "first", "second"] ["one", "other"] (defScope d_crossed_pairs) := ⟨rfl, rfl, rfl, by decide +kernel, rfl, by decide +kernel, by decide +kernel⟩
theorem scStA : FnScope ["one", "other", "one_row", "one_column", "other_row", "other_column"] ["one", "other"] (defScope d_steps_apart) := ⟨rfl, rfl, rfl, by decide +kernel, rfl, by decide +kernel, by decide +kernel⟩
def spWide : Sp := fun vs H Q _ => ∃ (a : Addr) (rs : List Addr) (R C : Nat) (f : Fld), vs = [.ref a] ∧ TrayAt H a rs R C f ∧ 0 < R ∧ Q (.bl (decide (1 < min R C))) H
def spNums : Sp := fun vs H Q _ => ∃ (a : Addr) (rs : List Addr) (R C : Nat) (f : Fld), vs = [.ref a] ∧ TrayAt H a rs R C f ∧ R ≤ 6 ∧ C ≤ 6 ∧ ∀ H' p, Same H H' → H p = none → H' p = some (.lst ((allV (R * C) f).map V.int)) → Q (.ref p) H'
/-- the pieces, in their order -/
def pcsL (n : Nat) (f : Fld) : List Int := (allV n f).filter fun z => decide (z ≠ 0)
def spPcs : Sp := fun vs H Q _ => ∃ (a : Addr) (rs : List Addr) (R C : Nat) (f : Fld), vs = [.ref a] ∧ TrayAt H a rs R C f ∧ R ≤ 6 ∧ C ≤ 6 ∧ ∀ H' p, Same H H' → H p = none → H' p = some (.lst ((pcsL (R * C) f).map V.int)) → Q (.ref p) H'
def spCrP : Sp := fun vs H Q _ => ∃ (a b : Addr) (rs rs2 : List Addr) (R C : Nat) (f g : Fld), vs = [.ref a, .ref b] ∧ TrayAt H a rs R C f ∧ TrayAt H b rs2 R C g ∧ R ≤ 6 ∧ C ≤ 6 ∧ Full (R * C) f ∧ Full (R * C) g ∧ ∀ H', Same H H' → Q (.int (crossed (R * C) f g : Nat)) H'
def spStA : Sp := fun vs H Q _ => ∃ (a b : Addr) (rs rs2 : List Addr) (R C : Nat) (s s2 : Sl), vs = [.ref a, .ref b] ∧ TrayAt H a rs R C s.1 ∧ TrayAt H b rs2 R C s2.1 ∧ Good R C s ∧ Good R C s2 ∧ ∀ H', Same H H' → Q (.int (steps s.2.1 s.2.2 s2.2.1 s2.2.2 : Nat)) H'
theorem allV_size {R C : Nat} (hR : R ≤ 6) (hC : C ≤ 6) (f : Fld) : (allV (R * C) f).length ≤ 36 := by
  have : R * C ≤ 6 * 6 := Nat.mul_le_mul hR hC
  simp [allV]
  omega
theorem absI (a b : Nat) : (if (a : Int) - b < 0 then -((a : Int) - b) else (a : Int) - b) = (((a : Int) - b).natAbs : Nat) := by
  split <;> omega
/-- where each number stands, as a dict -/
def plK (n : Nat) (g : Fld) : List (Key × V) := (List.range n).map fun k => ((Sum.inl (g k) : Key), V.int (k : Nat))
theorem plK_more (i : Nat) (g : Fld) : plK (i + 1) g = plK i g ++ [((Sum.inl (g i) : Key), V.int (i : Nat))] := by
  unfold plK
  rw [List.range_succ, List.map_append]
  rfl
theorem plK_val {n : Nat} {g : Fld} (hg : Full n g) : ∀ (i : Nat), i ≤ n → ∀ k, k < n → valV (plK i g) (Sum.inl (g k) : Key) = if k < i then some (V.int (k : Nat)) else none
  | 0, _, k, hk => by rw [if_neg (by omega)]; rfl
  | i + 1, hi, k, hk => by
    have ih := plK_val hg i (by omega)
    rw [plK_more, valV_snoc _ _ _ _ (by rw [ih i (by omega), if_neg (by omega)])]
    by_cases e : k = i
    · subst e
      rw [if_pos rfl, if_pos (by omega)]
    · rw [if_neg (fun z => e (full_inj hg hk (by omega) (by injection z)))]
      rw [ih k hk]
      by_cases h : k < i
      · rw [if_pos h, if_pos (by omega)]
      · rw [if_neg h, if_neg (by omega)]
theorem plK_pos {n : Nat} {f g : Fld} (hf : Full n f) (hg : Full n g) {j : Nat} (hj : j < n) : valV (plK n g) (Sum.inl (f j) : Key) = some (V.int (posOf n g (f j) : Nat)) := by
  have hp := posOf_lt hf hg hj
  have := plK_val hg n (Nat.le_refl _) _ hp
  rw [posOf_get hf hg hj, if_pos hp] at this
  exact this
theorem prs_inv : ∀ l : List Nat, (prs l).countP (fun p => decide (p.2 < p.1)) = inv l
  | [] => rfl
  | x :: r => by
    show (r.map (fun y => (x, y)) ++ prs r).countP _ = _
    rw [List.countP_append, List.countP_map, prs_inv r]
    rfl
section
variable {P : Program} {w : World} {K : PySem.W.Frag} {mg : Str → Option Value} {base : Heap}
theorem ok_wide {fa : Addr} {fd : FuncData} {k : Nat} (F : Fun K "is_wide" "is_wide" d_is_wide fa fd) (mL : mg "len" = none) : FnOk P w K mg base CX0 (k + 1) fa fd ["tray"] spWide := by
  refine F.ok scWide (fun vs H Q E h => ?_) (fun cdv A outer s H vs Q E hr h => ?_)
  · obtain ⟨a, rs, R, C, f, rfl, _⟩ := h
    rfl
  · obtain ⟨a, rs, R, C, f, rfl, T, hR, q⟩ := h
    refine ⟨_, pss_one (ps_ret (pe_and (pe_cmpR op_ge (pe_callB call_len_seq (by rfl) mL PySem.boot_len (pa_cons (pv 0) pa_nil)) pe_int (nomark _))
      (pe_one (pe_cmpR op_ge (pe_callB call_len_seq (by rfl) mL PySem.boot_len (pa_cons (pe_ix ix_list (pv 0) pe_int (fun _ _ => rfl)) pa_nil)) pe_int (nomark _))))), ?_⟩
    obtain ⟨r0, _, g2, g3⟩ := T.get (i := 0) hR
    refine ⟨_, rfl, a, _, rfl, .inl (SqL.of T.top), _, _, rfl, rfl, _, rfl, ?_⟩
    rw [List.length_map, T.len]
    refine decI (fun h1 => ?_) (fun h1 => ?_)
    · refine ⟨_, rfl, a, _, 0, _, rfl, rfl, SqL.of T.top, atI_nat (j := 0) g2, r0, _, rfl, .inl (SqL.of g3), _, _, rfl, rfl, ?_⟩
      rw [rowV_len]
      have e : decide ((C : Int) ≥ 2) = decide (1 < min R C) := decide_eq_decide.mpr (by omega)
      show Q (V.bl (decide ((C : Int) ≥ 2))) H
      rw [e]
      exact q
    · have e : decide (1 < min R C) = false := decide_eq_false (by omega)
      rw [e] at q
      exact q
theorem ok_nums {fa : Addr} {fd : FuncData} {k : Nat} (F : Fun K "numbers_of" "numbers_of" d_numbers_of fa fd) : FnOk P w K mg base CX0 (k + 1) fa fd ["tray"] spNums := by
  refine F.ok scNums (fun vs H Q E h => ?_) (fun cdv A outer s H vs Q E hr h => ?_)
  · obtain ⟨a, rs, R, C, f, rfl, _⟩ := h
    rfl
  · obtain ⟨a, rs, R, C, f, rfl, T, hR, hC, q⟩ := h
    refine ⟨_, pss_one (ps_ret (pe_lc2 (own := [("row", 1), ("number", 2)]) (vs1 := [2]) (g := gName 1) (g1 := gName 2) (tt := tYes) (tt1 := tYes) (te := tVar 2) (wi1 := iList K (tVar 1)) rfl scNums.nd (pi_list (pv 0))
          (blkOk_by (own := [("row", 1), ("number", 2)]) (N := ["tray", "row", "number"]) (sc := defScope d_numbers_of) (by decide +kernel)) (by decide)
          (fun _ _ _ _ _ => pg_name (i := 1) scNums.nd rfl (.inl rfl)) (fun _ _ _ _ _ => pts_nil) (fun _ _ _ _ _ => pi_list (pv 1)) (fun _ _ _ _ _ => pg_name (i := 2) scNums.nd rfl (.inl rfl)) (fun _ _ _ _ _ => pts_nil) (fun _ _ _ _ _ => pv 2))), ?_⟩
    refine ⟨_, rfl, a, rfl, ⟨_, SqL.of T.top⟩, fun D nD => ?_⟩
    refine lc_gen (walk_list (K := K) (a := a) (xs := rs.map V.ref)) (fun i H1 => Same H H1 ∧ H1 D = some (.lst ((allV (i * C) f).map V.int))) ⟨same_upd nD, by rw [upd_same, Nat.zero_mul]; rfl⟩ (fun i H1 _ p => p.1.seq (SqL.of T.top)) ?_ ?_
    · rintro i x H1 H2 hi ⟨sm, hD⟩ ⟨rfl, hx⟩
      have hi : i < R := by
        rw [List.length_map, T.len] at hi
        exact hi
      obtain ⟨ri, k1, k2, k3⟩ := T.get hi
      rw [k2] at hx
      cases hx
      refine ⟨rfl, ?_⟩
      have s3 := sm _ _ k3
      refine ⟨_, rfl, ri, rfl, ⟨_, SqL.of s3⟩, ?_⟩
      refine lc_gen (walk_list (K := K) (a := ri) (xs := rowV C f i)) (fun j H3 => Same H H3 ∧ H3 D = some (.lst ((allV (i * C) f).map V.int ++ (rowV C f i).take j))) ⟨sm, by rw [hD, List.take_zero, List.append_nil]⟩ (fun j H3 _ p => p.1.seq (SqL.of k3)) ?_ ?_
      · rintro j y H3 H4 hj ⟨sm3, hD3⟩ ⟨rfl, hy⟩
        refine ⟨rfl, ?_⟩
        refine ⟨_, rfl, _, hD3, ?_, ?_, ?_⟩
        · rw [List.length_append, List.length_map, List.length_take, rowV_len]
          unfold allV
          rw [List.length_map, List.length_range]
          refine small1000 ?_
          have : i * C ≤ 6 * 6 := Nat.mul_le_mul (by omega) hC
          omega
        · intro b o e
          rw [upd_ne (ne_of_none e nD)]
          exact sm3 _ _ e
        · rw [upd_same, take_more hy, List.append_assoc]
      · rintro H3 ⟨sm3, hD3⟩
        rw [List.take_length, allV_rows] at hD3
        exact ⟨sm3, hD3⟩
    · rintro H1 ⟨sm, hD⟩
      rw [List.length_map, T.len] at hD
      exact q _ D sm nD hD
theorem filt_more {l : List Int} {i : Nat} {x : Int} {p : Int → Bool} (h : l[i]? = some x) : (l.take (i + 1)).filter p = (l.take i).filter p ++ (if p x = true then [x] else []) := by
  rw [take_more h, List.filter_append]
  by_cases e : p x = true
  · rw [if_pos e, List.filter_cons_of_pos e]
    rfl
  · rw [if_neg e, List.filter_cons_of_neg e]
    rfl
theorem ok_pcs {fa fN : Addr} {fd fdN : FuncData} {k : Nat} (F : Fun K "pieces_of" "pieces_of" d_pieces_of fa fd)
    (GN : FnOk P w K mg base CX0 (k + 1) fN fdN ["tray"] spNums) (gN : mg "numbers_of" = some (.ref fN)) (kN : PySem.W.keepIn K (.ref fN) = true) (bN : Binds K fdN ["tray"] []) :
    FnOk P w K mg base CX0 (k + 2) fa fd ["tray"] spPcs := by
  refine F.ok scPcs (fun vs H Q E h => ?_) (fun cdv A outer s H vs Q E hr h => ?_)
  · obtain ⟨a, rs, R, C, f, rfl, _⟩ := h
    rfl
  · obtain ⟨a, rs, R, C, f, rfl, T, hR, hC, q⟩ := h
    refine ⟨_, pss_one (ps_ret (pe_lc (own := [("number", 1)]) (g := gName 1) rfl scPcs.nd (pi_list (pe_call GN hr (by rfl) gN kN bN .nil pass0 (pa_cons (pv 0) pa_nil)))
          (blkOk_by (own := [("number", 1)]) (N := ["tray", "number"]) (sc := defScope d_pieces_of) (by decide +kernel))
          (fun _ _ _ _ _ => pg_name (i := 1) scPcs.nd rfl (.inl rfl)) (fun _ _ _ _ _ => pts_one (pt_cmpR op_ne (pv 1) pe_int (nomark _))) (fun _ _ _ _ _ => pv 1))), ?_⟩
    refine ⟨_, rfl, a, rs, R, C, f, rfl, T, hR, hC, fun H1 p s1 np hp => ⟨p, rfl, ⟨_, SqL.of hp⟩, fun D nD => ?_⟩⟩
    refine lc_gen (walk_list (K := K) (a := p) (xs := (allV (R * C) f).map V.int)) (fun i H2 => Same H1 H2 ∧ H2 D = some (.lst (((((allV (R * C) f).take i).filter fun z => decide (z ≠ 0))).map V.int))) ⟨same_upd nD, by rw [upd_same]; rfl⟩ (fun i H2 _ p => p.1.seq (SqL.of hp)) ?_ ?_
    · rintro i x H2 H3 hi ⟨s2, hD⟩ ⟨rfl, hx⟩
      rw [List.length_map] at hi
      rw [List.getElem?_map, List.getElem?_eq_getElem hi] at hx
      cases hx
      have fm := filt_more (p := fun z : Int => decide (z ≠ 0)) (List.getElem?_eq_getElem hi)
      refine ⟨rfl, ?_⟩
      refine ⟨_, rfl, rfl, _, rfl, ?_⟩
      have e : (!decide (V.int (allV (R * C) f)[i] = V.int 0)) = decide ((allV (R * C) f)[i] ≠ 0) := by
        by_cases z : (allV (R * C) f)[i] = 0
        · rw [decide_eq_true (by rw [z]), decide_eq_false (by simpa using z)]
          rfl
        · rw [decide_eq_false (fun h => z (V.int.inj h)), decide_eq_true z]
          rfl
      have cs := Bool.eq_false_or_eq_true (decide ((allV (R * C) f)[i] ≠ 0))
      rcases cs with c | c
      · rw [e, c]
        rw [if_pos (by exact c)] at fm
        refine iteT ⟨_, rfl, _, hD, ?_, ?_, ?_⟩
        · rw [List.length_map]
          refine small1000 ?_
          have h1 := List.length_filter_le (fun z : Int => decide (z ≠ 0)) ((allV (R * C) f).take i)
          have h2 := allV_size hR hC f
          rw [List.length_take] at h1
          omega
        · intro b o e
          rw [upd_ne (ne_of_none e nD)]
          exact s2 _ _ e
        · rw [upd_same, fm, List.map_append]
          rfl
      · rw [e, c]
        rw [if_neg (by simpa using c), List.append_nil] at fm
        refine iteF ⟨s2, ?_⟩
        rw [hD, fm]
    · rintro H2 ⟨s2, hD⟩
      rw [List.length_map, List.take_length] at hD
      exact q _ D (s1.trans s2) (s1.free nD) hD
end
end Tr
namespace Tr
open PySem PySem.Spec PyProof.Rows L2
theorem allV_len' (n : Nat) (f : Fld) : (allV n f).length = n := by simp [allV]
theorem allV_at' {n : Nat} {f : Fld} {i : Nat} (h : i < n) : ((allV n f).map V.int)[i]? = some (V.int (f i)) := by simp [allV, h]
theorem crossL_map {R C : Nat} {f g : Fld} (hR : R ≤ 6) (hC : C ≤ 6) : (crossL (R * C) f g).length ≤ 36 := by
  rw [crossL_len]
  exact Nat.mul_le_mul hR hC
theorem prs_short {α : Type} : ∀ l : List α, (prs l).length ≤ l.length * l.length
  | [] => Nat.le_refl _
  | x :: r => by
    have ih := prs_short r
    show (r.map (fun y => (x, y)) ++ prs r).length ≤ (r.length + 1) * (r.length + 1)
    rw [List.length_append, List.length_map, Nat.add_mul, Nat.mul_add]
    omega
section
variable {P : Program} {w : World} {K : PySem.W.Frag} {mg : Str → Option Value} {base : Heap}
theorem ok_crP {fa fN : Addr} {fd fdN : FuncData} {k : Nat} (F : Fun K "crossed_pairs" "crossed_pairs" d_crossed_pairs fa fd) (mEn : mg "enumerate" = none) (mL : mg "len" = none) (gC : mg "combinations" = some (.type "itertools.combinations"))
    (GN : FnOk P w K mg base CX0 (k + 1) fN fdN ["tray"] spNums) (gN : mg "numbers_of" = some (.ref fN)) (kN : PySem.W.keepIn K (.ref fN) = true) (bN : Binds K fdN ["tray"] []) :
    FnOk P w K mg base CX0 (k + 2) fa fd ["one", "other"] spCrP := by
  refine F.ok scCrP (fun vs H Q E h => ?_) (fun cdv A outer s H vs Q E hr h => ?_)
  · obtain ⟨a, b, rs, rs2, R, C, f, g, rfl, _⟩ := h
    rfl
  · obtain ⟨a, b, rs, rs2, R, C, f, g, rfl, Ta, Tb, hR, hC, hf, hg, q⟩ := h
    have hu := hu_of hr
    refine ⟨_, pss_cons (ps_set (i := 2) scCrP.nd rfl (.inr rfl) (pe_dc (own := [("place", 5), ("number", 4)]) (g := gTup K 2 (gCons (gName 5) (gCons (gName 4) gNil))) (tt := tYes) (tk := tVar 4) (tv := tVar 5) rfl scCrP.nd (pi_enum rfl mEn (pa_cons (pe_call GN hr (by rfl) gN kN bN .nil pass0 (pa_cons (pv 1) pa_nil)) pa_nil))
          (blkOk_by (own := [("place", 5), ("number", 4)]) (N := ["one", "other", "places", "turn", "number", "place", "first", "second"]) (sc := defScope d_crossed_pairs) (by decide +kernel))
          (fun _ _ _ _ _ => pg_tup rfl (pgs_cons (pg_name (i := 5) scCrP.nd rfl (.inl rfl)) (pgs_cons (pg_name (i := 4) scCrP.nd rfl (.inl rfl)) pgs_nil))) (fun _ _ _ _ _ => pts_nil) (fun _ _ _ _ _ => pv 4) (fun _ _ _ _ _ => pv 5)))
      (pss_cons (ps_setLc (i := 3) (own := [("number", 4)]) (g := gName 4) (tt := tYes) rfl scCrP.nd rfl rfl (sw_true rfl rfl rfl (by decide +kernel)) (pi_list (pe_call GN hr (by rfl) gN kN bN .nil pass0 (pa_cons (pv 0) pa_nil)))
          (blkOk_by (own := [("number", 4)]) (N := ["one", "other", "places", "turn", "number", "place", "first", "second"]) (sc := defScope d_crossed_pairs) (by decide +kernel))
          (fun _ _ _ _ _ => pg_name (i := 4) scCrP.nd rfl (.inl rfl)) (fun _ _ _ _ _ => pts_nil) (fun _ _ _ _ _ => pe_dget hu (pv 2) (pv 4) (fun _ _ => rfl)))
      (pss_one (ps_ret (pe_callB call_len_seq (by rfl) mL PySem.boot_len (pa_cons (pe_lc (own := [("first", 6), ("second", 7)]) (g := gTup K 2 (gCons (gName 6) (gCons (gName 7) gNil))) rfl scCrP.nd (pi_comb rfl gC (pa_cons (pv 3) (pa_cons pe_int pa_nil)))
          (blkOk_by (own := [("first", 6), ("second", 7)]) (N := ["one", "other", "places", "turn", "number", "place", "first", "second"]) (sc := defScope d_crossed_pairs) (by decide +kernel))
          (fun _ _ _ _ _ => pg_tup rfl (pgs_cons (pg_name (i := 6) scCrP.nd rfl (.inl rfl)) (pgs_cons (pg_name (i := 7) scCrP.nd rfl (.inl rfl)) pgs_nil))) (fun _ _ _ _ _ => pts_one (pt_cmpR op_gt (pv 6) (pv 7) (nomark _))) (fun _ _ _ _ _ => pe_int)) pa_nil))))), ?_⟩
    refine ⟨_, rfl, b, rs2, R, C, g, rfl, Tb, hR, hC, fun H1 p s1 np hp => ⟨p, _, rfl, SqL.of hp, fun D nD => ?_⟩⟩
    refine lc_gen (walk_enum (K := K) (a := p) (xs := (allV (R * C) g).map V.int)) (fun i H2 => Same H1 H2 ∧ H2 D = some (.dK (plK i g))) ⟨same_upd nD, by rw [upd_same]; rfl⟩ (fun i H2 _ p => p.1.seq (SqL.of hp)) ?_ ?_
    · rintro i x H2 H3 hi ⟨s2, hD⟩ ⟨T1, x1, y1, rfl, nT1, rfl, e1, e2⟩
      cases e1
      have hi : i < R * C := by
        rw [List.length_map, allV_len'] at hi
        exact hi
      have e2 : ((allV (R * C) g).map V.int)[i]? = some y1 := e2
      rw [allV_at' hi] at e2
      cases e2
      have smT : Same H2 (upd H2 T1 (.tup [V.int (i : Nat), V.int (g i)])) := same_upd nT1
      refine ⟨T1, _, rfl, SqT.of upd_same, rfl, _, _, rfl, _, _, rfl, rfl, rfl, ?_⟩
      refine ⟨_, rfl, _, rfl, _, (Sum.inl (g i) : Key), rfl, smT _ _ hD, ?_, ?_, ?_⟩
      · have e : (plK i g).length = i := by simp [plK]
        rw [e]
        refine small1000 ?_
        have : R * C ≤ 6 * 6 := Nat.mul_le_mul hR hC
        omega
      · intro c o e
        rw [upd_ne (ne_of_none e nD)]
        exact smT _ _ (s2 _ _ e)
      · rw [upd_same, putK_new _ (by rw [plK_val hg i (by omega) i hi, if_neg (by omega)]), plK_more]
    rintro H2 ⟨s2, hD⟩
    rw [List.length_map, allV_len'] at hD
    have s02 := s1.trans s2
    -- turn
    refine ⟨_, rfl, a, rs, R, C, f, rfl, Ta.mono s02, hR, hC, fun H3 p3 s3 np3 hp3 => ⟨p3, rfl, ⟨_, SqL.of hp3⟩, fun D4 nD4 => ?_⟩⟩
    refine lc_gen (walk_list (K := K) (a := p3) (xs := (allV (R * C) f).map V.int)) (fun i H4 => Same H3 H4 ∧ H4 D4 = some (.lst (((crossL (R * C) f g).take i).map fun x : Nat => V.int x))) ⟨same_upd nD4, by rw [upd_same]; rfl⟩ (fun i H4 _ p => p.1.seq (SqL.of hp3)) ?_ ?_
    · rintro i x H4 H5 hi ⟨s4, hD4⟩ ⟨rfl, hx⟩
      have hi : i < R * C := by
        rw [List.length_map, allV_len'] at hi
        exact hi
      rw [allV_at' hi] at hx
      cases hx
      refine ⟨rfl, ?_⟩
      have hg5 : DGet H5 D (V.int (f i)) (some (V.int (posOf (R * C) g (f i) : Nat))) := by
        have h := DGet.k (k := (Sum.inl (f i) : Key)) ((s3.trans s4) _ _ hD)
        rw [plK_pos hf hg hi] at h
        exact h
      have hx : (crossL (R * C) f g)[i]? = some (posOf (R * C) g (f i)) := crossL_get hi
      refine ⟨_, rfl, _, rfl, D, _, rfl, hg5, _, hD4, ?_, ?_, ?_⟩
      · rw [List.length_map, List.length_take]
        refine small1000 ?_
        have := crossL_map (f := f) (g := g) hR hC
        omega
      · intro c o e
        rw [upd_ne (ne_of_none e nD4)]
        exact s4 _ _ e
      · rw [upd_same, take_more hx, List.map_append]
        rfl
    rintro H4 ⟨s4, hD4⟩
    have et : (crossL (R * C) f g).take ((allV (R * C) f).map V.int).length = crossL (R * C) f g := List.take_of_length_le (by rw [List.length_map, allV_len', crossL_len]; exact Nat.le_refl _)
    rw [et] at hD4
    have s04 := s02.trans (s3.trans s4)
    -- the pairs
    refine ⟨.ref D4, rfl, D4, _, rfl, SqL.of hD4, fun D5 nD5 => ?_⟩
    have hpl : (prs ((crossL (R * C) f g).map fun x : Nat => V.int x)).length = (prs (crossL (R * C) f g)).length := by rw [prs_map, List.length_map]
    refine lc_gen (walk_comb (xs := (crossL (R * C) f g).map fun x : Nat => V.int x)) (fun i H5 => Same H4 H5 ∧ H5 D5 = some (.lst (List.replicate (((prs (crossL (R * C) f g)).take i).countP fun p => decide (p.2 < p.1)) (V.int 1)))) ⟨same_upd nD5, by rw [upd_same]; rfl⟩ (fun _ _ _ _ => True.intro) ?_ ?_
    · rintro i x H5 H6 hi ⟨s5, hD5⟩ ⟨T1, x1, y1, rfl, nT1, rfl, e1, e2⟩
      rw [hpl] at hi
      have hx : (prs (crossL (R * C) f g))[i]? = some (prs (crossL (R * C) f g))[i] := List.getElem?_eq_getElem hi
      generalize (prs (crossL (R * C) f g))[i] = uv at hx
      obtain ⟨u, v⟩ := uv
      have e1 : Option.map Prod.fst (prs ((crossL (R * C) f g).map fun x : Nat => V.int x))[i]? = some x1 := e1
      have e2 : Option.map Prod.snd (prs ((crossL (R * C) f g).map fun x : Nat => V.int x))[i]? = some y1 := e2
      rw [prs_map, List.getElem?_map, hx] at e1 e2
      cases e1
      cases e2
      have smT : Same H5 (upd H5 T1 (.tup [V.int (u : Nat), V.int (v : Nat)])) := same_upd nT1
      refine ⟨T1, _, rfl, SqT.of upd_same, rfl, _, _, rfl, _, _, rfl, rfl, rfl, ?_⟩
      refine ⟨_, rfl, _, rfl, _, _, rfl, rfl, _, rfl, ?_⟩
      have ec : ((prs (crossL (R * C) f g)).take (i + 1)).countP (fun p => decide (p.2 < p.1)) = ((prs (crossL (R * C) f g)).take i).countP (fun p => decide (p.2 < p.1)) + if v < u then 1 else 0 := by
        rw [take_more hx, List.countP_append, List.countP_singleton]
        by_cases z : v < u
        · rw [if_pos z, if_pos (by exact decide_eq_true z)]
        · rw [if_neg z, if_neg (by simpa using z)]
      refine decI (fun z => ?_) (fun z => ?_)
      · rw [if_pos (by omega)] at ec
        refine ⟨_, smT _ _ hD5, ?_, ?_, ?_⟩
        · rw [List.length_replicate]
          have h1 : ((prs (crossL (R * C) f g)).take i).countP (fun p => decide (p.2 < p.1)) ≤ ((prs (crossL (R * C) f g)).take i).length := List.countP_le_length
          rw [List.length_take] at h1
          have h2 := prs_short (crossL (R * C) f g)
          have h3 := crossL_map (f := f) (g := g) hR hC
          have h4 : (crossL (R * C) f g).length * (crossL (R * C) f g).length ≤ 36 * 36 := Nat.mul_le_mul h3 h3
          have h5 : (36 * 36 : Nat) < sizeLine := by decide
          omega
        · intro c o e
          rw [upd_ne (ne_of_none e nD5)]
          exact smT _ _ (s5 _ _ e)
        · rw [upd_same, ec, List.replicate_succ']
      · rw [if_neg (by omega), Nat.add_zero] at ec
        refine ⟨fun c o e => smT _ _ (s5 _ _ e), ?_⟩
        rw [ec]
        exact smT _ _ hD5
    rintro H5 ⟨s5, hD5⟩
    rw [hpl, List.take_length, prs_inv] at hD5
    refine ⟨D5, _, rfl, .inl (SqL.of hD5), ?_⟩
    rw [List.length_replicate]
    exact q _ (s04.trans s5)
theorem ok_stA {fa fE : Addr} {fd fdE : FuncData} {k : Nat} (F : Fun K "steps_apart" "steps_apart" d_steps_apart fa fd) (mA : mg "abs" = none)
    (GE : FnOk P w K mg base CX0 (k + 1) fE fdE ["tray"] spEmpty) (gE : mg "empty_place" = some (.ref fE)) (kE : PySem.W.keepIn K (.ref fE) = true) (bE : Binds K fdE ["tray"] []) :
    FnOk P w K mg base CX0 (k + 2) fa fd ["one", "other"] spStA := by
  refine F.ok scStA (fun vs H Q E h => ?_) (fun cdv A outer s H vs Q E hr h => ?_)
  · obtain ⟨a, b, rs, rs2, R, C, f, g, rfl, _⟩ := h
    rfl
  · obtain ⟨a, b, rs, rs2, R, C, ⟨f, r, c⟩, ⟨f2, r2, c2⟩, rfl, Ta, Tb, g, g2, q⟩ := h
    have hR := g.r6
    refine ⟨_, pss_cons (ps_asg (pe_call GE hr (by rfl) gE kE bE .nil pass0 (pa_cons (pv 0) pa_nil)) (pg_tup rfl (pgs_cons (pg_name (i := 2) scStA.nd rfl (.inl rfl)) (pgs_cons (pg_name (i := 3) scStA.nd rfl (.inl rfl)) pgs_nil))))
      (pss_cons (ps_asg (pe_call GE hr (by rfl) gE kE bE .nil pass0 (pa_cons (pv 1) pa_nil)) (pg_tup rfl (pgs_cons (pg_name (i := 4) scStA.nd rfl (.inl rfl)) (pgs_cons (pg_name (i := 5) scStA.nd rfl (.inl rfl)) pgs_nil))))
      (pss_one (ps_ret (pe_op op_add (pe_callB call_abs (by rfl) mA (by decide +kernel) (pa_cons (pe_op op_sub (pv 2) (pv 4)) pa_nil)) (pe_callB call_abs (by rfl) mA (by decide +kernel) (pa_cons (pe_op op_sub (pv 3) (pv 5)) pa_nil)))))), ?_⟩
    refine ⟨_, rfl, a, rs, R, C, f, r, c, rfl, Ta, g.z, g.uniq, by omega, fun H1 p s1 np hp => ?_⟩
    refine ⟨p, _, rfl, SqT.of hp, rfl, _, _, rfl, _, _, rfl, rfl, ?_⟩
    refine ⟨_, rfl, b, rs2, R, C, f2, r2, c2, rfl, Tb.mono s1, g2.z, g2.uniq, by omega, fun H2 p2 s2 np2 hp2 => ?_⟩
    refine ⟨p2, _, rfl, SqT.of hp2, rfl, _, _, rfl, _, _, rfl, rfl, ?_⟩
    refine ⟨_, rfl, _, rfl, (r : Int), (r2 : Int), rfl, rfl, _, rfl, _, rfl, _, rfl, (c : Int), (c2 : Int), rfl, rfl, _, rfl, _, _, rfl, rfl, ?_⟩
    have e : (if (r : Int) - r2 < 0 then -((r : Int) - r2) else (r : Int) - r2) + (if (c : Int) - c2 < 0 then -((c : Int) - c2) else (c : Int) - c2) = (steps r c r2 c2 : Nat) := by
      rw [absI, absI]
      unfold steps
      rw [Int.natCast_add]
    show Q (V.int ((if (r : Int) - r2 < 0 then -((r : Int) - r2) else (r : Int) - r2) + (if (c : Int) - c2 < 0 then -((c : Int) - c2) else (c : Int) - c2))) H2
    rw [e]
    exact q _ (s1.trans s2)
end
end Tr
/-! The answers: made, and what they show -/
namespace Tr
open PySem PySem.Spec PyProof.Rows L2
theorem scLI : FnScope ["self", "slides"] ["self", "slides"] (defScope d_Led_init) := ⟨rfl, rfl, rfl, by decide +kernel, rfl, by decide +kernel, by decide +kernel⟩
theorem scLS : FnScope ["self", "one", "other", "reached"] ["self", "one", "other"] (defScope d_Led_shows) := ⟨rfl, rfl, rfl, by decide +kernel, rfl, by decide +kernel, by decide +kernel⟩
theorem scOI : FnScope ["self", "crossed", "steps"] ["self", "crossed", "steps"] (defScope d_Odd_init) := ⟨rfl, rfl, rfl, by decide +kernel, rfl, by decide +kernel, by decide +kernel⟩
theorem scOS : FnScope ["self", "one", "other"] ["self", "one", "other"] (defScope d_Odd_shows) := ⟨rfl, rfl, rfl, by decide +kernel, rfl, by decide +kernel, by decide +kernel⟩
theorem scPI : FnScope ["self", "one", "other"] ["self", "one", "other"] (defScope d_Passed_init) := ⟨rfl, rfl, rfl, by decide +kernel, rfl, by decide +kernel, by decide +kernel⟩
theorem scPS : FnScope ["self", "one", "other", "pieces"] ["self", "one", "other"] (defScope d_Passed_shows) := ⟨rfl, rfl, rfl, by decide +kernel, rfl, by decide +kernel, by decide +kernel⟩
theorem scPF : FnScope ["self", "tray", "pieces"] ["self", "tray"] (defScope d_Passed_is_first) := ⟨rfl, rfl, rfl, by decide +kernel, rfl, by decide +kernel, by decide +kernel⟩
theorem put1 (f : Str) (v : V) : putF f v [] = [(f, v)] := rfl
theorem inV_ints (x : Int) (L : List Int) : inV (.int x) (L.map V.int) = decide (x ∈ L) := by
  unfold inV
  by_cases h : x ∈ L
  · rw [decide_eq_true h, List.any_eq_true]
    exact ⟨.int x, List.mem_map.mpr ⟨x, h, rfl⟩, by show decide (x = x) = true; exact decide_eq_true rfl⟩
  · rw [decide_eq_false h, List.any_eq_false]
    intro z hz e
    obtain ⟨y, hy, rfl⟩ := List.mem_map.mp hz
    have e : decide (y = x) = true := e
    exact h (of_decide_eq_true e ▸ hy)
theorem flatI (L : List Int) : (L.map V.int).all flatV = true := by
  rw [List.all_eq_true]
  intro x hx
  obtain ⟨n, _, rfl⟩ := List.mem_map.mp hx
  rfl
theorem pcs_mem {n : Nat} {f : Fld} (hf : Full n f) (x : Int) : x ∈ pcsL n f ↔ 0 < x ∧ x < n := by
  unfold pcsL
  rw [List.mem_filter]
  have h1 : x ∈ allV n f ↔ 0 ≤ x ∧ x < n := by
    rw [hf.mem_iff, List.mem_map]
    constructor
    · rintro ⟨k, hk, rfl⟩
      have := List.mem_range.mp hk
      omega
    · rintro ⟨h1, h2⟩
      exact ⟨x.toNat, List.mem_range.mpr (by omega), by omega⟩
  rw [h1, decide_eq_true_eq]
  omega
theorem idx_ints {L : List Int} {x : Int} (h : x ∈ L) : (L.map V.int)[L.idxOf x]? = some (V.int x) ∧ ∀ (m : Nat) (z : V), m < L.idxOf x → (L.map V.int)[m]? = some z → eqV z (V.int x) = false := by
  have hl := List.idxOf_lt_length_of_mem h
  refine ⟨?_, fun m z hm e => ?_⟩
  · rw [List.getElem?_map, List.getElem?_eq_getElem hl, List.getElem_idxOf hl]
    rfl
  · have hml : m < L.length := by omega
    rw [List.getElem?_map, List.getElem?_eq_getElem hml] at e
    have e := Option.some.inj e
    subst e
    have h2 := List.not_of_lt_findIdx (p := (· == x)) (xs := L) hm
    exact h2
theorem idx_filter {p : Int → Bool} {x y : Int} (hx : p x = true) (hy : p y = true) : ∀ l : List Int, x ∈ l → y ∈ l → ((l.filter p).idxOf x < (l.filter p).idxOf y ↔ l.idxOf x < l.idxOf y)
  | [], h, _ => nomatch h
  | a :: l, mx, my => by
    have ih : x ∈ l → y ∈ l → ((l.filter p).idxOf x < (l.filter p).idxOf y ↔ l.idxOf x < l.idxOf y) := idx_filter hx hy l
    by_cases ha : p a = true
    · rw [List.filter_cons_of_pos ha]
      simp only [List.idxOf_cons]
      by_cases e1 : a = x
      · subst e1
        by_cases e2 : a = y
        · subst e2
          simp
        · simp only [beq_self_eq_true, beq_false_of_ne e2, cond_true, cond_false]
          omega
      · by_cases e2 : a = y
        · subst e2
          simp only [beq_self_eq_true, beq_false_of_ne e1, cond_true, cond_false]
          omega
        · have m1 : x ∈ l := by
            rcases List.mem_cons.mp mx with z | z
            · exact absurd z.symm e1
            · exact z
          have m2 : y ∈ l := by
            rcases List.mem_cons.mp my with z | z
            · exact absurd z.symm e2
            · exact z
          have := ih m1 m2
          simp only [beq_false_of_ne e1, beq_false_of_ne e2, cond_false]
          omega
    · have e1 : a ≠ x := fun e => ha (e ▸ hx)
      have e2 : a ≠ y := fun e => ha (e ▸ hy)
      have m1 : x ∈ l := by
        rcases List.mem_cons.mp mx with z | z
        · exact absurd z.symm e1
        · exact z
      have m2 : y ∈ l := by
        rcases List.mem_cons.mp my with z | z
        · exact absurd z.symm e2
        · exact z
      rw [List.filter_cons_of_neg ha]
      simp only [List.idxOf_cons]
      have := ih m1 m2
      simp only [beq_false_of_ne e1, beq_false_of_ne e2, cond_false]
      omega
theorem pcs_idx {n : Nat} {f : Fld} (hf : Full n f) {x y : Int} (h1 : 0 < x ∧ x < n) (h2 : 0 < y ∧ y < n) : ((pcsL n f).idxOf x < (pcsL n f).idxOf y ↔ posOf n f x < posOf n f y) := by
  have mx := (pcs_mem hf x).mpr h1
  have my := (pcs_mem hf y).mpr h2
  exact idx_filter (decide_eq_true (by omega)) (decide_eq_true (by omega)) _ (List.mem_filter.mp mx).1 (List.mem_filter.mp my).1
section
variable {P : Program} {w : World} {K : PySem.W.Frag} {mg : Str → Option Value} {base : Heap}
theorem ok_LI {fa CL : Addr} {fd : FuncData} {k : Nat} (F : Fun K "__init__" "Led.__init__" d_Led_init fa fd) (cl : Cls K CL) (nf : NoAttr K CL "slides") : FnOk P w K mg base CX0 (k + 1) fa fd ["self", "slides"] (spI1 "slides" CL) := by
  refine F.ok scLI (fun vs H Q E h => ?_) (fun cdv A outer s H vs Q E hr h => ?_)
  · obtain ⟨x, dx, v, rfl, _⟩ := h
    rfl
  · obtain ⟨x, dx, v, rfl, hx, q⟩ := h
    refine ⟨_, pss_one (ps_fld (pv 0) (pv 1) rfl), ?_⟩
    refine ⟨_, rfl, _, rfl, x, CL, dx, [], rfl, hx, cl, nf, (by show 0 < 1000; decide), ?_⟩
    rw [put1]
    exact q [(("slides" : Str), v)] rfl (by rw [List.lookup_cons, beq_false_of_ne (by decide +kernel), List.lookup_nil])
theorem ok_OI {fa CO : Addr} {fd : FuncData} {k : Nat} (F : Fun K "__init__" "Odd.__init__" d_Odd_init fa fd) (cl : Cls K CO) (n1 : NoAttr K CO "crossed") (n2 : NoAttr K CO "steps") : FnOk P w K mg base CX0 (k + 1) fa fd ["self", "crossed", "steps"] (spI2 "crossed" "steps" CO) := by
  refine F.ok scOI (fun vs H Q E h => ?_) (fun cdv A outer s H vs Q E hr h => ?_)
  · obtain ⟨x, dx, v, u, rfl, _⟩ := h
    rfl
  · obtain ⟨x, dx, v, u, rfl, hx, q⟩ := h
    refine ⟨_, pss_cons (ps_fld (pv 0) (pv 1) rfl) (pss_one (ps_fld (pv 0) (pv 2) rfl)), ?_⟩
    refine ⟨_, rfl, _, rfl, x, CO, dx, [], rfl, hx, cl, n1, (by show 0 < 1000; decide), ?_⟩
    refine ⟨_, rfl, _, rfl, x, CO, dx, _, rfl, upd_same, cl, n2, (by show 1 < 1000; decide), ?_⟩
    have c : ¬ (("crossed" : Str) = "steps") := by decide +kernel
    have e : putF "steps" u (putF "crossed" v []) = [(("crossed" : Str), v), (("steps" : Str), u)] := by
      rw [put1]
      show (if ("crossed" : Str) = "steps" then _ else (("crossed" : Str), v) :: putF "steps" u []) = _
      rw [if_neg c, put1]
    rw [upd_upd, e]
    refine q _ rfl ?_ ?_ ?_
    · rw [List.lookup_cons, beq_false_of_ne (fun h => c h.symm), List.lookup_cons, beq_self_eq_true]
    · rw [List.lookup_cons, beq_false_of_ne (by decide +kernel), List.lookup_cons, beq_false_of_ne (by decide +kernel), List.lookup_nil]
    · rw [List.lookup_cons, beq_false_of_ne (by decide +kernel), List.lookup_cons, beq_false_of_ne (by decide +kernel), List.lookup_nil]
theorem ok_PI {fa CP : Addr} {fd : FuncData} {k : Nat} (F : Fun K "__init__" "Passed.__init__" d_Passed_init fa fd) (cl : Cls K CP) (n1 : NoAttr K CP "one") (n2 : NoAttr K CP "other") : FnOk P w K mg base CX0 (k + 1) fa fd ["self", "one", "other"] (spI2 "one" "other" CP) := by
  refine F.ok scPI (fun vs H Q E h => ?_) (fun cdv A outer s H vs Q E hr h => ?_)
  · obtain ⟨x, dx, v, u, rfl, _⟩ := h
    rfl
  · obtain ⟨x, dx, v, u, rfl, hx, q⟩ := h
    refine ⟨_, pss_cons (ps_fld (pv 0) (pv 1) rfl) (pss_one (ps_fld (pv 0) (pv 2) rfl)), ?_⟩
    refine ⟨_, rfl, _, rfl, x, CP, dx, [], rfl, hx, cl, n1, (by show 0 < 1000; decide), ?_⟩
    refine ⟨_, rfl, _, rfl, x, CP, dx, _, rfl, upd_same, cl, n2, (by show 1 < 1000; decide), ?_⟩
    have c : ¬ (("one" : Str) = "other") := by decide +kernel
    have e : putF "other" u (putF "one" v []) = [(("one" : Str), v), (("other" : Str), u)] := by
      rw [put1]
      show (if ("one" : Str) = "other" then _ else (("one" : Str), v) :: putF "other" u []) = _
      rw [if_neg c, put1]
    rw [upd_upd, e]
    refine q _ rfl ?_ ?_ ?_
    · rw [List.lookup_cons, beq_false_of_ne (fun h => c h.symm), List.lookup_cons, beq_self_eq_true]
    · rw [List.lookup_cons, beq_false_of_ne (by decide +kernel), List.lookup_cons, beq_false_of_ne (by decide +kernel), List.lookup_nil]
    · rw [List.lookup_cons, beq_false_of_ne (by decide +kernel), List.lookup_cons, beq_false_of_ne (by decide +kernel), List.lookup_nil]
theorem ok_LS {fa CL CS fM : Addr} {fd fdM : FuncData} {k jM : Nat} (F : Fun K "shows" "Led.shows" d_Led_shows fa fd) (cl : Cls K CL) (nf : NoAttr K CL "slides") (gP : mg "BadSlides" = some (.ref CS)) (eP : PySem.W.exmOne K (.ref CS) (.ref CS) = some true) (hM : jM ≤ k)
    (GM : FnOk P w K mg base (L2.CX P w) jM fM fdM ["tray", "slides"] (spMoved CS)) (gM : mg "moved" = some (.ref fM)) (kM : PySem.W.keepIn K (.ref fM) = true) (bM : Binds K fdM ["tray", "slides"] []) :
    FnOk P w K mg base CX0 (k + 1) fa fd ["self", "one", "other"] (spShL CL) := by
  refine F.ok scLS (fun vs H Q E h => ?_) (fun cdv A outer s H vs Q E hr h => ?_)
  · obtain ⟨o, dx, a, b, fs, ws, rs, rs2, R, C, s, g, rfl, _⟩ := h
    rfl
  · obtain ⟨o, dx, a, b, fs, ws, rs, rs2, R, C, s, g, rfl, hO, h1, Ta, g1, Tb, g2, hw, q⟩ := h
    refine ⟨_, pss_cons (ps_try_only (tb := fun W => tAsg (tCallS (spMoved CS) (WE W) (tCons (tVar 1) (tCons (tFld K (tVar 0) "slides") tNil))) (gName 3)) rfl rfl ⟨rfl, by decide, .inl gP⟩ takes0
        (fun W pn xe tk _ => pss_one (ps_set (i := 3) scLS.nd rfl (.inl rfl) (by exact (pe_callS GM (hr.mono hM) (by rfl) gM kM bM (fun σ => passAt tk σ) (by exact (pa_cons (pv 1) (pa_cons (pe_fld (pv 0) rfl) pa_nil)))))))
        (fun a oe cls d pn _ _ => pss_one (ps_ret pe_bl)))
      (pss_one (ps_ret (pe_cmpR (op_eqD hr.units) (pv 3) (pv 2) (nomark _)))), ?_⟩
    refine ⟨_, rfl, _, rfl, o, CL, dx, fs, _, rfl, hO, cl, nf, h1, a, rs, R, C, s, ws, rfl, Ta, g1, fun s' hg H' p rs' sm np nrs T' => ?_, fun hn H' sm => ?_⟩
    · refine ⟨_, rfl, _, rfl, _, _, T'.dp, (Tb.mono sm).dp, shaped_rows _, shaped_rows _, ?_⟩
      rw [eqv_trays]
      have hl : ledB R C s ws g.1 = decide (∀ k, k < R * C → s'.1 k = g.1 k) := by
        unfold ledB
        rw [hg]
      rw [← hl]
      exact q _ sm
    · have hl : ledB R C s ws g.1 = false := by
        unfold ledB
        rw [hn]
      rw [hl] at q
      exact ⟨true, eP, (fun _ a ha => q _ sm), (fun z => nomatch z)⟩
theorem ok_OS {fa CO fW fC fZ : Addr} {fd fdW fdC fdZ : FuncData} {k jW jC jZ : Nat} (F : Fun K "shows" "Odd.shows" d_Odd_shows fa fd) (cl : Cls K CO) (n1 : NoAttr K CO "crossed") (n2 : NoAttr K CO "steps") (hW : jW ≤ k) (hC : jC ≤ k) (hZ : jZ ≤ k)
    (GW : FnOk P w K mg base CX0 jW fW fdW ["tray"] spWide) (gW : mg "is_wide" = some (.ref fW)) (kW : PySem.W.keepIn K (.ref fW) = true) (bW : Binds K fdW ["tray"] [])
    (GC : FnOk P w K mg base CX0 jC fC fdC ["one", "other"] spCrP) (gC : mg "crossed_pairs" = some (.ref fC)) (kC : PySem.W.keepIn K (.ref fC) = true) (bC : Binds K fdC ["one", "other"] [])
    (GZ : FnOk P w K mg base CX0 jZ fZ fdZ ["one", "other"] spStA) (gZ : mg "steps_apart" = some (.ref fZ)) (kZ : PySem.W.keepIn K (.ref fZ) = true) (bZ : Binds K fdZ ["one", "other"] []) :
    FnOk P w K mg base CX0 (k + 1) fa fd ["self", "one", "other"] (spShO CO) := by
  refine F.ok scOS (fun vs H Q E h => ?_) (fun cdv A outer s H vs Q E hr h => ?_)
  · obtain ⟨o, dx, a, b, fs, x, y, rs, rs2, R, C, s, g, rfl, _⟩ := h
    rfl
  · obtain ⟨o, dx, a, b, fs, x, y, rs, rs2, R, C, s, g, rfl, hO, h1, h2, Ta, g1, Tb, g2, hx, hy, q⟩ := h
    refine ⟨_, pss_one (ps_ret (pe_and (pe_call GW (hr.mono hW) (by rfl) gW kW bW .nil pass0 (pa_cons (pv 1) pa_nil))
      (pe_and (pe_cmpR op_eq (pe_op op_mod (pe_op op_add (pe_fld (pv 0) rfl) (pe_fld (pv 0) rfl)) pe_int) pe_int (nomark _))
      (pe_and (pe_cmpR op_eq (pe_fld (pv 0) rfl) (pe_call GC (hr.mono hC) (by rfl) gC kC bC .nil pass0 (pa_cons (pv 1) (pa_cons (pv 2) pa_nil))) (nomark _))
      (pe_one (pe_cmpR op_eq (pe_fld (pv 0) rfl) (pe_call GZ (hr.mono hZ) (by rfl) gZ kZ bZ .nil pass0 (pa_cons (pv 1) (pa_cons (pv 2) pa_nil))) (nomark _))))))), ?_⟩
    refine ⟨_, rfl, a, rs, R, C, s.1, rfl, Ta, g1.r0, _, rfl, decI (fun hm => ?_) (fun hm => ?_)⟩
    · refine ⟨_, rfl, o, CO, dx, fs, _, rfl, hO, cl, n1, h1, _, rfl, o, CO, dx, fs, _, rfl, hO, cl, n2, h2, _, _, rfl, rfl, _, 2, rfl, rfl, (by show (0 : Int) < 2; decide), rfl, _, rfl, decI (fun z => ?_) (fun z => ?_)⟩
      · have z := V.int.inj z
        refine ⟨_, rfl, o, CO, dx, fs, _, rfl, hO, cl, n1, h1, _, rfl, _, rfl, a, b, rs, rs2, R, C, s.1, g.1, rfl, Ta, Tb, g1.r6, g1.c6, g1.full, g2.full, fun H1 s1 => ⟨rfl, _, rfl, decI (fun z1 => ?_) (fun z1 => ?_)⟩⟩
        · have z1 := V.int.inj z1
          refine ⟨_, rfl, o, CO, dx, fs, _, rfl, s1 _ _ hO, cl, n2, h2, _, rfl, _, rfl, a, b, rs, rs2, R, C, s, g, rfl, Ta.mono s1, Tb.mono s1, g1, g2, fun H2 s2 => ⟨rfl, ?_⟩⟩
          have eb : decide (V.int y = V.int (steps s.2.1 s.2.2 g.2.1 g.2.2 : Nat)) = oddB R C s g x y := decide_eq_decide.mpr ⟨fun h => ⟨hm, z, z1, V.int.inj h⟩, fun h => by rw [h.2.2.2]⟩
          rw [eb]
          exact q _ (s1.trans s2)
        · have hb : oddB R C s g x y = false := decide_eq_false fun h => z1 (by rw [h.2.2.1])
          rw [hb] at q
          exact q _ s1
      · have hb : oddB R C s g x y = false := decide_eq_false fun h => z (congrArg V.int h.2.1)
        rw [hb] at q
        exact q _ (Same.refl _)
    · have hb : oddB R C s g x y = false := decide_eq_false fun h => hm h.1
      rw [hb] at q
      exact q _ (Same.refl _)
def spFirst (CP : Addr) : Sp := fun vs H Q _ => ∃ (o dx a : Addr) (fs : List (Str × V)) (x y : Int) (rs : List Addr) (R C : Nat) (f : Fld), vs = [.ref o, .ref a] ∧ H o = some (.ins CP dx fs) ∧ fs.lookup ("one" : Str) = some (.int x) ∧ fs.lookup ("other" : Str) = some (.int y) ∧
  TrayAt H a rs R C f ∧ R ≤ 6 ∧ C ≤ 6 ∧ Full (R * C) f ∧ (0 < x ∧ x < (R * C : Nat)) ∧ (0 < y ∧ y < (R * C : Nat)) ∧ ∀ H', Same H H' → Q (.bl (decide (posOf (R * C) f x < posOf (R * C) f y))) H'
theorem ok_PF {fa CP fN : Addr} {fd fdN : FuncData} {k jN : Nat} (F : Fun K "is_first" "Passed.is_first" d_Passed_is_first fa fd) (cl : Cls K CP) (n1 : NoAttr K CP "one") (n2 : NoAttr K CP "other") (hN : jN ≤ k)
    (GN : FnOk P w K mg base CX0 jN fN fdN ["tray"] spPcs) (gN : mg "pieces_of" = some (.ref fN)) (kN : PySem.W.keepIn K (.ref fN) = true) (bN : Binds K fdN ["tray"] []) :
    FnOk P w K mg base CX0 (k + 1) fa fd ["self", "tray"] (spFirst CP) := by
  refine F.ok scPF (fun vs H Q E h => ?_) (fun cdv A outer s H vs Q E hr h => ?_)
  · obtain ⟨o, dx, a, fs, x, y, rs, R, C, f, rfl, _⟩ := h
    rfl
  · obtain ⟨o, dx, a, fs, x, y, rs, R, C, f, rfl, hO, h1, h2, Ta, hR, hC, hf, hx, hy, q⟩ := h
    refine ⟨_, pss_cons (ps_set (i := 2) scPF.nd rfl (.inl rfl) (pe_call GN (hr.mono hN) (by rfl) gN kN bN .nil pass0 (pa_cons (pv 1) pa_nil)))
      (pss_one (ps_ret (pe_cmpR op_lt (pe_bm PySem.F.plainAttrs_list PySem.F.slot_list_index PySem.F.type_list_index mt_index (pv 2) (pa_cons (pe_fld (pv 0) rfl) pa_nil)) (pe_bm PySem.F.plainAttrs_list PySem.F.slot_list_index PySem.F.type_list_index mt_index (pv 2) (pa_cons (pe_fld (pv 0) rfl) pa_nil)) (nomark _)))), ?_⟩
    refine ⟨_, rfl, a, rs, R, C, f, rfl, Ta, hR, hC, fun H1 p s1 np hp => ?_⟩
    obtain ⟨i1, i2⟩ := idx_ints ((pcs_mem hf x).mpr hx)
    obtain ⟨j1, j2⟩ := idx_ints ((pcs_mem hf y).mpr hy)
    refine ⟨_, rfl, .inl ⟨rfl, _, SqL.of hp⟩, _, rfl, o, CP, dx, fs, _, rfl, s1 _ _ hO, cl, n1, h1, p, _, _, _, _, rfl, rfl, SqL.of hp, rfl, flatI _, i1, beq_self_eq_true _, i2, ?_⟩
    refine ⟨_, rfl, .inl ⟨rfl, _, SqL.of hp⟩, _, rfl, o, CP, dx, fs, _, rfl, s1 _ _ hO, cl, n2, h2, p, _, _, _, _, rfl, rfl, SqL.of hp, rfl, flatI _, j1, beq_self_eq_true _, j2, ?_⟩
    refine ⟨_, _, rfl, rfl, ?_⟩
    have e : decide ((((pcsL (R * C) f).idxOf x : Nat) : Int) < (((pcsL (R * C) f).idxOf y : Nat) : Int)) = decide (posOf (R * C) f x < posOf (R * C) f y) := decide_eq_decide.mpr (by rw [← pcs_idx hf hx hy]; omega)
    show Q (V.bl (decide ((((pcsL (R * C) f).idxOf x : Nat) : Int) < (((pcsL (R * C) f).idxOf y : Nat) : Int)))) H1
    rw [e]
    exact q _ s1
theorem ok_PS {fa CP fW fN fI : Addr} {fd fdW fdN fdI : FuncData} {k jW jN jI : Nat} (F : Fun K "shows" "Passed.shows" d_Passed_shows fa fd) (cl : Cls K CP) (n1 : NoAttr K CP "one") (n2 : NoAttr K CP "other") (mI : Meth K CP "is_first" fI) (hW : jW ≤ k) (hN : jN ≤ k) (hI : jI ≤ k)
    (GW : FnOk P w K mg base CX0 jW fW fdW ["tray"] spWide) (gW : mg "is_wide" = some (.ref fW)) (kW : PySem.W.keepIn K (.ref fW) = true) (bW : Binds K fdW ["tray"] [])
    (GN : FnOk P w K mg base CX0 jN fN fdN ["tray"] spPcs) (gN : mg "pieces_of" = some (.ref fN)) (kN : PySem.W.keepIn K (.ref fN) = true) (bN : Binds K fdN ["tray"] [])
    (GI : FnOk P w K mg base CX0 jI fI fdI ["self", "tray"] (spFirst CP)) (bI : Binds K fdI ["self", "tray"] []) :
    FnOk P w K mg base CX0 (k + 1) fa fd ["self", "one", "other"] (spShP CP) := by
  refine F.ok scPS (fun vs H Q E h => ?_) (fun cdv A outer s H vs Q E hr h => ?_)
  · obtain ⟨o, dx, a, b, fs, x, y, rs, rs2, R, C, s, g, rfl, _⟩ := h
    rfl
  · obtain ⟨o, dx, a, b, fs, x, y, rs, rs2, R, C, s, g, rfl, hO, h1, h2, h3, Ta, g1, Tb, g2, hx, hy, q⟩ := h
    refine ⟨_, pss_cons (ps_if (pt_val (pe_call GW (hr.mono hW) (by rfl) gW kW bW .nil pass0 (pa_cons (pv 1) pa_nil))) (pss_one (ps_ret pe_bl)) pss_nil)
      (pss_cons (ps_set (i := 3) scPS.nd rfl (.inl rfl) (pe_call GN (hr.mono hN) (by rfl) gN kN bN .nil pass0 (pa_cons (pv 1) pa_nil)))
      (pss_cons (ps_if (PW.pt (pw_or (pt_cmpR op_notIn_seq (pe_fld (pv 0) rfl) (pv 3) rfl) (pw_or1 (pt_cmpR op_notIn_seq (pe_fld (pv 0) rfl) (pv 3) rfl)))) (pss_one (ps_ret pe_bl)) pss_nil)
      (pss_one (ps_ret (pe_cmpR op_ne (pe_meth (pv 0) cl mI GI (hr.mono hI) bI .nil pass0 (pa_cons (pv 1) pa_nil)) (pe_meth (pv 0) cl mI GI (hr.mono hI) bI .nil pass0 (pa_cons (pv 2) pa_nil)) (nomark _)))))), ?_⟩
    refine ⟨_, rfl, a, rs, R, C, s.1, rfl, Ta, g1.r0, _, rfl, decI (fun hm => ?_) (fun hm => ?_)⟩
    · have hb : passedB R C s.1 g.1 x y = false := if_pos (.inl hm)
      rw [hb] at q
      exact q _ (Same.refl _)
    refine ⟨_, rfl, a, rs, R, C, s.1, rfl, Ta, g1.r6, g1.c6, fun H1 p s1 np hp => ?_⟩
    refine ⟨_, rfl, o, CP, dx, fs, _, rfl, s1 _ _ hO, cl, n1, h1, _, rfl, p, _, rfl, .inl (SqL.of hp), rfl, flatI _, _, rfl, ?_⟩
    rw [if_pos rfl, inV_ints]
    by_cases hxm : x ∈ pcsL (R * C) s.1
    case neg =>
      rw [decide_eq_false hxm]
      have hb : passedB R C s.1 g.1 x y = false := by
        unfold passedB
        rw [if_pos (.inr (.inr (.inl fun h => hxm ((pcs_mem g1.full x).mpr h))))]
      rw [hb] at q
      exact iteT (q _ s1)
    rw [decide_eq_true hxm]
    refine iteF ?_
    refine ⟨_, rfl, o, CP, dx, fs, _, rfl, s1 _ _ hO, cl, n2, h2, _, rfl, p, _, rfl, .inl (SqL.of hp), rfl, flatI _, _, rfl, ?_⟩
    rw [if_pos rfl, inV_ints]
    by_cases hym : y ∈ pcsL (R * C) s.1
    case neg =>
      rw [decide_eq_false hym]
      have hb : passedB R C s.1 g.1 x y = false := by
        unfold passedB
        rw [if_pos (.inr (.inr (.inr fun h => hym ((pcs_mem g1.full y).mpr h))))]
      rw [hb] at q
      exact iteT (q _ s1)
    rw [decide_eq_true hym]
    refine iteF ?_
    have mx := (pcs_mem g1.full x).mp hxm
    have my := (pcs_mem g1.full y).mp hym
    refine ⟨_, rfl, o, dx, fs, rfl, s1 _ _ hO, h3, _, rfl, o, dx, a, fs, x, y, rs, R, C, s.1, rfl, s1 _ _ hO, h1, h2, Ta.mono s1, g1.r6, g1.c6, g1.full, mx, my, fun H2 s2 => ?_⟩
    have s02 := s1.trans s2
    refine ⟨_, rfl, o, dx, fs, rfl, s02 _ _ hO, h3, _, rfl, o, dx, b, fs, x, y, rs2, R, C, g.1, rfl, s02 _ _ hO, h1, h2, Tb.mono s02, g1.r6, g1.c6, g2.full, mx, my, fun H3 s3 => ?_⟩
    refine ⟨rfl, ?_⟩
    have e : (!decide (V.bl (decide (posOf (R * C) s.1 x < posOf (R * C) s.1 y)) = V.bl (decide (posOf (R * C) g.1 x < posOf (R * C) g.1 y)))) = passedB R C s.1 g.1 x y := by
      unfold passedB
      by_cases exy : x = y
      · subst exy
        rw [if_pos (.inr (.inl rfl)), decide_eq_false (Nat.lt_irrefl _), decide_eq_false (Nat.lt_irrefl _)]
        rfl
      · rw [if_neg (fun h => by
          rcases h with h | h | h | h
          · exact hm h
          · exact exy h
          · exact h mx
          · exact h my)]
        cases decide (posOf (R * C) s.1 x < posOf (R * C) s.1 y) <;> cases decide (posOf (R * C) g.1 x < posOf (R * C) g.1 y) <;> rfl
    rw [e]
    exact q _ (s02.trans s3)
end
end Tr
namespace Tr
open PySem PySem.Spec PyProof.Rows L2
theorem perm_erase {α : Type} : ∀ {l : List α} {k : Nat} {y : α}, l[k]? = some y → (y :: l.eraseIdx k).Perm l
  | [], k, y, h => by simp at h
  | a :: r, 0, y, h => by
    have e : a = y := Option.some.inj h
    subst e
    exact List.Perm.refl _
  | a :: r, k + 1, y, h => by
    have ih := perm_erase (l := r) (k := k) (y := y) h
    show (y :: a :: r.eraseIdx k).Perm (a :: r)
    exact (List.Perm.swap a y _).trans (List.Perm.cons a ih)
theorem map_erase {α β : Type} (f : α → β) : ∀ (l : List α) (k : Nat), (l.map f).eraseIdx k = (l.eraseIdx k).map f
  | [], k => by simp
  | a :: r, 0 => rfl
  | a :: r, k + 1 => by
    show f a :: (r.map f).eraseIdx k = f a :: (r.eraseIdx k).map f
    rw [map_erase f r k]
abbrev rangeI (n : Nat) : List Int := (List.range n).map fun k : Nat => (k : Int)
theorem scOrder : FnScope ["_law_number", "_law_many", "_law_left", "_law_found"] ["_law_number", "_law_many"] (defScope d_law_order) := ⟨rfl, rfl, rfl, by decide +kernel, rfl, by decide +kernel, by decide +kernel⟩
def spOrder : Sp := fun vs H Q _ => ∃ (z : Int) (n : Nat), vs = [.int z, .int n] ∧ n ≤ 1000 ∧ ∀ H' p (os : List Int), Same H H' → H p = none → H' p = some (.lst (os.map V.int)) → os.Perm (rangeI n) → Q (.ref p) H'
section
variable {P : Program} {w : World} {K : PySem.W.Frag} {mg : Str → Option Value} {base : Heap}
theorem ok_order {fa : Addr} {fd : FuncData} {k : Nat} (F : Fun K "_law_order" "_law_order" d_law_order fa fd) (mLi : mg "list" = none) (mR : mg "range" = none) (mL : mg "len" = none) :
    FnOk P w K mg base CX0 (k + 1) fa fd ["_law_number", "_law_many"] spOrder := by
  refine F.ok scOrder (fun vs H Q E h => ?_) (fun cdv A outer s H vs Q E hr h => ?_)
  · obtain ⟨z, n, rfl, _⟩ := h
    rfl
  · obtain ⟨z, n, rfl, hn, q⟩ := h
    refine ⟨_, pss_cons (ps_set (i := 2) scOrder.nd rfl (.inl rfl) (pe_listRg rfl rfl mLi (prg_1 rfl mR (pv 1))))
      (pss_cons (ps_set (i := 3) scOrder.nd rfl (.inl rfl) (pe_lst pa_nil))
      (pss_cons (ps_while PassesOwn.never (pt_cmpR (op_neD hr.units) (pv 2) (pe_lst pa_nil) (nomark _))
        (pss_cons (ps_expr (pe_bm PySem.F.plainAttrs_list PySem.F.slot_list_append PySem.F.type_list_append mt_append (pv 3) (pa_cons
            (pe_bm PySem.F.plainAttrs_list PySem.F.slot_list_pop PySem.F.type_list_pop mt_popAt (pv 2) (pa_cons (pe_op op_modN (pv 0) (pe_callB call_len_seq (by rfl) mL PySem.boot_len (pa_cons (pv 2) pa_nil))) pa_nil)) pa_nil)))
        (pss_one (ps_set (i := 0) scOrder.nd rfl (.inl rfl) (pe_op op_fdivN (pv 0) (pe_op op_add (pe_callB call_len_seq (by rfl) mL PySem.boot_len (pa_cons (pv 2) pa_nil)) pe_int))))))
      (pss_one (ps_ret (pv 3))))), ?_⟩
    refine ⟨_, rfl, n, rfl, RgOk.of_le (by omega) (by omega) (by omega) (by omega), fun L nL => ?_⟩
    have e0 : rgV 0 (n : Int) = (rangeI n).map V.int := by
      unfold rgV rangeI
      rw [List.map_map, Int.sub_zero, Int.toNat_natCast]
      refine List.map_congr_left fun k _ => ?_
      show V.int (0 + (k : Int)) = V.int k
      rw [Int.zero_add]
    rw [e0]
    refine ⟨Nat.zero_le _, fun D nD => ?_⟩
    have hDL : L ≠ D := fun e => by
      rw [← e, upd_same] at nD
      cases nD
    refine ⟨fun m σ H' => ∃ (y : Int) (left found : List Int), left.length = m ∧ σ = [some (.int y), some (.int n), some (.ref L), some (.ref D)] ∧ H' L = some (.lst (left.map V.int)) ∧ H' D = some (.lst (found.map V.int)) ∧ (found ++ left).Perm (rangeI n) ∧ Same H H',
      ⟨_, z, rangeI n, [], rfl, rfl, by rw [upd_ne hDL, upd_same], upd_same, List.Perm.refl _, (same_upd nL).trans (same_upd nD)⟩, ?_⟩
    rintro m σ H' ⟨y, left, found, hm, rfl, hL, hD, hp, sm⟩
    refine ⟨_, rfl, Nat.zero_le _, fun p np => ?_⟩
    have s1 : Same H' (upd H' p (.lst [])) := same_upd np
    have hL1 := s1 _ _ hL
    have hD1 := s1 _ _ hD
    have hall : found.length + left.length = n := by
      have := hp.length_eq
      rw [List.length_append] at this
      rw [this]
      show ((List.range n).map _).length = n
      rw [List.length_map, List.length_range]
    refine ⟨.list (left.map PyData.int), .list [], .lst (SqL.of hL1) (dp_ints _), .lst (SqL.of upd_same) .nil, PySem.W.shaped_ints _, PySem.W.shaped_ints [], _, rfl, ?_⟩
    cases left with
    | nil =>
      refine iteF ?_
      rw [List.append_nil] at hp
      exact ⟨_, rfl, q _ D found (sm.trans s1) ((same_upd nL).free nD) hD1 hp⟩
    | cons x r =>
      refine iteT ?_
      have hlp : 0 < (x :: r).length := Nat.zero_lt_succ _
      have b1 := Int.fmod_nonneg_of_pos y (b := ((x :: r).length : Int)) (by omega)
      have b2 := Int.fmod_lt_of_pos y (b := ((x :: r).length : Int)) (by omega)
      obtain ⟨j, hj⟩ := Int.eq_ofNat_of_zero_le b1
      have hjl : j < (x :: r).length := by omega
      have hget := List.getElem?_eq_getElem hjl
      have hnn : n ≤ 1000 := hn
      refine ⟨fun σ' H2 => ∃ (y' : Int) (found' : List Int), σ' = [some (.int y'), some (.int n), some (.ref L), some (.ref D)] ∧ H2 L = some (.lst (((x :: r).eraseIdx j).map V.int)) ∧ H2 D = some (.lst (found'.map V.int)) ∧ (found' ++ (x :: r).eraseIdx j).Perm (rangeI n) ∧ Same H H2, ?_, ?_⟩
      · rintro σ' H2 ⟨y', found', e1, e2, e3, e4, e5⟩
        refine ⟨((x :: r).eraseIdx j).length, ?_, y', _, found', rfl, e1, e2, e3, e4, e5⟩
        rw [List.length_eraseIdx_of_lt hjl]
        omega
      · have hs := ixN_seq (ixN_nat hjl)
        refine ⟨_, rfl, .inl ⟨rfl, _, SqL.of hD1⟩, ?_⟩
        refine ⟨_, rfl, .inl ⟨rfl, _, SqL.of hL1⟩, ?_⟩
        refine ⟨_, rfl, .ref L, rfl, L, _, rfl, .inl (SqL.of hL1), y, ((x :: r).length : Int), rfl, ?_, by omega, ?_⟩
        · rw [List.length_map]
        refine ⟨L, _, y.fmod ((x :: r).length : Int), j, V.int (x :: r)[j], rfl, rfl, hL1, by omega, by omega, ?_, ?_, ?_⟩
        · rw [List.length_map, hj]
          exact hs.1
        · rw [List.getElem?_map, hget]
          rfl
        · refine ⟨D, found.map V.int, _, rfl, rfl, ?_, ?_, ?_⟩
          · rw [upd_ne hDL.symm]
            exact hD1
          · rw [List.length_map]
            exact small1000 (by omega)
          · refine ⟨_, rfl, .ref L, rfl, L, _, rfl, .inl (SqL.of (by rw [upd_ne hDL, upd_same])), _, 1, rfl, rfl, y, _, rfl, rfl, ?_, ?_⟩
            · constructor
              · omega
              · rw [map_erase, List.length_map]
                have := List.length_eraseIdx_le (x :: r) j
                omega
            · refine ⟨_, found ++ [(x :: r)[j]], rfl, ?_, ?_, ?_, ?_⟩
              · rw [upd_ne hDL, upd_same, map_erase]
              · rw [upd_same, List.map_append]
                rfl
              · rw [List.append_assoc]
                refine List.Perm.trans (List.Perm.append_left found ?_) hp
                exact perm_erase hget
              · intro b o e
                rw [upd_ne (ne_of_none e ((same_upd nL).free nD)), upd_ne (ne_of_none e nL)]
                exact s1 _ _ (sm _ _ e)
end
end Tr
namespace Tr
open PySem PySem.Spec PyProof.Rows L2
/-- below 2 ^ n in size -/
def Bd (x : Int) (n : Nat) : Prop := x.natAbs < 2 ^ n
theorem Bd.mono {x : Int} {n m : Nat} (h : Bd x n) (hm : n ≤ m) : Bd x m := Nat.lt_of_lt_of_le h (Nat.pow_le_pow_right (by decide) hm)
theorem Bd.add {x y : Int} {n m : Nat} (h : Bd x n) (h' : Bd y m) : Bd (x + y) (n + m + 1) := by
  have h1 : Bd x (n + m) := h.mono (by omega)
  have h2 : Bd y (n + m) := h'.mono (by omega)
  unfold Bd at *
  rw [Nat.pow_succ]
  omega
theorem Bd.mul {x y : Int} {n m : Nat} (h : Bd x n) (h' : Bd y m) : Bd (x * y) (n + m) := wide_lt h h'
theorem Bd.ok {i j : Int} {a b : Nat} (ha : Bd i a) (hb : Bd j b) (h : a + b ≤ 100000000) : IntMulOk i j := by
  have g : ∀ (x : Int) (n : Nat), Bd x n → Builtin.Int.intBits x ≤ n + 1 := fun x n hx => by
    have := PySem.Flt.log2_lt_of (k := n + 1) (Nat.succ_pos n) (hx.mono (Nat.le_succ n))
    unfold Builtin.Int.intBits
    split <;> omega
  have h1 := g i a ha
  have h2 := g j b hb
  have e : bitsLine = 134217728 := by decide
  unfold IntMulOk
  intro z
  rw [Bool.and_eq_true] at z
  have z2 := z.2
  unfold Builtin.Int.intTooBig at z2
  have z3 := of_decide_eq_true z2
  rw [e] at z3
  omega
theorem Bd.of_bits {x : Int} : Bd x (Builtin.Int.intBits x) := by
  unfold Bd Builtin.Int.intBits
  by_cases h : x = 0
  · subst h
    decide
  · have : (x == 0) = false := by simpa using h
    rw [this]
    exact Nat.lt_log2_self
theorem Bd.small {x : Int} {n : Nat} (h : x.natAbs < 2 ^ n) : Bd x n := h
theorem scDigits : FnScope ["_law_cell", "_law_by", "_law_mixed", "_law_more"] ["_law_cell", "_law_by"] (defScope d_law_digits) := ⟨rfl, rfl, rfl, by decide +kernel, rfl, by decide +kernel, by decide +kernel⟩
def spDigits : Sp := fun vs H Q _ => ∃ (c : Int) (b : Nat), vs = [.int c, .int b] ∧ b ≤ 1000 ∧ Builtin.Int.intBits c ≤ 1048576 ∧ ∀ n, Q (.int n) H
section
variable {P : Program} {w : World} {K : PySem.W.Frag} {mg : Str → Option Value} {base : Heap}
theorem ok_digits {fa : Addr} {fd : FuncData} {k : Nat} (F : Fun K "_law_digits" "_law_digits" d_law_digits fa fd) :
    FnOk P w K mg base CX0 (k + 1) fa fd ["_law_cell", "_law_by"] spDigits := by
  refine F.ok scDigits (fun vs H Q E h => ?_) (fun cdv A outer s H vs Q E hr h => ?_)
  · obtain ⟨c, b, rfl, _⟩ := h
    rfl
  · obtain ⟨c, b, rfl, hb, hc, q⟩ := h
    have hB : Bd c (Builtin.Int.intBits c) := Bd.of_bits
    generalize Builtin.Int.intBits c = B at hc hB
    refine ⟨_, pss_cons (ps_if (pt_cmpR op_ge (pv 0) (pe_op op_pow pe_int pe_int) (nomark _)) (pss_one (ps_ret (pe_op op_fdivN (pv 0) (pe_op op_add (pv 1) pe_int)))) pss_nil)
      (pss_cons (ps_set (i := 2) scDigits.nd rfl (.inl rfl) (pe_op op_mod (pe_op op_mulX (pe_op op_add (pv 0) (pe_op op_mulX pe_int (pv 1))) pe_int) pe_int))
      (pss_cons (ps_set (i := 3) scDigits.nd rfl (.inl rfl) (pe_op op_mulX (pv 2) (pe_op op_add (pe_op op_add (pv 0) (pe_op op_mulX pe_int (pv 1))) pe_int)))
      (pss_one (ps_ret (pe_op op_fdivN (pe_op op_mulX (pe_op op_mulX (pv 3) (pe_op op_add (pe_op op_add (pv 2) (pe_op op_mulX (pv 0) (pv 1))) pe_int)) (pe_op op_add (pe_op op_mulX (pv 2) (pv 2)) (pv 1))) (pe_op op_add pe_int (pv 1))))))), ?_⟩
    have hbB : Bd (b : Int) 10 := Bd.small (by show b < 1024; omega)
    have k977 : Bd 977 10 := Bd.small (by decide)
    have k31 : Bd 31 10 := Bd.small (by decide)
    have k7 : Bd 7 10 := Bd.small (by decide)
    have k13 : Bd 13 10 := Bd.small (by decide)
    have k48 : Bd 48271 16 := Bd.small (by decide)
    refine ⟨_, rfl, 10, 18, rfl, rfl, ⟨by decide, by decide, by decide⟩, _, _, rfl, rfl, _, rfl, decI (fun _ => ?_) (fun _ => ?_)⟩
    · refine ⟨_, rfl, _, rfl, b, 1, rfl, rfl, c, _, rfl, rfl, ⟨by omega, by omega⟩, q _⟩
    · have a1 : Bd (977 * (b : Int)) (10 + 10) := k977.mul hbB
      have a2 := hB.add a1
      refine ⟨_, rfl, _, rfl, 977, b, rfl, rfl, k977.ok hbB (by decide), c, 977 * (b : Int), rfl, rfl, _, 48271, rfl, rfl, a2.ok k48 (by omega), _, 2147483647, rfl, rfl, (by show (0 : Int) < 2147483647; decide), ?_⟩
      have m1 := Int.emod_nonneg ((c + 977 * (b : Int)) * 48271) (b := 2147483647) (by decide)
      have m2 := Int.emod_lt_of_pos ((c + 977 * (b : Int)) * 48271) (b := 2147483647) (by decide)
      have hm : Bd (((c + 977 * (b : Int)) * 48271) % 2147483647) 31 := Bd.small (by show (((c + 977 * (b : Int)) * 48271) % 2147483647).natAbs < 2147483648; omega)
      have a3 : Bd (31 * (b : Int)) (10 + 10) := k31.mul hbB
      have a4 := (hB.add a3).add k7
      have a5 := hm.mul a4
      refine ⟨_, rfl, _, rfl, _, rfl, 31, b, rfl, rfl, k31.ok hbB (by decide), c, 31 * (b : Int), rfl, rfl, _, 7, rfl, rfl, _, _, rfl, rfl, hm.ok a4 (by omega), ?_⟩
      have a6 := (hm.add (hB.mul hbB)).add k13
      have a7 := a5.mul a6
      have a8 := (hm.mul hm).add hbB
      refine ⟨_, rfl, _, rfl, _, rfl, _, rfl, c, b, rfl, rfl, hB.ok hbB (by omega), _, c * (b : Int), rfl, rfl, _, 13, rfl, rfl, _, _, rfl, rfl, a5.ok a6 (by omega), ?_⟩
      refine ⟨_, rfl, _, rfl, _, _, rfl, rfl, hm.ok hm (by decide), _, rfl, _, b, rfl, rfl, _, _, rfl, rfl, a7.ok a8 (by omega), ?_⟩
      exact ⟨_, rfl, 1009, b, rfl, rfl, _, _, rfl, rfl, ⟨by omega, by omega⟩, q _⟩
end
end Tr
namespace Tr
open PySem PySem.Spec PyProof.Rows L2
theorem scTrayL : FnScope ["_law_number", "_law_rows", "_law_columns", "_law_order_here", "_law_row"] ["_law_number", "_law_rows", "_law_columns"] (defScope d_law_tray) := ⟨rfl, rfl, rfl, by decide +kernel, rfl, by decide +kernel, by decide +kernel⟩
def spTrayL : Sp := fun vs H Q _ => ∃ (z : Int) (R C : Nat), vs = [.int z, .int R, .int C] ∧ R ≤ 6 ∧ C ≤ 6 ∧ ∀ H' p rs f, Same H H' → H p = none → (∀ x ∈ rs, H x = none) → TrayAt H' p rs R C f → Full (R * C) f → Q (.ref p) H'
theorem cut_row {os : List Int} {R C i : Nat} (h : os.length = R * C) (hi : i < R) : cutV (os.map V.int) (some ((i * C : Nat) : Int)) (some ((i * C + C : Nat) : Int)) = rowV C (fun k => os.getD k 0) i := by
  have hl : (os.map V.int).length = R * C := by rw [List.length_map, h]
  have hle : i * C + C ≤ R * C := by
    have : (i + 1) * C ≤ R * C := Nat.mul_le_mul_right C hi
    rw [Nat.add_mul, Nat.one_mul] at this
    exact this
  unfold cutV
  rw [HT.sIx_nat, HT.sIx_nat, hl, Nat.min_eq_left hle, Nat.min_eq_left (show i * C ≤ R * C by omega), Nat.add_sub_cancel_left]
  apply List.ext_getElem
  · rw [List.length_take, List.length_drop, hl, rowV_len]
    omega
  · intro j h1 h2
    rw [rowV_len] at h2
    have hk : i * C + j < os.length := by rw [h]; omega
    simp only [List.getElem_take, List.getElem_drop, List.getElem_map, rowV, List.getElem_range]
    rw [List.getD_eq_getElem?_getD, List.getElem?_eq_getElem hk]
    rfl
theorem allV_get {os : List Int} {n : Nat} (h : os.length = n) : allV n (fun k => os.getD k 0) = os := by
  apply List.ext_getElem
  · simp [allV, h]
  · intro j h1 h2
    simp only [allV, List.getElem_map, List.getElem_range]
    rw [List.getD_eq_getElem?_getD, List.getElem?_eq_getElem h2]
    rfl
section
variable {P : Program} {w : World} {K : PySem.W.Frag} {mg : Str → Option Value} {base : Heap}
theorem ok_trayL {fa fO : Addr} {fd fdO : FuncData} {k : Nat} (F : Fun K "_law_tray" "_law_tray" d_law_tray fa fd) (mR : mg "range" = none)
    (GO : FnOk P w K mg base CX0 (k + 1) fO fdO ["_law_number", "_law_many"] spOrder) (gO : mg "_law_order" = some (.ref fO)) (kO : PySem.W.keepIn K (.ref fO) = true) (bO : Binds K fdO ["_law_number", "_law_many"] []) :
    FnOk P w K mg base CX0 (k + 2) fa fd ["_law_number", "_law_rows", "_law_columns"] spTrayL := by
  refine F.ok scTrayL (fun vs H Q E h => ?_) (fun cdv A outer s H vs Q E hr h => ?_)
  · obtain ⟨z, R, C, rfl, _⟩ := h
    rfl
  · obtain ⟨z, R, C, rfl, hR, hC, q⟩ := h
    have hRC := rows36 hR hC
    refine ⟨_, pss_cons (ps_set (i := 3) scTrayL.nd rfl (.inr rfl) (pe_call GO hr (by rfl) gO kO bO .nil pass0 (pa_cons (pv 0) (pa_cons (pe_op op_mul (pv 1) (pv 2)) pa_nil))))
      (pss_one (ps_ret (pe_lc (own := [("_law_row", 4)]) (g := gName 4) (tt := tYes) rfl scTrayL.nd (pi_range1 rfl mR (pa_cons (pv 1) pa_nil)) (blkOk_by (own := [("_law_row", 4)]) (N := ["_law_number", "_law_rows", "_law_columns", "_law_order_here", "_law_row"]) (sc := defScope d_law_tray) (by decide +kernel))
        (fun _ _ _ _ _ => pg_name (i := 4) scTrayL.nd rfl (.inl rfl)) (fun _ _ _ _ _ => pts_nil) (fun _ _ _ _ _ => pe_slice (r := rSlL K) sl_list (pv 3) (po_some (pe_op op_mul (pv 4) (pv 2))) (po_some (pe_op op_add (pe_op op_mul (pv 4) (pv 2)) (pv 2))))))), ?_⟩
    refine ⟨_, rfl, _, rfl, _, rfl, R, C, rfl, rfl, .inl ⟨by omega, by omega⟩, z, R * C, ?_, by omega, fun H1 p os s1 np hp hperm => ?_⟩
    · rw [Int.natCast_mul]
      rfl
    have hol : os.length = R * C := by
      have := hperm.length_eq
      rw [this]
      show ((List.range (R * C)).map _).length = R * C
      rw [List.length_map, List.length_range]
    refine ⟨_, rfl, R, rfl, by omega, by omega, fun D nD => ?_⟩
    rw [Int.toNat_natCast]
    refine lc_gen (walk_range (lo := 0) (n := R)) (fun i H2 => ∃ rs1, TrayAt H2 D rs1 i C (fun k => os.getD k 0) ∧ (∀ x ∈ rs1, H1 x = none) ∧ Same H1 H2)
      ⟨[], ⟨upd_same, rfl, fun i r e => by simp at e, List.nodup_nil, by simp⟩, (fun x m => by cases m), same_upd nD⟩ (fun _ _ _ _ => True.intro) ?_ ?_
    · rintro i x H2 H3 hi ⟨rs1, T1, hx1, sm⟩ ⟨rfl, rfl⟩
      refine ⟨rfl, ?_⟩
      have e1 : (0 + (i : Int)) * (C : Int) = ((i * C : Nat) : Int) := by rw [Int.zero_add, Int.natCast_mul]
      have e2 : (0 + (i : Int)) * (C : Int) + (C : Int) = ((i * C + C : Nat) : Int) := by rw [e1, Int.natCast_add]
      refine ⟨_, rfl, _, rfl, _, rfl, _, C, rfl, rfl, .inl ⟨by omega, by omega⟩, ((i * C : Nat) : Int), congrArg V.int e1, ?_⟩
      refine ⟨_, rfl, _, rfl, _, C, rfl, rfl, .inl ⟨by omega, by omega⟩, _, rfl, _, C, rfl, rfl, ((i * C + C : Nat) : Int), congrArg V.int e2, ?_⟩
      refine ⟨p, os.map V.int, rfl, SqL.of (sm _ _ hp), fun l nl => ?_⟩
      rw [cut_row hol hi]
      have hlD : l ≠ D := fun z => by
        rw [z, T1.top] at nl
        cases nl
      refine ⟨_, by rw [upd_ne hlD.symm]; exact T1.top, ?_, rs1 ++ [l], T1.snoc nl hlD, ?_, ?_⟩
      · rw [List.length_map, T1.len]
        exact small1000 (by omega)
      · intro x m
        rcases List.mem_append.mp m with m | m
        · exact hx1 x m
        · rw [List.mem_singleton.mp m]
          exact sm.free nl
      · intro b o e
        rw [upd_ne (ne_of_none e nD), upd_ne (ne_of_none e (sm.free nl))]
        exact sm _ _ e
    · rintro H2 ⟨rs1, T1, hx1, sm⟩
      refine q H2 D rs1 _ (s1.trans sm) (s1.free nD) (fun x hx => s1.free (hx1 x hx)) T1 ?_
      unfold Full
      rw [allV_get hol]
      exact hperm
end
end Tr
namespace Tr
open PySem PySem.Spec PyProof.Rows L2
theorem scPlace : FnScope ["_law_tray_here", "_law_piece", "_law_row", "_law_column"] ["_law_tray_here", "_law_piece"] (defScope d_law_place) := ⟨rfl, rfl, rfl, by decide +kernel, rfl, by decide +kernel, by decide +kernel⟩
def spPlace : Sp := fun vs H Q _ => ∃ (a : Addr) (rs : List Addr) (R C : Nat) (f : Fld) (r c : Nat), vs = [.ref a, .int 0] ∧ TrayAt H a rs R C f ∧ Zr R C (f, r, c) ∧ Uniq R C f (r * C + c) ∧ R ≤ 1000 ∧ C ≤ 1000 ∧
  ∀ H' p, Same H H' → H p = none → H' p = some (.tup [.int r, .int c]) → Q (.ref p) H'
section
variable {P : Program} {w : World} {K : PySem.W.Frag} {mg : Str → Option Value} {base : Heap}
theorem ok_place {fa : Addr} {fd : FuncData} {k : Nat} (F : Fun K "_law_place" "_law_place" d_law_place fa fd) (mR : mg "range" = none) (mL : mg "len" = none) :
    FnOk P w K mg base CX0 (k + 1) fa fd ["_law_tray_here", "_law_piece"] spPlace := by
  refine F.ok scPlace (fun vs H Q E h => ?_) (fun cdv A outer s H vs Q E hr h => ?_)
  · obtain ⟨a, rs, R, C, f, r, c, rfl, _⟩ := h
    rfl
  · obtain ⟨a, rs, R, C, f, r, c, rfl, T, Z, U, hR, hC, q⟩ := h
    have hrr : r < R := Z.r
    have hcc : c < C := Z.c
    have hz : f (r * C + c) = 0 := Z.z
    refine ⟨_, pss_cons (ps_for PassesOwn.never rfl (pi_range1 rfl mR (pa_cons (pe_callB call_len_seq (by rfl) mL PySem.boot_len (pa_cons (pv 0) pa_nil)) pa_nil)) (pg_name (i := 2) scPlace.nd rfl (.inl rfl))
        (pss_one (ps_for PassesOwn.never rfl (pi_range1 rfl mR (pa_cons (pe_callB call_len_seq (by rfl) mL PySem.boot_len (pa_cons (pe_ix ix_list (pv 0) pe_int (fun _ _ => rfl)) pa_nil)) pa_nil)) (pg_name (i := 3) scPlace.nd rfl (.inl rfl))
          (pss_one (ps_if (pt_cmpR op_eq (pe_ix ix_list (pe_ix ix_list (pv 0) (pv 2) (fun _ _ => rfl)) (pv 3) (fun _ _ => rfl)) (pv 1) (nomark _)) (pss_one (ps_ret (pe_tup (pa_cons (pv 2) (pa_cons (pv 3) pa_nil))))) pss_nil)))))
      (pss_one (ps_ret pe_non)), ?_⟩
    obtain ⟨r0, g1, g2, g3⟩ := T.get (i := 0) (by omega)
    refine ⟨.ref a, rfl, a, _, rfl, .inl (SqL.of T.top), ?_⟩
    rw [List.length_map, T.len]
    refine ⟨(R : Int), rfl, by omega, by omega, ?_⟩
    rw [Int.toNat_natCast]
    refine for_it (walk_range (lo := 0) (n := R)) (fun i σ H' => H' = H ∧ i ≤ r ∧ ∃ v u, σ = [some (.ref a), some (.int 0), v, u]) ⟨rfl, Nat.zero_le _, none, none, rfl⟩ (fun _ _ _ _ _ => True.intro) ?_ ?_
    · rintro i x σ H1 H2 hi ⟨rfl, hir, v, u, rfl⟩ ⟨rfl, rfl⟩
      refine ⟨.ref a, rfl, a, _, 0, _, rfl, rfl, SqL.of T.top, atI_nat (j := 0) g2, r0, _, rfl, .inl (SqL.of g3), ?_⟩
      rw [rowV_len]
      refine ⟨(C : Int), rfl, by omega, by omega, ?_⟩
      rw [Int.toNat_natCast]
      obtain ⟨ri, k1, k2, k3⟩ := T.get hi
      refine for_it (walk_range (lo := 0) (n := C)) (fun j σ H' => H' = H2 ∧ (i = r → j ≤ c) ∧ ∃ u, σ = [some (.ref a), some (.int 0), some (.int (0 + (i : Int))), u]) ⟨rfl, fun _ => Nat.zero_le _, u, rfl⟩ (fun _ _ _ _ _ => True.intro) ?_ ?_
      · rintro j y σ H3 H4 hj ⟨rfl, hjc, u, rfl⟩ ⟨rfl, rfl⟩
        refine ⟨.ref a, rfl, _, rfl, a, _, (i : Int), _, rfl, congrArg V.int (Int.zero_add _), SqL.of T.top, atI_nat k2, _, rfl, ri, _, (j : Int), _, rfl, congrArg V.int (Int.zero_add _), SqL.of k3, atI_nat (rowV_get hj), .int 0, rfl, rfl, _, rfl, decI (fun z => ?_) (fun z => ?_)⟩
        · have z : f (i * C + j) = 0 := V.int.inj z
          obtain ⟨e1, e2⟩ := ix_inj hj hcc (U _ (ix_lt hi hj) z)
          subst e1 e2
          refine ⟨_, rfl, _, rfl, (by show 2 ≤ sizeLine; decide), fun p hp => q _ p (same_upd hp) hp ?_⟩
          rw [upd_same]
          show some (HO.tup [V.int (0 + (i : Int)), V.int (0 + (j : Int))]) = _
          rw [Int.zero_add, Int.zero_add]
        · refine ⟨rfl, fun e => ?_, _, rfl⟩
          have h1 := hjc e
          rcases Nat.lt_or_ge j c with h2 | h2
          · exact h2
          · exfalso
            have h3 : j = c := by omega
            subst e h3
            exact z (congrArg V.int hz)
      · rintro σ H3 ⟨rfl, hjc, u, rfl⟩
        refine ⟨rfl, ?_, _, _, rfl⟩
        rcases Nat.lt_or_ge i r with h2 | h2
        · exact h2
        · have h3 : i = r := by omega
          have := hjc h3
          omega
    · rintro σ H1 ⟨rfl, hir, v, u, rfl⟩
      omega
end
end Tr
namespace Tr
open PySem PySem.Spec PyProof.Rows L2
theorem u_eq : ("u" : Str) = txt [117] := by decide +kernel
theorem d_eq : ("d" : Str) = txt [100] := by decide +kernel
theorem l_eq : ("l" : Str) = txt [108] := by decide +kernel
theorem r_eq : ("r" : Str) = txt [114] := by decide +kernel
theorem key_eq {a b : Nat} : (Sum.inr (txt [a]) : Key) = Sum.inr (txt [b]) ↔ a = b := by
  constructor
  · intro h
    exact List.head_eq_of_cons_eq (txt_inj (Sum.inr.inj h))
  · intro h
    rw [h]
theorem val4 (v1 v2 v3 v4 : V) (l : Nat) : valV [((Sum.inr "u" : Key), v1), (Sum.inr "d", v2), (Sum.inr "l", v3), (Sum.inr "r", v4)] (Sum.inr (txt [l])) =
    if l = 117 then some v1 else if l = 100 then some v2 else if l = 108 then some v3 else if l = 114 then some v4 else none := by
  rw [u_eq, d_eq, l_eq, r_eq]
  unfold valV
  by_cases h1 : l = 117
  · subst h1
    rw [if_pos rfl, List.find?_cons_of_pos (by exact decide_eq_true rfl)]
    rfl
  rw [if_neg h1, List.find?_cons_of_neg (by rw [decide_eq_true_eq, key_eq]; omega)]
  by_cases h2 : l = 100
  · subst h2
    rw [if_pos rfl, List.find?_cons_of_pos (by exact decide_eq_true rfl)]
    rfl
  rw [if_neg h2, List.find?_cons_of_neg (by rw [decide_eq_true_eq, key_eq]; omega)]
  by_cases h3 : l = 108
  · subst h3
    rw [if_pos rfl, List.find?_cons_of_pos (by exact decide_eq_true rfl)]
    rfl
  rw [if_neg h3, List.find?_cons_of_neg (by rw [decide_eq_true_eq, key_eq]; omega)]
  by_cases h4 : l = 114
  · subst h4
    rw [if_pos rfl, List.find?_cons_of_pos (by exact decide_eq_true rfl)]
    rfl
  rw [if_neg h4, List.find?_cons_of_neg (by rw [decide_eq_true_eq, key_eq]; omega)]
  rfl
theorem scSlid : FnScope ["_law_tray_here", "_law_slides", "_law_row", "_law_found", "_law_column", "_law_letter", "_law_down", "_law_right_here", "_law_high", "_law_wide"] ["_law_tray_here", "_law_slides"] (defScope d_law_slid) := ⟨rfl, rfl, rfl, by decide +kernel, rfl, by decide +kernel, by decide +kernel⟩
def spSlid : Sp := fun vs H Q _ => ∃ (a : Addr) (rs : List Addr) (R C : Nat) (s : Sl) (ws : List Nat), vs = [.ref a, .str (txt ws)] ∧ TrayAt H a rs R C s.1 ∧ Good R C s ∧
  (∀ s', goAll R C s ws = some s' → ∀ H' p rs', Same H H' → H p = none → (∀ x ∈ rs', H x = none) → TrayAt H' p rs' R C s'.1 → Q (.ref p) H') ∧
  (goAll R C s ws = none → ∀ H', Same H H' → Q .non H')
section
variable {P : Program} {w : World} {K : PySem.W.Frag} {mg : Str → Option Value} {base : Heap}
theorem ok_slid {fa fP : Addr} {fd fdP : FuncData} {k : Nat} (F : Fun K "_law_slid" "_law_slid" d_law_slid fa fd) (mLi : mg "list" = none) (mL : mg "len" = none)
    (GP : FnOk P w K mg base CX0 (k + 1) fP fdP ["_law_tray_here", "_law_piece"] spPlace) (gP : mg "_law_place" = some (.ref fP)) (kP : PySem.W.keepIn K (.ref fP) = true) (bP : Binds K fdP ["_law_tray_here", "_law_piece"] []) :
    FnOk P w K mg base CX0 (k + 2) fa fd ["_law_tray_here", "_law_slides"] spSlid := by
  refine F.ok scSlid (fun vs H Q E h => ?_) (fun cdv A outer s H vs Q E hr h => ?_)
  · obtain ⟨a, rs, R, C, s, ws, rfl, _⟩ := h
    rfl
  · obtain ⟨a, rs, R, C, ⟨f, r, c⟩, ws, rfl, Ta, g, q, qn⟩ := h
    have hR := g.r6
    have hR0 := g.r0
    have hC := g.c6
    have hu := hu_of hr
    refine ⟨_, pss_cons (ps_setLc (i := 3) (own := [("_law_row", 2)]) (g := gName 2) (tt := tYes) rfl scSlid.nd rfl rfl (sw_true rfl rfl rfl (by decide +kernel)) (pi_list (pv 0))
          (blkOk_by (own := [("_law_row", 2)]) (N := ["_law_tray_here", "_law_slides", "_law_row", "_law_found", "_law_column", "_law_letter", "_law_down", "_law_right_here", "_law_high", "_law_wide"]) (sc := defScope d_law_slid) (by decide +kernel))
          (fun _ _ _ _ _ => pg_name (i := 2) scSlid.nd rfl (.inl rfl)) (fun _ _ _ _ _ => pts_nil) (fun _ _ _ _ _ => pe_callTy (r := rListOf K) cr_listOf (by rfl) mLi (by decide +kernel) (pa_cons (pv 2) pa_nil)))
      (pss_cons (ps_asg (pe_call GP hr (by rfl) gP kP bP .nil pass0 (pa_cons (pv 0) (pa_cons pe_int pa_nil))) (pg_tup rfl (pgs_cons (pg_name (i := 2) scSlid.nd rfl (.inl rfl)) (pgs_cons (pg_name (i := 4) scSlid.nd rfl (.inl rfl)) pgs_nil))))
      (pss_cons (ps_for PassesOwn.never rfl (pi_str (pv 1)) (pg_name (i := 5) scSlid.nd rfl (.inl rfl))
        (pss_cons (ps_asg (pe_dget2 hu (pe_disp (pps_cons pe_str (pe_tup (pa_cons (pe_un un_neg pe_int) (pa_cons pe_int pa_nil))) (pps_cons pe_str (pe_tup (pa_cons pe_int (pa_cons pe_int pa_nil))) (pps_cons pe_str (pe_tup (pa_cons pe_int (pa_cons (pe_un un_neg pe_int) pa_nil))) (pps_cons pe_str (pe_tup (pa_cons pe_int (pa_cons pe_int pa_nil))) pps_nil)))) (by rfl) (by rfl) (fun z => by cases z) (by decide)) (pv 5) (pe_tup (pa_cons pe_int (pa_cons pe_int pa_nil))) ⟨rfl, rfl, rfl, rfl⟩)
            (pg_tup rfl (pgs_cons (pg_name (i := 6) scSlid.nd rfl (.inl rfl)) (pgs_cons (pg_name (i := 7) scSlid.nd rfl (.inl rfl)) pgs_nil))))
        (pss_cons (ps_par (i := 8) (j := 9) (by rfl) scSlid.nd rfl rfl (by decide) rfl rfl (pa_cons (pe_op op_add (pv 2) (pv 6)) (pa_cons (pe_op op_add (pv 4) (pv 7)) pa_nil)) (by rfl))
        (pss_cons (ps_if (PW.pt (pw_or (pt_not (pt_chain op_le op_lt pe_int (pv 8) (pe_callB call_len_seq (by rfl) mL PySem.boot_len (pa_cons (pv 0) pa_nil))))
            (pw_or1 (pt_not (pt_chain op_le op_lt pe_int (pv 9) (pe_callB call_len_seq (by rfl) mL PySem.boot_len (pa_cons (pe_ix ix_list (pv 0) pe_int (fun _ _ => rfl)) pa_nil))))))) (pss_one (ps_ret pe_non)) pss_nil)
        (pss_cons (ps_asg (pe_ix ix_list (pe_ix ix_list (pv 3) (pv 8) (fun _ _ => rfl)) (pv 9) (fun _ _ => rfl)) (pg_sub (pe_ix ix_list (pv 3) (pv 2) (fun _ _ => rfl)) (pv 4) set_list))
        (pss_cons (ps_asg pe_int (pg_sub (pe_ix ix_list (pv 3) (pv 8) (fun _ _ => rfl)) (pv 9) set_list))
        (pss_one (ps_par (i := 2) (j := 4) (by rfl) scSlid.nd rfl rfl (by decide) rfl rfl (pa_cons (pv 8) (pa_cons (pv 9) pa_nil)) (by rfl)))))))))
      (pss_one (ps_ret (pv 3))))), ?_⟩
    -- the copy
    refine ⟨_, rfl, a, rfl, ⟨_, SqL.of Ta.top⟩, fun D nD => lc_copy (i := 2) Ta (by omega) nD (by show 2 < 10; decide) fun rs1 H2 s2 nrs T2 => ?_⟩
    refine ⟨_, rfl, a, rs, R, C, f, r, c, rfl, Ta.mono s2, g.z, g.uniq, by omega, by omega, fun H3 p s3 np hp => ?_⟩
    refine ⟨p, _, rfl, SqT.of hp, rfl, _, _, rfl, _, _, rfl, rfl, ?_⟩
    have s03 := s2.trans s3
    -- the slides
    refine ⟨_, rfl, _, rfl, for_it walk_str (fun i σ H' => ∃ f' r' c' v5 v6 v7 v8 v9, goAll R C (f, r, c) (ws.take i) = some (f', r', c') ∧ σ = [some (.ref a), some (.str (txt ws)), some (.int (r' : Nat)), some (.ref D), some (.int (c' : Nat)), v5, v6, v7, v8, v9] ∧ Same H H' ∧ TrayAt H' D rs1 R C f')
      ⟨f, r, c, none, none, none, none, none, rfl, rfl, s03, T2.mono s3⟩ (fun _ _ _ _ _ => True.intro) ?_ ?_⟩
    · rintro i x σ H4 H5 hi ⟨f', r', c', v5, v6, v7, v8, v9, hg, rfl, s4, T4⟩ ⟨rfl, l, hl, rfl⟩
      have hl : ws[i]? = some l := by simpa using hl
      have g' : Good R C (f', r', c') := g.go hg
      -- the dict; what it gives
      refine fun d nd => ?_
      have a0 : Same H5 (upd H5 d (.dK [])) := same_upd nd
      refine ⟨1, rfl, (by show 2 ≤ sizeLine; decide), fun t1 n1 => ?_⟩
      have a1 := same_upd (o := .tup [V.int (-1), V.int 0]) n1
      refine ⟨(by show 2 ≤ sizeLine; decide), fun t2 n2 => ?_⟩
      have a2 := same_upd (o := .tup [V.int 1, V.int 0]) n2
      refine ⟨1, rfl, (by show 2 ≤ sizeLine; decide), fun t3 n3 => ?_⟩
      have a3 := same_upd (o := .tup [V.int 0, V.int (-1)]) n3
      refine ⟨(by show 2 ≤ sizeLine; decide), fun t4 n4 => ?_⟩
      have a4 := same_upd (o := .tup [V.int 0, V.int 1]) n4
      have hd0 : (upd H5 d (.dK [])) d = some (.dK []) := upd_same
      have e1 := a4 _ _ (a3 _ _ (a2 _ _ (upd_same (H := upd H5 d (.dK [])) (a := t1) (o := .tup [V.int (-1), V.int 0]))))
      have e2 := a4 _ _ (a3 _ _ (upd_same (H := upd (upd H5 d (.dK [])) t1 (.tup [V.int (-1), V.int 0])) (a := t2) (o := .tup [V.int 1, V.int 0])))
      have e3 := a4 _ _ (upd_same (H := upd (upd (upd H5 d (.dK [])) t1 (.tup [V.int (-1), V.int 0])) t2 (.tup [V.int 1, V.int 0])) (a := t3) (o := .tup [V.int 0, V.int (-1)]))
      have e4 := upd_same (H := upd (upd (upd (upd H5 d (.dK [])) t1 (.tup [V.int (-1), V.int 0])) t2 (.tup [V.int 1, V.int 0])) t3 (.tup [V.int 0, V.int (-1)])) (a := t4) (o := .tup [V.int 0, V.int 1])
      have hd4 := a4 _ _ (a3 _ _ (a2 _ _ (a1 _ _ hd0)))
      have s6 : Same H5 (upd (upd (upd (upd (upd H5 d (.dK [])) t1 (.tup [V.int (-1), V.int 0])) t2 (.tup [V.int 1, V.int 0])) t3 (.tup [V.int 0, V.int (-1)])) t4 (.tup [V.int 0, V.int 1])) := (((a0.trans a1).trans a2).trans a3).trans a4
      refine ⟨hd4, [(Sum.inr "u", .ref t1), (Sum.inr "d", .ref t2), (Sum.inr "l", .ref t3), (Sum.inr "r", .ref t4)], rfl, (by show 4 ≤ 15; decide), ?_⟩
      rw [show mergeK [] [((Sum.inr "u" : Key), V.ref t1), (Sum.inr "d", .ref t2), (Sum.inr "l", .ref t3), (Sum.inr "r", .ref t4)] = [((Sum.inr "u" : Key), V.ref t1), (Sum.inr "d", .ref t2), (Sum.inr "l", .ref t3), (Sum.inr "r", .ref t4)] from rfl]
      revert e1 e2 e3 e4 hd4 s6
      generalize hH6 : upd (upd (upd (upd (upd H5 d (.dK [])) t1 (.tup [V.int (-1), V.int 0])) t2 (.tup [V.int 1, V.int 0])) t3 (.tup [V.int 0, V.int (-1)])) t4 (.tup [V.int 0, V.int 1]) = H6
      intro e1 e2 e3 e4 hd4 s6
      have nt : ∀ t xs, H6 t = some (.tup xs) → t ≠ d := fun t xs e z => by
        rw [z, hd4] at e
        cases e
      have s7 : Same H5 (upd H6 d (.dK [(Sum.inr "u", V.ref t1), (Sum.inr "d", .ref t2), (Sum.inr "l", .ref t3), (Sum.inr "r", .ref t4)])) := fun b o e => by
        rw [upd_ne (ne_of_none e nd)]
        exact s6 _ _ e
      have f1 : (upd H6 d (.dK [(Sum.inr "u", V.ref t1), (Sum.inr "d", .ref t2), (Sum.inr "l", .ref t3), (Sum.inr "r", .ref t4)])) t1 = _ := (upd_ne (nt _ _ e1)).trans e1
      have f2 : (upd H6 d (.dK [(Sum.inr "u", V.ref t1), (Sum.inr "d", .ref t2), (Sum.inr "l", .ref t3), (Sum.inr "r", .ref t4)])) t2 = _ := (upd_ne (nt _ _ e2)).trans e2
      have f3 : (upd H6 d (.dK [(Sum.inr "u", V.ref t1), (Sum.inr "d", .ref t2), (Sum.inr "l", .ref t3), (Sum.inr "r", .ref t4)])) t3 = _ := (upd_ne (nt _ _ e3)).trans e3
      have f4 : (upd H6 d (.dK [(Sum.inr "u", V.ref t1), (Sum.inr "d", .ref t2), (Sum.inr "l", .ref t3), (Sum.inr "r", .ref t4)])) t4 = _ := (upd_ne (nt _ _ e4)).trans e4
      have fd7 : (upd H6 d (.dK [(Sum.inr "u", V.ref t1), (Sum.inr "d", .ref t2), (Sum.inr "l", .ref t3), (Sum.inr "r", .ref t4)])) d = _ := upd_same
      show ∃ a, V.ref d = V.ref a ∧ IsD (upd H6 d (.dK [(Sum.inr "u", V.ref t1), (Sum.inr "d", .ref t2), (Sum.inr "l", .ref t3), (Sum.inr "r", .ref t4)])) a ∧ _
      generalize upd H6 d (.dK [(Sum.inr "u", V.ref t1), (Sum.inr "d", .ref t2), (Sum.inr "l", .ref t3), (Sum.inr "r", .ref t4)]) = H7 at f1 f2 f3 f4 fd7 s7 ⊢
      refine ⟨d, rfl, .inl ⟨_, .inl fd7⟩, _, rfl, (by show 2 ≤ sizeLine; decide), fun t9 n9 => ?_⟩
      have a9 := same_upd (o := .tup [V.int 9, V.int 9]) n9
      have e9 := upd_same (H := H7) (a := t9) (o := .tup [V.int 9, V.int 9])
      have h1 := a9 _ _ f1
      have h2 := a9 _ _ f2
      have h3 := a9 _ _ f3
      have h4 := a9 _ _ f4
      have hd := a9 _ _ fd7
      have s8 := s7.trans a9
      generalize upd H7 t9 (.tup [V.int 9, V.int 9]) = H8 at a9 e9 h1 h2 h3 h4 hd s8 ⊢
      refine ⟨_, DGet.k (k := Sum.inr (txt [l])) hd, ?_⟩
      have got : ∃ tt, ((valV [((Sum.inr "u" : Key), V.ref t1), (Sum.inr "d", .ref t2), (Sum.inr "l", .ref t3), (Sum.inr "r", .ref t4)] (Sum.inr (txt [l]))).getD (.ref t9)) = .ref tt ∧ H8 tt = some (.tup [.int (stp l).1, .int (stp l).2]) := by
        rw [val4]
        unfold stp
        by_cases z1 : l = 117
        · rw [if_pos z1, if_pos z1]
          exact ⟨t1, rfl, h1⟩
        rw [if_neg z1, if_neg z1]
        by_cases z2 : l = 100
        · rw [if_pos z2, if_pos z2]
          exact ⟨t2, rfl, h2⟩
        rw [if_neg z2, if_neg z2]
        by_cases z3 : l = 108
        · rw [if_pos z3, if_pos z3]
          exact ⟨t3, rfl, h3⟩
        rw [if_neg z3, if_neg z3]
        by_cases z4 : l = 114
        · rw [if_pos z4, if_pos z4]
          exact ⟨t4, rfl, h4⟩
        rw [if_neg z4, if_neg z4]
        exact ⟨t9, rfl, e9⟩
      obtain ⟨tt, ht1, ht2⟩ := got
      refine ⟨tt, _, ht1, SqT.of ht2, rfl, _, _, rfl, _, _, rfl, rfl, ?_⟩
      refine ⟨_, rfl, _, rfl, (r' : Int), (stp l).1, rfl, rfl, _, rfl, _, rfl, (c' : Int), (stp l).2, rfl, rfl, _, _, rfl, ?_⟩
      have T8 := T4.mono s8
      have Ta8 := Ta.mono (s4.trans s8)
      have s48 := s4.trans s8
      obtain ⟨r0, g1, g2, g3⟩ := Ta8.get (i := 0) hR0
      have hlen : ((rs.map V.ref).length : Int) = R := by rw [List.length_map, Ta.len]
      have nn : ¬ (0 ≤ (r' : Int) + (stp l).1 ∧ (r' : Int) + (stp l).1 < R ∧ 0 ≤ (c' : Int) + (stp l).2 ∧ (c' : Int) + (stp l).2 < C) → Q V.non H8 := fun z => qn (goAll_stop hg hl (go1_of_none (nxt_none z))) _ s48
      refine ⟨_, rfl, 0, (r' : Int) + (stp l).1, rfl, rfl, _, rfl, decI (fun z1 => ?_) (fun z1 => ⟨_, rfl, iteT (iteT (nn fun z => z1 z.1))⟩)⟩
      refine ⟨.ref a, rfl, a, _, rfl, .inl (SqL.of Ta8.top), _, _, rfl, rfl, _, rfl, ?_⟩
      rw [hlen]
      by_cases z2 : (r' : Int) + (stp l).1 < R
      case neg =>
        rw [decide_eq_false z2]
        exact iteT (iteT (nn fun z => z2 z.2.1))
      rw [decide_eq_true z2]
      refine iteF ?_
      refine ⟨_, rfl, 0, (c' : Int) + (stp l).2, rfl, rfl, _, rfl, decI (fun z3 => ?_) (fun z3 => ⟨_, rfl, iteT (nn fun z => z3 z.2.2.1)⟩)⟩
      refine ⟨.ref a, rfl, a, _, 0, _, rfl, rfl, SqL.of Ta8.top, atI_nat (j := 0) g2, r0, _, rfl, .inl (SqL.of g3), _, _, rfl, rfl, _, rfl, ?_⟩
      rw [rowV_len]
      by_cases z4 : (c' : Int) + (stp l).2 < C
      case neg =>
        rw [decide_eq_false z4]
        exact iteT (nn fun z => z4 z.2.2.2)
      rw [decide_eq_true z4]
      refine iteF ?_
      obtain ⟨r2, hr2⟩ := Int.eq_ofNat_of_zero_le z1
      obtain ⟨c2, hc2⟩ := Int.eq_ofNat_of_zero_le z3
      have hn : nxt R C r' c' l = some (r2, c2) := by
        rw [nxt_some ⟨z1, z2, z3, z4⟩, hr2, hc2, Int.toNat_natCast, Int.toNat_natCast]
      obtain ⟨_, _, hr2', hc2'⟩ := nxt_eq hn
      have hc' : c' < C := g'.z.c
      obtain ⟨ra, a1', a2', a3'⟩ := T8.get g'.z.r
      obtain ⟨rb, b1, b2, b3⟩ := T8.get hr2'
      refine ⟨.ref D, rfl, _, rfl, D, _, (r2 : Int), _, rfl, congrArg V.int hr2, SqL.of T8.top, atI_nat b2, _, rfl, rb, _, (c2 : Int), _, rfl, congrArg V.int hc2, SqL.of b3, atI_nat (rowV_get hc2'), ?_⟩
      refine ⟨.ref D, rfl, _, rfl, D, _, (r' : Int), _, rfl, rfl, SqL.of T8.top, atI_nat a2', _, rfl, ra, _, (c' : Int), c', rfl, rfl, a3', by rw [rowV_len]; exact ixN_nat hc', ?_⟩
      have T9 := T8.put (v := f' (r2 * C + c2)) a1' hc'
      obtain ⟨rb', b1', b2', b3'⟩ := T9.get hr2'
      rw [b1] at b1'
      cases b1'
      refine ⟨.ref D, rfl, _, rfl, D, _, (r2 : Int), _, rfl, congrArg V.int hr2, SqL.of T9.top, atI_nat b2', _, rfl, rb, _, (c2 : Int), c2, rfl, congrArg V.int hc2, b3', by rw [rowV_len]; exact ixN_nat hc2', ?_⟩
      have T10 := T9.put (v := 0) b1 hc2'
      refine ⟨_, rfl, _, rfl, _, _, rfl, put2 f' (r' * C + c') (r2 * C + c2), r2, c2, some (.str (txt [l])), some (.int (stp l).1), some (.int (stp l).2), some (.int ((r' : Int) + (stp l).1)), some (.int ((c' : Int) + (stp l).2)), ?_, ?_, ?_, T10⟩
      · rw [goAll_take hg hl, go1_of_nxt hn]
      · rw [← hr2, ← hc2]
        rfl
      · intro b o e
        have nb : ∀ y ∈ rs1, b ≠ y := fun y hy z => by
          have h1 := nrs y hy
          rw [← z, e] at h1
          cases h1
        rw [upd_ne (nb _ (List.mem_of_getElem? b1)), upd_ne (nb _ (List.mem_of_getElem? a1'))]
        exact s48 _ _ e
    · rintro σ H4 ⟨f', r', c', v5, v6, v7, v8, v9, hg, rfl, s4, T4⟩
      have e : ws.take (txt ws).cps.size = ws := by
        show ws.take ws.toArray.size = ws
        rw [List.size_toArray, List.take_length]
      rw [e] at hg
      exact ⟨_, rfl, q _ hg H4 D rs1 s4 nD nrs T4⟩
end
end Tr
namespace Tr
open PySem PySem.Spec PyProof.Rows L2
theorem ud_eq : ("ud" : Str) = txt [117, 100] := by decide +kernel
theorem lr_eq : ("lr" : Str) = txt [108, 114] := by decide +kernel
theorem scWalk : FnScope ["_law_tray_here", "_law_cells", "_law_row", "_law_column", "_law_found", "_law_cell", "_law_letter"] ["_law_tray_here", "_law_cells"] (defScope d_law_walk) := ⟨rfl, rfl, rfl, by decide +kernel, rfl, by decide +kernel, by decide +kernel⟩
def spWalk (K : PySem.W.Frag) : Sp := fun vs H Q _ => ∃ (a b : Addr) (rs : List Addr) (R C : Nat) (s : Sl) (ns : List Int), vs = [.ref a, .ref b] ∧ TrayAt H a rs R C s.1 ∧ Good R C s ∧ SqL K H b (ns.map V.int) ∧ ns.length ≤ 500 ∧
  ∀ (ws : List Nat) (s' : Sl) H', Same H H' → goAll R C s ws = some s' → (∀ l ∈ ws, okL l) → ws.length ≤ ns.length → Q (.str (txt ws)) H'
theorem go_more {R C r c w r2 c2 : Nat} {f : Fld} {s : Sl} {ws : List Nat} (h : goAll R C s ws = some (f, r, c)) (hn : nxt R C r c w = some (r2, c2)) : ∃ f2, goAll R C s (ws ++ [w]) = some (f2, r2, c2) := by
  refine ⟨put2 f (r * C + c) (r2 * C + c2), ?_⟩
  rw [goAll_append, h]
  show goAll R C (f, r, c) [w] = _
  rw [goAll_one, go1_of_nxt hn]
theorem nxt_at {R C r c w r2 c2 : Nat} (h1 : (r2 : Int) = r + (stp w).1) (h2 : (c2 : Int) = c + (stp w).2) (h3 : r2 < R) (h4 : c2 < C) : nxt R C r c w = some (r2, c2) := by
  rw [nxt_some (by omega)]
  rw [← h1, ← h2, Int.toNat_natCast, Int.toNat_natCast]
theorem ok_more {ws : List Nat} {w : Nat} (h : ∀ l ∈ ws, okL l) (hw : okL w) : ∀ l ∈ ws ++ [w], okL l := by
  intro l m
  rcases List.mem_append.mp m with m | m
  · exact h l m
  · rw [List.mem_singleton.mp m]
    exact hw
theorem udlr_at {n : Int} (h0 : 0 ≤ n) (h4 : n < 4) : ∃ l, okL l ∧ atI udlr n = some l := by
  obtain ⟨k, rfl⟩ := Int.eq_ofNat_of_zero_le h0
  have hk : k < udlr.length := by
    show k < 4
    omega
  refine ⟨udlr[k], ?_, atI_nat (List.getElem?_eq_getElem hk)⟩
  have m : udlr[k] ∈ udlr := List.getElem_mem hk
  revert m
  generalize udlr[k] = l
  unfold udlr okL
  simp
section
variable {P : Program} {w : World} {K : PySem.W.Frag} {mg : Str → Option Value} {base : Heap}
theorem ok_walk {fa fP : Addr} {fd fdP : FuncData} {k : Nat} (F : Fun K "_law_walk" "_law_walk" d_law_walk fa fd) (mL : mg "len" = none)
    (GP : FnOk P w K mg base CX0 (k + 1) fP fdP ["_law_tray_here", "_law_piece"] spPlace) (gP : mg "_law_place" = some (.ref fP)) (kP : PySem.W.keepIn K (.ref fP) = true) (bP : Binds K fdP ["_law_tray_here", "_law_piece"] []) :
    FnOk P w K mg base CX0 (k + 2) fa fd ["_law_tray_here", "_law_cells"] (spWalk K) := by
  refine F.ok scWalk (fun vs H Q E h => ?_) (fun cdv A outer s H vs Q E hr h => ?_)
  · obtain ⟨a, b, rs, R, C, s, ns, rfl, _⟩ := h
    rfl
  · obtain ⟨a, b, rs, R, C, ⟨f, r, c⟩, ns, rfl, Ta, g, hS, hns, q⟩ := h
    have hR := g.r6
    have hR0 := g.r0
    have hC := g.c6
    refine ⟨_, pss_cons (ps_asg (pe_call GP hr (by rfl) gP kP bP .nil pass0 (pa_cons (pv 0) (pa_cons pe_int pa_nil))) (pg_tup rfl (pgs_cons (pg_name (i := 2) scWalk.nd rfl (.inl rfl)) (pgs_cons (pg_name (i := 3) scWalk.nd rfl (.inl rfl)) pgs_nil))))
      (pss_cons (ps_set (i := 4) scWalk.nd rfl (.inl rfl) pe_str)
      (pss_cons (ps_for PassesOwn.never rfl (pi_list (pv 1)) (pg_name (i := 5) scWalk.nd rfl (.inl rfl))
        (pss_cons (ps_set (i := 6) scWalk.nd rfl (.inl rfl) (pe_ix ix_str pe_str (pe_op op_mod (pv 5) pe_int) (fun _ _ => rfl)))
        (pss_one (ps_if (PW.pt (pw_and (pt_cmpR op_in_sign (pv 6) pe_str rfl) (pw_and1 (pt_cmpR op_gt (pe_callB call_len_seq (by rfl) mL PySem.boot_len (pa_cons (pv 0) pa_nil)) pe_int (nomark _)))))
          (C8.pss_cut (ps_set (i := 6) scWalk.nd rfl (.inl rfl) (pe_ifExp (pt_cmpR op_eq (pv 2) pe_int (nomark _)) pe_str (pe_ifExp (pt_cmpR op_eq (pv 2) (pe_op op_sub (pe_callB call_len_seq (by rfl) mL PySem.boot_len (pa_cons (pv 0) pa_nil)) pe_int) (nomark _)) pe_str (pv 6))))
          (C8.pss_cut (ps_set (i := 2) scWalk.nd rfl (.inl rfl) (pe_ifExp (pt_cmpR op_eq (pv 6) pe_str (nomark _)) (pe_op op_add (pv 2) pe_int) (pe_op op_sub (pv 2) pe_int)))
          (pss_one (ps_set (i := 4) scWalk.nd rfl (.inl rfl) (pe_op op_add_str (pv 4) (pv 6))))))
          (pss_one (ps_if (PW.pt (pw_and (pt_cmpR op_in_sign (pv 6) pe_str rfl) (pw_and1 (pt_cmpR op_gt (pe_callB call_len_seq (by rfl) mL PySem.boot_len (pa_cons (pe_ix ix_list (pv 0) pe_int (fun _ _ => rfl)) pa_nil)) pe_int (nomark _)))))
            (C8.pss_cut (ps_set (i := 6) scWalk.nd rfl (.inl rfl) (pe_ifExp (pt_cmpR op_eq (pv 3) pe_int (nomark _)) pe_str (pe_ifExp (pt_cmpR op_eq (pv 3) (pe_op op_sub (pe_callB call_len_seq (by rfl) mL PySem.boot_len (pa_cons (pe_ix ix_list (pv 0) pe_int (fun _ _ => rfl)) pa_nil)) pe_int) (nomark _)) pe_str (pv 6))))
            (C8.pss_cut (ps_set (i := 3) scWalk.nd rfl (.inl rfl) (pe_ifExp (pt_cmpR op_eq (pv 6) pe_str (nomark _)) (pe_op op_add (pv 3) pe_int) (pe_op op_sub (pv 3) pe_int)))
            (pss_one (ps_set (i := 4) scWalk.nd rfl (.inl rfl) (pe_op op_add_str (pv 4) (pv 6))))))
            pss_nil))))))
      (pss_one (ps_ret (pv 4))))), ?_⟩
    refine ⟨_, rfl, a, rs, R, C, f, r, c, rfl, Ta, g.z, g.uniq, by omega, by omega, fun H1 p s1 np hp => ?_⟩
    refine ⟨p, _, rfl, SqT.of hp, rfl, _, _, rfl, _, _, rfl, rfl, ?_⟩
    have T1 := Ta.mono s1
    have hS1 := s1.seq hS
    obtain ⟨r0, g1, g2, g3⟩ := T1.get (i := 0) hR0
    have hlen : ((rs.map V.ref).length : Int) = R := by rw [List.length_map, Ta.len]
    refine ⟨_, rfl, b, rfl, ⟨_, hS1⟩, for_list (K := K) (a := b) (xs := ns.map V.int) (fun i σ H' => H' = H1 ∧ ∃ (ws : List Nat) (f' : Fld) (r' c' : Nat) (v5 v6 : Option V), goAll R C (f, r, c) ws = some (f', r', c') ∧ (∀ l ∈ ws, okL l) ∧ ws.length ≤ i ∧ σ = [some (.ref a), some (.ref b), some (.int (r' : Nat)), some (.int (c' : Nat)), some (.str (txt ws)), v5, v6])
      ⟨rfl, [], f, r, c, none, none, rfl, (fun l h => by cases h), Nat.le_refl _, ?_⟩ (fun i σ H' _ p => p.1 ▸ hS1) ?_ ?_⟩
    · rw [empty_eq]
      rfl
    · rintro i x σ H2 hx ⟨rfl, ws, f', r', c', v5, v6, hg, hok, hwl, rfl⟩
      have hil : i < ns.length := by
        have := (List.getElem?_eq_some_iff.mp hx).1
        rwa [List.length_map] at this
      obtain ⟨z, rfl⟩ : ∃ z, x = V.int z := by
        rw [List.getElem?_map] at hx
        cases e : ns[i]? with
        | none => rw [e] at hx; cases hx
        | some z => rw [e] at hx; exact ⟨z, (Option.some.inj hx).symm⟩
      have g' : Good R C (f', r', c') := g.go hg
      have hr' : r' < R := g'.z.r
      have hc' : c' < C := g'.z.c
      have hws : ∀ l : Nat, (txt ws).length + (txt [l]).length ≤ sizeLine := fun l => by
        rw [txt_len, txt_len]
        exact Nat.le_of_lt (small1000 (by show ws.length + 1 ≤ 1000; omega))
      obtain ⟨l, hl, hat⟩ := udlr_at (Int.emod_nonneg z (b := 4) (by decide)) (Int.emod_lt_of_pos z (b := 4) (by decide))
      refine ⟨_, rfl, z, 4, rfl, rfl, (by show (0 : Int) < 4; decide), "udlr", _, l, rfl, rfl, (by show 4 ≤ sizeLine; decide), by rw [udlr_eq]; exact hat, ?_⟩
      refine ⟨_, rfl, l, "ud", rfl, rfl, _, rfl, ?_⟩
      rw [ud_eq]
      have stay : ∀ σ : L2.St, σ = [some (.ref a), some (.ref b), some (.int (r' : Nat)), some (.int (c' : Nat)), some (.str (txt ws)), some (.int z), some (.str (txt [l]))] → H2 = H2 ∧ ∃ (ws : List Nat) (f' : Fld) (r' c' : Nat) (v5 v6 : Option V), goAll R C (f, r, c) ws = some (f', r', c') ∧ (∀ l ∈ ws, okL l) ∧ ws.length ≤ i + 1 ∧ σ = [some (.ref a), some (.ref b), some (.int (r' : Nat)), some (.int (c' : Nat)), some (.str (txt ws)), v5, v6] := by
        rintro σ rfl
        exact ⟨rfl, ws, f', r', c', _, _, hg, hok, by omega, rfl⟩
      have step : ∀ (w r2 c2 : Nat) (σ : L2.St), okL w → nxt R C r' c' w = some (r2, c2) → σ = [some (.ref a), some (.ref b), some (.int (r2 : Nat)), some (.int (c2 : Nat)), some (.str (txt (ws ++ [w]))), some (.int z), some (.str (txt [w]))] → H2 = H2 ∧ ∃ (ws : List Nat) (f' : Fld) (r' c' : Nat) (v5 v6 : Option V), goAll R C (f, r, c) ws = some (f', r', c') ∧ (∀ l ∈ ws, okL l) ∧ ws.length ≤ i + 1 ∧ σ = [some (.ref a), some (.ref b), some (.int (r' : Nat)), some (.int (c' : Nat)), some (.str (txt ws)), v5, v6] := by
        rintro w r2 c2 σ hw hn rfl
        obtain ⟨f2, h2⟩ := go_more hg hn
        exact ⟨rfl, ws ++ [w], f2, r2, c2, _, _, h2, ok_more hok hw, by rw [List.length_append]; show ws.length + 1 ≤ i + 1; omega, rfl⟩
      -- the second test, asked where the first falls
      have second : ∀ (σ : L2.St), σ = [some (.ref a), some (.ref b), some (.int (r' : Nat)), some (.int (c' : Nat)), some (.str (txt ws)), some (.int z), some (.str (txt [l]))] → True := fun _ _ => True.intro
      refine decI (fun m => ?_) (fun m => ?_)
      · refine ⟨.ref a, rfl, a, _, rfl, .inl (SqL.of T1.top), _, 1, rfl, rfl, _, rfl, ?_⟩
        rw [hlen]
        refine decI (fun hb => ?_) (fun hb => ?_)
        · -- up and down
          refine ⟨fun σ H' => H2 = H' ∧ ∃ w, ((w = 100 ∧ r' + 1 < R) ∨ (w = 117 ∧ 0 < r')) ∧ σ = [some (.ref a), some (.ref b), some (.int (r' : Nat)), some (.int (c' : Nat)), some (.str (txt ws)), some (.int z), some (.str (txt [w]))], ?_, ?_⟩
          · refine ⟨_, rfl, rfl, _, rfl, decI (fun e => ?_) (fun e => ?_)⟩
            · have e : (r' : Int) = 0 := V.int.inj e
              refine ⟨rfl, 100, .inl ⟨rfl, by omega⟩, ?_⟩
              rw [d_eq]
              rfl
            · have e : ¬ (r' : Int) = 0 := fun z => e (congrArg V.int z)
              refine ⟨_, rfl, .ref a, rfl, a, _, rfl, .inl (SqL.of T1.top), _, 1, rfl, rfl, rfl, _, rfl, ?_⟩
              rw [hlen]
              refine decI (fun e2 => ?_) (fun e2 => ?_)
              · refine ⟨rfl, 117, .inr ⟨rfl, by omega⟩, ?_⟩
                rw [u_eq]
                rfl
              · have e2 : ¬ (r' : Int) = (R : Int) - 1 := fun z => e2 (congrArg V.int z)
                refine ⟨_, rfl, rfl, l, ?_, rfl⟩
                have m : l ∈ [117, 100] := m
                rcases List.mem_cons.mp m with m | m
                · exact .inr ⟨m, by omega⟩
                · exact .inl ⟨List.mem_singleton.mp m, by omega⟩
          · rintro σ' H' ⟨rfl, w, hw, rfl⟩
            refine ⟨fun σ H' => H2 = H' ∧ ∃ r2 : Nat, okL w ∧ nxt R C r' c' w = some (r2, c') ∧ σ = [some (.ref a), some (.ref b), some (.int (r2 : Nat)), some (.int (c' : Nat)), some (.str (txt ws)), some (.int z), some (.str (txt [w]))], ?_, ?_⟩
            · refine ⟨_, rfl, rfl, _, rfl, ?_⟩
              rw [d_eq]
              rcases hw with ⟨rfl, hlt⟩ | ⟨rfl, hgt⟩
              · rw [decide_eq_true rfl]
                refine iteT ?_
                refine ⟨_, rfl, _, 1, rfl, rfl, rfl, r' + 1, .inr (.inl rfl), nxt_at (by show ((r' + 1 : Nat) : Int) = (r' : Int) + 1; omega) (by show (c' : Int) = (c' : Int) + 0; omega) hlt hc', ?_⟩
                rw [Int.natCast_add]
                rfl
              · rw [decide_eq_false (by intro e; exact absurd (List.head_eq_of_cons_eq (txt_inj (V.str.inj e))) (by decide))]
                refine iteF ?_
                obtain ⟨r2, rfl⟩ : ∃ r2, r' = r2 + 1 := ⟨r' - 1, by omega⟩
                refine ⟨_, rfl, _, 1, rfl, rfl, rfl, r2, .inl rfl, nxt_at (by show (r2 : Int) = ((r2 + 1 : Nat) : Int) + -1; omega) (by show (c' : Int) = (c' : Int) + 0; omega) (by omega) hc', ?_⟩
                have e3 : ((r2 + 1 : Nat) : Int) - 1 = (r2 : Int) := by omega
                show [_, _, some (V.int (((r2 + 1 : Nat) : Int) - 1)), _, _, _, _] = _
                rw [e3]
            · rintro σ' H' ⟨rfl, r2, hwo, hn, rfl⟩
              refine ⟨_, rfl, _, rfl, _, _, rfl, rfl, hws w, step w r2 c' _ hwo hn ?_⟩
              rw [txt_add]
              rfl
        · skip
          refine ⟨_, rfl, l, "lr", rfl, rfl, _, rfl, ?_⟩
          rw [lr_eq]
          refine decI (fun m2 => ?_) (fun m2 => iteF (stay _ rfl))
          refine ⟨.ref a, rfl, a, _, 0, _, rfl, rfl, SqL.of T1.top, atI_nat (j := 0) g2, r0, _, rfl, .inl (SqL.of g3), _, 1, rfl, rfl, _, rfl, ?_⟩
          rw [rowV_len]
          refine decI (fun hb2 => ?_) (fun hb2 => stay _ rfl)
          refine ⟨fun σ H' => H2 = H' ∧ ∃ w, ((w = 114 ∧ c' + 1 < C) ∨ (w = 108 ∧ 0 < c')) ∧ σ = [some (.ref a), some (.ref b), some (.int (r' : Nat)), some (.int (c' : Nat)), some (.str (txt ws)), some (.int z), some (.str (txt [w]))], ?_, ?_⟩
          · refine ⟨_, rfl, rfl, _, rfl, decI (fun e => ?_) (fun e => ?_)⟩
            · have e : (c' : Int) = 0 := V.int.inj e
              refine ⟨rfl, 114, .inl ⟨rfl, by omega⟩, ?_⟩
              rw [r_eq]
              rfl
            · have e : ¬ (c' : Int) = 0 := fun z => e (congrArg V.int z)
              refine ⟨_, rfl, .ref a, rfl, a, _, 0, _, rfl, rfl, SqL.of T1.top, atI_nat (j := 0) g2, r0, _, rfl, .inl (SqL.of g3), _, 1, rfl, rfl, rfl, _, rfl, ?_⟩
              rw [rowV_len]
              refine decI (fun e2 => ?_) (fun e2 => ?_)
              · refine ⟨rfl, 108, .inr ⟨rfl, by omega⟩, ?_⟩
                rw [l_eq]
                rfl
              · have e2 : ¬ (c' : Int) = (C : Int) - 1 := fun z => e2 (congrArg V.int z)
                refine ⟨_, rfl, rfl, l, ?_, rfl⟩
                have m : l ∈ [108, 114] := m2
                rcases List.mem_cons.mp m with m | m
                · exact .inr ⟨m, by omega⟩
                · exact .inl ⟨List.mem_singleton.mp m, by omega⟩
          · rintro σ' H' ⟨rfl, w, hw, rfl⟩
            refine ⟨fun σ H' => H2 = H' ∧ ∃ c2 : Nat, okL w ∧ nxt R C r' c' w = some (r', c2) ∧ σ = [some (.ref a), some (.ref b), some (.int (r' : Nat)), some (.int (c2 : Nat)), some (.str (txt ws)), some (.int z), some (.str (txt [w]))], ?_, ?_⟩
            · refine ⟨_, rfl, rfl, _, rfl, ?_⟩
              rw [r_eq]
              rcases hw with ⟨rfl, hlt⟩ | ⟨rfl, hgt⟩
              · rw [decide_eq_true rfl]
                refine iteT ?_
                refine ⟨_, rfl, _, 1, rfl, rfl, rfl, c' + 1, .inr (.inr (.inr rfl)), nxt_at (by show (r' : Int) = (r' : Int) + 0; omega) (by show ((c' + 1 : Nat) : Int) = (c' : Int) + 1; omega) hr' hlt, ?_⟩
                rw [Int.natCast_add]
                rfl
              · rw [decide_eq_false (by intro e; exact absurd (List.head_eq_of_cons_eq (txt_inj (V.str.inj e))) (by decide))]
                refine iteF ?_
                obtain ⟨c2, rfl⟩ : ∃ c2, c' = c2 + 1 := ⟨c' - 1, by omega⟩
                refine ⟨_, rfl, _, 1, rfl, rfl, rfl, c2, .inr (.inr (.inl rfl)), nxt_at (by show (r' : Int) = (r' : Int) + 0; omega) (by show (c2 : Int) = ((c2 + 1 : Nat) : Int) + -1; omega) hr' (by omega), ?_⟩
                have e3 : ((c2 + 1 : Nat) : Int) - 1 = (c2 : Int) := by omega
                show [_, _, _, some (V.int (((c2 + 1 : Nat) : Int) - 1)), _, _, _] = _
                rw [e3]
            · rintro σ' H' ⟨rfl, c2, hwo, hn, rfl⟩
              refine ⟨_, rfl, _, rfl, _, _, rfl, rfl, hws w, step w r' c2 _ hwo hn ?_⟩
              rw [txt_add]
              rfl
      · refine iteF ?_
        refine ⟨_, rfl, l, "lr", rfl, rfl, _, rfl, ?_⟩
        rw [lr_eq]
        refine decI (fun m2 => ?_) (fun m2 => iteF (stay _ rfl))
        refine ⟨.ref a, rfl, a, _, 0, _, rfl, rfl, SqL.of T1.top, atI_nat (j := 0) g2, r0, _, rfl, .inl (SqL.of g3), _, 1, rfl, rfl, _, rfl, ?_⟩
        rw [rowV_len]
        refine decI (fun hb2 => ?_) (fun hb2 => stay _ rfl)
        refine ⟨fun σ H' => H2 = H' ∧ ∃ w, ((w = 114 ∧ c' + 1 < C) ∨ (w = 108 ∧ 0 < c')) ∧ σ = [some (.ref a), some (.ref b), some (.int (r' : Nat)), some (.int (c' : Nat)), some (.str (txt ws)), some (.int z), some (.str (txt [w]))], ?_, ?_⟩
        · refine ⟨_, rfl, rfl, _, rfl, decI (fun e => ?_) (fun e => ?_)⟩
          · have e : (c' : Int) = 0 := V.int.inj e
            refine ⟨rfl, 114, .inl ⟨rfl, by omega⟩, ?_⟩
            rw [r_eq]
            rfl
          · have e : ¬ (c' : Int) = 0 := fun z => e (congrArg V.int z)
            refine ⟨_, rfl, .ref a, rfl, a, _, 0, _, rfl, rfl, SqL.of T1.top, atI_nat (j := 0) g2, r0, _, rfl, .inl (SqL.of g3), _, 1, rfl, rfl, rfl, _, rfl, ?_⟩
            rw [rowV_len]
            refine decI (fun e2 => ?_) (fun e2 => ?_)
            · refine ⟨rfl, 108, .inr ⟨rfl, by omega⟩, ?_⟩
              rw [l_eq]
              rfl
            · have e2 : ¬ (c' : Int) = (C : Int) - 1 := fun z => e2 (congrArg V.int z)
              refine ⟨_, rfl, rfl, l, ?_, rfl⟩
              have m : l ∈ [108, 114] := m2
              rcases List.mem_cons.mp m with m | m
              · exact .inr ⟨m, by omega⟩
              · exact .inl ⟨List.mem_singleton.mp m, by omega⟩
        · rintro σ' H' ⟨rfl, w, hw, rfl⟩
          refine ⟨fun σ H' => H2 = H' ∧ ∃ c2 : Nat, okL w ∧ nxt R C r' c' w = some (r', c2) ∧ σ = [some (.ref a), some (.ref b), some (.int (r' : Nat)), some (.int (c2 : Nat)), some (.str (txt ws)), some (.int z), some (.str (txt [w]))], ?_, ?_⟩
          · refine ⟨_, rfl, rfl, _, rfl, ?_⟩
            rw [r_eq]
            rcases hw with ⟨rfl, hlt⟩ | ⟨rfl, hgt⟩
            · rw [decide_eq_true rfl]
              refine iteT ?_
              refine ⟨_, rfl, _, 1, rfl, rfl, rfl, c' + 1, .inr (.inr (.inr rfl)), nxt_at (by show (r' : Int) = (r' : Int) + 0; omega) (by show ((c' + 1 : Nat) : Int) = (c' : Int) + 1; omega) hr' hlt, ?_⟩
              rw [Int.natCast_add]
              rfl
            · rw [decide_eq_false (by intro e; exact absurd (List.head_eq_of_cons_eq (txt_inj (V.str.inj e))) (by decide))]
              refine iteF ?_
              obtain ⟨c2, rfl⟩ : ∃ c2, c' = c2 + 1 := ⟨c' - 1, by omega⟩
              refine ⟨_, rfl, _, 1, rfl, rfl, rfl, c2, .inr (.inr (.inl rfl)), nxt_at (by show (r' : Int) = (r' : Int) + 0; omega) (by show (c2 : Int) = ((c2 + 1 : Nat) : Int) + -1; omega) hr' (by omega), ?_⟩
              have e3 : ((c2 + 1 : Nat) : Int) - 1 = (c2 : Int) := by omega
              show [_, _, _, some (V.int (((c2 + 1 : Nat) : Int) - 1)), _, _, _] = _
              rw [e3]
          · rintro σ' H' ⟨rfl, c2, hwo, hn, rfl⟩
            refine ⟨_, rfl, _, rfl, _, _, rfl, rfl, hws w, step w r' c2 _ hwo hn ?_⟩
            rw [txt_add]
            rfl
    · rintro σ H2 ⟨rfl, ws, f', r', c', v5, v6, hg, hok, hwl, rfl⟩
      rw [List.length_map] at hwl
      exact ⟨_, rfl, q ws _ _ s1 hg hok hwl⟩
end
end Tr
/-! the law's own counts: pairs, steps -/
namespace Tr
open PySem PySem.Spec PyProof.Rows L2
theorem accV_rows (C : Nat) (f : Fld) : ∀ R, accV (rowV C f) R = (allV (R * C) f).map V.int
  | 0 => by rw [Nat.zero_mul]; rfl
  | R + 1 => by
    show accV (rowV C f) R ++ rowV C f R = _
    rw [accV_rows C f R]
    exact allV_rows C f R
theorem allV_len (n : Nat) (f : Fld) : (allV n f).length = n := by simp [allV]
theorem allV_at {n : Nat} {f : Fld} {i : Nat} (h : i < n) : ((allV n f).map V.int)[i]? = some (V.int (f i)) := by
  simp [allV, h]
theorem flat_ints (ns : List Int) : (ns.map V.int).all flatV = true := by
  rw [List.all_eq_true]
  intro x hx
  obtain ⟨n, _, rfl⟩ := List.mem_map.mp hx
  rfl
/-- list.index over all numbers of a tray -/
theorem posOf_index {n : Nat} {f g : Fld} (hf : Full n f) (hg : Full n g) {i : Nat} (h : i < n) :
    ((allV n g).map V.int)[posOf n g (f i)]? = some (V.int (f i)) ∧ ∀ (m : Nat) (z' : V), m < posOf n g (f i) → ((allV n g).map V.int)[m]? = some z' → eqV z' (V.int (f i)) = false := by
  have hp := posOf_lt hf hg h
  have he := posOf_get hf hg h
  refine ⟨by rw [allV_at hp, he], fun m z' hm e => ?_⟩
  rw [allV_at (by omega)] at e
  have e := Option.some.inj e
  subst e
  show (g m == f i) = false
  refine beq_eq_false_iff_ne.mpr fun q => ?_
  have := full_inj hg (i := m) (j := posOf n g (f i)) (by omega) hp (q.trans he.symm)
  omega
theorem scCrossed : FnScope ["_law_one", "_law_other", "_law_mine", "_law_theirs", "_law_found", "_law_at", "_law_ahead"] ["_law_one", "_law_other"] (defScope d_law_crossed) := ⟨rfl, rfl, rfl, by decide +kernel, rfl, by decide +kernel, by decide +kernel⟩
/-- asked of two trays of the same sides -/
def spTwo (g : Nat → Nat → Fld → Fld → Nat) : Sp := fun vs H Q _ => ∃ (a b : Addr) (rs rs2 : List Addr) (R C : Nat) (f h : Fld), vs = [.ref a, .ref b] ∧ TrayAt H a rs R C f ∧ TrayAt H b rs2 R C h ∧ 0 < R ∧ R ≤ 6 ∧ 0 < C ∧ C ≤ 6 ∧ Full (R * C) f ∧ Full (R * C) h ∧
  ∀ H', Same H H' → Q (.int (g R C f h : Nat)) H'
section
variable {P : Program} {w : World} {K : PySem.W.Frag} {mg : Str → Option Value} {base : Heap}
theorem ok_crossed {fa : Addr} {fd : FuncData} {k : Nat} (F : Fun K "_law_crossed" "_law_crossed" d_law_crossed fa fd) (mSum : mg "sum" = none) (mR : mg "range" = none) (mL : mg "len" = none) :
    FnOk P w K mg base CX0 (k + 1) fa fd ["_law_one", "_law_other"] (spTwo fun R C f h => crossed (R * C) f h) := by
  refine F.ok scCrossed (fun vs H Q E h => ?_) (fun cdv A outer s H vs Q E hr h => ?_)
  · obtain ⟨a, b, rs, rs2, R, C, f, g, rfl, _⟩ := h
    rfl
  · obtain ⟨a, b, rs, rs2, R, C, f, g, rfl, Ta, Tb, hR0, hR, hC0, hC, hf, hg, q⟩ := h
    have hRC := rows36 hR hC
    refine ⟨_, pss_cons (ps_set (i := 2) scCrossed.nd rfl (.inl rfl) (pe_callB (cr_sumL rfl) (by rfl) mSum (by decide +kernel) (pa_cons (pv 0) (pa_cons (pe_lst pa_nil) pa_nil))))
      (pss_cons (ps_set (i := 3) scCrossed.nd rfl (.inl rfl) (pe_callB (cr_sumL rfl) (by rfl) mSum (by decide +kernel) (pa_cons (pv 1) (pa_cons (pe_lst pa_nil) pa_nil))))
      (pss_cons (ps_set (i := 4) scCrossed.nd rfl (.inl rfl) pe_int)
      (pss_cons (ps_for PassesOwn.never rfl (pi_range1 rfl mR (pa_cons (pe_callB call_len_seq (by rfl) mL PySem.boot_len (pa_cons (pv 2) pa_nil)) pa_nil)) (pg_name (i := 5) scCrossed.nd rfl (.inl rfl))
        (pss_one (ps_for PassesOwn.never rfl (pi_range1 rfl mR (pa_cons (pv 5) pa_nil)) (pg_name (i := 6) scCrossed.nd rfl (.inl rfl))
          (pss_one (ps_if (pt_cmpR op_gt (pe_bm PySem.F.plainAttrs_list PySem.F.slot_list_index PySem.F.type_list_index mt_index (pv 3) (pa_cons (pe_ix ix_list (pv 2) (pv 6) (fun _ _ => rfl)) pa_nil))
              (pe_bm PySem.F.plainAttrs_list PySem.F.slot_list_index PySem.F.type_list_index mt_index (pv 3) (pa_cons (pe_ix ix_list (pv 2) (pv 5) (fun _ _ => rfl)) pa_nil)) (nomark _))
            (pss_one (ps_set (i := 4) scCrossed.nd rfl (.inl rfl) (pe_op op_add (pv 4) pe_int))) pss_nil)))))
      (pss_one (ps_ret (pv 4)))))), ?_⟩
    have sizes : ∀ i, i ≤ R → ∀ f, (accV (rowV C f) i).length ≤ sizeLine := fun i hi f => by
      rw [accV_rows, List.length_map, allV_len]
      refine Nat.le_of_lt (small1000 ?_)
      have : i * C ≤ R * C := Nat.mul_le_mul_right C hi
      omega
    -- mine, theirs
    refine ⟨_, rfl, Nat.zero_le _, fun e1 ne1 => ?_⟩
    have s1 := same_upd (o := .lst []) ne1
    have Ta1 := Ta.mono s1
    refine ⟨a, e1, rs, rowV C f, rfl, Ta1.top, by rw [Ta.len]; exact hR0, upd_same, Ta1.row, fun i hi => sizes i (by rw [← Ta.len]; exact hi) f, fun m nm => ?_⟩
    rw [Ta.len, accV_rows]
    have s2 := same_upd (o := .lst ((allV (R * C) f).map V.int)) nm
    have hm := upd_same (H := upd H e1 (.lst [])) (a := m) (o := .lst ((allV (R * C) f).map V.int))
    refine ⟨_, rfl, Nat.zero_le _, fun e2 ne2 => ?_⟩
    have s3 := same_upd (o := .lst []) ne2
    have Tb3 := ((Tb.mono s1).mono s2).mono s3
    refine ⟨b, e2, rs2, rowV C g, rfl, Tb3.top, by rw [Tb.len]; exact hR0, upd_same, Tb3.row, fun i hi => sizes i (by rw [← Tb.len]; exact hi) g, fun t nt => ?_⟩
    rw [Tb.len, accV_rows]
    have s4 := same_upd (o := .lst ((allV (R * C) g).map V.int)) nt
    have hm4 := s4 _ _ (s3 _ _ hm)
    have ht4 := upd_same (H := upd (upd (upd H e1 (.lst [])) m (.lst ((allV (R * C) f).map V.int))) e2 (.lst [])) (a := t) (o := .lst ((allV (R * C) g).map V.int))
    have s04 := ((s1.trans s2).trans s3).trans s4
    generalize upd (upd (upd (upd H e1 (.lst [])) m (.lst ((allV (R * C) f).map V.int))) e2 (.lst [])) t (.lst ((allV (R * C) g).map V.int)) = H4 at hm4 ht4 s04 ⊢
    clear s1 s2 s3 s4 hm Ta1 Tb3
    generalize hn : R * C = n at hm4 ht4 hf hg hRC q ⊢
    -- the count
    refine ⟨.ref m, rfl, m, _, rfl, .inl (SqL.of hm4), ?_⟩
    rw [List.length_map, allV_len]
    refine ⟨(n : Int), rfl, by omega, by omega, ?_⟩
    rw [Int.toNat_natCast]
    refine for_it (walk_range (lo := 0) (n := n)) (fun i σ H' => H4 = H' ∧ ∃ v5 v6, σ = [some (.ref a), some (.ref b), some (.ref m), some (.ref t), some (.int (inv ((crossL n f g).take i) : Nat)), v5, v6]) ⟨rfl, none, none, rfl⟩ (fun _ _ _ _ _ => True.intro) ?_ ?_
    · rintro i x σ H5 H6 hi ⟨rfl, v5, v6, rfl⟩ ⟨rfl, rfl⟩
      refine ⟨_, rfl, (i : Int), congrArg (fun z => [V.int z]) (Int.zero_add _), by omega, by omega, ?_⟩
      rw [Int.toNat_natCast]
      have hx := crossL_get (f := f) (g := g) hi
      refine for_it (walk_range (lo := 0) (n := i)) (fun j σ H' => H6 = H' ∧ ∃ v6, σ = [some (.ref a), some (.ref b), some (.ref m), some (.ref t), some (.int (inv ((crossL n f g).take i) + ((crossL n f g).take j).countP (fun y => decide (posOf n g (f i) < y)) : Nat)), some (.int (0 + (i : Int))), v6]) ⟨rfl, v6, by rw [List.take_zero]; rfl⟩ (fun _ _ _ _ _ => True.intro) ?_ ?_
      · rintro j y σ H7 H8 hj ⟨rfl, v6, rfl⟩ ⟨rfl, rfl⟩
        have hjn : j < n := by omega
        obtain ⟨p1, p2⟩ := posOf_index hf hg hjn
        obtain ⟨p3, p4⟩ := posOf_index hf hg hi
        have hy := crossL_get (f := f) (g := g) hjn
        refine ⟨_, rfl, .inl ⟨rfl, _, SqL.of ht4⟩, .ref m, rfl, _, rfl, m, _, (j : Int), _, rfl, congrArg V.int (Int.zero_add _), SqL.of hm4, atI_nat (allV_at hjn), t, _, _, posOf n g (f j), _, rfl, rfl, SqL.of ht4, rfl, flat_ints _, p1, by show (f j == f j) = true; exact beq_self_eq_true _, p2, ?_⟩
        refine ⟨_, rfl, .inl ⟨rfl, _, SqL.of ht4⟩, .ref m, rfl, _, rfl, m, _, (i : Int), _, rfl, congrArg V.int (Int.zero_add _), SqL.of hm4, atI_nat (allV_at hi), t, _, _, posOf n g (f i), _, rfl, rfl, SqL.of ht4, rfl, flat_ints _, p3, by show (f i == f i) = true; exact beq_self_eq_true _, p4, ?_⟩
        have et : ((crossL n f g).take (j + 1)).countP (fun y => decide (posOf n g (f i) < y)) = ((crossL n f g).take j).countP (fun y => decide (posOf n g (f i) < y)) + (if posOf n g (f i) < posOf n g (f j) then 1 else 0) := by
          rw [take_more hy, List.countP_append, List.countP_singleton]
          by_cases z : posOf n g (f i) < posOf n g (f j)
          · rw [if_pos z, if_pos (decide_eq_true z)]
          · rw [if_neg z, if_neg (by simpa using z)]
        refine ⟨_, _, rfl, rfl, _, rfl, decI (fun z => ?_) (fun z => ?_)⟩
        · have z : posOf n g (f i) < posOf n g (f j) := by
            have z : ((posOf n g (f i) : Nat) : Int) < ((posOf n g (f j) : Nat) : Int) := z
            omega
          refine ⟨_, rfl, _, 1, rfl, rfl, rfl, some (.int (0 + (j : Int))), ?_⟩
          rw [et, if_pos z]
          rfl
        · have z : ¬ posOf n g (f i) < posOf n g (f j) := by
            have z : ¬ ((posOf n g (f i) : Nat) : Int) < ((posOf n g (f j) : Nat) : Int) := z
            omega
          refine ⟨rfl, some (.int (0 + (j : Int))), ?_⟩
          rw [et, if_neg z]
          rfl
      · rintro σ H7 ⟨rfl, v6, rfl⟩
        refine ⟨rfl, some (.int (0 + (i : Int))), v6, ?_⟩
        rw [take_more hx, inv_snoc]
    · rintro σ H5 ⟨rfl, v5, v6, rfl⟩
      have e : (crossL n f g).take n = crossL n f g := List.take_of_length_le (by rw [crossL_len]; exact Nat.le_refl _)
      rw [e]
      subst hn
      exact ⟨_, rfl, q _ s04⟩
end
end Tr
namespace Tr
open PySem PySem.Spec PyProof.Rows L2
theorem scSteps : FnScope ["_law_one", "_law_other", "_law_here", "_law_there"] ["_law_one", "_law_other"] (defScope d_law_steps) := ⟨rfl, rfl, rfl, by decide +kernel, rfl, by decide +kernel, by decide +kernel⟩
def spSteps : Sp := fun vs H Q _ => ∃ (a b : Addr) (rs rs2 : List Addr) (R C : Nat) (s s2 : Sl), vs = [.ref a, .ref b] ∧ TrayAt H a rs R C s.1 ∧ TrayAt H b rs2 R C s2.1 ∧ Good R C s ∧ Good R C s2 ∧
  ∀ H', Same H H' → Q (.int (steps s.2.1 s.2.2 s2.2.1 s2.2.2 : Nat)) H'
theorem abs_nat (x : Int) : (if x < 0 then -x else x) = (x.natAbs : Int) := by
  by_cases h : x < 0
  · rw [if_pos h]; omega
  · rw [if_neg h]; omega
def idf : Fld := fun k => (k : Int)
theorem full_idf (n : Nat) : Full n idf := List.Perm.refl _
/-- where a number stands, of all numbers below n -/
theorem num_index {n : Nat} {g : Fld} (hg : Full n g) {x : Int} (h0 : 0 ≤ x) (hx : x < n) :
    posOf n g x < n ∧ ((allV n g).map V.int)[posOf n g x]? = some (V.int x) ∧ ∀ (m : Nat) (z' : V), m < posOf n g x → ((allV n g).map V.int)[m]? = some z' → eqV z' (V.int x) = false := by
  obtain ⟨k, rfl⟩ := Int.eq_ofNat_of_zero_le h0
  have hk : k < n := by omega
  obtain ⟨h1, h2⟩ := posOf_index (full_idf n) hg hk
  exact ⟨posOf_lt (full_idf n) hg hk, h1, h2⟩
/-- whether two pieces stand the other way round on one row or column -/
theorem scPassed : FnScope ["_law_one", "_law_other", "_law_first", "_law_second", "_law_mine", "_law_theirs", "_law_ahead"] ["_law_one", "_law_other", "_law_first", "_law_second"] (defScope d_law_passed) := ⟨rfl, rfl, rfl, by decide +kernel, rfl, by decide +kernel, by decide +kernel⟩
def spPassed : Sp := fun vs H Q _ => ∃ (a b : Addr) (rs rs2 : List Addr) (R C : Nat) (f h : Fld) (x y : Int), vs = [.ref a, .ref b, .int x, .int y] ∧ TrayAt H a rs R C f ∧ TrayAt H b rs2 R C h ∧ 0 < R ∧ R ≤ 6 ∧ 0 < C ∧ C ≤ 6 ∧ Full (R * C) f ∧ Full (R * C) h ∧
  ∀ H', Same H H' → Q (.bl (passedB R C f h x y)) H'
section
variable {P : Program} {w : World} {K : PySem.W.Frag} {mg : Str → Option Value} {base : Heap}
theorem ok_steps {fa fP : Addr} {fd fdP : FuncData} {k : Nat} (F : Fun K "_law_steps" "_law_steps" d_law_steps fa fd) (mA : mg "abs" = none)
    (GP : FnOk P w K mg base CX0 (k + 1) fP fdP ["_law_tray_here", "_law_piece"] spPlace) (gP : mg "_law_place" = some (.ref fP)) (kP : PySem.W.keepIn K (.ref fP) = true) (bP : Binds K fdP ["_law_tray_here", "_law_piece"] []) :
    FnOk P w K mg base CX0 (k + 2) fa fd ["_law_one", "_law_other"] spSteps := by
  refine F.ok scSteps (fun vs H Q E h => ?_) (fun cdv A outer s H vs Q E hr h => ?_)
  · obtain ⟨a, b, rs, rs2, R, C, f, g, rfl, _⟩ := h
    rfl
  · obtain ⟨a, b, rs, rs2, R, C, ⟨f, r, c⟩, ⟨f2, r2, c2⟩, rfl, Ta, Tb, g, g2, q⟩ := h
    have hR := g.r6
    have hC := g.c6
    refine ⟨_, pss_cons (ps_set (i := 2) scSteps.nd rfl (.inl rfl) (pe_call GP hr (by rfl) gP kP bP .nil pass0 (pa_cons (pv 0) (pa_cons pe_int pa_nil))))
      (pss_cons (ps_set (i := 3) scSteps.nd rfl (.inl rfl) (pe_call GP hr (by rfl) gP kP bP .nil pass0 (pa_cons (pv 1) (pa_cons pe_int pa_nil))))
      (pss_one (ps_ret (pe_op op_add (pe_callB call_abs (by rfl) mA (by decide +kernel) (pa_cons (pe_op op_sub (pe_ix ix_tup (pv 2) pe_int (fun _ _ => rfl)) (pe_ix ix_tup (pv 3) pe_int (fun _ _ => rfl))) pa_nil))
        (pe_callB call_abs (by rfl) mA (by decide +kernel) (pa_cons (pe_op op_sub (pe_ix ix_tup (pv 2) pe_int (fun _ _ => rfl)) (pe_ix ix_tup (pv 3) pe_int (fun _ _ => rfl))) pa_nil)))))), ?_⟩
    refine ⟨_, rfl, a, rs, R, C, f, r, c, rfl, Ta, g.z, g.uniq, by omega, by omega, fun H1 p s1 np hp => ?_⟩
    refine ⟨_, rfl, b, rs2, R, C, f2, r2, c2, rfl, Tb.mono s1, g2.z, g2.uniq, by omega, by omega, fun H2 p2 s2 np2 hp2 => ?_⟩
    have hp' := s2 _ _ hp
    refine ⟨.ref p, rfl, p, _, 0, _, rfl, rfl, SqT.of hp', atI_nat (j := 0) rfl, .ref p2, rfl, p2, _, 0, _, rfl, rfl, SqT.of hp2, atI_nat (j := 0) rfl, (r : Int), (r2 : Int), rfl, rfl, _, rfl, ?_⟩
    refine ⟨.ref p, rfl, p, _, 1, _, rfl, rfl, SqT.of hp', atI_nat (j := 1) rfl, .ref p2, rfl, p2, _, 1, _, rfl, rfl, SqT.of hp2, atI_nat (j := 1) rfl, (c : Int), (c2 : Int), rfl, rfl, _, rfl, _, _, rfl, rfl, ?_⟩
    have e : (if (r : Int) - r2 < 0 then -((r : Int) - r2) else (r : Int) - r2) + (if (c : Int) - c2 < 0 then -((c : Int) - c2) else (c : Int) - c2) = (steps r c r2 c2 : Nat) := by
      rw [abs_nat, abs_nat]
      unfold steps
      rw [Int.natCast_add]
    show Q (V.int ((if (r : Int) - r2 < 0 then -((r : Int) - r2) else (r : Int) - r2) + (if (c : Int) - c2 < 0 then -((c : Int) - c2) else (c : Int) - c2))) H2
    rw [e]
    exact q _ (s1.trans s2)
theorem ok_passed {fa : Addr} {fd : FuncData} {k : Nat} (F : Fun K "_law_passed" "_law_passed" d_law_passed fa fd) (mSum : mg "sum" = none) (mM : mg "min" = none) (mL : mg "len" = none) :
    FnOk P w K mg base CX0 (k + 1) fa fd ["_law_one", "_law_other", "_law_first", "_law_second"] spPassed := by
  refine F.ok scPassed (fun vs H Q E h => ?_) (fun cdv A outer s H vs Q E hr h => ?_)
  · obtain ⟨a, b, rs, rs2, R, C, f, g, x, y, rfl, _⟩ := h
    rfl
  · obtain ⟨a, b, rs, rs2, R, C, f, g, x, y, rfl, Ta, Tb, hR0, hR, hC0, hC, hf, hg, q⟩ := h
    have hRC := rows36 hR hC
    refine ⟨_, pss_cons (ps_set (i := 4) scPassed.nd rfl (.inl rfl) (pe_callB (cr_sumL rfl) (by rfl) mSum (by decide +kernel) (pa_cons (pv 0) (pa_cons (pe_lst pa_nil) pa_nil))))
      (pss_cons (ps_set (i := 5) scPassed.nd rfl (.inl rfl) (pe_callB (cr_sumL rfl) (by rfl) mSum (by decide +kernel) (pa_cons (pv 1) (pa_cons (pe_lst pa_nil) pa_nil))))
      (pss_cons (ps_if (PW.pt (pw_or (pt_cmpR op_gt (pe_callB (call_min2 rfl) (by rfl) mM (by decide +kernel) (pa_cons (pe_callB call_len_seq (by rfl) mL PySem.boot_len (pa_cons (pv 0) pa_nil)) (pa_cons (pe_callB call_len_seq (by rfl) mL PySem.boot_len (pa_cons (pe_ix ix_list (pv 0) pe_int (fun _ _ => rfl)) pa_nil)) pa_nil))) pe_int (nomark _))
          (pw_or (pt_cmpR op_eq (pv 2) (pv 3) (nomark _))
          (pw_or (pt_not (pt_chain op_lt op_lt pe_int (pv 2) (pe_callB call_len_seq (by rfl) mL PySem.boot_len (pa_cons (pv 4) pa_nil))))
          (pw_or1 (pt_not (pt_chain op_lt op_lt pe_int (pv 3) (pe_callB call_len_seq (by rfl) mL PySem.boot_len (pa_cons (pv 4) pa_nil))))))))) (pss_one (ps_ret pe_bl)) pss_nil)
      (pss_cons (ps_set (i := 6) scPassed.nd rfl (.inl rfl) (pe_cmpR op_lt (pe_bm PySem.F.plainAttrs_list PySem.F.slot_list_index PySem.F.type_list_index mt_index (pv 4) (pa_cons (pv 2) pa_nil)) (pe_bm PySem.F.plainAttrs_list PySem.F.slot_list_index PySem.F.type_list_index mt_index (pv 4) (pa_cons (pv 3) pa_nil)) (nomark _)))
      (pss_one (ps_ret (pe_cmpR op_ne (pv 6) (pe_cmpR op_lt (pe_bm PySem.F.plainAttrs_list PySem.F.slot_list_index PySem.F.type_list_index mt_index (pv 5) (pa_cons (pv 2) pa_nil)) (pe_bm PySem.F.plainAttrs_list PySem.F.slot_list_index PySem.F.type_list_index mt_index (pv 5) (pa_cons (pv 3) pa_nil)) (nomark _)) (nomark _))))))), ?_⟩
    have sizes : ∀ i, i ≤ R → ∀ f, (accV (rowV C f) i).length ≤ sizeLine := fun i hi f => by
      rw [accV_rows, List.length_map, allV_len]
      refine Nat.le_of_lt (small1000 ?_)
      have : i * C ≤ R * C := Nat.mul_le_mul_right C hi
      omega
    refine ⟨_, rfl, Nat.zero_le _, fun e1 ne1 => ?_⟩
    have s1 := same_upd (o := .lst []) ne1
    have Ta1 := Ta.mono s1
    refine ⟨a, e1, rs, rowV C f, rfl, Ta1.top, by rw [Ta.len]; exact hR0, upd_same, Ta1.row, fun i hi => sizes i (by rw [← Ta.len]; exact hi) f, fun m nm => ?_⟩
    rw [Ta.len, accV_rows]
    have s2 := same_upd (o := .lst ((allV (R * C) f).map V.int)) nm
    have hm := upd_same (H := upd H e1 (.lst [])) (a := m) (o := .lst ((allV (R * C) f).map V.int))
    refine ⟨_, rfl, Nat.zero_le _, fun e2 ne2 => ?_⟩
    have s3 := same_upd (o := .lst []) ne2
    have Tb3 := ((Tb.mono s1).mono s2).mono s3
    refine ⟨b, e2, rs2, rowV C g, rfl, Tb3.top, by rw [Tb.len]; exact hR0, upd_same, Tb3.row, fun i hi => sizes i (by rw [← Tb.len]; exact hi) g, fun t nt => ?_⟩
    rw [Tb.len, accV_rows]
    have s4 := same_upd (o := .lst ((allV (R * C) g).map V.int)) nt
    have hm4 := s4 _ _ (s3 _ _ hm)
    have ht4 := upd_same (H := upd (upd (upd H e1 (.lst [])) m (.lst ((allV (R * C) f).map V.int))) e2 (.lst [])) (a := t) (o := .lst ((allV (R * C) g).map V.int))
    have s04 := ((s1.trans s2).trans s3).trans s4
    generalize upd (upd (upd (upd H e1 (.lst [])) m (.lst ((allV (R * C) f).map V.int))) e2 (.lst [])) t (.lst ((allV (R * C) g).map V.int)) = H4 at hm4 ht4 s04 ⊢
    have Ta4 := Ta.mono s04
    have q := q H4 s04
    obtain ⟨r0, g1, g2, g3⟩ := Ta4.get (i := 0) hR0
    have no : (1 < min R C ∨ x = y ∨ ¬ (0 < x ∧ x < (R * C : Nat)) ∨ ¬ (0 < y ∧ y < (R * C : Nat))) → Q (.bl false) H4 := fun z => by
      unfold passedB at q
      rw [if_pos z] at q
      exact q
    -- the sides
    refine ⟨.ref a, rfl, a, _, rfl, .inl (SqL.of Ta4.top), .ref a, rfl, a, _, 0, _, rfl, rfl, SqL.of Ta4.top, atI_nat (j := 0) g2, r0, _, rfl, .inl (SqL.of g3), _, _, rfl, _, 1, rfl, rfl, _, rfl, ?_⟩
    rw [List.length_map, Ta.len, rowV_len]
    have emin : (if (C : Int) < (R : Int) then (C : Int) else (R : Int)) = (min R C : Nat) := by
      by_cases z : (C : Int) < (R : Int)
      · rw [if_pos z]; omega
      · rw [if_neg z]; omega
    rw [emin]
    refine decI (fun z => iteT (no (.inl (by omega)))) (fun z1 => ?_)
    have z1 : ¬ 1 < min R C := by omega
    refine ⟨_, rfl, _, rfl, rfl, _, rfl, decI (fun z => iteT (no (.inr (.inl (V.int.inj z))))) (fun z2 => ?_)⟩
    have z2 : ¬ x = y := fun e => z2 (congrArg V.int e)
    refine ⟨_, rfl, 0, x, rfl, rfl, _, rfl, decI (fun x0 => ?_) (fun x0 => ⟨_, rfl, iteT (iteT (no (.inr (.inr (.inl fun z => x0 z.1)))))⟩)⟩
    refine ⟨.ref m, rfl, m, _, rfl, .inl (SqL.of hm4), x, _, rfl, rfl, _, rfl, ?_⟩
    rw [List.length_map, allV_len]
    by_cases x1 : x < ((R * C : Nat) : Int)
    case neg =>
      rw [decide_eq_false x1]
      exact iteT (iteT (no (.inr (.inr (.inl fun z => x1 z.2)))))
    rw [decide_eq_true x1]
    refine iteF ?_
    refine ⟨_, rfl, 0, y, rfl, rfl, _, rfl, decI (fun y0 => ?_) (fun y0 => ⟨_, rfl, iteT (no (.inr (.inr (.inr fun z => y0 z.1))))⟩)⟩
    refine ⟨.ref m, rfl, m, _, rfl, .inl (SqL.of hm4), y, _, rfl, rfl, _, rfl, ?_⟩
    rw [List.length_map, allV_len]
    by_cases y1 : y < ((R * C : Nat) : Int)
    case neg =>
      rw [decide_eq_false y1]
      exact iteT (no (.inr (.inr (.inr fun z => y1 z.2))))
    rw [decide_eq_true y1]
    refine iteF ?_
    -- who stands ahead
    have x0' : 0 ≤ x := by omega
    have y0' : 0 ≤ y := by omega
    obtain ⟨_, fx1, fx2⟩ := num_index hf x0' x1
    obtain ⟨_, fy1, fy2⟩ := num_index hf y0' y1
    obtain ⟨_, gx1, gx2⟩ := num_index hg x0' x1
    obtain ⟨_, gy1, gy2⟩ := num_index hg y0' y1
    have refl : ∀ x : Int, eqV (V.int x) (V.int x) = true := fun x => beq_self_eq_true x
    refine ⟨_, rfl, .inl ⟨rfl, _, SqL.of hm4⟩, _, rfl, m, _, .int x, posOf (R * C) f x, _, rfl, rfl, SqL.of hm4, rfl, flat_ints _, fx1, refl x, fx2, ?_⟩
    refine ⟨_, rfl, .inl ⟨rfl, _, SqL.of hm4⟩, _, rfl, m, _, .int y, posOf (R * C) f y, _, rfl, rfl, SqL.of hm4, rfl, flat_ints _, fy1, refl y, fy2, _, _, rfl, rfl, ?_⟩
    refine ⟨_, rfl, _, rfl, .inl ⟨rfl, _, SqL.of ht4⟩, _, rfl, t, _, .int x, posOf (R * C) g x, _, rfl, rfl, SqL.of ht4, rfl, flat_ints _, gx1, refl x, gx2, ?_⟩
    refine ⟨_, rfl, .inl ⟨rfl, _, SqL.of ht4⟩, _, rfl, t, _, .int y, posOf (R * C) g y, _, rfl, rfl, SqL.of ht4, rfl, flat_ints _, gy1, refl y, gy2, _, _, rfl, rfl, rfl, ?_⟩
    unfold passedB at q
    rw [if_neg (by
      intro z
      rcases z with z | z | z | z
      · exact z1 z
      · exact z2 z
      · exact z ⟨x0, x1⟩
      · exact z ⟨y0, y1⟩)] at q
    have c : ∀ u v : Nat, decide ((u : Int) < (v : Int)) = decide (u < v) := fun u v => by
      by_cases h : u < v
      · rw [decide_eq_true h]; exact decide_eq_true (by omega)
      · rw [decide_eq_false h]; exact decide_eq_false (by omega)
    show Q (.bl (!decide (V.bl (decide (((posOf (R * C) f x : Nat) : Int) < ((posOf (R * C) f y : Nat) : Int))) = V.bl (decide (((posOf (R * C) g x : Nat) : Int) < ((posOf (R * C) g y : Nat) : Int)))))) H4
    rw [c, c]
    have e : ∀ u v : Bool, (!decide (V.bl u = V.bl v)) = decide (u ≠ v) := fun u v => by cases u <;> cases v <;> rfl
    rw [e]
    exact q
end
end Tr
namespace Tr
open PySem PySem.Spec PyProof.Rows L2
theorem scSays : FnScope ["_law_said", "_law_due"] ["_law_said", "_law_due"] (defScope d_law_says) := ⟨rfl, rfl, rfl, by decide +kernel, rfl, by decide +kernel, by decide +kernel⟩
def spSays : Sp := fun vs H Q _ => ∃ b d : Bool, vs = [.bl b, .bl d] ∧ Q (.bl (decide (b = d))) H
section
variable {P : Program} {w : World} {K : PySem.W.Frag} {mg : Str → Option Value} {base : Heap}
theorem ok_says {fa : Addr} {fd : FuncData} {k : Nat} (F : Fun K "_law_says" "_law_says" d_law_says fa fd) (mI : mg "isinstance" = none) (mB : mg "bool" = none) :
    FnOk P w K mg base CX0 (k + 1) fa fd ["_law_said", "_law_due"] spSays := by
  refine F.ok scSays (fun vs H Q E h => ?_) (fun cdv A outer s H vs Q E hr h => ?_)
  · obtain ⟨b, d, rfl, _⟩ := h
    rfl
  · obtain ⟨b, d, rfl, q⟩ := h
    refine ⟨_, pss_one (ps_ret (pe_and (pe_callB call_isi (by rfl) mI (by decide +kernel) (pa_cons (pv 0) (pa_cons (pe_bltn (v := .ty "bool") (by rfl) mB (by decide +kernel) rfl) pa_nil))) (pe_one (pe_cmpR op_eq (pv 0) (pv 1) (nomark _))))), ?_⟩
    refine ⟨_, rfl, .bl b, .ty "bool", .type "bool", .type "bool", true, rfl, .ty "bool", .base (.bl _), kit_ty (by decide +kernel), _, rfl, iteT ?_⟩
    refine ⟨_, rfl, _, rfl, rfl, ?_⟩
    have e : decide (V.bl b = V.bl d) = decide (b = d) := decide_eq_decide.mpr ⟨fun h => V.bl.inj h, fun h => by rw [h]⟩
    rw [e]
    exact q
theorem scLedR : FnScope ["_law_one", "_law_other", "_law_slides", "_law_answer", "_law_due"] ["_law_one", "_law_other", "_law_slides"] (defScope d_law_led_right) := ⟨rfl, rfl, rfl, by decide +kernel, rfl, by decide +kernel, by decide +kernel⟩
def spLedR : Sp := fun vs H Q _ => ∃ (a b : Addr) (R C : Nat) (s g : Sl) (ws : List Nat), vs = [.ref a, .ref b, .str (txt ws)] ∧ Two H a b R C s g ∧ ws.length ≤ 1000 ∧ ∀ H', Same H H' → Q (.bl true) H'
theorem ok_ledR {fa fD fY CL fIL fSL : Addr} {fd fdD fdY fdIL fdSL : FuncData} {k jD jY jIL jSL : Nat} (F : Fun K "_law_led_right" "_law_led_right" d_law_led_right fa fd)
    (hD : jD ≤ k) (hY : jY ≤ k) (hIL : jIL + 1 ≤ k) (hSL : jSL ≤ k)
    (GD : FnOk P w K mg base CX0 jD fD fdD ["_law_tray_here", "_law_slides"] spSlid) (gD : mg "_law_slid" = some (.ref fD)) (kD : PySem.W.keepIn K (.ref fD) = true) (bD : Binds K fdD ["_law_tray_here", "_law_slides"] [])
    (GY : FnOk P w K mg base CX0 jY fY fdY ["_law_said", "_law_due"] spSays) (gY : mg "_law_says" = some (.ref fY)) (kY : PySem.W.keepIn K (.ref fY) = true) (bY : Binds K fdY ["_law_said", "_law_due"] [])
    (TL : ClsT K mg "Led" CL fIL fSL ["slides"])
    (GIL : FnOk P w K mg base CX0 jIL fIL fdIL ["self", "slides"] (spI1 "slides" CL)) (bIL : Binds K fdIL ["self", "slides"] [])
    (GSL : FnOk P w K mg base CX0 jSL fSL fdSL ["self", "one", "other"] (spShL CL)) (bSL : Binds K fdSL ["self", "one", "other"] []) :
    FnOk P w K mg base CX0 (k + 1) fa fd ["_law_one", "_law_other", "_law_slides"] spLedR := by
  refine F.ok scLedR (fun vs H Q E h => ?_) (fun cdv A outer s H vs Q E hr h => ?_)
  · obtain ⟨a, b, R, C, s, g, ws, rfl, _⟩ := h
    rfl
  · obtain ⟨a, b, R, C, s, g, ws, rfl, T, hw, q⟩ := h
    have hrL := hr.mono hIL
    refine ⟨_, (pss_cons (ps_set (i := 3) scLedR.nd rfl (.inl rfl) (pe_make TL.mkc GIL hrL (by rfl) TL.g bIL .nil pass0 (pa_cons (pv 2) pa_nil)))
      (pss_cons (ps_set (i := 4) scLedR.nd rfl (.inl rfl) (pe_cmpR (op_eqD hr.units) (pe_call GD (hr.mono hD) (by rfl) gD kD bD .nil pass0 (pa_cons (pv 0) (pa_cons (pv 2) pa_nil))) (pv 1) (nomark _)))
      (pss_one (ps_ret (pe_and (pe_cmpR op_eq (pe_fld (pv 3) rfl) (pv 2) (nomark _)) (pe_one (pe_call GY (hr.mono hY) (by rfl) gY kY bY .nil pass0 (pa_cons (pe_meth (pv 3) TL.cl TL.me GSL (hr.mono hSL) bSL .nil pass0 (pa_cons (pv 0) (pa_cons (pv 1) pa_nil))) (pa_cons (pv 4) pa_nil))))))))), ?_⟩
    refine ⟨_, rfl, fun x dx nx ndx nex => ?_⟩
    have s1 : Same H (upd (upd H dx (.own x)) x (.ins CL dx [])) := (same_upd ndx).trans (same_upd (by rw [upd_ne nex.symm]; exact nx))
    refine ⟨x, dx, _, rfl, upd_same, fun fs h1 h2 => ⟨rfl, ?_⟩⟩
    have s2 : Same H (upd (upd (upd H dx (.own x)) x (.ins CL dx [])) x (.ins CL dx fs)) := fun y o e => by
      rw [upd_ne (ne_of_none e nx)]
      exact s1 _ _ e
    have f2 : (upd (upd (upd H dx (.own x)) x (.ins CL dx [])) x (.ins CL dx fs)) x = some (.ins CL dx fs) := upd_same
    generalize upd (upd (upd H dx (.own x)) x (.ins CL dx [])) x (.ins CL dx fs) = H2 at s2 f2 ⊢
    have T2 := T.mono s2
    obtain ⟨rs, Ta⟩ := T2.one
    obtain ⟨rs2, Tb⟩ := T2.two
    refine ⟨_, rfl, _, rfl, a, rs, R, C, s, ws, rfl, Ta, T.g1, fun s' hg H3 p rs' sm np nrs T' => ?_, fun hn H3 sm => ?_⟩
    · refine ⟨_, rfl, _, _, T'.dp, (Tb.mono sm).dp, shaped_rows _, shaped_rows _, ?_⟩
      rw [eqv_trays]
      have hl : ledB R C s ws g.1 = decide (∀ k, k < R * C → s'.1 k = g.1 k) := by
        unfold ledB
        rw [hg]
      rw [← hl]
      refine ⟨_, rfl, x, CL, dx, fs, _, rfl, sm _ _ f2, TL.cl, TL.nf _ List.mem_cons_self, h1, _, rfl, rfl, _, rfl, decI (fun _ => ?_) (fun z => absurd rfl z)⟩
      refine ⟨_, rfl, x, dx, fs, rfl, sm _ _ f2, h2, _, rfl, _, rfl, x, dx, a, b, fs, ws, _, _, R, C, s, g, rfl, sm _ _ f2, h1, Ta.mono sm, T.g1, Tb.mono sm, T.g2, by omega, fun H4 s4 => ?_⟩
      refine ⟨_, rfl, _, _, rfl, ?_⟩
      rw [decide_eq_true rfl]
      exact q _ (s2.trans (sm.trans s4))
    · refine ⟨_, rfl, _, _, .non, (Tb.mono sm).dp, rfl, shaped_rows _, ?_⟩
      have hl : ledB R C s ws g.1 = PyData.eqv .none (rowsD C g.1 (List.range R)) := by
        unfold ledB
        rw [hn]
        rfl
      rw [← hl]
      refine ⟨_, rfl, x, CL, dx, fs, _, rfl, sm _ _ f2, TL.cl, TL.nf _ List.mem_cons_self, h1, _, rfl, rfl, _, rfl, decI (fun _ => ?_) (fun z => absurd rfl z)⟩
      refine ⟨_, rfl, x, dx, fs, rfl, sm _ _ f2, h2, _, rfl, _, rfl, x, dx, a, b, fs, ws, _, _, R, C, s, g, rfl, sm _ _ f2, h1, Ta.mono sm, T.g1, Tb.mono sm, T.g2, by omega, fun H4 s4 => ?_⟩
      refine ⟨_, rfl, _, _, rfl, ?_⟩
      rw [decide_eq_true rfl]
      exact q _ (s2.trans (sm.trans s4))
end
end Tr
namespace Tr
open PySem PySem.Spec PyProof.Rows L2
theorem scOddR : FnScope ["_law_one", "_law_other", "_law_crossed_here", "_law_steps_here", "_law_due", "_law_answer"] ["_law_one", "_law_other", "_law_crossed_here", "_law_steps_here"] (defScope d_law_odd_right) := ⟨rfl, rfl, rfl, by decide +kernel, rfl, by decide +kernel, by decide +kernel⟩
theorem scPasR : FnScope ["_law_one", "_law_other", "_law_first", "_law_second", "_law_due", "_law_answer"] ["_law_one", "_law_other", "_law_first", "_law_second"] (defScope d_law_passed_right) := ⟨rfl, rfl, rfl, by decide +kernel, rfl, by decide +kernel, by decide +kernel⟩
def spPair : Sp := fun vs H Q _ => ∃ (a b : Addr) (R C : Nat) (s g : Sl) (x y : Int), vs = [.ref a, .ref b, .int x, .int y] ∧ Two H a b R C s g ∧ x.natAbs ≤ 100000 ∧ y.natAbs ≤ 100000 ∧ ∀ H', Same H H' → Q (.bl true) H'
section
variable {P : Program} {w : World} {K : PySem.W.Frag} {mg : Str → Option Value} {base : Heap}
theorem ok_passedR {fa fV fY CP fIP fSP : Addr} {fd fdV fdY fdIP fdSP : FuncData} {k jV jY jIP jSP : Nat} (F : Fun K "_law_passed_right" "_law_passed_right" d_law_passed_right fa fd)
    (hV : jV ≤ k) (hY : jY ≤ k) (hIP : jIP + 1 ≤ k) (hSP : jSP ≤ k)
    (GV : FnOk P w K mg base CX0 jV fV fdV ["_law_one", "_law_other", "_law_first", "_law_second"] spPassed) (gV : mg "_law_passed" = some (.ref fV)) (kV : PySem.W.keepIn K (.ref fV) = true) (bV : Binds K fdV ["_law_one", "_law_other", "_law_first", "_law_second"] [])
    (GY : FnOk P w K mg base CX0 jY fY fdY ["_law_said", "_law_due"] spSays) (gY : mg "_law_says" = some (.ref fY)) (kY : PySem.W.keepIn K (.ref fY) = true) (bY : Binds K fdY ["_law_said", "_law_due"] [])
    (TP : ClsT K mg "Passed" CP fIP fSP ["one", "other"])
    (GIP : FnOk P w K mg base CX0 jIP fIP fdIP ["self", "one", "other"] (spI2 "one" "other" CP)) (bIP : Binds K fdIP ["self", "one", "other"] [])
    (GSP : FnOk P w K mg base CX0 jSP fSP fdSP ["self", "one", "other"] (spShP CP)) (bSP : Binds K fdSP ["self", "one", "other"] []) :
    FnOk P w K mg base CX0 (k + 1) fa fd ["_law_one", "_law_other", "_law_first", "_law_second"] spPair := by
  refine F.ok scPasR (fun vs H Q E h => ?_) (fun cdv A outer s H vs Q E hr h => ?_)
  · obtain ⟨a, b, R, C, s, g, x, y, rfl, _⟩ := h
    rfl
  · obtain ⟨a, b, R, C, s, g, x, y, rfl, T, hx, hy, q⟩ := h
    have hrP := hr.mono hIP
    refine ⟨_, (pss_cons (ps_set (i := 4) scPasR.nd rfl (.inl rfl) (pe_call GV (hr.mono hV) (by rfl) gV kV bV .nil pass0 (pa_cons (pv 0) (pa_cons (pv 1) (pa_cons (pv 2) (pa_cons (pv 3) pa_nil))))))
      (pss_cons (ps_set (i := 5) scPasR.nd rfl (.inl rfl) (pe_make TP.mkc GIP hrP (by rfl) TP.g bIP .nil pass0 (pa_cons (pv 2) (pa_cons (pv 3) pa_nil))))
      (pss_one (ps_ret (pe_and (pe_cmpR (op_eqD hr.units) (pe_tup (pa_cons (pe_fld (pv 5) rfl) (pa_cons (pe_fld (pv 5) rfl) pa_nil))) (pe_tup (pa_cons (pv 2) (pa_cons (pv 3) pa_nil))) (nomark _)) (pe_one (pe_call GY (hr.mono hY) (by rfl) gY kY bY .nil pass0 (pa_cons (pe_meth (pv 5) TP.cl TP.me GSP (hr.mono hSP) bSP .nil pass0 (pa_cons (pv 0) (pa_cons (pv 1) pa_nil))) (pa_cons (pv 4) pa_nil))))))))), ?_⟩
    obtain ⟨ra, Ta0⟩ := T.one
    obtain ⟨rb, Tb0⟩ := T.two
    refine ⟨_, rfl, _, rfl, _, rfl, _, rfl, a, b, ra, rb, R, C, s.1, g.1, x, y, rfl, Ta0, Tb0, T.g1.r0, T.g1.r6, T.g1.c0, T.g1.c6, T.g1.full, T.g2.full, fun H0 s0 => ?_⟩
    have T0 := T.mono s0
    refine ⟨_, rfl, _, rfl, fun o dx no ndx nex => ?_⟩
    have s1 : Same H0 (upd (upd H0 dx (.own o)) o (.ins CP dx [])) := (same_upd ndx).trans (same_upd (by rw [upd_ne nex.symm]; exact no))
    refine ⟨o, dx, _, _, rfl, upd_same, fun fs h1 h2 h3 h4 => ⟨rfl, ?_⟩⟩
    have s2 : Same H0 (upd (upd (upd H0 dx (.own o)) o (.ins CP dx [])) o (.ins CP dx fs)) := fun z oz e => by
      rw [upd_ne (ne_of_none e no)]
      exact s1 _ _ e
    have f2 : (upd (upd (upd H0 dx (.own o)) o (.ins CP dx [])) o (.ins CP dx fs)) o = some (.ins CP dx fs) := upd_same
    generalize upd (upd (upd H0 dx (.own o)) o (.ins CP dx [])) o (.ins CP dx fs) = H2 at s2 f2 ⊢
    have T2 := T0.mono s2
    refine ⟨_, rfl, o, CP, dx, fs, _, rfl, f2, TP.cl, TP.nf _ List.mem_cons_self, h1, _, rfl, o, CP, dx, fs, _, rfl, f2, TP.cl, TP.nf _ (List.mem_cons_of_mem _ List.mem_cons_self), h2, (by show 2 ≤ sizeLine; decide), fun t1 n1 => ?_⟩
    have s3 := same_upd (o := .tup [V.int x, V.int y]) n1
    refine ⟨_, rfl, _, rfl, (by show 2 ≤ sizeLine; decide), fun t2 n2 => ?_⟩
    have s4 := same_upd (o := .tup [V.int x, V.int y]) n2
    refine ⟨.tuple [.int x, .int y], .tuple [.int x, .int y], .tup (SqT.of (s4 _ _ upd_same)) (dp_ints [x, y]), .tup (SqT.of upd_same) (dp_ints [x, y]), rfl, rfl, _, rfl, ?_⟩
    rw [SeqAt.eqv_refl _ (SeqAt.canLay_of_shaped rfl)]
    refine iteT ?_
    have f4 := (s3.trans s4) _ _ f2
    have s24 := s2.trans (s3.trans s4)
    generalize upd _ t2 _ = H4 at f4 s24 ⊢
    have T4 := T0.mono s24
    obtain ⟨rs, Ta⟩ := T4.one
    obtain ⟨rs2, Tb⟩ := T4.two
    refine ⟨_, rfl, o, dx, fs, rfl, f4, h3, _, rfl, _, rfl, o, dx, a, b, fs, x, y, _, _, R, C, s, g, rfl, f4, h1, h2, h4, Ta, T.g1, Tb, T.g2, hx, hy, fun H5 s5 => ?_⟩
    refine ⟨_, rfl, _, _, rfl, ?_⟩
    rw [decide_eq_true rfl]
    exact q _ (s0.trans (s24.trans s5))
theorem ok_oddR {fa fK fZ fY CO fIO fSO : Addr} {fd fdK fdZ fdY fdIO fdSO : FuncData} {k jK jZ jY jIO jSO : Nat} (F : Fun K "_law_odd_right" "_law_odd_right" d_law_odd_right fa fd) (mM : mg "min" = none) (mL : mg "len" = none)
    (hK : jK ≤ k) (hZ : jZ ≤ k) (hY : jY ≤ k) (hIO : jIO + 1 ≤ k) (hSO : jSO ≤ k)
    (GK : FnOk P w K mg base CX0 jK fK fdK ["_law_one", "_law_other"] (spTwo fun R C f h => crossed (R * C) f h)) (gK : mg "_law_crossed" = some (.ref fK)) (kK : PySem.W.keepIn K (.ref fK) = true) (bK : Binds K fdK ["_law_one", "_law_other"] [])
    (GZ : FnOk P w K mg base CX0 jZ fZ fdZ ["_law_one", "_law_other"] spSteps) (gZ : mg "_law_steps" = some (.ref fZ)) (kZ : PySem.W.keepIn K (.ref fZ) = true) (bZ : Binds K fdZ ["_law_one", "_law_other"] [])
    (GY : FnOk P w K mg base CX0 jY fY fdY ["_law_said", "_law_due"] spSays) (gY : mg "_law_says" = some (.ref fY)) (kY : PySem.W.keepIn K (.ref fY) = true) (bY : Binds K fdY ["_law_said", "_law_due"] [])
    (TO : ClsT K mg "Odd" CO fIO fSO ["crossed", "steps"])
    (GIO : FnOk P w K mg base CX0 jIO fIO fdIO ["self", "crossed", "steps"] (spI2 "crossed" "steps" CO)) (bIO : Binds K fdIO ["self", "crossed", "steps"] [])
    (GSO : FnOk P w K mg base CX0 jSO fSO fdSO ["self", "one", "other"] (spShO CO)) (bSO : Binds K fdSO ["self", "one", "other"] []) :
    FnOk P w K mg base CX0 (k + 1) fa fd ["_law_one", "_law_other", "_law_crossed_here", "_law_steps_here"] spPair := by
  refine F.ok scOddR (fun vs H Q E h => ?_) (fun cdv A outer s H vs Q E hr h => ?_)
  · obtain ⟨a, b, R, C, s, g, x, y, rfl, _⟩ := h
    rfl
  · obtain ⟨a, b, R, C, s, g, x, y, rfl, T, hx, hy, q⟩ := h
    have hrO := hr.mono hIO
    refine ⟨_, (C8.pss_cut (ps_set (i := 4) scOddR.nd rfl (.inl rfl) (pe_and (pe_cmpR op_gt (pe_callB (call_min2 rfl) (by rfl) mM (by decide +kernel) (pa_cons (pe_callB call_len_seq (by rfl) mL PySem.boot_len (pa_cons (pv 0) pa_nil)) (pa_cons (pe_callB call_len_seq (by rfl) mL PySem.boot_len (pa_cons (pe_ix ix_list (pv 0) pe_int (fun _ _ => rfl)) pa_nil)) pa_nil))) pe_int (nomark _)) (pe_one (pe_cmpR op_eq (pe_op op_mod (pe_op op_add (pv 2) (pv 3)) pe_int) pe_int (nomark _)))))
      (C8.pss_cut (ps_set (i := 4) scOddR.nd rfl (.inl rfl) (pe_and (pv 4) (pe_and (pe_cmpR op_eq (pv 2) (pe_call GK (hr.mono hK) (by rfl) gK kK bK .nil pass0 (pa_cons (pv 0) (pa_cons (pv 1) pa_nil))) (nomark _)) (pe_one (pe_cmpR op_eq (pv 3) (pe_call GZ (hr.mono hZ) (by rfl) gZ kZ bZ .nil pass0 (pa_cons (pv 0) (pa_cons (pv 1) pa_nil))) (nomark _))))))
      (pss_cons (ps_set (i := 5) scOddR.nd rfl (.inl rfl) (pe_make TO.mkc GIO hrO (by rfl) TO.g bIO .nil pass0 (pa_cons (pv 2) (pa_cons (pv 3) pa_nil))))
      (pss_one (ps_ret (pe_and (pe_cmpR (op_eqD hr.units) (pe_tup (pa_cons (pe_fld (pv 5) rfl) (pa_cons (pe_fld (pv 5) rfl) pa_nil))) (pe_tup (pa_cons (pv 2) (pa_cons (pv 3) pa_nil))) (nomark _)) (pe_one (pe_call GY (hr.mono hY) (by rfl) gY kY bY .nil pass0 (pa_cons (pe_meth (pv 5) TO.cl TO.me GSO (hr.mono hSO) bSO .nil pass0 (pa_cons (pv 0) (pa_cons (pv 1) pa_nil))) (pa_cons (pv 4) pa_nil)))))))))), ?_⟩
    obtain ⟨ra, Ta0⟩ := T.one
    obtain ⟨rb, Tb0⟩ := T.two
    obtain ⟨r0, g1, g2, g3⟩ := Ta0.get (i := 0) T.g1.r0
    refine ⟨fun σ' H' => σ' = [some (.ref a), some (.ref b), some (.int x), some (.int y), some (.bl (decide (1 < min R C ∧ (x + y) % 2 = 1))), none] ∧ H' = H, ?_, ?_⟩
    · refine ⟨.ref a, rfl, a, _, rfl, .inl (SqL.of Ta0.top), .ref a, rfl, a, _, 0, _, rfl, rfl, SqL.of Ta0.top, atI_nat (j := 0) g2, r0, _, rfl, .inl (SqL.of g3), _, _, rfl, _, 1, rfl, rfl, ?_⟩
      rw [List.length_map, Ta0.len, rowV_len]
      have emin : (if (C : Int) < (R : Int) then (C : Int) else (R : Int)) = (min R C : Nat) := by
        by_cases z : (C : Int) < (R : Int)
        · rw [if_pos z]; omega
        · rw [if_neg z]; omega
      rw [emin]
      refine ⟨_, rfl, decI (fun z1 => ?_) (fun z1 => ?_)⟩
      · refine ⟨_, rfl, _, rfl, _, _, rfl, rfl, _, 2, rfl, rfl, (by show (0 : Int) < 2; decide), rfl, ?_, rfl⟩
        have e : decide (V.int ((x + y) % 2) = V.int 1) = decide (1 < min R C ∧ (x + y) % 2 = 1) := decide_eq_decide.mpr ⟨fun h => ⟨by omega, V.int.inj h⟩, fun h => by rw [h.2]⟩
        rw [← e]
        rfl
      · refine ⟨?_, rfl⟩
        have e : decide (1 < min R C ∧ (x + y) % 2 = 1) = false := decide_eq_false fun h => z1 (by have := h.1; omega)
        rw [e]
        rfl
    rintro σ' H' ⟨rfl, rfl⟩
    refine ⟨fun σ' H2 => σ' = [some (.ref a), some (.ref b), some (.int x), some (.int y), some (.bl (oddB R C s g x y)), none] ∧ Same H' H2, ?_, ?_⟩
    · refine ⟨_, rfl, _, rfl, decI (fun z1 => ?_) (fun z1 => ?_)⟩
      · refine ⟨_, rfl, _, rfl, _, rfl, a, b, ra, rb, R, C, s.1, g.1, rfl, Ta0, Tb0, T.g1.r0, T.g1.r6, T.g1.c0, T.g1.c6, T.g1.full, T.g2.full, fun H2 s2 => ?_⟩
        refine ⟨rfl, _, rfl, decI (fun z2 => ?_) (fun z2 => ?_)⟩
        · have z2 := V.int.inj z2
          refine ⟨_, rfl, _, rfl, _, rfl, a, b, ra, rb, R, C, s, g, rfl, Ta0.mono s2, Tb0.mono s2, T.g1, T.g2, fun H3 s3 => ⟨rfl, ?_, s2.trans s3⟩⟩
          have e : decide (V.int y = V.int (steps s.2.1 s.2.2 g.2.1 g.2.2 : Nat)) = oddB R C s g x y := decide_eq_decide.mpr ⟨fun h => ⟨z1.1, z1.2, z2, V.int.inj h⟩, fun h => by rw [h.2.2.2]⟩
          rw [← e]
          rfl
        · refine ⟨?_, s2⟩
          have e : oddB R C s g x y = false := decide_eq_false fun h => z2 (by rw [h.2.2.1])
          rw [e]
          rfl
      · refine ⟨?_, Same.refl _⟩
        have e : oddB R C s g x y = false := decide_eq_false fun h => z1 ⟨h.1, h.2.1⟩
        rw [e]
        rfl
    rintro σ' H0 ⟨rfl, s0⟩
    have T0 := T.mono s0
    refine ⟨_, rfl, _, rfl, fun o dx no ndx nex => ?_⟩
    have s1 : Same H0 (upd (upd H0 dx (.own o)) o (.ins CO dx [])) := (same_upd ndx).trans (same_upd (by rw [upd_ne nex.symm]; exact no))
    refine ⟨o, dx, _, _, rfl, upd_same, fun fs h1 h2 h3 h4 => ⟨rfl, ?_⟩⟩
    have s2 : Same H0 (upd (upd (upd H0 dx (.own o)) o (.ins CO dx [])) o (.ins CO dx fs)) := fun z oz e => by
      rw [upd_ne (ne_of_none e no)]
      exact s1 _ _ e
    have f2 : (upd (upd (upd H0 dx (.own o)) o (.ins CO dx [])) o (.ins CO dx fs)) o = some (.ins CO dx fs) := upd_same
    generalize upd (upd (upd H0 dx (.own o)) o (.ins CO dx [])) o (.ins CO dx fs) = H2 at s2 f2 ⊢
    have T2 := T0.mono s2
    refine ⟨_, rfl, o, CO, dx, fs, _, rfl, f2, TO.cl, TO.nf _ List.mem_cons_self, h1, _, rfl, o, CO, dx, fs, _, rfl, f2, TO.cl, TO.nf _ (List.mem_cons_of_mem _ List.mem_cons_self), h2, (by show 2 ≤ sizeLine; decide), fun t1 n1 => ?_⟩
    have s3 := same_upd (o := .tup [V.int x, V.int y]) n1
    refine ⟨_, rfl, _, rfl, (by show 2 ≤ sizeLine; decide), fun t2 n2 => ?_⟩
    have s4 := same_upd (o := .tup [V.int x, V.int y]) n2
    refine ⟨.tuple [.int x, .int y], .tuple [.int x, .int y], .tup (SqT.of (s4 _ _ upd_same)) (dp_ints [x, y]), .tup (SqT.of upd_same) (dp_ints [x, y]), rfl, rfl, _, rfl, ?_⟩
    rw [SeqAt.eqv_refl _ (SeqAt.canLay_of_shaped rfl)]
    refine iteT ?_
    have f4 := (s3.trans s4) _ _ f2
    have s24 := s2.trans (s3.trans s4)
    generalize upd _ t2 _ = H4 at f4 s24 ⊢
    have T4 := T0.mono s24
    obtain ⟨rs, Ta⟩ := T4.one
    obtain ⟨rs2, Tb⟩ := T4.two
    refine ⟨_, rfl, o, dx, fs, rfl, f4, h3, _, rfl, _, rfl, o, dx, a, b, fs, x, y, _, _, R, C, s, g, rfl, f4, h1, h2, Ta, T.g1, Tb, T.g2, hx, hy, fun H5 s5 => ?_⟩
    refine ⟨_, rfl, _, _, rfl, ?_⟩
    rw [decide_eq_true rfl]
    exact q _ (s0.trans (s24.trans s5))
end
end Tr
namespace Tr
open PySem PySem.Spec PyProof.Rows L2
theorem cut_some (ws : List Nat) (lo hi : Option Int) : ∃ x : List Nat, cutS (txt ws) lo hi = txt x ∧ x.length ≤ ws.length := by
  refine ⟨(cutS (txt ws) lo hi).cps.toList, txt_of _, ?_⟩
  have h := cutS_length (txt ws) lo hi
  rw [txt_len] at h
  rw [Array.length_toList]
  exact h
theorem inv_le : ∀ l : List Nat, inv l ≤ l.length * l.length
  | [] => Nat.le_refl 0
  | a :: r => by
    have h := inv_le r
    have h2 : r.countP (fun b => decide (b < a)) ≤ r.length := List.countP_le_length
    rw [inv_cons, List.length_cons, Nat.add_mul, Nat.mul_add]
    omega
theorem crossed_le {n : Nat} (f g : Fld) (h : n ≤ 36) : crossed n f g ≤ 1296 := by
  have := inv_le (crossL n f g)
  rw [crossL_len] at this
  exact Nat.le_trans this (Nat.mul_le_mul h h)
theorem steps_le {R C : Nat} {s g : Sl} (a : Good R C s) (b : Good R C g) : steps s.2.1 s.2.2 g.2.1 g.2.2 ≤ 12 := by
  have := a.z.r
  have := a.z.c
  have := b.z.r
  have := b.z.c
  have := a.r6
  have := a.c6
  unfold steps
  omega
def udlrxU : List Nat := [117, 100, 108, 114, 120, 32, 85]
theorem udlrxU_eq : ("udlrx U" : Str) = txt udlrxU := by decide +kernel
theorem udlrxU_at {n : Int} (h0 : 0 ≤ n) (h4 : n < 7) : ∃ l, atI udlrxU n = some l := by
  obtain ⟨k, rfl⟩ := Int.eq_ofNat_of_zero_le h0
  have hk : k < udlrxU.length := by
    show k < 7
    omega
  exact ⟨udlrxU[k], atI_nat (List.getElem?_eq_getElem hk)⟩
theorem mem6 {α : Type} {y a b c d e f : α} (m : y ∈ [a, b, c, d, e, f]) : y = a ∨ y = b ∨ y = c ∨ y = d ∨ y = e ∨ y = f := by simpa using m
theorem mem5 {α : Type} {y a b c d e : α} (m : y ∈ [a, b, c, d, e]) : y = a ∨ y = b ∨ y = c ∨ y = d ∨ y = e := by simpa using m
theorem same_new {H : Hp} {p : Addr} {o : HO} (h : Same H (upd H p o)) : (upd H p o) p = some o := upd_same
theorem scRight : FnScope ["_law_one", "_law_other", "_law_slides", "_law_cell", "_law_at", "_law_letter", "_law_some", "_law_crossed_here", "_law_steps_here", "_law_more", "_law_farther", "_law_many", "_law_first", "_law_second"] ["_law_one", "_law_other", "_law_slides", "_law_cell"] (defScope d_law_right) := ⟨rfl, rfl, rfl, by decide +kernel, rfl, by decide +kernel, by decide +kernel⟩
def spRight : Sp := fun vs H Q _ => ∃ (a b : Addr) (R C : Nat) (s g : Sl) (ws : List Nat) (z : Int), vs = [.ref a, .ref b, .str (txt ws), .int z] ∧ Two H a b R C s g ∧ ws.length ≤ 100 ∧ ∀ H', Same H H' → Q (.bl true) H'
section
variable {P : Program} {w : World} {K : PySem.W.Frag} {mg : Str → Option Value} {base : Heap}
theorem ok_right {fa fL fK fZ fO fP : Addr} {fd fdL fdK fdZ fdO fdP : FuncData} {k jL jK jZ jO jP : Nat} (F : Fun K "_law_right" "_law_right" d_law_right fa fd) (mL : mg "len" = none)
    (hL : jL ≤ k) (hK : jK ≤ k) (hZ : jZ ≤ k) (hO : jO ≤ k) (hP : jP ≤ k)
    (GL : FnOk P w K mg base CX0 jL fL fdL ["_law_one", "_law_other", "_law_slides"] spLedR) (gL : mg "_law_led_right" = some (.ref fL)) (kL : PySem.W.keepIn K (.ref fL) = true) (bL : Binds K fdL ["_law_one", "_law_other", "_law_slides"] [])
    (GK : FnOk P w K mg base CX0 jK fK fdK ["_law_one", "_law_other"] (spTwo fun R C f h => crossed (R * C) f h)) (gK : mg "_law_crossed" = some (.ref fK)) (kK : PySem.W.keepIn K (.ref fK) = true) (bK : Binds K fdK ["_law_one", "_law_other"] [])
    (GZ : FnOk P w K mg base CX0 jZ fZ fdZ ["_law_one", "_law_other"] spSteps) (gZ : mg "_law_steps" = some (.ref fZ)) (kZ : PySem.W.keepIn K (.ref fZ) = true) (bZ : Binds K fdZ ["_law_one", "_law_other"] [])
    (GO : FnOk P w K mg base CX0 jO fO fdO ["_law_one", "_law_other", "_law_crossed_here", "_law_steps_here"] spPair) (gO : mg "_law_odd_right" = some (.ref fO)) (kO : PySem.W.keepIn K (.ref fO) = true) (bO : Binds K fdO ["_law_one", "_law_other", "_law_crossed_here", "_law_steps_here"] [])
    (GP : FnOk P w K mg base CX0 jP fP fdP ["_law_one", "_law_other", "_law_first", "_law_second"] spPair) (gP : mg "_law_passed_right" = some (.ref fP)) (kP : PySem.W.keepIn K (.ref fP) = true) (bP : Binds K fdP ["_law_one", "_law_other", "_law_first", "_law_second"] []) :
    FnOk P w K mg base CX0 (k + 1) fa fd ["_law_one", "_law_other", "_law_slides", "_law_cell"] spRight := by
  refine F.ok scRight (fun vs H Q E h => ?_) (fun cdv A outer s H vs Q E hr h => ?_)
  · obtain ⟨a, b, R, C, s, g, ws, z, rfl, _⟩ := h
    rfl
  · obtain ⟨a, b, R, C, s, g, ws, z, rfl, T, hw, q⟩ := h
    refine ⟨_, (pss_cons (ps_set (i := 4) scRight.nd rfl (.inl rfl) (pe_op op_mod (pe_op op_fdiv (pv 3) pe_int) (pe_op op_add (pe_callB call_len_str (by rfl) mL PySem.boot_len (pa_cons (pv 2) pa_nil)) pe_int)))
      (pss_cons (ps_set (i := 5) scRight.nd rfl (.inl rfl) (pe_ix (r := rIxS) ix_str pe_str (pe_op op_mod (pe_op op_fdiv (pv 3) pe_int) pe_int) (fun _ _ => rfl)))
      (pss_cons (ps_for PassesOwn.never rfl (pi_list (pe_lst (pa_cons (pv 2) (pa_cons (pe_op op_add_str (pe_slice sl_str (pv 2) po_none (po_some (pv 4))) (pe_slice sl_str (pv 2) (po_some (pe_op op_add (pv 4) pe_int)) po_none)) (pa_cons (pe_op op_add_str (pe_op op_add_str (pe_slice sl_str (pv 2) po_none (po_some (pv 4))) (pv 5)) (pe_slice sl_str (pv 2) (po_some (pv 4)) po_none)) (pa_cons (pe_revS (pv 2)) (pa_cons pe_str (pa_cons (pv 5) pa_nil)))))))) (pg_name (i := 6) scRight.nd rfl (.inl rfl)) (pss_one (ps_if (pt_not (pt_val (pe_call GL (hr.mono hL) (by rfl) gL kL bL .nil pass0 (pa_cons (pv 0) (pa_cons (pv 1) (pa_cons (pv 6) pa_nil)))))) (pss_one (ps_ret pe_bl)) pss_nil)))
      (pss_cons (ps_set (i := 7) scRight.nd rfl (.inl rfl) (pe_call GK (hr.mono hK) (by rfl) gK kK bK .nil pass0 (pa_cons (pv 0) (pa_cons (pv 1) pa_nil))))
      (pss_cons (ps_set (i := 8) scRight.nd rfl (.inl rfl) (pe_call GZ (hr.mono hZ) (by rfl) gZ kZ bZ .nil pass0 (pa_cons (pv 0) (pa_cons (pv 1) pa_nil))))
      (pss_cons (ps_for PassesOwn.never rfl (pi_list (pe_lst (pa_cons (pe_tup (pa_cons pe_int (pa_cons pe_int pa_nil))) (pa_cons (pe_tup (pa_cons pe_int (pa_cons pe_int pa_nil))) (pa_cons (pe_tup (pa_cons pe_int (pa_cons pe_int pa_nil))) (pa_cons (pe_tup (pa_cons pe_int (pa_cons (pe_un un_neg pe_int) pa_nil))) (pa_cons (pe_tup (pa_cons (pe_un un_neg pe_int) (pa_cons pe_int pa_nil))) (pa_cons (pe_tup (pa_cons pe_int (pa_cons pe_int pa_nil))) pa_nil)))))))) (pg_tup rfl (pgs_cons (pg_name (i := 9) scRight.nd rfl (.inl rfl)) (pgs_cons (pg_name (i := 10) scRight.nd rfl (.inl rfl)) pgs_nil))) (pss_one (ps_if (pt_not (pt_val (pe_call GO (hr.mono hO) (by rfl) gO kO bO .nil pass0 (pa_cons (pv 0) (pa_cons (pv 1) (pa_cons (pe_op op_add (pv 7) (pv 9)) (pa_cons (pe_op op_add (pv 8) (pv 10)) pa_nil))))))) (pss_one (ps_ret pe_bl)) pss_nil)))
      (pss_cons (ps_set (i := 11) scRight.nd rfl (.inl rfl) (pe_op op_mul (pe_callB call_len_seq (by rfl) mL PySem.boot_len (pa_cons (pv 0) pa_nil)) (pe_callB call_len_seq (by rfl) mL PySem.boot_len (pa_cons (pe_ix ix_list (pv 0) pe_int (fun _ _ => rfl)) pa_nil))))
      (pss_cons (ps_for PassesOwn.never rfl (pi_list (pe_lst (pa_cons (pe_tup (pa_cons (pe_op op_sub (pe_op op_mod (pv 3) (pe_op op_add (pv 11) pe_int)) pe_int) (pa_cons (pe_op op_sub (pe_op op_mod (pe_op op_fdiv (pv 3) pe_int) (pe_op op_add (pv 11) pe_int)) pe_int) pa_nil))) (pa_cons (pe_tup (pa_cons pe_int (pa_cons pe_int pa_nil))) (pa_cons (pe_tup (pa_cons pe_int (pa_cons pe_int pa_nil))) (pa_cons (pe_tup (pa_cons pe_int (pa_cons pe_int pa_nil))) (pa_cons (pe_tup (pa_cons pe_int (pa_cons (pv 11) pa_nil))) pa_nil))))))) (pg_tup rfl (pgs_cons (pg_name (i := 12) scRight.nd rfl (.inl rfl)) (pgs_cons (pg_name (i := 13) scRight.nd rfl (.inl rfl)) pgs_nil))) (pss_one (ps_if (pt_not (pt_val (pe_call GP (hr.mono hP) (by rfl) gP kP bP .nil pass0 (pa_cons (pv 0) (pa_cons (pv 1) (pa_cons (pv 12) (pa_cons (pv 13) pa_nil))))))) (pss_one (ps_ret pe_bl)) pss_nil)))
      (pss_one (ps_ret pe_bl)))))))))), ?_⟩
    have hwz : (txt ws).length ≤ sizeLine := by
      rw [txt_len]
      exact Nat.le_of_lt (small1000 (by omega))
    have sizes : ∀ a b : List Nat, a.length ≤ 400 → b.length ≤ 400 → (txt a).length + (txt b).length ≤ sizeLine := fun a b ha hb => by
      rw [txt_len, txt_len]
      exact Nat.le_of_lt (small1000 (by omega))
    refine ⟨_, rfl, z, 3, rfl, rfl, ⟨by decide, by decide⟩, _, rfl, txt ws, rfl, hwz, _, 1, rfl, rfl, z / 3, ((txt ws).length : Int) + 1, rfl, rfl, (by show (0 : Int) < ((txt ws).length : Int) + 1; omega), ?_⟩
    obtain ⟨at', hat⟩ : ∃ at', (z / 3) % (((txt ws).length : Int) + 1) = at' := ⟨_, rfl⟩
    obtain ⟨l, hl⟩ := udlrxU_at (Int.emod_nonneg (z / 5) (b := 7) (by decide)) (Int.emod_lt_of_pos (z / 5) (b := 7) (by decide))
    refine ⟨_, rfl, z, 5, rfl, rfl, ⟨by decide, by decide⟩, _, 7, rfl, rfl, (by show (0 : Int) < 7; decide), "udlrx U", _, l, rfl, rfl, (by show 7 ≤ sizeLine; decide), by rw [udlrxU_eq]; exact hl, ?_⟩
    obtain ⟨x1, hx1, hl1⟩ := cut_some ws none (some at')
    obtain ⟨x2, hx2, hl2⟩ := cut_some ws (some (at' + 1)) none
    obtain ⟨x3, hx3, hl3⟩ := cut_some ws (some at') none
    refine ⟨_, rfl, _, rfl, _, rfl, at', congrArg V.int hat, txt ws, rfl, hwz, _, rfl, _, rfl, at', 1, congrArg V.int hat, rfl, at' + 1, rfl, txt ws, rfl, hwz, _, _, rfl, rfl, ?_, ?_⟩
    · rw [hx1, hx2]
      exact sizes _ _ (by omega) (by omega)
    refine ⟨_, rfl, _, rfl, at', congrArg V.int hat, txt ws, rfl, hwz, _, rfl, _, txt [l], rfl, rfl, ?_, _, rfl, _, rfl, at', congrArg V.int hat, txt ws, rfl, hwz, _, _, rfl, rfl, ?_, ?_⟩
    · rw [hx1]
      exact sizes _ _ (by omega) (by show 1 ≤ 400; decide)
    · rw [hx1, txt_add, hx3]
      exact sizes _ _ (by rw [List.length_append]; show x1.length + 1 ≤ 400; omega) (by omega)
    refine ⟨_, rfl, txt ws, rfl, hwz, _, rfl, (by show 6 ≤ sizeLine; decide), fun p np => ?_⟩
    have s1 := same_upd (o := .lst [V.str (txt ws), V.str (cutS (txt ws) none (some at') ++ cutS (txt ws) (some (at' + 1)) none), V.str (cutS (txt ws) none (some at') ++ txt [l] ++ cutS (txt ws) (some at') none), V.str (txt ws.reverse), V.str "", V.str (txt [l])]) np
    have f1 := same_new s1
    have hxs : ∀ x ∈ [V.str (txt ws), V.str (cutS (txt ws) none (some at') ++ cutS (txt ws) (some (at' + 1)) none), V.str (cutS (txt ws) none (some at') ++ txt [l] ++ cutS (txt ws) (some at') none), V.str (txt ws.reverse), V.str "", V.str (txt [l])], ∃ w' : List Nat, x = V.str (txt w') ∧ w'.length ≤ 1000 := by
      intro x hx
      rcases mem6 hx with rfl | rfl | rfl | rfl | rfl | rfl
      · exact ⟨_, rfl, by omega⟩
      · exact ⟨x1 ++ x2, by rw [hx1, hx2, txt_add], by rw [List.length_append]; omega⟩
      · refine ⟨x1 ++ [l] ++ x3, by rw [hx1, hx3, txt_add, txt_add], ?_⟩
        rw [List.length_append, List.length_append]
        show x1.length + 1 + x3.length ≤ 1000
        omega
      · exact ⟨_, rfl, by rw [List.length_reverse]; omega⟩
      · exact ⟨[], congrArg V.str empty_eq, by decide⟩
      · exact ⟨[l], rfl, by show 1 ≤ 1000; decide⟩
    generalize [V.str (txt ws), V.str (cutS (txt ws) none (some at') ++ cutS (txt ws) (some (at' + 1)) none), V.str (cutS (txt ws) none (some at') ++ txt [l] ++ cutS (txt ws) (some at') none), V.str (txt ws.reverse), V.str "", V.str (txt [l])] = xs at s1 f1 hxs ⊢
    generalize upd H p (.lst xs) = H1 at s1 f1 ⊢
    refine ⟨p, rfl, ⟨_, SqL.of f1⟩, for_list (K := K) (a := p) (xs := xs) (fun i σ H' => Same H1 H' ∧ ∃ v, σ = [some (.ref a), some (.ref b), some (.str (txt ws)), some (.int z), some (.int at'), some (.str (txt [l])), v, none, none, none, none, none, none, none]) ⟨Same.refl _, none, ?_⟩ (fun i σ H' _ p => p.1.seq (SqL.of f1)) ?_ ?_⟩
    · rw [← hat]
      rfl
    · rintro i x σ H2 hx ⟨s2, v, rfl⟩
      obtain ⟨w', rfl, hw'⟩ := hxs x (List.mem_of_getElem? hx)
      refine ⟨_, rfl, _, rfl, _, rfl, a, b, R, C, s, g, w', rfl, (T.mono s1).mono s2, hw', fun H3 s3 => ⟨_, rfl, iteF ?_⟩⟩
      exact ⟨s2.trans s3, _, rfl⟩
    rintro σ H2 ⟨s2, v, rfl⟩
    have T2 := (T.mono s1).mono s2
    have s02 := s1.trans s2
    clear hxs f1 s1 s2
    obtain ⟨ra, Ta⟩ := T2.one
    obtain ⟨rb, Tb⟩ := T2.two
    have hRC := rows36 T.g1.r6 T.g1.c6
    refine ⟨_, rfl, _, rfl, a, b, ra, rb, R, C, s.1, g.1, rfl, Ta, Tb, T.g1.r0, T.g1.r6, T.g1.c0, T.g1.c6, T.g1.full, T.g2.full, fun H3 s3 => ?_⟩
    refine ⟨_, rfl, _, rfl, a, b, ra, rb, R, C, s, g, rfl, Ta.mono s3, Tb.mono s3, T.g1, T.g2, fun H4 s4 => ?_⟩
    have hcr := crossed_le s.1 g.1 hRC
    have hst := steps_le T.g1 T.g2
    obtain ⟨cr, ecr⟩ : ∃ cr, crossed (R * C) s.1 g.1 = cr := ⟨_, rfl⟩
    rw [ecr] at hcr
    generalize steps s.2.1 s.2.2 g.2.1 g.2.2 = st at hst ⊢
    have T4 := (T2.mono s3).mono s4
    have s04 := s02.trans (s3.trans s4)
    clear Ta Tb
    refine ⟨(by show 2 ≤ sizeLine; decide), fun t1 m1 => ?_⟩
    have u1 := same_upd (o := .tup [V.int 0, V.int 0]) m1
    refine ⟨(by show 2 ≤ sizeLine; decide), fun t2 m2 => ?_⟩
    have u2 := same_upd (o := .tup [V.int 1, V.int 0]) m2
    refine ⟨(by show 2 ≤ sizeLine; decide), fun t3 m3 => ?_⟩
    have u3 := same_upd (o := .tup [V.int 0, V.int 1]) m3
    refine ⟨_, rfl, (by show 2 ≤ sizeLine; decide), fun t4 m4 => ?_⟩
    have u4 := same_upd (o := .tup [V.int 1, V.int (-1)]) m4
    refine ⟨_, rfl, (by show 2 ≤ sizeLine; decide), fun t5 m5 => ?_⟩
    have u5 := same_upd (o := .tup [V.int (-1), V.int 0]) m5
    refine ⟨(by show 2 ≤ sizeLine; decide), fun t6 m6 => ?_⟩
    have u6 := same_upd (o := .tup [V.int 2, V.int 0]) m6
    refine ⟨(by show 6 ≤ sizeLine; decide), fun t7 m7 => ?_⟩
    have u7 := same_upd (o := .lst [V.ref t1, V.ref t2, V.ref t3, V.ref t4, V.ref t5, V.ref t6]) m7
    have e7 := u7
    have e6 := u6.trans e7
    have e5 := u5.trans e6
    have e4 := u4.trans e5
    have e3 := u3.trans e4
    have e2 := u2.trans e3
    have e1 := u1.trans e2
    have f1 := e2 _ _ (upd_same (o := .tup [V.int 0, V.int 0]))
    have f2 := e3 _ _ (upd_same (o := .tup [V.int 1, V.int 0]))
    have f3 := e4 _ _ (upd_same (o := .tup [V.int 0, V.int 1]))
    have f4 := e5 _ _ (upd_same (o := .tup [V.int 1, V.int (-1)]))
    have f5 := e6 _ _ (upd_same (o := .tup [V.int (-1), V.int 0]))
    have f6 := e7 _ _ (upd_same (o := .tup [V.int 2, V.int 0]))
    have f7 := same_new u7
    have T5 := T4.mono e1
    have s05 := s04.trans e1
    generalize upd _ t7 _ = G at f1 f2 f3 f4 f5 f6 f7 T5 s05 ⊢
    clear e1 e2 e3 e4 e5 e6 e7 u1 u2 u3 u4 u5 u6 u7 m1 m2 m3 m4 m5 m6 m7
    have hxs : ∀ x ∈ [V.ref t1, V.ref t2, V.ref t3, V.ref t4, V.ref t5, V.ref t6], ∃ (t : Addr) (i j : Int), x = V.ref t ∧ G t = some (.tup [V.int i, V.int j]) ∧ i.natAbs ≤ 2 ∧ j.natAbs ≤ 2 := by
      intro x hx
      rcases mem6 hx with rfl | rfl | rfl | rfl | rfl | rfl
      · exact ⟨_, _, _, rfl, f1, by decide, by decide⟩
      · exact ⟨_, _, _, rfl, f2, by decide, by decide⟩
      · exact ⟨_, _, _, rfl, f3, by decide, by decide⟩
      · exact ⟨_, _, _, rfl, f4, by decide, by decide⟩
      · exact ⟨_, _, _, rfl, f5, by decide, by decide⟩
      · exact ⟨_, _, _, rfl, f6, by decide, by decide⟩
    clear f1 f2 f3 f4 f5 f6
    generalize [V.ref t1, V.ref t2, V.ref t3, V.ref t4, V.ref t5, V.ref t6] = xs at f7 hxs
    refine ⟨t7, rfl, ⟨_, SqL.of f7⟩, for_list (K := K) (a := t7) (xs := xs) (fun i σ H' => Same G H' ∧ ∃ v9 v10, σ = [some (.ref a), some (.ref b), some (.str (txt ws)), some (.int z), some (.int at'), some (.str (txt [l])), v, some (.int (cr : Nat)), some (.int (st : Nat)), v9, v10, none, none, none]) ⟨Same.refl _, none, none, by rw [← ecr]; rfl⟩ (fun i σ H' _ p => p.1.seq (SqL.of f7)) ?_ ?_⟩
    · rintro i x σ H2 hx ⟨s2, v9, v10, rfl⟩
      obtain ⟨t, i1, j1, rfl, ht, hi1, hj1⟩ := hxs x (List.mem_of_getElem? hx)
      refine ⟨t, _, rfl, SqT.of (s2 _ _ ht), rfl, _, _, rfl, _, _, rfl, rfl, ?_⟩
      refine ⟨_, rfl, _, rfl, _, rfl, _, rfl, _, _, rfl, rfl, _, rfl, _, rfl, _, _, rfl, rfl, a, b, R, C, s, g, (cr : Int) + i1, (st : Int) + j1, rfl, T5.mono s2, by omega, by omega, fun H3 s3 => ⟨_, rfl, iteF ?_⟩⟩
      exact ⟨s2.trans s3, _, _, rfl⟩
    rintro σ H6 ⟨s6, v9, v10, rfl⟩
    have T6 := T5.mono s6
    have s06 := s05.trans s6
    clear hxs f7
    obtain ⟨rc, Tc⟩ := T6.one
    obtain ⟨r0, g1, g2, g3⟩ := Tc.get (i := 0) T.g1.r0
    have hR6 := T.g1.r6
    have hC6 := T.g1.c6
    have eRC : (R : Int) * (C : Int) = ((R * C : Nat) : Int) := (Int.natCast_mul R C).symm
    refine ⟨.ref a, rfl, a, _, rfl, .inl (SqL.of Tc.top), .ref a, rfl, a, _, 0, _, rfl, rfl, SqL.of Tc.top, atI_nat (j := 0) g2, r0, _, rfl, .inl (SqL.of g3), (R : Int), (C : Int), congrArg V.int (by rw [List.length_map, Tc.len]), congrArg V.int (by rw [rowV_len]), .inl ⟨by omega, by omega⟩, ?_⟩
    obtain ⟨M, hM⟩ : ∃ M, M = R * C := ⟨_, rfl⟩
    rw [← hM] at hRC eRC
    have eRC2 : (R : Int) * (C : Int) + 2 = (M : Int) + 2 := by rw [eRC]
    refine ⟨_, rfl, _, rfl, _, 2, rfl, rfl, z, (M : Int) + 2, rfl, congrArg V.int eRC2, (by show (0 : Int) < (M : Int) + 2; omega), _, 1, rfl, rfl, _, rfl, z, 9, rfl, rfl, ⟨by decide, by decide⟩, _, rfl, _, 2, rfl, rfl, _, (M : Int) + 2, rfl, congrArg V.int eRC2, (by show (0 : Int) < (M : Int) + 2; omega), _, 1, rfl, rfl, (by show 2 ≤ sizeLine; decide), fun t1 m1 => ?_⟩
    have u1 := same_upd (o := .tup [V.int (z % ((M : Int) + 2) - 1), V.int (z / 9 % ((M : Int) + 2) - 1)]) m1
    refine ⟨(by show 2 ≤ sizeLine; decide), fun t2 m2 => ?_⟩
    have u2 := same_upd (o := .tup [V.int 1, V.int 2]) m2
    refine ⟨(by show 2 ≤ sizeLine; decide), fun t3 m3 => ?_⟩
    have u3 := same_upd (o := .tup [V.int 2, V.int 1]) m3
    refine ⟨(by show 2 ≤ sizeLine; decide), fun t4 m4 => ?_⟩
    have u4 := same_upd (o := .tup [V.int 0, V.int 1]) m4
    refine ⟨_, rfl, (by show 2 ≤ sizeLine; decide), fun t5 m5 => ?_⟩
    have u5 := same_upd (o := .tup [V.int 1, V.int ((R : Int) * (C : Int))]) m5
    refine ⟨(by show 5 ≤ sizeLine; decide), fun t6 m6 => ?_⟩
    have u6 := same_upd (o := .lst [V.ref t1, V.ref t2, V.ref t3, V.ref t4, V.ref t5]) m6
    have e6 := u6
    have e5 := u5.trans e6
    have e4 := u4.trans e5
    have e3 := u3.trans e4
    have e2 := u2.trans e3
    have e1 := u1.trans e2
    have f1 := e2 _ _ (upd_same (o := .tup [V.int (z % ((M : Int) + 2) - 1), V.int (z / 9 % ((M : Int) + 2) - 1)]))
    have f2 := e3 _ _ (upd_same (o := .tup [V.int 1, V.int 2]))
    have f3 := e4 _ _ (upd_same (o := .tup [V.int 2, V.int 1]))
    have f4 := e5 _ _ (upd_same (o := .tup [V.int 0, V.int 1]))
    have f5 := e6 _ _ (upd_same (o := .tup [V.int 1, V.int ((R : Int) * (C : Int))]))
    have f6 := same_new u6
    have T7 := T6.mono e1
    have s07 := s06.trans e1
    generalize upd _ t6 _ = G7 at f1 f2 f3 f4 f5 f6 T7 s07 ⊢
    clear e1 e2 e3 e4 e5 e6 u1 u2 u3 u4 u5 u6 m1 m2 m3 m4 m5 m6
    have b1 := Int.emod_nonneg z (b := (M : Int) + 2) (by omega)
    have b2 := Int.emod_lt_of_pos z (b := (M : Int) + 2) (by omega)
    have b3 := Int.emod_nonneg (z / 9) (b := (M : Int) + 2) (by omega)
    have b4 := Int.emod_lt_of_pos (z / 9) (b := (M : Int) + 2) (by omega)
    have hxs : ∀ x ∈ [V.ref t1, V.ref t2, V.ref t3, V.ref t4, V.ref t5], ∃ (t : Addr) (i j : Int), x = V.ref t ∧ G7 t = some (.tup [V.int i, V.int j]) ∧ i.natAbs ≤ 1000 ∧ j.natAbs ≤ 1000 := by
      intro x hx
      rcases mem5 hx with rfl | rfl | rfl | rfl | rfl
      · exact ⟨_, _, _, rfl, f1, by omega, by omega⟩
      · exact ⟨_, _, _, rfl, f2, by decide, by decide⟩
      · exact ⟨_, _, _, rfl, f3, by decide, by decide⟩
      · exact ⟨_, _, _, rfl, f4, by decide, by decide⟩
      · exact ⟨_, _, _, rfl, f5, by decide, by rw [eRC]; omega⟩
    clear f1 f2 f3 f4 f5
    generalize [V.ref t1, V.ref t2, V.ref t3, V.ref t4, V.ref t5] = xs at f6 hxs
    refine ⟨t6, rfl, ⟨_, SqL.of f6⟩, for_list (K := K) (a := t6) (xs := xs) (fun i σ H' => Same G7 H' ∧ ∃ v12 v13, σ = [some (.ref a), some (.ref b), some (.str (txt ws)), some (.int z), some (.int at'), some (.str (txt [l])), v, some (.int (cr : Nat)), some (.int (st : Nat)), v9, v10, some (.int ((R : Int) * (C : Int))), v12, v13]) ⟨Same.refl _, none, none, rfl⟩ (fun i σ H' _ p => p.1.seq (SqL.of f6)) ?_ ?_⟩
    · rintro i x σ H8 hx ⟨s8, v12, v13, rfl⟩
      obtain ⟨t, i1, j1, rfl, ht, hi1, hj1⟩ := hxs x (List.mem_of_getElem? hx)
      refine ⟨t, _, rfl, SqT.of (s8 _ _ ht), rfl, _, _, rfl, _, _, rfl, rfl, ?_⟩
      refine ⟨_, rfl, _, rfl, _, rfl, _, rfl, a, b, R, C, s, g, i1, j1, rfl, T7.mono s8, by omega, by omega, fun H9 s9 => ⟨_, rfl, iteF ?_⟩⟩
      exact ⟨s8.trans s9, _, _, rfl⟩
    rintro σ H8 ⟨s8, v12, v13, rfl⟩
    exact q _ (s07.trans s8)
end
end Tr
namespace Tr
open PySem PySem.Spec PyProof.Rows L2
theorem scLaw4 : FnScope ["_law_script", "_law_cells", "_law_mixed", "_law_rows", "_law_columns", "_law_one", "_law_other", "_law_slides", "_law_led", "_law_cell", "_law_at"] ["_law_script"] (defScope d_law) := ⟨rfl, rfl, rfl, by decide +kernel, rfl, by decide +kernel, by decide +kernel⟩
def spLaw (K : PySem.W.Frag) : Sp := fun vs H Q _ => ∃ (a : Addr) (ns : List Int), vs = [.ref a] ∧ SqL K H a (ns.map V.int) ∧ ns.length ≤ 63 ∧ (∀ z ∈ ns, Builtin.Int.intBits z ≤ 1048576) ∧ ∀ H', Q (.bl true) H'
theorem cut_most {xs : List V} (h : xs.length ≤ 63) : cutV xs none (some 63) = xs := by
  unfold cutV
  rw [HT.sIx_none, show HT.sIx xs.length xs.length (some 63) = min 63 xs.length from HT.sIx_nat _ _ 63]
  rw [List.drop_zero, Nat.sub_zero, Nat.min_eq_right h, List.take_length]
theorem tray1 {H : Hp} {i o : Addr} {C : Nat} {f : Fld} {xs : List V} (hi : H i = some (.lst xs)) (ho : H o = some (.lst [.ref i])) (hx : xs = rowV C f 0) (hne : o ≠ i) : TrayAt H o [i] 1 C f := by
  refine ⟨ho, rfl, fun j r e => ?_, by simp, fun m => hne (List.mem_singleton.mp m)⟩
  cases j with
  | zero =>
    cases e
    rw [hi, hx]
  | succ j => simp at e
def t10 : Fld := fun k => [1, 0].getD k 0
def t120 : Fld := fun k => [1, 2, 0].getD k 0
def t021 : Fld := fun k => [0, 2, 1].getD k 0
theorem good10 : Good 1 2 (t10, 0, 1) := ⟨by decide, by decide, by decide, by decide, (by show (allV (1 * 2) t10).Perm _; decide), ⟨by decide, by decide, by decide⟩⟩
theorem good01 : Good 1 2 (idf, 0, 0) := ⟨by decide, by decide, by decide, by decide, (by show (allV (1 * 2) idf).Perm _; decide), ⟨by decide, by decide, by decide⟩⟩
theorem good00 : Good 1 1 (idf, 0, 0) := ⟨by decide, by decide, by decide, by decide, (by show (allV (1 * 1) idf).Perm _; decide), ⟨by decide, by decide, by decide⟩⟩
theorem good120 : Good 1 3 (t120, 0, 2) := ⟨by decide, by decide, by decide, by decide, (by show (allV (1 * 3) t120).Perm _; decide), ⟨by decide, by decide, by decide⟩⟩
theorem good021 : Good 1 3 (t021, 0, 0) := ⟨by decide, by decide, by decide, by decide, (by show (allV (1 * 3) t021).Perm _; decide), ⟨by decide, by decide, by decide⟩⟩
theorem l1_eq : ("l" : Str) = txt [108] := by decide +kernel
theorem x1_eq : ("x" : Str) = txt [120] := by decide +kernel
theorem good_of {R C : Nat} {f : Fld} (hR0 : 0 < R) (hR : R ≤ 6) (hC0 : 0 < C) (hC : C ≤ 6) (h : Full (R * C) f) : ∃ r c, Good R C (f, r, c) := by
  obtain ⟨p, hp, hz⟩ := full_zero (Nat.mul_pos hR0 hC0) h
  have e : p / C * C + p % C = p := by rw [Nat.mul_comm]; exact Nat.div_add_mod p C
  refine ⟨p / C, p % C, hR0, hR, hC0, hC, h, ?_, Nat.mod_lt p hC0, ?_⟩
  · exact (Nat.div_lt_iff_lt_mul hC0).mpr hp
  · show f (p / C * C + p % C) = 0
    rw [e]
    exact hz
section
variable {P : Program} {w : World} {K : PySem.W.Frag} {mg : Str → Option Value} {base : Heap}
theorem ok_law4 {fa fD fT fW fS fR fY CL fIL fSL CP fIP fSP : Addr} {fd fdD fdT fdW fdS fdR fdY fdIL fdSL fdIP fdSP : FuncData} {k jD jT jW jS jR jY jIL jSL jIP jSP : Nat} (F : Fun K "law" "law" d_law fa fd) (mSum : mg "sum" = none) (mEn : mg "enumerate" = none)
    (hD : jD ≤ k) (hT : jT ≤ k) (hW : jW ≤ k) (hS : jS ≤ k) (hR : jR ≤ k) (hY : jY ≤ k) (hIL : jIL + 1 ≤ k) (hSL : jSL ≤ k) (hIP : jIP + 1 ≤ k) (hSP : jSP ≤ k)
    (GD : FnOk P w K mg base CX0 jD fD fdD ["_law_cell", "_law_by"] spDigits) (gD : mg "_law_digits" = some (.ref fD)) (kD : PySem.W.keepIn K (.ref fD) = true) (bD : Binds K fdD ["_law_cell", "_law_by"] [])
    (GT : FnOk P w K mg base CX0 jT fT fdT ["_law_number", "_law_rows", "_law_columns"] spTrayL) (gT : mg "_law_tray" = some (.ref fT)) (kT : PySem.W.keepIn K (.ref fT) = true) (bT : Binds K fdT ["_law_number", "_law_rows", "_law_columns"] [])
    (GW : FnOk P w K mg base CX0 jW fW fdW ["_law_tray_here", "_law_cells"] (spWalk K)) (gW : mg "_law_walk" = some (.ref fW)) (kW : PySem.W.keepIn K (.ref fW) = true) (bW : Binds K fdW ["_law_tray_here", "_law_cells"] [])
    (GS : FnOk P w K mg base CX0 jS fS fdS ["_law_tray_here", "_law_slides"] spSlid) (gS : mg "_law_slid" = some (.ref fS)) (kS : PySem.W.keepIn K (.ref fS) = true) (bS : Binds K fdS ["_law_tray_here", "_law_slides"] [])
    (GR : FnOk P w K mg base CX0 jR fR fdR ["_law_one", "_law_other", "_law_slides", "_law_cell"] spRight) (gR : mg "_law_right" = some (.ref fR)) (kR : PySem.W.keepIn K (.ref fR) = true) (bR : Binds K fdR ["_law_one", "_law_other", "_law_slides", "_law_cell"] [])
    (GY : FnOk P w K mg base CX0 jY fY fdY ["_law_said", "_law_due"] spSays) (gY : mg "_law_says" = some (.ref fY)) (kY : PySem.W.keepIn K (.ref fY) = true) (bY : Binds K fdY ["_law_said", "_law_due"] [])
    (TL : ClsT K mg "Led" CL fIL fSL ["slides"])
    (GIL : FnOk P w K mg base CX0 jIL fIL fdIL ["self", "slides"] (spI1 "slides" CL)) (bIL : Binds K fdIL ["self", "slides"] [])
    (GSL : FnOk P w K mg base CX0 jSL fSL fdSL ["self", "one", "other"] (spShL CL)) (bSL : Binds K fdSL ["self", "one", "other"] [])
    (TP : ClsT K mg "Passed" CP fIP fSP ["one", "other"])
    (GIP : FnOk P w K mg base CX0 jIP fIP fdIP ["self", "one", "other"] (spI2 "one" "other" CP)) (bIP : Binds K fdIP ["self", "one", "other"] [])
    (GSP : FnOk P w K mg base CX0 jSP fSP fdSP ["self", "one", "other"] (spShP CP)) (bSP : Binds K fdSP ["self", "one", "other"] []) :
    FnOk P w K mg base CX0 (k + 1) fa fd ["_law_script"] (spLaw K) := by
  refine F.ok scLaw4 (fun vs H Q E h => ?_) (fun cdv A outer s H vs Q E hr h => ?_)
  · obtain ⟨a, ns, rfl, _⟩ := h
    rfl
  · obtain ⟨a, ns, rfl, hScr, hlen, hbits, q⟩ := h
    have hrL := hr.mono hIL
    have hrP := hr.mono hIP
    refine ⟨_, (pss_cons (ps_set (i := 1) scLaw4.nd rfl (.inl rfl) (pe_op op_cat (pe_slice sl_list (pv 0) po_none (po_some pe_int)) (pe_lst (pa_cons pe_int (pa_cons pe_int pa_nil)))))
      (pss_cons (ps_set (i := 2) scLaw4.nd rfl (.inl rfl) (pe_callB (cr_sum rfl) (by rfl) mSum (by decide +kernel) (pa_cons (pv 1) pa_nil)))
      (pss_cons (ps_par (i := 3) (j := 4) (by rfl) scLaw4.nd rfl rfl (by decide) rfl rfl (pa_cons (pe_op op_add pe_int (pe_op op_mod (pv 2) pe_int)) (pa_cons (pe_op op_add pe_int (pe_op op_mod (pe_op op_fdiv (pv 2) pe_int) pe_int)) pa_nil)) (by rfl))
      (C8.pss_cut (ps_if (pt_cmpR op_eq (pe_op op_mod (pe_op op_fdiv (pv 2) pe_int) pe_int) pe_int (nomark _)) (pss_one (ps_set (i := 3) scLaw4.nd rfl (.inl rfl) pe_int)) pss_nil)
      (pss_cons (ps_set (i := 5) scLaw4.nd rfl (.inl rfl) (pe_call GT (hr.mono hT) (by rfl) gT kT bT .nil pass0 (pa_cons (pe_call GD (hr.mono hD) (by rfl) gD kD bD .nil pass0 (pa_cons (pe_ix ix_list (pv 1) pe_int (fun _ _ => rfl)) (pa_cons pe_int pa_nil))) (pa_cons (pv 3) (pa_cons (pv 4) pa_nil)))))
      (pss_cons (ps_set (i := 6) scLaw4.nd rfl (.inl rfl) (pe_call GT (hr.mono hT) (by rfl) gT kT bT .nil pass0 (pa_cons (pe_call GD (hr.mono hD) (by rfl) gD kD bD .nil pass0 (pa_cons (pe_ix ix_list (pv 1) pe_int (fun _ _ => rfl)) (pa_cons pe_int pa_nil))) (pa_cons (pv 3) (pa_cons (pv 4) pa_nil)))))
      (pss_cons (ps_set (i := 7) scLaw4.nd rfl (.inl rfl) (pe_call GW (hr.mono hW) (by rfl) gW kW bW .nil pass0 (pa_cons (pv 5) (pa_cons (pe_lc (own := [("_law_at", 10), ("_law_cell", 9)]) (g := gTup K 2 (gCons (gName 10) (gCons (gName 9) gNil))) (tt := tYes) rfl scLaw4.nd (pi_enum rfl mEn (pa_cons (pv 1) pa_nil))
            (blkOk_by (own := [("_law_at", 10), ("_law_cell", 9)]) (N := ["_law_script", "_law_cells", "_law_mixed", "_law_rows", "_law_columns", "_law_one", "_law_other", "_law_slides", "_law_led", "_law_cell", "_law_at"]) (sc := defScope d_law) (by decide +kernel))
            (fun _ _ _ _ _ => pg_tup rfl (pgs_cons (pg_name (i := 10) scLaw4.nd rfl (.inl rfl)) (pgs_cons (pg_name (i := 9) scLaw4.nd rfl (.inl rfl)) pgs_nil))) (fun _ _ _ _ _ => pts_nil)
            (fun _ _ _ _ _ => (pe_call GD (hr.mono hD) (by rfl) gD kD bD .nil pass0 (pa_cons (pv 9) (pa_cons (pv 10) pa_nil))))) pa_nil))))
      (pss_cons (ps_set (i := 8) scLaw4.nd rfl (.inl rfl) (pe_call GS (hr.mono hS) (by rfl) gS kS bS .nil pass0 (pa_cons (pv 5) (pa_cons (pv 7) pa_nil))))
      (pss_cons (ps_for PassesOwn.never rfl (pi_list (pe_op op_cat (pe_slice sl_list (pv 1) po_none (po_some pe_int)) (pe_lst (pa_cons (pv 2) pa_nil)))) (pg_name (i := 9) scLaw4.nd rfl (.inl rfl)) (pss_one (ps_if (PW.pt (pw_or (pt_not (pt_val (pe_call GR (hr.mono hR) (by rfl) gR kR bR .nil pass0 (pa_cons (pv 5) (pa_cons (pv 8) (pa_cons (pv 7) (pa_cons (pv 9) pa_nil))))))) (pw_or1 (pt_not (pt_val (pe_call GR (hr.mono hR) (by rfl) gR kR bR .nil pass0 (pa_cons (pv 5) (pa_cons (pv 6) (pa_cons (pv 7) (pa_cons (pv 9) pa_nil)))))))))) (pss_one (ps_ret pe_bl)) pss_nil)))
      (pss_cons (ps_if (pt_not (pt_val (pe_call GY (hr.mono hY) (by rfl) gY kY bY .nil pass0 (pa_cons (pe_meth (pe_make TL.mkc GIL hrL (by rfl) TL.g bIL .nil pass0 (pa_cons pe_str pa_nil)) TL.cl TL.me GSL (hr.mono hSL) bSL .nil pass0 (pa_cons (pe_lst (pa_cons (pe_lst (pa_cons pe_int (pa_cons pe_int pa_nil))) pa_nil)) (pa_cons (pe_lst (pa_cons (pe_lst (pa_cons pe_int (pa_cons pe_int pa_nil))) pa_nil)) pa_nil))) (pa_cons pe_bl pa_nil))))) (pss_one (ps_ret pe_bl)) pss_nil)
      (pss_cons (ps_if (pt_not (pt_val (pe_call GY (hr.mono hY) (by rfl) gY kY bY .nil pass0 (pa_cons (pe_meth (pe_make TL.mkc GIL hrL (by rfl) TL.g bIL .nil pass0 (pa_cons pe_str pa_nil)) TL.cl TL.me GSL (hr.mono hSL) bSL .nil pass0 (pa_cons (pe_lst (pa_cons (pe_lst (pa_cons pe_int pa_nil)) pa_nil)) (pa_cons (pe_lst (pa_cons (pe_lst (pa_cons pe_int pa_nil)) pa_nil)) pa_nil))) (pa_cons pe_bl pa_nil))))) (pss_one (ps_ret pe_bl)) pss_nil)
      (pss_one (ps_ret (pe_call GY (hr.mono hY) (by rfl) gY kY bY .nil pass0 (pa_cons (pe_meth (pe_make TP.mkc GIP hrP (by rfl) TP.g bIP .nil pass0 (pa_cons pe_int (pa_cons pe_int pa_nil))) TP.cl TP.me GSP (hr.mono hSP) bSP .nil pass0 (pa_cons (pe_lst (pa_cons (pe_lst (pa_cons pe_int (pa_cons pe_int (pa_cons pe_int pa_nil)))) pa_nil)) (pa_cons (pe_lst (pa_cons (pe_lst (pa_cons pe_int (pa_cons pe_int (pa_cons pe_int pa_nil)))) pa_nil)) pa_nil))) (pa_cons pe_bl pa_nil)))))))))))))))), ?_⟩
    -- cells = script[:63] + [5, 8]
    refine ⟨.ref a, rfl, 63, rfl, a, _, rfl, hScr, fun p1 n1 => ?_⟩
    rw [cut_most (by rw [List.length_map]; exact hlen)]
    have s1 := same_upd (o := .lst (ns.map V.int)) n1
    refine ⟨(by show 2 ≤ sizeLine; decide), fun p2 n2 => ?_⟩
    have s2 := same_upd (o := .lst [V.int 5, V.int 8]) n2
    refine ⟨p1, p2, _, _, rfl, rfl, s2 _ _ upd_same, upd_same, ?_, fun p n3 => ?_⟩
    · rw [List.length_map]
      exact Nat.le_of_lt (small1000 (by show ns.length + 2 ≤ 1000; omega))
    have s3 := same_upd (o := .lst (ns.map V.int ++ [V.int 5, V.int 8])) n3
    have hcells : (upd (upd (upd H p1 (.lst (ns.map V.int))) p2 (.lst [V.int 5, V.int 8])) p (.lst (ns.map V.int ++ [V.int 5, V.int 8]))) p = some (.lst ((ns ++ [5, 8]).map V.int)) := by
      rw [upd_same, List.map_append]
      rfl
    generalize upd (upd (upd H p1 (.lst (ns.map V.int))) p2 (.lst [V.int 5, V.int 8])) p (.lst (ns.map V.int ++ [V.int 5, V.int 8])) = H1 at hcells ⊢
    have hcl : (ns ++ [5, 8]).length ≤ 65 := by rw [List.length_append]; show ns.length + 2 ≤ 65; omega
    have hcb : ∀ z ∈ ns ++ [5, 8], Builtin.Int.intBits z ≤ 1048576 := by
      intro z hz
      rcases List.mem_append.mp hz with h | h
      · exact hbits z h
      · rcases List.mem_cons.mp h with rfl | h
        · decide
        · rw [List.mem_singleton.mp h]
          decide
    have hc01 : (∃ z, (ns ++ [5, 8])[0]? = some z) ∧ ∃ z, (ns ++ [5, 8])[1]? = some z := by
      have h2 : 2 ≤ (ns ++ [5, 8]).length := by rw [List.length_append]; show 2 ≤ ns.length + 2; omega
      exact ⟨⟨_, List.getElem?_eq_getElem (by omega)⟩, ⟨_, List.getElem?_eq_getElem (by omega)⟩⟩
    clear s1 s2 s3 n1 n2 n3
    generalize ns ++ [5, 8] = cs at hcells hcl hcb hc01
    -- mixed = sum(cells)
    refine ⟨.ref p, rfl, p, cs, rfl, SqL.of hcells, ?_⟩
    generalize cs.sum = m
    -- rows, columns
    refine ⟨_, rfl, m, 5, rfl, rfl, (by show (0 : Int) < 5; decide), 1, _, rfl, rfl, _, rfl, m, 5, rfl, rfl, ⟨by decide, by decide⟩, _, 5, rfl, rfl, (by show (0 : Int) < 5; decide), 1, _, rfl, rfl, _, _, rfl, ?_⟩
    have r1 := Int.emod_nonneg m (b := 5) (by decide)
    have r2 := Int.emod_lt_of_pos m (b := 5) (by decide)
    have c1 := Int.emod_nonneg (m / 5) (b := 5) (by decide)
    have c2 := Int.emod_lt_of_pos (m / 5) (b := 5) (by decide)
    have hcells1 := hcells
    clear hcells
    obtain ⟨R, hRe⟩ := Int.eq_ofNat_of_zero_le (show 0 ≤ 1 + m % 5 by omega)
    obtain ⟨C, hCe⟩ := Int.eq_ofNat_of_zero_le (show 0 ≤ 1 + m / 5 % 5 by omega)
    refine ⟨fun σ' H' => (∃ R' : Nat, 0 < R' ∧ R' ≤ 5 ∧ σ' = [some (.ref a), some (.ref p), some (.int m), some (.int (R' : Nat)), some (.int (C : Nat)), none, none, none, none, none, none]) ∧ H' = H1, ?_, ?_⟩
    · refine ⟨_, rfl, m, 25, rfl, rfl, ⟨by decide, by decide⟩, _, 3, rfl, rfl, (by show (0 : Int) < 3; decide), rfl, _, rfl, decI (fun _ => ?_) (fun _ => ?_)⟩
      · refine ⟨⟨1, by decide, by decide, ?_⟩, rfl⟩
        rw [← hCe]
        rfl
      · refine ⟨⟨R, by omega, by omega, ?_⟩, rfl⟩
        rw [← hCe, ← hRe]
        rfl
    rintro σ' H' ⟨⟨R', hR0, hR5, rfl⟩, rfl⟩
    have hC0 : 0 < C := by omega
    have hC5 : C ≤ 5 := by omega
    clear hRe hCe r1 r2 c1 c2
    obtain ⟨⟨z0, hz0⟩, ⟨z1, hz1⟩⟩ := hc01
    have hz0v : (cs.map V.int)[0]? = some (V.int z0) := by rw [List.getElem?_map, hz0]; rfl
    have hz1v : (cs.map V.int)[1]? = some (V.int z1) := by rw [List.getElem?_map, hz1]; rfl
    refine ⟨.ref p, rfl, p, _, 0, _, rfl, rfl, SqL.of hcells1, atI_nat (j := 0) hz0v, z0, 1, rfl, by decide, hcb z0 (List.mem_of_getElem? hz0), fun y0 => ?_⟩
    refine ⟨_, rfl, _, rfl, y0, R', C, rfl, by omega, by omega, fun H2 t rsT f s2 nt nrT T hF => ?_⟩
    obtain ⟨r, c, g⟩ := good_of (R := R') (C := C) (f := f) hR0 (by omega) hC0 (by omega) hF
    have hcells2 := s2 _ _ hcells1
    refine ⟨.ref p, rfl, p, _, 1, _, rfl, rfl, SqL.of hcells2, atI_nat (j := 1) hz1v, z1, 3, rfl, by decide, hcb z1 (List.mem_of_getElem? hz1), fun y1 => ?_⟩
    refine ⟨_, rfl, _, rfl, y1, R', C, rfl, by omega, by omega, fun H3 u rsU f2 s3 nu nrU U hF2 => ?_⟩
    obtain ⟨r2, c2, g2⟩ := good_of (R := R') (C := C) (f := f2) hR0 (by omega) hC0 (by omega) hF2
    have T3 := T.mono s3
    have hcells3 := s3 _ _ hcells2
    -- slides
    refine ⟨_, rfl, .ref p, rfl, p, _, rfl, SqL.of hcells3, fun D nD => ?_⟩
    refine lc_gen (walk_enum (K := K) (a := p) (xs := cs.map V.int)) (fun i H4 => ∃ acc : List Int, H4 D = some (.lst (acc.map V.int)) ∧ acc.length = i ∧ Same H3 H4) ⟨[], upd_same, rfl, same_upd nD⟩ (fun i H4 _ ⟨_, _, _, sm⟩ => sm.seq (SqL.of hcells3)) ?_ ?_
    · rintro i x H4 H5 hi ⟨acc, hD, hacc, sm⟩ ⟨T1, x1, y1, rfl, nT1, rfl, e1, e2⟩
      cases e1
      rw [List.length_map] at hi
      have e2 : (cs.map V.int)[i]? = some y1 := e2
      rw [List.getElem?_map, List.getElem?_eq_getElem hi] at e2
      cases e2
      have smT : Same H4 (upd H4 T1 (.tup [V.int (i : Nat), V.int cs[i]])) := same_upd nT1
      refine ⟨T1, _, rfl, SqT.of upd_same, rfl, _, _, rfl, _, _, rfl, rfl, rfl, ?_⟩
      refine ⟨_, rfl, _, rfl, cs[i], i, rfl, by omega, hcb _ (List.getElem_mem hi), fun n => ?_⟩
      refine ⟨_, smT _ _ hD, ?_, acc ++ [n], ?_, ?_, ?_⟩
      · rw [List.length_map]
        exact small1000 (by omega)
      · rw [upd_same, List.map_append]
        rfl
      · rw [List.length_append, hacc]
        rfl
      · intro b o e
        rw [upd_ne (ne_of_none e nD)]
        exact smT _ _ (sm _ _ e)
    rintro H4 ⟨acc, hD, hacc, s4⟩
    rw [List.length_map] at hacc
    have T4 := T3.mono s4
    refine ⟨t, D, rsT, R', C, (f, r, c), acc, rfl, T4, g, SqL.of hD, by omega, fun ws s' H5 s5 hgo hok hwl => ?_⟩
    have hwl : ws.length ≤ 65 := by omega
    have g' := g.go hgo
    -- led
    refine ⟨_, rfl, _, rfl, t, rsT, R', C, (f, r, c), ws, rfl, T4.mono s5, g, fun s2' hg2 H6 ld rsD s6 ndd nrD TD => ?_, fun hn => by rw [hgo] at hn; cases hn⟩
    rw [hgo] at hg2
    cases hg2
    have hcells6 := s6 _ _ (s5 _ _ (s4 _ _ hcells3))
    have T6 := (T4.mono s5).mono s6
    have U6 := ((U.mono s4).mono s5).mono s6
    have two1 : Two H6 t ld R' C (f, r, c) s' := ⟨⟨_, T6⟩, ⟨_, TD⟩, g, g'⟩
    have two2 : Two H6 t u R' C (f, r, c) (f2, r2, c2) := ⟨⟨_, T6⟩, ⟨_, U6⟩, g, g2⟩
    clear T6 U6 TD T4 T3 U T
    -- cells[:3] + [mixed]
    refine ⟨.ref p, rfl, 3, rfl, p, _, rfl, SqL.of hcells6, fun q1 n1 => ?_⟩
    have v1 := same_upd (o := .lst (cutV (cs.map V.int) none (some 3))) n1
    refine ⟨_, rfl, (by show 1 ≤ sizeLine; decide), fun q2 n2 => ?_⟩
    have v2 := same_upd (o := .lst [V.int m]) n2
    have hcut : ∀ x ∈ cutV (cs.map V.int) none (some 3), ∃ z, x = V.int z := by
      intro x hx
      unfold cutV at hx
      obtain ⟨z, _, e⟩ := List.mem_map.mp (List.mem_of_mem_drop (List.mem_of_mem_take hx))
      exact ⟨z, e.symm⟩
    have hcutl : (cutV (cs.map V.int) none (some 3)).length ≤ 65 := by
      unfold cutV
      rw [List.length_take, List.length_drop, List.length_map]
      omega
    refine ⟨q1, q2, _, _, rfl, rfl, v2 _ _ upd_same, upd_same, ?_, fun q3 n3 => ?_⟩
    · exact Nat.le_of_lt (small1000 (by show _ + 1 ≤ 1000; omega))
    have v3 := same_upd (o := .lst (cutV (cs.map V.int) none (some 3) ++ [V.int m])) n3
    have hq3 := same_new v3
    have v13 := v1.trans (v2.trans v3)
    have two1 := two1.mono v13
    have two2 := two2.mono v13
    have hints : ∀ x ∈ cutV (cs.map V.int) none (some 3) ++ [V.int m], ∃ z, x = V.int z := fun x hx => by
      rcases List.mem_append.mp hx with h | h
      · exact hcut x h
      · exact ⟨m, List.mem_singleton.mp h⟩
    generalize upd _ q3 _ = H7 at hq3 two1 two2 ⊢
    clear v1 v2 v3 n1 n2 n3 hcut hcutl v13
    generalize cutV (cs.map V.int) none (some 3) ++ [V.int m] = ys at hq3 hints
    refine ⟨q3, rfl, ⟨_, SqL.of hq3⟩, for_list (K := K) (a := q3) (xs := ys) (fun i σ H' => Same H7 H' ∧ ∃ v9, σ = [some (.ref a), some (.ref p), some (.int m), some (.int (R' : Nat)), some (.int (C : Nat)), some (.ref t), some (.ref u), some (.str (txt ws)), some (.ref ld), v9, none]) ⟨Same.refl _, none, rfl⟩ (fun i σ H' _ p => p.1.seq (SqL.of hq3)) ?_ ?_⟩
    · rintro i x σ H8 hx ⟨sm, v9, rfl⟩
      obtain ⟨z, rfl⟩ := hints x (List.mem_of_getElem? hx)
      refine ⟨_, rfl, _, rfl, _, rfl, _, rfl, t, ld, R', C, (f, r, c), s', ws, z, rfl, two1.mono sm, by omega, fun H9 s9 => ⟨_, rfl, iteF ?_⟩⟩
      refine ⟨_, rfl, _, rfl, _, rfl, _, rfl, t, u, R', C, (f, r, c), (f2, r2, c2), ws, z, rfl, (two2.mono sm).mono s9, by omega, fun H10 s10 => ⟨_, rfl, iteF ?_⟩⟩
      exact ⟨sm.trans (s9.trans s10), _, rfl⟩
    rintro σ H8 ⟨sm, v9, rfl⟩
    clear two1 two2 hints hq3 sm
    refine fun o dx no ndx nex => ?_
    refine ⟨o, dx, _, rfl, upd_same, fun fs h1 h2 => ⟨rfl, ?_⟩⟩
    have f2 : (upd (upd (upd H8 dx (.own o)) o (.ins CL dx [])) o (.ins CL dx fs)) o = some (.ins CL dx fs) := upd_same
    generalize upd (upd (upd H8 dx (.own o)) o (.ins CL dx [])) o (.ins CL dx fs) = G1 at f2 ⊢
    refine ⟨o, dx, fs, rfl, f2, h2, (by show 2 ≤ sizeLine; decide), fun p1 n1 => ?_⟩
    have u1 := same_upd (o := .lst [V.int 1, V.int 0]) n1
    refine ⟨(by show 1 ≤ sizeLine; decide), fun p2 n2 => ?_⟩
    have u2 := same_upd (o := .lst [V.ref p1]) n2
    refine ⟨(by show 2 ≤ sizeLine; decide), fun p3 n3 => ?_⟩
    have u3 := same_upd (o := .lst [V.int 0, V.int 1]) n3
    refine ⟨(by show 1 ≤ sizeLine; decide), fun p4 n4 => ?_⟩
    have u4 := same_upd (o := .lst [V.ref p3]) n4
    have f1 := (u2.trans (u3.trans u4)) _ _ (upd_same (o := .lst [V.int 1, V.int 0]))
    have f3 := (u3.trans u4) _ _ (upd_same (o := .lst [V.ref p1]))
    have f4 := u4 _ _ (upd_same (o := .lst [V.int 0, V.int 1]))
    have f5 := same_new u4
    have f6 := (u1.trans (u2.trans (u3.trans u4))) _ _ f2
    generalize upd _ p4 _ = G2 at f1 f3 f4 f5 f6 ⊢
    have T1 : TrayAt G2 p2 [p1] 1 2 t10 := tray1 f1 f3 rfl (fun e => by rw [e, f1] at f3; cases f3)
    have T2 : TrayAt G2 p4 [p3] 1 2 idf := tray1 f4 f5 rfl (fun e => by rw [e, f4] at f5; cases f5)
    refine ⟨o, dx, p2, p4, fs, [108], _, _, 1, 2, (t10, 0, 1), (idf, 0, 0), rfl, f6, h1.trans (congrArg (fun x => some (V.str x)) l1_eq), T1, good10, T2, good01, by decide, fun H9 s9 => ?_⟩
    refine ⟨_, true, rfl, ?_⟩
    
    have ev : ledB 1 2 (t10, 0, 1) [108] idf = true := by decide
    rw [ev]
    refine ⟨_, rfl, iteF ?_⟩
    clear f1 f2 f3 f4 f5 f6 T1 T2 u1 u2 u3 u4 n1 n2 n3 n4 h1 h2
    generalize H9 = H8
    refine fun o dx no ndx nex => ?_
    refine ⟨o, dx, _, rfl, upd_same, fun fs h1 h2 => ⟨rfl, ?_⟩⟩
    have f2 : (upd (upd (upd H8 dx (.own o)) o (.ins CL dx [])) o (.ins CL dx fs)) o = some (.ins CL dx fs) := upd_same
    generalize upd (upd (upd H8 dx (.own o)) o (.ins CL dx [])) o (.ins CL dx fs) = G1 at f2 ⊢
    refine ⟨o, dx, fs, rfl, f2, h2, (by show 1 ≤ sizeLine; decide), fun p1 n1 => ?_⟩
    have u1 := same_upd (o := .lst [V.int 0]) n1
    refine ⟨(by show 1 ≤ sizeLine; decide), fun p2 n2 => ?_⟩
    have u2 := same_upd (o := .lst [V.ref p1]) n2
    refine ⟨(by show 1 ≤ sizeLine; decide), fun p3 n3 => ?_⟩
    have u3 := same_upd (o := .lst [V.int 0]) n3
    refine ⟨(by show 1 ≤ sizeLine; decide), fun p4 n4 => ?_⟩
    have u4 := same_upd (o := .lst [V.ref p3]) n4
    have f1 := (u2.trans (u3.trans u4)) _ _ (upd_same (o := .lst [V.int 0]))
    have f3 := (u3.trans u4) _ _ (upd_same (o := .lst [V.ref p1]))
    have f4 := u4 _ _ (upd_same (o := .lst [V.int 0]))
    have f5 := same_new u4
    have f6 := (u1.trans (u2.trans (u3.trans u4))) _ _ f2
    generalize upd _ p4 _ = G2 at f1 f3 f4 f5 f6 ⊢
    have T1 : TrayAt G2 p2 [p1] 1 1 idf := tray1 f1 f3 rfl (fun e => by rw [e, f1] at f3; cases f3)
    have T2 : TrayAt G2 p4 [p3] 1 1 idf := tray1 f4 f5 rfl (fun e => by rw [e, f4] at f5; cases f5)
    refine ⟨o, dx, p2, p4, fs, [120], _, _, 1, 1, (idf, 0, 0), (idf, 0, 0), rfl, f6, h1.trans (congrArg (fun x => some (V.str x)) x1_eq), T1, good00, T2, good00, by decide, fun H9 s9 => ?_⟩
    refine ⟨_, false, rfl, ?_⟩
    
    have ev : ledB 1 1 (idf, 0, 0) [120] idf = false := by decide
    rw [ev]
    refine ⟨_, rfl, iteF ?_⟩
    clear f1 f2 f3 f4 f5 f6 T1 T2 u1 u2 u3 u4 n1 n2 n3 n4 h1 h2
    generalize H9 = H8
    refine fun o dx no ndx nex => ?_
    refine ⟨o, dx, _, _, rfl, upd_same, fun fs h1 h2 h3 h4 => ⟨rfl, ?_⟩⟩
    have f2 : (upd (upd (upd H8 dx (.own o)) o (.ins CP dx [])) o (.ins CP dx fs)) o = some (.ins CP dx fs) := upd_same
    generalize upd (upd (upd H8 dx (.own o)) o (.ins CP dx [])) o (.ins CP dx fs) = G1 at f2 ⊢
    refine ⟨o, dx, fs, rfl, f2, h3, (by show 3 ≤ sizeLine; decide), fun p1 n1 => ?_⟩
    have u1 := same_upd (o := .lst [V.int 1, V.int 2, V.int 0]) n1
    refine ⟨(by show 1 ≤ sizeLine; decide), fun p2 n2 => ?_⟩
    have u2 := same_upd (o := .lst [V.ref p1]) n2
    refine ⟨(by show 3 ≤ sizeLine; decide), fun p3 n3 => ?_⟩
    have u3 := same_upd (o := .lst [V.int 0, V.int 2, V.int 1]) n3
    refine ⟨(by show 1 ≤ sizeLine; decide), fun p4 n4 => ?_⟩
    have u4 := same_upd (o := .lst [V.ref p3]) n4
    have f1 := (u2.trans (u3.trans u4)) _ _ (upd_same (o := .lst [V.int 1, V.int 2, V.int 0]))
    have f3 := (u3.trans u4) _ _ (upd_same (o := .lst [V.ref p1]))
    have f4 := u4 _ _ (upd_same (o := .lst [V.int 0, V.int 2, V.int 1]))
    have f5 := same_new u4
    have f6 := (u1.trans (u2.trans (u3.trans u4))) _ _ f2
    generalize upd _ p4 _ = G2 at f1 f3 f4 f5 f6 ⊢
    have T1 : TrayAt G2 p2 [p1] 1 3 t120 := tray1 f1 f3 rfl (fun e => by rw [e, f1] at f3; cases f3)
    have T2 : TrayAt G2 p4 [p3] 1 3 t021 := tray1 f4 f5 rfl (fun e => by rw [e, f4] at f5; cases f5)
    refine ⟨o, dx, p2, p4, fs, 1, 2, _, _, 1, 3, (t120, 0, 2), (t021, 0, 0), rfl, f6, h1, h2, h4, T1, good120, T2, good021, by decide, by decide, fun H9 s9 => ?_⟩
    refine ⟨_, true, rfl, ?_⟩
    
    have ev : passedB 1 3 t120 t021 1 2 = true := by decide
    rw [ev]
    exact q _
end
end Tr
namespace Tr
open PySem PySem.Spec PyProof.Rows L2
theorem kit_own {K : PySem.W.Frag} {D C : Addr} {b : Bool} (h2 : PySem.W.isClsIn K C = true) (h3 : PySem.W.typeIn K (.ref C) = some (.type "type")) (h4 : PySem.W.subIn K (.ref D) (.ref C) = some b) (h5 : PySem.W.subIn K (.ref D) (.ref D) = some true) : PySem.W.kitOne K (.ref D) (.ref C) = some b := by
  unfold PySem.W.kitOne
  by_cases e : ((Value.ref D == Value.ref C) = true)
  · rw [if_pos e]
    have e2 : D = C := Value.ref.inj (beq_iff_eq.mp e)
    subst e2
    rw [h5] at h4
    exact h4
  · rw [if_neg e]
    have e2 : ((PySem.W.clsIn K C).isSome && PySem.W.typeIn K (.ref C) == some (.type "type")) = true := by
      have h2' : (PySem.W.clsIn K C).isSome = true := h2
      rw [h2', h3] <;> rfl
    show (if ((PySem.W.clsIn K C).isSome && PySem.W.typeIn K (.ref C) == some (.type "type")) = true then PySem.W.subIn K (.ref D) (.ref C) else none) = some b
    rw [if_pos e2]
    exact h4
theorem sgn_eq (a c : Nat) : ((txt [a] : Str) == txt [c]) = decide (a = c) := by
  by_cases h : a = c
  · subst h
    rw [decide_eq_true rfl]
    exact beq_self_eq_true _
  · rw [decide_eq_false h]
    exact beq_eq_false_iff_ne.mpr fun e => h (List.head_eq_of_cons_eq (txt_inj e))
theorem ns4 {K : PySem.W.Frag} {d : Addr} {n : Nat} {h1 h2 h3 h4 : Int} {t1 t2 t3 t4 : Tok} {v1 v2 v3 v4 : Value}
    (l : K.lookup d = some ⟨.type "dict", none, .dict #[⟨h1, .str "u" t1, v1⟩, ⟨h2, .str "d" t2, v2⟩, ⟨h3, .str "l" t3, v3⟩, ⟨h4, .str "r" t4, v4⟩] n, #[]⟩) (c : Nat) :
    PySem.W.nsIn K d (txt [c]) = some (if c = 117 then some v1 else if c = 100 then some v2 else if c = 108 then some v3 else if c = 114 then some v4 else none) := by
  unfold PySem.W.nsIn
  rw [l]
  have f : (#[⟨h1, .str "u" t1, v1⟩, ⟨h2, .str "d" t2, v2⟩, ⟨h3, .str "l" t3, v3⟩, ⟨h4, .str "r" t4, v4⟩] : Array DictEntry).toList.find? (fun e => e.key.isStr (txt [c])) =
      if c = 117 then some ⟨h1, .str "u" t1, v1⟩ else if c = 100 then some ⟨h2, .str "d" t2, v2⟩ else if c = 108 then some ⟨h3, .str "l" t3, v3⟩ else if c = 114 then some ⟨h4, .str "r" t4, v4⟩ else none := by
    show List.find? (fun e : DictEntry => e.key.isStr (txt [c])) [⟨h1, .str "u" t1, v1⟩, ⟨h2, .str "d" t2, v2⟩, ⟨h3, .str "l" t3, v3⟩, ⟨h4, .str "r" t4, v4⟩] = _
    rw [u_eq, d_eq, l_eq, r_eq]
    have g : ∀ (h : Int) (a : Nat) (t : Tok) (v : Value), Value.isStr (DictEntry.key ⟨h, .str (txt [a]) t, v⟩) (txt [c]) = decide (a = c) := fun h a t v => sgn_eq a c
    by_cases z1 : c = 117
    · rw [if_pos z1, List.find?_cons_of_pos (by rw [g]; exact decide_eq_true z1.symm)]
    rw [if_neg z1, List.find?_cons_of_neg (by rw [g, decide_eq_true_eq]; exact fun e => z1 e.symm)]
    by_cases z2 : c = 100
    · rw [if_pos z2, List.find?_cons_of_pos (by rw [g]; exact decide_eq_true z2.symm)]
    rw [if_neg z2, List.find?_cons_of_neg (by rw [g, decide_eq_true_eq]; exact fun e => z2 e.symm)]
    by_cases z3 : c = 108
    · rw [if_pos z3, List.find?_cons_of_pos (by rw [g]; exact decide_eq_true z3.symm)]
    rw [if_neg z3, List.find?_cons_of_neg (by rw [g, decide_eq_true_eq]; exact fun e => z3 e.symm)]
    by_cases z4 : c = 114
    · rw [if_pos z4, List.find?_cons_of_pos (by rw [g]; exact decide_eq_true z4.symm)]
    rw [if_neg z4, List.find?_cons_of_neg (by rw [g, decide_eq_true_eq]; exact fun e => z4 e.symm)]
    rfl
  dsimp only
  rw [f]
  by_cases z1 : c = 117
  · rw [if_pos z1, if_pos z1]
  rw [if_neg z1, if_neg z1]
  by_cases z2 : c = 100
  · rw [if_pos z2, if_pos z2]
  rw [if_neg z2, if_neg z2]
  by_cases z3 : c = 108
  · rw [if_pos z3, if_pos z3]
  rw [if_neg z3, if_neg z3]
  by_cases z4 : c = 114
  · rw [if_pos z4, if_pos z4]
  rw [if_neg z4, if_neg z4]
  rfl
theorem sqT_two {K : PySem.W.Frag} {p : Addr} {a b : Int} {ta tb : Tok} {od : Option Addr} {n : Nat} {sl : Array (Option Value)} (l : K.lookup p = some ⟨.type "tuple", od, .seq #[.int a ta, .int b tb] n, sl⟩) : ∀ H, SqT K H p [.int a, .int b] := fun H =>
  .inr ⟨_, #[.int a ta, .int b tb], n, l, rfl, rfl, (by show 2 ≤ sizeLine; decide), .cons ⟨_, rfl⟩ (.cons ⟨_, rfl⟩ .nil)⟩
theorem all_mk {l : PySem.W.OpenLaw} {w : World} {K : PySem.W.Frag} {h : Heap} {mg : Str → Option Value} {fa f0 f1 f2 f3 f4 f5 f6 f7 f8 f9 f10 f11 f12 f13 f14 f15 f16 f17 f18 f19 f20 f21 f22 f23 f24 CS CL f25 f26 CO f27 f28 CP f29 f30 f31 dS p1 p2 p3 p4 : Addr} (X : K.In h) (G : h.Ns mainGlobals mg) (hfa : mg "law" = some (.ref fa))
    {od0 an0 : Option Addr} {sl0 : Array (Option Value)} {oc0 kV0 dc0 pm0 cd0 ct0 : Value} {od1 an1 : Option Addr} {sl1 : Array (Option Value)} {oc1 kV1 dc1 pm1 cd1 ct1 : Value} {od2 an2 : Option Addr} {sl2 : Array (Option Value)} {oc2 kV2 dc2 pm2 cd2 ct2 : Value} {od3 an3 : Option Addr} {sl3 : Array (Option Value)} {oc3 kV3 dc3 pm3 cd3 ct3 : Value} {od4 an4 : Option Addr} {sl4 : Array (Option Value)} {oc4 kV4 dc4 pm4 cd4 ct4 : Value} {od5 an5 : Option Addr} {sl5 : Array (Option Value)} {oc5 kV5 dc5 pm5 cd5 ct5 : Value} {od6 an6 : Option Addr} {sl6 : Array (Option Value)} {oc6 kV6 dc6 pm6 cd6 ct6 : Value} {od7 an7 : Option Addr} {sl7 : Array (Option Value)} {oc7 kV7 dc7 pm7 cd7 ct7 : Value} {od8 an8 : Option Addr} {sl8 : Array (Option Value)} {oc8 kV8 dc8 pm8 cd8 ct8 : Value} {od9 an9 : Option Addr} {sl9 : Array (Option Value)} {oc9 kV9 dc9 pm9 cd9 ct9 : Value} {od10 an10 : Option Addr} {sl10 : Array (Option Value)} {oc10 kV10 dc10 pm10 cd10 ct10 : Value} {od11 an11 : Option Addr} {sl11 : Array (Option Value)} {oc11 kV11 dc11 pm11 cd11 ct11 : Value} {od12 an12 : Option Addr} {sl12 : Array (Option Value)} {oc12 kV12 dc12 pm12 cd12 ct12 : Value} {od13 an13 : Option Addr} {sl13 : Array (Option Value)} {oc13 kV13 dc13 pm13 cd13 ct13 : Value} {od14 an14 : Option Addr} {sl14 : Array (Option Value)} {oc14 kV14 dc14 pm14 cd14 ct14 : Value} {od15 an15 : Option Addr} {sl15 : Array (Option Value)} {oc15 kV15 dc15 pm15 cd15 ct15 : Value} {od16 an16 : Option Addr} {sl16 : Array (Option Value)} {oc16 kV16 dc16 pm16 cd16 ct16 : Value} {od17 an17 : Option Addr} {sl17 : Array (Option Value)} {oc17 kV17 dc17 pm17 cd17 ct17 : Value} {od18 an18 : Option Addr} {sl18 : Array (Option Value)} {oc18 kV18 dc18 pm18 cd18 ct18 : Value} {od19 an19 : Option Addr} {sl19 : Array (Option Value)} {oc19 kV19 dc19 pm19 cd19 ct19 : Value} {od20 an20 : Option Addr} {sl20 : Array (Option Value)} {oc20 kV20 dc20 pm20 cd20 ct20 : Value} {od21 an21 : Option Addr} {sl21 : Array (Option Value)} {oc21 kV21 dc21 pm21 cd21 ct21 : Value} {od22 an22 : Option Addr} {sl22 : Array (Option Value)} {oc22 kV22 dc22 pm22 cd22 ct22 : Value} {od23 an23 : Option Addr} {sl23 : Array (Option Value)} {oc23 kV23 dc23 pm23 cd23 ct23 : Value} {od24 an24 : Option Addr} {sl24 : Array (Option Value)} {oc24 kV24 dc24 pm24 cd24 ct24 : Value} {od25 an25 : Option Addr} {sl25 : Array (Option Value)} {oc25 kV25 dc25 pm25 cd25 ct25 : Value} {od26 an26 : Option Addr} {sl26 : Array (Option Value)} {oc26 kV26 dc26 pm26 cd26 ct26 : Value} {od27 an27 : Option Addr} {sl27 : Array (Option Value)} {oc27 kV27 dc27 pm27 cd27 ct27 : Value} {od28 an28 : Option Addr} {sl28 : Array (Option Value)} {oc28 kV28 dc28 pm28 cd28 ct28 : Value} {od29 an29 : Option Addr} {sl29 : Array (Option Value)} {oc29 kV29 dc29 pm29 cd29 ct29 : Value} {od30 an30 : Option Addr} {sl30 : Array (Option Value)} {oc30 kV30 dc30 pm30 cd30 ct30 : Value} {od31 an31 : Option Addr} {sl31 : Array (Option Value)} {oc31 kV31 dc31 pm31 cd31 ct31 : Value} {tM : Tok} {ks1 ks2 ks3 ks4 qa1 qa2 qa3 qa4 qb1 qb2 qb3 qb4 : Tok} {hs1 hs2 hs3 hs4 : Int} {nS qn1 qn2 qn3 qn4 : Nat} {qd1 qd2 qd3 qd4 : Option Addr} {qs1 qs2 qs3 qs4 : Array (Option Value)}
    (a0 : PySem.W.nsIn K mainGlobals "moved" = some (some (.ref f0)))
    (l0 : K.lookup f0 = some ⟨oc0, od0, .func (PySem.W.fnOf "moved" "moved" (defArgs d_moved) (defBody d_moved) (defScope d_moved) .none kV0 dc0 pm0 an0 cd0 ct0), sl0⟩)
    (c0 : PySem.W.codeIn K cd0 "moved" = true)
    (k0 : PySem.W.keepIn K (.ref f0) = true)
    (a1 : PySem.W.nsIn K mainGlobals "check_tray" = some (some (.ref f1)))
    (l1 : K.lookup f1 = some ⟨oc1, od1, .func (PySem.W.fnOf "check_tray" "check_tray" (defArgs d_check_tray) (defBody d_check_tray) (defScope d_check_tray) .none kV1 dc1 pm1 an1 cd1 ct1), sl1⟩)
    (c1 : PySem.W.codeIn K cd1 "check_tray" = true)
    (k1 : PySem.W.keepIn K (.ref f1) = true)
    (a2 : PySem.W.nsIn K mainGlobals "check_slides" = some (some (.ref f2)))
    (l2 : K.lookup f2 = some ⟨oc2, od2, .func (PySem.W.fnOf "check_slides" "check_slides" (defArgs d_check_slides) (defBody d_check_slides) (defScope d_check_slides) .none kV2 dc2 pm2 an2 cd2 ct2), sl2⟩)
    (c2 : PySem.W.codeIn K cd2 "check_slides" = true)
    (k2 : PySem.W.keepIn K (.ref f2) = true)
    (a3 : PySem.W.nsIn K mainGlobals "empty_place" = some (some (.ref f3)))
    (l3 : K.lookup f3 = some ⟨oc3, od3, .func (PySem.W.fnOf "empty_place" "empty_place" (defArgs d_empty_place) (defBody d_empty_place) (defScope d_empty_place) .none kV3 dc3 pm3 an3 cd3 ct3), sl3⟩)
    (c3 : PySem.W.codeIn K cd3 "empty_place" = true)
    (k3 : PySem.W.keepIn K (.ref f3) = true)
    (a4 : PySem.W.nsIn K mainGlobals "place_beside" = some (some (.ref f4)))
    (l4 : K.lookup f4 = some ⟨oc4, od4, .func (PySem.W.fnOf "place_beside" "place_beside" (defArgs d_place_beside) (defBody d_place_beside) (defScope d_place_beside) .none kV4 dc4 pm4 an4 cd4 ct4), sl4⟩)
    (c4 : PySem.W.codeIn K cd4 "place_beside" = true)
    (k4 : PySem.W.keepIn K (.ref f4) = true)
    (a5 : PySem.W.nsIn K mainGlobals "is_wide" = some (some (.ref f5)))
    (l5 : K.lookup f5 = some ⟨oc5, od5, .func (PySem.W.fnOf "is_wide" "is_wide" (defArgs d_is_wide) (defBody d_is_wide) (defScope d_is_wide) .none kV5 dc5 pm5 an5 cd5 ct5), sl5⟩)
    (c5 : PySem.W.codeIn K cd5 "is_wide" = true)
    (k5 : PySem.W.keepIn K (.ref f5) = true)
    (a6 : PySem.W.nsIn K mainGlobals "numbers_of" = some (some (.ref f6)))
    (l6 : K.lookup f6 = some ⟨oc6, od6, .func (PySem.W.fnOf "numbers_of" "numbers_of" (defArgs d_numbers_of) (defBody d_numbers_of) (defScope d_numbers_of) .none kV6 dc6 pm6 an6 cd6 ct6), sl6⟩)
    (c6 : PySem.W.codeIn K cd6 "numbers_of" = true)
    (k6 : PySem.W.keepIn K (.ref f6) = true)
    (a7 : PySem.W.nsIn K mainGlobals "pieces_of" = some (some (.ref f7)))
    (l7 : K.lookup f7 = some ⟨oc7, od7, .func (PySem.W.fnOf "pieces_of" "pieces_of" (defArgs d_pieces_of) (defBody d_pieces_of) (defScope d_pieces_of) .none kV7 dc7 pm7 an7 cd7 ct7), sl7⟩)
    (c7 : PySem.W.codeIn K cd7 "pieces_of" = true)
    (k7 : PySem.W.keepIn K (.ref f7) = true)
    (a8 : PySem.W.nsIn K mainGlobals "crossed_pairs" = some (some (.ref f8)))
    (l8 : K.lookup f8 = some ⟨oc8, od8, .func (PySem.W.fnOf "crossed_pairs" "crossed_pairs" (defArgs d_crossed_pairs) (defBody d_crossed_pairs) (defScope d_crossed_pairs) .none kV8 dc8 pm8 an8 cd8 ct8), sl8⟩)
    (c8 : PySem.W.codeIn K cd8 "crossed_pairs" = true)
    (k8 : PySem.W.keepIn K (.ref f8) = true)
    (a9 : PySem.W.nsIn K mainGlobals "steps_apart" = some (some (.ref f9)))
    (l9 : K.lookup f9 = some ⟨oc9, od9, .func (PySem.W.fnOf "steps_apart" "steps_apart" (defArgs d_steps_apart) (defBody d_steps_apart) (defScope d_steps_apart) .none kV9 dc9 pm9 an9 cd9 ct9), sl9⟩)
    (c9 : PySem.W.codeIn K cd9 "steps_apart" = true)
    (k9 : PySem.W.keepIn K (.ref f9) = true)
    (a10 : PySem.W.nsIn K mainGlobals "_law_order" = some (some (.ref f10)))
    (l10 : K.lookup f10 = some ⟨oc10, od10, .func (PySem.W.fnOf "_law_order" "_law_order" (defArgs d_law_order) (defBody d_law_order) (defScope d_law_order) .none kV10 dc10 pm10 an10 cd10 ct10), sl10⟩)
    (c10 : PySem.W.codeIn K cd10 "_law_order" = true)
    (k10 : PySem.W.keepIn K (.ref f10) = true)
    (a11 : PySem.W.nsIn K mainGlobals "_law_digits" = some (some (.ref f11)))
    (l11 : K.lookup f11 = some ⟨oc11, od11, .func (PySem.W.fnOf "_law_digits" "_law_digits" (defArgs d_law_digits) (defBody d_law_digits) (defScope d_law_digits) .none kV11 dc11 pm11 an11 cd11 ct11), sl11⟩)
    (c11 : PySem.W.codeIn K cd11 "_law_digits" = true)
    (k11 : PySem.W.keepIn K (.ref f11) = true)
    (a12 : PySem.W.nsIn K mainGlobals "_law_tray" = some (some (.ref f12)))
    (l12 : K.lookup f12 = some ⟨oc12, od12, .func (PySem.W.fnOf "_law_tray" "_law_tray" (defArgs d_law_tray) (defBody d_law_tray) (defScope d_law_tray) .none kV12 dc12 pm12 an12 cd12 ct12), sl12⟩)
    (c12 : PySem.W.codeIn K cd12 "_law_tray" = true)
    (k12 : PySem.W.keepIn K (.ref f12) = true)
    (a13 : PySem.W.nsIn K mainGlobals "_law_place" = some (some (.ref f13)))
    (l13 : K.lookup f13 = some ⟨oc13, od13, .func (PySem.W.fnOf "_law_place" "_law_place" (defArgs d_law_place) (defBody d_law_place) (defScope d_law_place) .none kV13 dc13 pm13 an13 cd13 ct13), sl13⟩)
    (c13 : PySem.W.codeIn K cd13 "_law_place" = true)
    (k13 : PySem.W.keepIn K (.ref f13) = true)
    (a14 : PySem.W.nsIn K mainGlobals "_law_slid" = some (some (.ref f14)))
    (l14 : K.lookup f14 = some ⟨oc14, od14, .func (PySem.W.fnOf "_law_slid" "_law_slid" (defArgs d_law_slid) (defBody d_law_slid) (defScope d_law_slid) .none kV14 dc14 pm14 an14 cd14 ct14), sl14⟩)
    (c14 : PySem.W.codeIn K cd14 "_law_slid" = true)
    (k14 : PySem.W.keepIn K (.ref f14) = true)
    (a15 : PySem.W.nsIn K mainGlobals "_law_walk" = some (some (.ref f15)))
    (l15 : K.lookup f15 = some ⟨oc15, od15, .func (PySem.W.fnOf "_law_walk" "_law_walk" (defArgs d_law_walk) (defBody d_law_walk) (defScope d_law_walk) .none kV15 dc15 pm15 an15 cd15 ct15), sl15⟩)
    (c15 : PySem.W.codeIn K cd15 "_law_walk" = true)
    (k15 : PySem.W.keepIn K (.ref f15) = true)
    (a16 : PySem.W.nsIn K mainGlobals "_law_crossed" = some (some (.ref f16)))
    (l16 : K.lookup f16 = some ⟨oc16, od16, .func (PySem.W.fnOf "_law_crossed" "_law_crossed" (defArgs d_law_crossed) (defBody d_law_crossed) (defScope d_law_crossed) .none kV16 dc16 pm16 an16 cd16 ct16), sl16⟩)
    (c16 : PySem.W.codeIn K cd16 "_law_crossed" = true)
    (k16 : PySem.W.keepIn K (.ref f16) = true)
    (a17 : PySem.W.nsIn K mainGlobals "_law_steps" = some (some (.ref f17)))
    (l17 : K.lookup f17 = some ⟨oc17, od17, .func (PySem.W.fnOf "_law_steps" "_law_steps" (defArgs d_law_steps) (defBody d_law_steps) (defScope d_law_steps) .none kV17 dc17 pm17 an17 cd17 ct17), sl17⟩)
    (c17 : PySem.W.codeIn K cd17 "_law_steps" = true)
    (k17 : PySem.W.keepIn K (.ref f17) = true)
    (a18 : PySem.W.nsIn K mainGlobals "_law_passed" = some (some (.ref f18)))
    (l18 : K.lookup f18 = some ⟨oc18, od18, .func (PySem.W.fnOf "_law_passed" "_law_passed" (defArgs d_law_passed) (defBody d_law_passed) (defScope d_law_passed) .none kV18 dc18 pm18 an18 cd18 ct18), sl18⟩)
    (c18 : PySem.W.codeIn K cd18 "_law_passed" = true)
    (k18 : PySem.W.keepIn K (.ref f18) = true)
    (a19 : PySem.W.nsIn K mainGlobals "_law_says" = some (some (.ref f19)))
    (l19 : K.lookup f19 = some ⟨oc19, od19, .func (PySem.W.fnOf "_law_says" "_law_says" (defArgs d_law_says) (defBody d_law_says) (defScope d_law_says) .none kV19 dc19 pm19 an19 cd19 ct19), sl19⟩)
    (c19 : PySem.W.codeIn K cd19 "_law_says" = true)
    (k19 : PySem.W.keepIn K (.ref f19) = true)
    (a20 : PySem.W.nsIn K mainGlobals "_law_led_right" = some (some (.ref f20)))
    (l20 : K.lookup f20 = some ⟨oc20, od20, .func (PySem.W.fnOf "_law_led_right" "_law_led_right" (defArgs d_law_led_right) (defBody d_law_led_right) (defScope d_law_led_right) .none kV20 dc20 pm20 an20 cd20 ct20), sl20⟩)
    (c20 : PySem.W.codeIn K cd20 "_law_led_right" = true)
    (k20 : PySem.W.keepIn K (.ref f20) = true)
    (a21 : PySem.W.nsIn K mainGlobals "_law_odd_right" = some (some (.ref f21)))
    (l21 : K.lookup f21 = some ⟨oc21, od21, .func (PySem.W.fnOf "_law_odd_right" "_law_odd_right" (defArgs d_law_odd_right) (defBody d_law_odd_right) (defScope d_law_odd_right) .none kV21 dc21 pm21 an21 cd21 ct21), sl21⟩)
    (c21 : PySem.W.codeIn K cd21 "_law_odd_right" = true)
    (k21 : PySem.W.keepIn K (.ref f21) = true)
    (a22 : PySem.W.nsIn K mainGlobals "_law_passed_right" = some (some (.ref f22)))
    (l22 : K.lookup f22 = some ⟨oc22, od22, .func (PySem.W.fnOf "_law_passed_right" "_law_passed_right" (defArgs d_law_passed_right) (defBody d_law_passed_right) (defScope d_law_passed_right) .none kV22 dc22 pm22 an22 cd22 ct22), sl22⟩)
    (c22 : PySem.W.codeIn K cd22 "_law_passed_right" = true)
    (k22 : PySem.W.keepIn K (.ref f22) = true)
    (a23 : PySem.W.nsIn K mainGlobals "_law_right" = some (some (.ref f23)))
    (l23 : K.lookup f23 = some ⟨oc23, od23, .func (PySem.W.fnOf "_law_right" "_law_right" (defArgs d_law_right) (defBody d_law_right) (defScope d_law_right) .none kV23 dc23 pm23 an23 cd23 ct23), sl23⟩)
    (c23 : PySem.W.codeIn K cd23 "_law_right" = true)
    (k23 : PySem.W.keepIn K (.ref f23) = true)
    (a24 : PySem.W.nsIn K mainGlobals "law" = some (some (.ref f24)))
    (l24 : K.lookup f24 = some ⟨oc24, od24, .func (PySem.W.fnOf "law" "law" (defArgs d_law) (defBody d_law) (defScope d_law) .none kV24 dc24 pm24 an24 cd24 ct24), sl24⟩)
    (c24 : PySem.W.codeIn K cd24 "law" = true)
    (k24 : PySem.W.keepIn K (.ref f24) = true)
    (z_list : PySem.W.nsIn K mainGlobals "list" = some none)
    (z_len : PySem.W.nsIn K mainGlobals "len" = some none)
    (z_isinstance : PySem.W.nsIn K mainGlobals "isinstance" = some none)
    (z_int : PySem.W.nsIn K mainGlobals "int" = some none)
    (z_bool : PySem.W.nsIn K mainGlobals "bool" = some none)
    (z_sorted : PySem.W.nsIn K mainGlobals "sorted" = some none)
    (z_range : PySem.W.nsIn K mainGlobals "range" = some none)
    (z_str : PySem.W.nsIn K mainGlobals "str" = some none)
    (z_enumerate : PySem.W.nsIn K mainGlobals "enumerate" = some none)
    (z_abs : PySem.W.nsIn K mainGlobals "abs" = some none)
    (z_sum : PySem.W.nsIn K mainGlobals "sum" = some none)
    (z_min : PySem.W.nsIn K mainGlobals "min" = some none)
    (vC : PySem.W.nsIn K mainGlobals "combinations" = some (some (.type "itertools.combinations")))
    (gCS : PySem.W.nsIn K mainGlobals "BadSlides" = some (some (.ref CS)))
    (iCS : PySem.W.isClsIn K CS = true)
    (tCS : PySem.W.typeIn K (.ref CS) = some (.type "type"))
    (xCS : PySem.W.excIn K CS [.type "ValueError", .type "Exception", .type "BaseException", .type "object"] "ValueError.__new__" = true)
    (kCS : PySem.W.keepIn K (.ref CS) = true)
    (bCS : PySem.W.subIn K (.ref CS) (.type "BaseException") = some true)
    (hCS : PySem.W.hasDictIn K CS = true)
    (sCSCS : PySem.W.subIn K (.ref CS) (.ref CS) = some true)
    (gCL : PySem.W.nsIn K mainGlobals "Led" = some (some (.ref CL)))
    (pgCL : PySem.W.plainGet K CL Str.empty = true)
    (hdCL : PySem.W.hasDictIn K CL = true)
    (poCL : PySem.W.plainOver K CL = true)
    (saCL : PySem.W.findIn K (.ref CL) "__setattr__" = some (some (.builtin "object.__setattr__")))
    (mkCL : PySem.W.makesIn K CL = true)
    (kcCL : PySem.W.keepIn K (.ref CL) = true)
    (nCLslides : PySem.W.findIn K (.ref CL) "slides" = some none)
    (fi25 : PySem.W.findIn K (.ref CL) "__init__" = some (some (.ref f25)))
    (if25 : PySem.W.isFn K (.ref f25) = true)
    (l25 : K.lookup f25 = some ⟨oc25, od25, .func (PySem.W.fnOf "__init__" "Led.__init__" (defArgs d_Led_init) (defBody d_Led_init) (defScope d_Led_init) .none kV25 dc25 pm25 an25 cd25 ct25), sl25⟩)
    (c25 : PySem.W.codeIn K cd25 "Led.__init__" = true)
    (k25 : PySem.W.keepIn K (.ref f25) = true)
    (fi26 : PySem.W.findIn K (.ref CL) "shows" = some (some (.ref f26)))
    (if26 : PySem.W.isFn K (.ref f26) = true)
    (l26 : K.lookup f26 = some ⟨oc26, od26, .func (PySem.W.fnOf "shows" "Led.shows" (defArgs d_Led_shows) (defBody d_Led_shows) (defScope d_Led_shows) .none kV26 dc26 pm26 an26 cd26 ct26), sl26⟩)
    (c26 : PySem.W.codeIn K cd26 "Led.shows" = true)
    (k26 : PySem.W.keepIn K (.ref f26) = true)
    (gCO : PySem.W.nsIn K mainGlobals "Odd" = some (some (.ref CO)))
    (pgCO : PySem.W.plainGet K CO Str.empty = true)
    (hdCO : PySem.W.hasDictIn K CO = true)
    (poCO : PySem.W.plainOver K CO = true)
    (saCO : PySem.W.findIn K (.ref CO) "__setattr__" = some (some (.builtin "object.__setattr__")))
    (mkCO : PySem.W.makesIn K CO = true)
    (kcCO : PySem.W.keepIn K (.ref CO) = true)
    (nCOcrossed : PySem.W.findIn K (.ref CO) "crossed" = some none)
    (nCOsteps : PySem.W.findIn K (.ref CO) "steps" = some none)
    (fi27 : PySem.W.findIn K (.ref CO) "__init__" = some (some (.ref f27)))
    (if27 : PySem.W.isFn K (.ref f27) = true)
    (l27 : K.lookup f27 = some ⟨oc27, od27, .func (PySem.W.fnOf "__init__" "Odd.__init__" (defArgs d_Odd_init) (defBody d_Odd_init) (defScope d_Odd_init) .none kV27 dc27 pm27 an27 cd27 ct27), sl27⟩)
    (c27 : PySem.W.codeIn K cd27 "Odd.__init__" = true)
    (k27 : PySem.W.keepIn K (.ref f27) = true)
    (fi28 : PySem.W.findIn K (.ref CO) "shows" = some (some (.ref f28)))
    (if28 : PySem.W.isFn K (.ref f28) = true)
    (l28 : K.lookup f28 = some ⟨oc28, od28, .func (PySem.W.fnOf "shows" "Odd.shows" (defArgs d_Odd_shows) (defBody d_Odd_shows) (defScope d_Odd_shows) .none kV28 dc28 pm28 an28 cd28 ct28), sl28⟩)
    (c28 : PySem.W.codeIn K cd28 "Odd.shows" = true)
    (k28 : PySem.W.keepIn K (.ref f28) = true)
    (gCP : PySem.W.nsIn K mainGlobals "Passed" = some (some (.ref CP)))
    (pgCP : PySem.W.plainGet K CP Str.empty = true)
    (hdCP : PySem.W.hasDictIn K CP = true)
    (poCP : PySem.W.plainOver K CP = true)
    (saCP : PySem.W.findIn K (.ref CP) "__setattr__" = some (some (.builtin "object.__setattr__")))
    (mkCP : PySem.W.makesIn K CP = true)
    (kcCP : PySem.W.keepIn K (.ref CP) = true)
    (nCPone : PySem.W.findIn K (.ref CP) "one" = some none)
    (nCPother : PySem.W.findIn K (.ref CP) "other" = some none)
    (fi29 : PySem.W.findIn K (.ref CP) "__init__" = some (some (.ref f29)))
    (if29 : PySem.W.isFn K (.ref f29) = true)
    (l29 : K.lookup f29 = some ⟨oc29, od29, .func (PySem.W.fnOf "__init__" "Passed.__init__" (defArgs d_Passed_init) (defBody d_Passed_init) (defScope d_Passed_init) .none kV29 dc29 pm29 an29 cd29 ct29), sl29⟩)
    (c29 : PySem.W.codeIn K cd29 "Passed.__init__" = true)
    (k29 : PySem.W.keepIn K (.ref f29) = true)
    (fi30 : PySem.W.findIn K (.ref CP) "shows" = some (some (.ref f30)))
    (if30 : PySem.W.isFn K (.ref f30) = true)
    (l30 : K.lookup f30 = some ⟨oc30, od30, .func (PySem.W.fnOf "shows" "Passed.shows" (defArgs d_Passed_shows) (defBody d_Passed_shows) (defScope d_Passed_shows) .none kV30 dc30 pm30 an30 cd30 ct30), sl30⟩)
    (c30 : PySem.W.codeIn K cd30 "Passed.shows" = true)
    (k30 : PySem.W.keepIn K (.ref f30) = true)
    (fi31 : PySem.W.findIn K (.ref CP) "is_first" = some (some (.ref f31)))
    (if31 : PySem.W.isFn K (.ref f31) = true)
    (l31 : K.lookup f31 = some ⟨oc31, od31, .func (PySem.W.fnOf "is_first" "Passed.is_first" (defArgs d_Passed_is_first) (defBody d_Passed_is_first) (defScope d_Passed_is_first) .none kV31 dc31 pm31 an31 cd31 ct31), sl31⟩)
    (c31 : PySem.W.codeIn K cd31 "Passed.is_first" = true)
    (k31 : PySem.W.keepIn K (.ref f31) = true)
    (vM : PySem.W.nsIn K mainGlobals "MOST" = some (some (.int 6 tM)))
    (vS : PySem.W.nsIn K mainGlobals "STEPS" = some (some (.ref dS)))
    (lS : K.lookup dS = some ⟨.type "dict", none, .dict #[⟨hs1, .str "u" ks1, .ref p1⟩, ⟨hs2, .str "d" ks2, .ref p2⟩, ⟨hs3, .str "l" ks3, .ref p3⟩, ⟨hs4, .str "r" ks4, .ref p4⟩] nS, #[]⟩)
    (yS : PySem.W.KeysLit w.params (#[⟨hs1, .str "u" ks1, .ref p1⟩, ⟨hs2, .str "d" ks2, .ref p2⟩, ⟨hs3, .str "l" ks3, .ref p3⟩, ⟨hs4, .str "r" ks4, .ref p4⟩] : Array DictEntry).toList)
    (wS : (dS == sysModules) = false)
    (q1 : K.lookup p1 = some ⟨.type "tuple", qd1, .seq #[.int (-1) qa1, .int (0) qb1] qn1, qs1⟩)
    (q2 : K.lookup p2 = some ⟨.type "tuple", qd2, .seq #[.int (1) qa2, .int (0) qb2] qn2, qs2⟩)
    (q3 : K.lookup p3 = some ⟨.type "tuple", qd3, .seq #[.int (0) qa3, .int (-1) qb3] qn3, qs3⟩)
    (q4 : K.lookup p4 = some ⟨.type "tuple", qd4, .seq #[.int (0) qa4, .int (1) qb4] qn4, qs4⟩)
    : ∃ fd : FuncData, (∀ (s : Shared) (v : Value), BindsTo s fd ⟨[v], []⟩ [("_law_script", v)]) ∧ ∀ base : Heap, K.In base → base.Ns mainGlobals mg → FnOk l.prog w K mg base CX0 7 fa fd ["_law_script"] (spLaw K) := by
  have e := hfa.symm.trans (PySem.W.mg_of X G a24)
  cases e
  have F0 := fun_mk (st := d_moved) l0 c0 k0
  have b0 := F0.binds (ps := ["tray", "slides"]) fun _ _ _ _ _ _ us hl => match us, hl with | [_, _], _ => rfl
  have g0 := PySem.W.mg_of X G a0
  have F1 := fun_mk (st := d_check_tray) l1 c1 k1
  have b1 := F1.binds (ps := ["tray"]) fun _ _ _ _ _ _ us hl => match us, hl with | [_], _ => rfl
  have g1 := PySem.W.mg_of X G a1
  have F2 := fun_mk (st := d_check_slides) l2 c2 k2
  have b2 := F2.binds (ps := ["slides"]) fun _ _ _ _ _ _ us hl => match us, hl with | [_], _ => rfl
  have g2 := PySem.W.mg_of X G a2
  have F3 := fun_mk (st := d_empty_place) l3 c3 k3
  have b3 := F3.binds (ps := ["tray"]) fun _ _ _ _ _ _ us hl => match us, hl with | [_], _ => rfl
  have g3 := PySem.W.mg_of X G a3
  have F4 := fun_mk (st := d_place_beside) l4 c4 k4
  have b4 := F4.binds (ps := ["tray", "row", "column", "letter"]) fun _ _ _ _ _ _ us hl => match us, hl with | [_, _, _, _], _ => rfl
  have g4 := PySem.W.mg_of X G a4
  have F5 := fun_mk (st := d_is_wide) l5 c5 k5
  have b5 := F5.binds (ps := ["tray"]) fun _ _ _ _ _ _ us hl => match us, hl with | [_], _ => rfl
  have g5 := PySem.W.mg_of X G a5
  have F6 := fun_mk (st := d_numbers_of) l6 c6 k6
  have b6 := F6.binds (ps := ["tray"]) fun _ _ _ _ _ _ us hl => match us, hl with | [_], _ => rfl
  have g6 := PySem.W.mg_of X G a6
  have F7 := fun_mk (st := d_pieces_of) l7 c7 k7
  have b7 := F7.binds (ps := ["tray"]) fun _ _ _ _ _ _ us hl => match us, hl with | [_], _ => rfl
  have g7 := PySem.W.mg_of X G a7
  have F8 := fun_mk (st := d_crossed_pairs) l8 c8 k8
  have b8 := F8.binds (ps := ["one", "other"]) fun _ _ _ _ _ _ us hl => match us, hl with | [_, _], _ => rfl
  have g8 := PySem.W.mg_of X G a8
  have F9 := fun_mk (st := d_steps_apart) l9 c9 k9
  have b9 := F9.binds (ps := ["one", "other"]) fun _ _ _ _ _ _ us hl => match us, hl with | [_, _], _ => rfl
  have g9 := PySem.W.mg_of X G a9
  have F10 := fun_mk (st := d_law_order) l10 c10 k10
  have b10 := F10.binds (ps := ["_law_number", "_law_many"]) fun _ _ _ _ _ _ us hl => match us, hl with | [_, _], _ => rfl
  have g10 := PySem.W.mg_of X G a10
  have F11 := fun_mk (st := d_law_digits) l11 c11 k11
  have b11 := F11.binds (ps := ["_law_cell", "_law_by"]) fun _ _ _ _ _ _ us hl => match us, hl with | [_, _], _ => rfl
  have g11 := PySem.W.mg_of X G a11
  have F12 := fun_mk (st := d_law_tray) l12 c12 k12
  have b12 := F12.binds (ps := ["_law_number", "_law_rows", "_law_columns"]) fun _ _ _ _ _ _ us hl => match us, hl with | [_, _, _], _ => rfl
  have g12 := PySem.W.mg_of X G a12
  have F13 := fun_mk (st := d_law_place) l13 c13 k13
  have b13 := F13.binds (ps := ["_law_tray_here", "_law_piece"]) fun _ _ _ _ _ _ us hl => match us, hl with | [_, _], _ => rfl
  have g13 := PySem.W.mg_of X G a13
  have F14 := fun_mk (st := d_law_slid) l14 c14 k14
  have b14 := F14.binds (ps := ["_law_tray_here", "_law_slides"]) fun _ _ _ _ _ _ us hl => match us, hl with | [_, _], _ => rfl
  have g14 := PySem.W.mg_of X G a14
  have F15 := fun_mk (st := d_law_walk) l15 c15 k15
  have b15 := F15.binds (ps := ["_law_tray_here", "_law_cells"]) fun _ _ _ _ _ _ us hl => match us, hl with | [_, _], _ => rfl
  have g15 := PySem.W.mg_of X G a15
  have F16 := fun_mk (st := d_law_crossed) l16 c16 k16
  have b16 := F16.binds (ps := ["_law_one", "_law_other"]) fun _ _ _ _ _ _ us hl => match us, hl with | [_, _], _ => rfl
  have g16 := PySem.W.mg_of X G a16
  have F17 := fun_mk (st := d_law_steps) l17 c17 k17
  have b17 := F17.binds (ps := ["_law_one", "_law_other"]) fun _ _ _ _ _ _ us hl => match us, hl with | [_, _], _ => rfl
  have g17 := PySem.W.mg_of X G a17
  have F18 := fun_mk (st := d_law_passed) l18 c18 k18
  have b18 := F18.binds (ps := ["_law_one", "_law_other", "_law_first", "_law_second"]) fun _ _ _ _ _ _ us hl => match us, hl with | [_, _, _, _], _ => rfl
  have g18 := PySem.W.mg_of X G a18
  have F19 := fun_mk (st := d_law_says) l19 c19 k19
  have b19 := F19.binds (ps := ["_law_said", "_law_due"]) fun _ _ _ _ _ _ us hl => match us, hl with | [_, _], _ => rfl
  have g19 := PySem.W.mg_of X G a19
  have F20 := fun_mk (st := d_law_led_right) l20 c20 k20
  have b20 := F20.binds (ps := ["_law_one", "_law_other", "_law_slides"]) fun _ _ _ _ _ _ us hl => match us, hl with | [_, _, _], _ => rfl
  have g20 := PySem.W.mg_of X G a20
  have F21 := fun_mk (st := d_law_odd_right) l21 c21 k21
  have b21 := F21.binds (ps := ["_law_one", "_law_other", "_law_crossed_here", "_law_steps_here"]) fun _ _ _ _ _ _ us hl => match us, hl with | [_, _, _, _], _ => rfl
  have g21 := PySem.W.mg_of X G a21
  have F22 := fun_mk (st := d_law_passed_right) l22 c22 k22
  have b22 := F22.binds (ps := ["_law_one", "_law_other", "_law_first", "_law_second"]) fun _ _ _ _ _ _ us hl => match us, hl with | [_, _, _, _], _ => rfl
  have g22 := PySem.W.mg_of X G a22
  have F23 := fun_mk (st := d_law_right) l23 c23 k23
  have b23 := F23.binds (ps := ["_law_one", "_law_other", "_law_slides", "_law_cell"]) fun _ _ _ _ _ _ us hl => match us, hl with | [_, _, _, _], _ => rfl
  have g23 := PySem.W.mg_of X G a23
  have F24 := fun_mk (st := d_law) l24 c24 k24
  have b24 := F24.binds (ps := ["_law_script"]) fun _ _ _ _ _ _ us hl => match us, hl with | [_], _ => rfl
  have g24 := PySem.W.mg_of X G a24
  have m_list := PySem.W.mg_none_of X G z_list
  have m_len := PySem.W.mg_none_of X G z_len
  have m_isinstance := PySem.W.mg_none_of X G z_isinstance
  have m_int := PySem.W.mg_none_of X G z_int
  have m_bool := PySem.W.mg_none_of X G z_bool
  have m_sorted := PySem.W.mg_none_of X G z_sorted
  have m_range := PySem.W.mg_none_of X G z_range
  have m_str := PySem.W.mg_none_of X G z_str
  have m_enumerate := PySem.W.mg_none_of X G z_enumerate
  have m_abs := PySem.W.mg_none_of X G z_abs
  have m_sum := PySem.W.mg_none_of X G z_sum
  have m_min := PySem.W.mg_none_of X G z_min
  have gCb := PySem.W.mg_of X G vC
  have mCS := PySem.W.mg_of X G gCS
  have TCS : ExcT K mg "BadSlides" CS := ⟨mCS, xCS, kCS, bCS, tCS⟩
  have mCL := PySem.W.mg_of X G gCL
  have clCL : Cls K CL := ⟨pgCL, hdCL, poCL, saCL⟩
  have F25 := fun_mk (st := d_Led_init) l25 c25 k25
  have b25 := F25.binds (ps := ["self", "slides"]) fun _ _ _ _ _ _ us hl => match us, hl with | [_, _], _ => rfl
  have F26 := fun_mk (st := d_Led_shows) l26 c26 k26
  have b26 := F26.binds (ps := ["self", "one", "other"]) fun _ _ _ _ _ _ us hl => match us, hl with | [_, _, _], _ => rfl
  have mk_CL : Mk K CL f25 := ⟨mkCL, fi25, if25, kcCL⟩
  have me_CL_shows : Meth K CL "shows" f26 := ⟨fi26, if26, k26⟩
  have TCL : ClsT K mg "Led" CL f25 f26 ["slides"] := ⟨mCL, mk_CL, clCL, me_CL_shows, fun f hf => by
    have hf : f = "slides" := by simpa using hf
    subst hf; exact nCLslides⟩
  have mCO := PySem.W.mg_of X G gCO
  have clCO : Cls K CO := ⟨pgCO, hdCO, poCO, saCO⟩
  have F27 := fun_mk (st := d_Odd_init) l27 c27 k27
  have b27 := F27.binds (ps := ["self", "crossed", "steps"]) fun _ _ _ _ _ _ us hl => match us, hl with | [_, _, _], _ => rfl
  have F28 := fun_mk (st := d_Odd_shows) l28 c28 k28
  have b28 := F28.binds (ps := ["self", "one", "other"]) fun _ _ _ _ _ _ us hl => match us, hl with | [_, _, _], _ => rfl
  have mk_CO : Mk K CO f27 := ⟨mkCO, fi27, if27, kcCO⟩
  have me_CO_shows : Meth K CO "shows" f28 := ⟨fi28, if28, k28⟩
  have TCO : ClsT K mg "Odd" CO f27 f28 ["crossed", "steps"] := ⟨mCO, mk_CO, clCO, me_CO_shows, fun f hf => by
    have hf : f = "crossed" ∨ f = "steps" := by simpa using hf
    rcases hf with rfl | rfl
    · exact nCOcrossed
    · exact nCOsteps⟩
  have mCP := PySem.W.mg_of X G gCP
  have clCP : Cls K CP := ⟨pgCP, hdCP, poCP, saCP⟩
  have F29 := fun_mk (st := d_Passed_init) l29 c29 k29
  have b29 := F29.binds (ps := ["self", "one", "other"]) fun _ _ _ _ _ _ us hl => match us, hl with | [_, _, _], _ => rfl
  have F30 := fun_mk (st := d_Passed_shows) l30 c30 k30
  have b30 := F30.binds (ps := ["self", "one", "other"]) fun _ _ _ _ _ _ us hl => match us, hl with | [_, _, _], _ => rfl
  have F31 := fun_mk (st := d_Passed_is_first) l31 c31 k31
  have b31 := F31.binds (ps := ["self", "tray"]) fun _ _ _ _ _ _ us hl => match us, hl with | [_, _], _ => rfl
  have mk_CP : Mk K CP f29 := ⟨mkCP, fi29, if29, kcCP⟩
  have me_CP_shows : Meth K CP "shows" f30 := ⟨fi30, if30, k30⟩
  have me_CP_is_first : Meth K CP "is_first" f31 := ⟨fi31, if31, k31⟩
  have TCP : ClsT K mg "Passed" CP f29 f30 ["one", "other"] := ⟨mCP, mk_CP, clCP, me_CP_shows, fun f hf => by
    have hf : f = "one" ∨ f = "other" := by simpa using hf
    rcases hf with rfl | rfl
    · exact nCPone
    · exact nCPother⟩
  have gMo := PySem.W.mg_of X G vM
  have SD : StepsD K w dS := by
    refine ⟨⟨_, _, lS, yS, wS⟩, fun c hc => ?_, fun c hc => ?_, fun c hc => ?_⟩
    · rcases hc with rfl | rfl | rfl | rfl
      · exact ⟨p1, ⟨_, _, _, lS, yS, ns4 lS 117, rfl⟩, sqT_two q1⟩
      · exact ⟨p2, ⟨_, _, _, lS, yS, ns4 lS 100, rfl⟩, sqT_two q2⟩
      · exact ⟨p3, ⟨_, _, _, lS, yS, ns4 lS 108, rfl⟩, sqT_two q3⟩
      · exact ⟨p4, ⟨_, _, _, lS, yS, ns4 lS 114, rfl⟩, sqT_two q4⟩
    · rcases hc with rfl | rfl | rfl | rfl
      · exact ⟨_, ns4 lS 117⟩
      · exact ⟨_, ns4 lS 100⟩
      · exact ⟨_, ns4 lS 108⟩
      · exact ⟨_, ns4 lS 114⟩
    · rw [ns4 lS c]
      unfold okL at hc
      rw [if_neg (by omega), if_neg (by omega), if_neg (by omega), if_neg (by omega)]
  have gSt := PySem.W.mg_of X G vS
  refine ⟨PySem.W.fnOf "law" "law" (defArgs d_law) (defBody d_law) (defScope d_law) .none kV24 dc24 pm24 an24 cd24 ct24, fun s v => .of_eq rfl, fun base _ _ => ?_⟩
  have eP := PySem.W.exm_ref bCS hCS tCS sCSCS
  have OT := ok_checkT (P := l.prog) (w := w) (base := base) (k := 0) F1 gMo m_isinstance m_list m_len m_int m_bool m_sorted m_range
  have OS := ok_checkS (P := l.prog) (w := w) (base := base) (k := 0) F2 gSt SD m_isinstance m_str TCS
  have OE := ok_empty (P := l.prog) (w := w) (mg := mg) (base := base) (k := 0) F3
  have OB := ok_beside (P := l.prog) (w := w) (base := base) (k := 0) F4 gSt SD m_len
  have OM := ok_moved (k := 0) F0 TCS m_list OT g1 k1 b1 OS g2 k2 b2 OE g3 k3 b3 OB g4 k4 b4
  have OWd := ok_wide (P := l.prog) (w := w) (base := base) (k := 0) F5 m_len
  have ONu := ok_nums (P := l.prog) (w := w) (mg := mg) (base := base) (k := 0) F6
  have OPc := ok_pcs (k := 0) F7 ONu g6 k6 b6
  have OCr := ok_crP (k := 0) F8 m_enumerate m_len gCb ONu g6 k6 b6
  have OSa := ok_stA (k := 0) F9 m_abs OE g3 k3 b3
  have OLI := ok_LI (P := l.prog) (w := w) (mg := mg) (base := base) (k := 0) F25 clCL nCLslides
  have OOI := ok_OI (P := l.prog) (w := w) (mg := mg) (base := base) (k := 0) F27 clCO nCOcrossed nCOsteps
  have OPI := ok_PI (P := l.prog) (w := w) (mg := mg) (base := base) (k := 0) F29 clCP nCPone nCPother
  have OLS := ok_LS (k := 2) F26 clCL nCLslides mCS eP (by decide) OM g0 k0 b0
  have OOS := ok_OS (k := 2) F28 clCO nCOcrossed nCOsteps (by decide) (by decide) (by decide) OWd g5 k5 b5 OCr g8 k8 b8 OSa g9 k9 b9
  have OPF := ok_PF (k := 2) F31 clCP nCPone nCPother (by decide) OPc g7 k7 b7
  have OPS := ok_PS (k := 3) F30 clCP nCPone nCPother me_CP_is_first (by decide) (by decide) (by decide) OWd g5 k5 b5 OPc g7 k7 b7 OPF b31
  have OO := ok_order (P := l.prog) (w := w) (base := base) (k := 0) F10 m_list m_range m_len
  have OD := ok_digits (P := l.prog) (w := w) (mg := mg) (base := base) (k := 0) F11
  have OTr := ok_trayL (k := 0) F12 m_range OO g10 k10 b10
  have OP := ok_place (P := l.prog) (w := w) (base := base) (k := 0) F13 m_range m_len
  have OSl := ok_slid (k := 0) F14 m_list m_len OP g13 k13 b13
  have OW := ok_walk (k := 0) F15 m_len OP g13 k13 b13
  have OK := ok_crossed (P := l.prog) (w := w) (base := base) (k := 0) F16 m_sum m_range m_len
  have OZ := ok_steps (k := 0) F17 m_abs OP g13 k13 b13
  have OV := ok_passed (P := l.prog) (w := w) (base := base) (k := 0) F18 m_sum m_min m_len
  have OY := ok_says (P := l.prog) (w := w) (base := base) (k := 0) F19 m_isinstance m_bool
  have OLR := ok_ledR (k := 3) F20 (by decide) (by decide) (by decide) (by decide) OSl g14 k14 b14 OY g19 k19 b19 TCL OLI b25 OLS b26
  have OOR := ok_oddR (k := 3) F21 m_min m_len (by decide) (by decide) (by decide) (by decide) (by decide) OK g16 k16 b16 OZ g17 k17 b17 OY g19 k19 b19 TCO OOI b27 OOS b28
  have OPR := ok_passedR (k := 4) F22 (by decide) (by decide) (by decide) (by decide) OV g18 k18 b18 OY g19 k19 b19 TCP OPI b29 OPS b30
  have OR := ok_right (k := 5) F23 m_len (by decide) (by decide) (by decide) (by decide) (by decide) OLR g20 k20 b20 OK g16 k16 b16 OZ g17 k17 b17 OOR g21 k21 b21 OPR g22 k22 b22
  exact ok_law4 (k := 6) F24 m_sum m_enumerate (by decide) (by decide) (by decide) (by decide) (by decide) (by decide) (by decide) (by decide) (by decide) (by decide) OD g11 k11 b11 OTr g12 k12 b12 OW g15 k15 b15 OSl g14 k14 b14 OR g23 k23 b23 OY g19 k19 b19 TCL OLI b25 OLS b26 TCP OPI b29 OPS b30
end Tr
open PySem PySem.W PyProof.Rows
set_option maxHeartbeats 0 in
theorem PySem.Challenge.cw_slidetray_k04_answers_by_hand_holds : PySem.Challenge.rw_slidetray_k04_answers_by_hand.Holds := by
  w_on; o_law; k_head; (case hw => w_witness2)
  k_fill
  refine L2.walk_ofB (l := PySem.Challenge.rw_slidetray_k04_answers_by_hand) (n := 63) (k := 7) (x := "_law_script") (CX := fun _ => L2.CX0) (sp := fun w => Tr.spLaw _) rfl (by decide) rfl ⟨rfl, by decide, by decide⟩ (fun w h Y => PySem.W.kIn_of Y) ?F (fun _ _ a ns hl hb _ hS => ⟨a, ns, rfl, hS, hl, hb, fun _ => rfl⟩) (fun _ _ _ _ _ h => h)
  case F =>
    intro w mg fa h KX G hmg
    refine' Tr.all_mk KX G hmg ?a0 ?l0 ?c0 ?k0 ?a1 ?l1 ?c1 ?k1 ?a2 ?l2 ?c2 ?k2 ?a3 ?l3 ?c3 ?k3 ?a4 ?l4 ?c4 ?k4 ?a5 ?l5 ?c5 ?k5 ?a6 ?l6 ?c6 ?k6 ?a7 ?l7 ?c7 ?k7 ?a8 ?l8 ?c8 ?k8 ?a9 ?l9 ?c9 ?k9 ?a10 ?l10 ?c10 ?k10 ?a11 ?l11 ?c11 ?k11 ?a12 ?l12 ?c12 ?k12 ?a13 ?l13 ?c13 ?k13 ?a14 ?l14 ?c14 ?k14 ?a15 ?l15 ?c15 ?k15 ?a16 ?l16 ?c16 ?k16 ?a17 ?l17 ?c17 ?k17 ?a18 ?l18 ?c18 ?k18 ?a19 ?l19 ?c19 ?k19 ?a20 ?l20 ?c20 ?k20 ?a21 ?l21 ?c21 ?k21 ?a22 ?l22 ?c22 ?k22 ?a23 ?l23 ?c23 ?k23 ?a24 ?l24 ?c24 ?k24 ?z_list ?z_len ?z_isinstance ?z_int ?z_bool ?z_sorted ?z_range ?z_str ?z_enumerate ?z_abs ?z_sum ?z_min ?vC ?gCS ?iCS ?tCS ?xCS ?kCS ?bCS ?hCS ?sCSCS ?gCL ?pgCL ?hdCL ?poCL ?saCL ?mkCL ?kcCL ?nCLslides ?fi25 ?if25 ?l25 ?c25 ?k25 ?fi26 ?if26 ?l26 ?c26 ?k26 ?gCO ?pgCO ?hdCO ?poCO ?saCO ?mkCO ?kcCO ?nCOcrossed ?nCOsteps ?fi27 ?if27 ?l27 ?c27 ?k27 ?fi28 ?if28 ?l28 ?c28 ?k28 ?gCP ?pgCP ?hdCP ?poCP ?saCP ?mkCP ?kcCP ?nCPone ?nCPother ?fi29 ?if29 ?l29 ?c29 ?k29 ?fi30 ?if30 ?l30 ?c30 ?k30 ?fi31 ?if31 ?l31 ?c31 ?k31 ?vM ?vS ?lS ?yS ?wS ?q1 ?q2 ?q3 ?q4
    (case a0 => k_is); (case l0 => k_is); (case c0 => k_is); (case k0 => k_is)
    (case a1 => k_is); (case l1 => k_is); (case c1 => k_is); (case k1 => k_is)
    (case a2 => k_is); (case l2 => k_is); (case c2 => k_is); (case k2 => k_is)
    (case a3 => k_is); (case l3 => k_is); (case c3 => k_is); (case k3 => k_is)
    (case a4 => k_is); (case l4 => k_is); (case c4 => k_is); (case k4 => k_is)
    (case a5 => k_is); (case l5 => k_is); (case c5 => k_is); (case k5 => k_is)
    (case a6 => k_is); (case l6 => k_is); (case c6 => k_is); (case k6 => k_is)
    (case a7 => k_is); (case l7 => k_is); (case c7 => k_is); (case k7 => k_is)
    (case a8 => k_is); (case l8 => k_is); (case c8 => k_is); (case k8 => k_is)
    (case a9 => k_is); (case l9 => k_is); (case c9 => k_is); (case k9 => k_is)
    (case a10 => k_is); (case l10 => k_is); (case c10 => k_is); (case k10 => k_is)
    (case a11 => k_is); (case l11 => k_is); (case c11 => k_is); (case k11 => k_is)
    (case a12 => k_is); (case l12 => k_is); (case c12 => k_is); (case k12 => k_is)
    (case a13 => k_is); (case l13 => k_is); (case c13 => k_is); (case k13 => k_is)
    (case a14 => k_is); (case l14 => k_is); (case c14 => k_is); (case k14 => k_is)
    (case a15 => k_is); (case l15 => k_is); (case c15 => k_is); (case k15 => k_is)
    (case a16 => k_is); (case l16 => k_is); (case c16 => k_is); (case k16 => k_is)
    (case a17 => k_is); (case l17 => k_is); (case c17 => k_is); (case k17 => k_is)
    (case a18 => k_is); (case l18 => k_is); (case c18 => k_is); (case k18 => k_is)
    (case a19 => k_is); (case l19 => k_is); (case c19 => k_is); (case k19 => k_is)
    (case a20 => k_is); (case l20 => k_is); (case c20 => k_is); (case k20 => k_is)
    (case a21 => k_is); (case l21 => k_is); (case c21 => k_is); (case k21 => k_is)
    (case a22 => k_is); (case l22 => k_is); (case c22 => k_is); (case k22 => k_is)
    (case a23 => k_is); (case l23 => k_is); (case c23 => k_is); (case k23 => k_is)
    (case a24 => k_is); (case l24 => k_is); (case c24 => k_is); (case k24 => k_is)
    (case z_list => k_is); (case z_len => k_is); (case z_isinstance => k_is); (case z_int => k_is)
    (case z_bool => k_is); (case z_sorted => k_is); (case z_range => k_is); (case z_str => k_is)
    (case z_enumerate => k_is); (case z_abs => k_is); (case z_sum => k_is); (case z_min => k_is)
    (case vC => k_is); (case gCS => k_is); (case iCS => k_is); (case tCS => k_is)
    (case xCS => k_exc); (case kCS => k_is); (case bCS => k_is); (case hCS => k_is)
    (case sCSCS => k_is); (case gCL => k_is); (case pgCL => k_is); (case hdCL => k_is)
    (case poCL => k_is); (case saCL => k_is); (case mkCL => k_is); (case kcCL => k_is)
    (case nCLslides => k_is); (case fi25 => k_is); (case if25 => k_is); (case l25 => k_is)
    (case c25 => k_is); (case k25 => k_is); (case fi26 => k_is); (case if26 => k_is)
    (case l26 => k_is); (case c26 => k_is); (case k26 => k_is); (case gCO => k_is)
    (case pgCO => k_is); (case hdCO => k_is); (case poCO => k_is); (case saCO => k_is)
    (case mkCO => k_is); (case kcCO => k_is); (case nCOcrossed => k_is); (case nCOsteps => k_is)
    (case fi27 => k_is); (case if27 => k_is); (case l27 => k_is); (case c27 => k_is)
    (case k27 => k_is); (case fi28 => k_is); (case if28 => k_is); (case l28 => k_is)
    (case c28 => k_is); (case k28 => k_is); (case gCP => k_is); (case pgCP => k_is)
    (case hdCP => k_is); (case poCP => k_is); (case saCP => k_is); (case mkCP => k_is)
    (case kcCP => k_is); (case nCPone => k_is); (case nCPother => k_is); (case fi29 => k_is)
    (case if29 => k_is); (case l29 => k_is); (case c29 => k_is); (case k29 => k_is)
    (case fi30 => k_is); (case if30 => k_is); (case l30 => k_is); (case c30 => k_is)
    (case k30 => k_is); (case fi31 => k_is); (case if31 => k_is); (case l31 => k_is)
    (case c31 => k_is); (case k31 => k_is); (case vM => k_is); (case vS => k_is)
    (case lS => k_is); (case yS => k_keys); (case wS => exact (by decide)); (case q1 => k_is)
    (case q2 => k_is); (case q3 => k_is); (case q4 => k_is)
#print axioms PySem.Challenge.cw_slidetray_k04_answers_by_hand_holds
