import PyProof.Rows.All
import Wide.All
import OpenK.AllK
import Wide.FinOn
import HandS.ForMost
import HandS.Exc
import HandS.TryOnly
import HandS.ExcOwn
import HandS.WordsExc
import HandS.ExcIs
import HandS.IsInst
import HandS.Walk
import HandS.Style
import HandS.More
import HandS.Wide
import HandS.EndBits
import KE.KRevSl
import PyProof.Fits
import HandS.Conv
import HandS.Deep
import PySem.Challenge.RW_slidetray_k05_refused
set_option Elab.async false
set_option linter.all false
set_option maxRecDepth 100000
set_option maxHeartbeats 16000000
/-! The mathematics of trays: places, slides, undone, thinned. Core Lean alone. -/
namespace Tr
abbrev Fld := Nat → Int
/-- how far a letter leads: rows down, columns to the right; (9, 9) for what is no letter -/
def stp (w : Nat) : Int × Int := if w = 117 then (-1, 0) else if w = 100 then (1, 0) else if w = 108 then (0, -1) else if w = 114 then (0, 1) else (9, 9)
def okL (w : Nat) : Prop := w = 117 ∨ w = 100 ∨ w = 108 ∨ w = 114
instance (w : Nat) : Decidable (okL w) := by unfold okL; infer_instance
def bk (w : Nat) : Nat := if w = 117 then 100 else if w = 100 then 117 else if w = 108 then 114 else if w = 114 then 108 else w
theorem bk_no {w : Nat} (h : ¬ okL w) : bk w = w := by
  unfold okL at h
  unfold bk
  rw [if_neg (by omega), if_neg (by omega), if_neg (by omega), if_neg (by omega)]
theorem bk_bk {w : Nat} : bk (bk w) = w := by
  by_cases h : okL w
  · rcases h with rfl | rfl | rfl | rfl <;> rfl
  · rw [bk_no h, bk_no h]
theorem bk_ok {w : Nat} (h : okL w) : okL (bk w) := by rcases h with rfl | rfl | rfl | rfl <;> decide
theorem bk_ne {w : Nat} (h : okL w) : bk w ≠ w := by rcases h with rfl | rfl | rfl | rfl <;> decide
theorem bk_inj {a b : Nat} (h : bk a = bk b) : a = b := by
  have := congrArg bk h
  rwa [bk_bk, bk_bk] at this
/-- the place beside -/
def nxt (R C r c w : Nat) : Option (Nat × Nat) :=
  if 0 ≤ (r : Int) + (stp w).1 ∧ (r : Int) + (stp w).1 < R ∧ 0 ≤ (c : Int) + (stp w).2 ∧ (c : Int) + (stp w).2 < C then some (((r : Int) + (stp w).1).toNat, ((c : Int) + (stp w).2).toNat) else none
theorem nxt_some {R C r c w : Nat} (h : 0 ≤ (r : Int) + (stp w).1 ∧ (r : Int) + (stp w).1 < R ∧ 0 ≤ (c : Int) + (stp w).2 ∧ (c : Int) + (stp w).2 < C) : nxt R C r c w = some (((r : Int) + (stp w).1).toNat, ((c : Int) + (stp w).2).toNat) := if_pos h
theorem nxt_none {R C r c w : Nat} (h : ¬ (0 ≤ (r : Int) + (stp w).1 ∧ (r : Int) + (stp w).1 < R ∧ 0 ≤ (c : Int) + (stp w).2 ∧ (c : Int) + (stp w).2 < C)) : nxt R C r c w = none := if_neg h
theorem nxt_eq {R C r c w r' c' : Nat} (h : nxt R C r c w = some (r', c')) : (r' : Int) = r + (stp w).1 ∧ (c' : Int) = c + (stp w).2 ∧ r' < R ∧ c' < C := by
  unfold nxt at h
  split at h
  · rename_i k
    have e := Option.some.inj h
    have e1 := congrArg Prod.fst e
    have e2 := congrArg Prod.snd e
    dsimp only at e1 e2
    omega
  · cases h
theorem stp_bk {w : Nat} (h : okL w) : (stp (bk w)).1 = -(stp w).1 ∧ (stp (bk w)).2 = -(stp w).2 := by
  rcases h with rfl | rfl | rfl | rfl <;> decide
theorem stp_bad {w : Nat} (h : ¬ okL w) : stp w = (9, 9) := by
  unfold okL at h
  unfold stp
  rw [if_neg (by omega), if_neg (by omega), if_neg (by omega), if_neg (by omega)]
theorem stp_move {w : Nat} : (stp w).1 ≠ 0 ∨ (stp w).2 ≠ 0 := by
  unfold stp
  repeat' split
  all_goals decide
theorem nxt_back {R C r c w r' c' : Nat} (hr : r < R) (hc : c < C) (hw : okL w) (h : nxt R C r c w = some (r', c')) : nxt R C r' c' (bk w) = some (r, c) := by
  obtain ⟨e1, e2, _, _⟩ := nxt_eq h
  obtain ⟨b1, b2⟩ := stp_bk hw
  rw [nxt_some (by omega)]
  rw [b1, b2]
  refine congrArg some ?_
  have x1 : ((r' : Int) + -(stp w).1).toNat = r := by omega
  have x2 : ((c' : Int) + -(stp w).2).toNat = c := by omega
  rw [x1, x2]
theorem nxt_bad {R C r c w : Nat} (hR : R ≤ 9) (h : ¬ okL w) : nxt R C r c w = none := by
  refine nxt_none ?_
  rw [stp_bad h]
  dsimp only
  omega
theorem ix_inj {C r c r' c' : Nat} (hc : c < C) (hc' : c' < C) (h : r * C + c = r' * C + c') : r = r' ∧ c = c' := by
  have e1 : (r * C + c) / C = r := by
    rw [Nat.add_comm, Nat.add_mul_div_right _ _ (by omega), Nat.div_eq_of_lt hc, Nat.zero_add]
  have e2 : (r' * C + c') / C = r' := by
    rw [Nat.add_comm, Nat.add_mul_div_right _ _ (by omega), Nat.div_eq_of_lt hc', Nat.zero_add]
  have e : r = r' := by rw [← e1, ← e2, h]
  subst e
  exact ⟨rfl, by omega⟩
theorem ix_lt {R C r c : Nat} (hr : r < R) (hc : c < C) : r * C + c < R * C := by
  have h : (r + 1) * C ≤ R * C := Nat.mul_le_mul_right C hr
  rw [Nat.add_mul, Nat.one_mul] at h
  omega
/-- what stands at q goes to p, 0 to q -/
def put2 (f : Fld) (p q : Nat) : Fld := fun k => if k = q then 0 else if k = p then f q else f k
abbrev Sl := Fld × Nat × Nat
def go1 (R C : Nat) (s : Sl) (w : Nat) : Option Sl := (nxt R C s.2.1 s.2.2 w).map fun n => (put2 s.1 (s.2.1 * C + s.2.2) (n.1 * C + n.2), n.1, n.2)
def goAll (R C : Nat) : Sl → List Nat → Option Sl
  | s, [] => some s
  | s, w :: r => (go1 R C s w).bind fun s' => goAll R C s' r
theorem goAll_append (R C : Nat) : ∀ (a b : List Nat) (s : Sl), goAll R C s (a ++ b) = (goAll R C s a).bind fun s' => goAll R C s' b
  | [], b, s => rfl
  | w :: r, b, s => by
    show (go1 R C s w).bind (fun s' => goAll R C s' (r ++ b)) = ((go1 R C s w).bind fun s' => goAll R C s' r).bind fun s' => goAll R C s' b
    cases e : go1 R C s w with
    | none => rfl
    | some s1 => exact goAll_append R C r b s1
theorem goAll_one (R C : Nat) (s : Sl) (w : Nat) : goAll R C s [w] = go1 R C s w := by
  show (go1 R C s w).bind (fun s' => some s') = go1 R C s w
  cases go1 R C s w <;> rfl
theorem take_more {α : Type} : ∀ {l : List α} {i : Nat} {x : α}, l[i]? = some x → l.take (i + 1) = l.take i ++ [x]
  | [], i, x, h => by simp at h
  | a :: l, 0, x, h => by
    have e : a = x := Option.some.inj h
    subst e
    rfl
  | a :: l, i + 1, x, h => by
    have ih := take_more (l := l) (i := i) (x := x) h
    show a :: l.take (i + 1) = a :: l.take i ++ [x]
    rw [ih]
    rfl
theorem goAll_take {R C : Nat} {s s1 : Sl} {ws : List Nat} {i w : Nat} (h : goAll R C s (ws.take i) = some s1) (hw : ws[i]? = some w) : goAll R C s (ws.take (i + 1)) = go1 R C s1 w := by
  rw [take_more hw, goAll_append, h]
  exact goAll_one R C s1 w
theorem goAll_stop {R C : Nat} {s s1 : Sl} {ws : List Nat} {i w : Nat} (h : goAll R C s (ws.take i) = some s1) (hw : ws[i]? = some w) (hn : go1 R C s1 w = none) : goAll R C s ws = none := by
  have e : ws = ws.take (i + 1) ++ ws.drop (i + 1) := (List.take_append_drop (i + 1) ws).symm
  rw [e, goAll_append, goAll_take h hw, hn]
  rfl
/-- 0 stands at (r, c) -/
structure Zr (R C : Nat) (s : Sl) : Prop where
  r : s.2.1 < R
  c : s.2.2 < C
  z : s.1 (s.2.1 * C + s.2.2) = 0
def allV (n : Nat) (f : Fld) : List Int := (List.range n).map f
/-- all numbers from 0 on, each once -/
def Full (n : Nat) (f : Fld) : Prop := (allV n f).Perm ((List.range n).map fun k : Nat => (k : Int))
theorem go1_eq {R C : Nat} {s s' : Sl} {w : Nat} (h : go1 R C s w = some s') : nxt R C s.2.1 s.2.2 w = some (s'.2.1, s'.2.2) ∧ s' = (put2 s.1 (s.2.1 * C + s.2.2) (s'.2.1 * C + s'.2.2), s'.2.1, s'.2.2) := by
  unfold go1 at h
  cases e : nxt R C s.2.1 s.2.2 w with
  | none => rw [e] at h; cases h
  | some n =>
    rw [e] at h
    have h := Option.some.inj h
    subst h
    exact ⟨rfl, rfl⟩
theorem go1_zr {R C : Nat} {s s' : Sl} {w : Nat} (h : go1 R C s w = some s') : Zr R C s' := by
  obtain ⟨h1, h2⟩ := go1_eq h
  obtain ⟨_, _, h3, h4⟩ := nxt_eq h1
  refine ⟨h3, h4, ?_⟩
  rw [h2]
  exact if_pos rfl
theorem goAll_zr {R C : Nat} : ∀ {ws : List Nat} {s s' : Sl}, Zr R C s → goAll R C s ws = some s' → Zr R C s'
  | [], s, s', z, h => Option.some.inj h ▸ z
  | w :: r, s, s', z, h => by
    have h : (go1 R C s w).bind (fun s' => goAll R C s' r) = some s' := h
    cases e : go1 R C s w with
    | none => rw [e] at h; cases h
    | some s1 =>
      rw [e] at h
      exact goAll_zr (go1_zr e) h
theorem pq_ne {R C : Nat} {s s' : Sl} {w : Nat} (z : Zr R C s) (h : go1 R C s w = some s') : s.2.1 * C + s.2.2 ≠ s'.2.1 * C + s'.2.2 := by
  intro e
  obtain ⟨h1, h2⟩ := go1_eq h
  obtain ⟨e1, e2, h3, h4⟩ := nxt_eq h1
  obtain ⟨i1, i2⟩ := ix_inj z.c h4 e
  rcases stp_move (w := w) with m | m <;> omega
theorem go1_back {R C : Nat} {s s' : Sl} {w : Nat} (z : Zr R C s) (hw : okL w) (h : go1 R C s w = some s') : go1 R C s' (bk w) = some s := by
  obtain ⟨h1, h2⟩ := go1_eq h
  have hn := pq_ne z h
  obtain ⟨f, r, c⟩ := s
  obtain ⟨f', r', c'⟩ := s'
  dsimp only at h1 h2 hn
  have hf : f' = put2 f (r * C + c) (r' * C + c') := congrArg Prod.fst h2
  unfold go1
  dsimp only
  rw [nxt_back z.r z.c hw h1]
  show some (put2 f' (r' * C + c') (r * C + c), r, c) = some (f, r, c)
  have : put2 f' (r' * C + c') (r * C + c) = f := by
    funext k
    unfold put2
    by_cases k1 : k = r * C + c
    · rw [if_pos k1, k1]
      exact z.z.symm
    · rw [if_neg k1]
      rw [hf]
      unfold put2
      by_cases k2 : k = r' * C + c'
      · rw [if_pos k2, if_neg hn, if_pos rfl, k2]
      · rw [if_neg k2, if_neg k2, if_neg k1]
  rw [this]
def undo (ws : List Nat) : List Nat := ws.reverse.map bk
theorem undo_cons (w : Nat) (r : List Nat) : undo (w :: r) = undo r ++ [bk w] := by
  unfold undo
  rw [List.reverse_cons, List.map_append]
  rfl
theorem undo_undo (ws : List Nat) : undo (undo ws) = ws := by
  unfold undo
  rw [← List.map_reverse, List.reverse_reverse, List.map_map]
  have : (bk ∘ bk) = id := funext fun w => bk_bk
  rw [this, List.map_id]
theorem undo_ok {ws : List Nat} (h : ∀ w ∈ ws, okL w) : ∀ w ∈ undo ws, okL w := by
  intro w hw
  unfold undo at hw
  obtain ⟨x, hx, rfl⟩ := List.mem_map.mp hw
  exact bk_ok (h x (List.mem_reverse.mp hx))
theorem undo_len (ws : List Nat) : (undo ws).length = ws.length := by
  unfold undo
  rw [List.length_map, List.length_reverse]
theorem goAll_undo {R C : Nat} : ∀ {ws : List Nat} {s s' : Sl}, Zr R C s → (∀ w ∈ ws, okL w) → goAll R C s ws = some s' → goAll R C s' (undo ws) = some s
  | [], s, s', z, hk, h => by
    have e := Option.some.inj h
    subst e
    rfl
  | w :: r, s, s', z, hk, h => by
    have h : (go1 R C s w).bind (fun s' => goAll R C s' r) = some s' := h
    cases e : go1 R C s w with
    | none => rw [e] at h; cases h
    | some s1 =>
      rw [e] at h
      have ih := goAll_undo (go1_zr e) (fun x hx => hk x (List.mem_cons_of_mem _ hx)) h
      rw [undo_cons, goAll_append, ih]
      show goAll R C s1 [bk w] = some s
      rw [goAll_one]
      exact go1_back z (hk w List.mem_cons_self) e
/-! ### all numbers stay -/
theorem allV_put {n : Nat} {f : Fld} {p q : Nat} (hp : p < n) (hq : q < n) (hz : f p = 0) : allV n (put2 f p q) = ((allV n f).set p ((allV n f)[q]'(by unfold allV; simpa using hq))).set q ((allV n f)[p]'(by unfold allV; simpa using hp)) := by
  apply List.ext_getElem
  · simp [allV]
  · intro i h1 h2
    have hi : i < n := by simpa [allV] using h1
    simp only [allV, List.getElem_map, List.getElem_range, List.getElem_set]
    unfold put2
    by_cases a : i = q
    · subst a
      simp [hz]
    · rw [if_neg a, if_neg (fun e => a (Eq.symm e))]
      by_cases b : i = p
      · subst b
        simp
      · rw [if_neg b, if_neg (fun e => b (Eq.symm e))]
theorem put2_full {n : Nat} {f : Fld} {p q : Nat} (hp : p < n) (hq : q < n) (hz : f p = 0) (h : Full n f) : Full n (put2 f p q) := by
  unfold Full
  rw [allV_put hp hq hz]
  exact (List.set_set_perm (as := allV n f) (i := p) (j := q) (by unfold allV; simpa using hp) (by unfold allV; simpa using hq)).trans h
theorem go1_full {R C : Nat} {s s' : Sl} {w : Nat} (z : Zr R C s) (h : go1 R C s w = some s') (x : Full (R * C) s.1) : Full (R * C) s'.1 := by
  have z' := go1_zr h
  obtain ⟨h1, h2⟩ := go1_eq h
  rw [h2]
  exact put2_full (ix_lt z.r z.c) (ix_lt z'.r z'.c) z.z x
theorem goAll_full {R C : Nat} : ∀ {ws : List Nat} {s s' : Sl}, Zr R C s → goAll R C s ws = some s' → Full (R * C) s.1 → Full (R * C) s'.1
  | [], s, s', z, h, x => Option.some.inj h ▸ x
  | w :: r, s, s', z, h, x => by
    have h : (go1 R C s w).bind (fun s' => goAll R C s' r) = some s' := h
    cases e : go1 R C s w with
    | none => rw [e] at h; cases h
    | some s1 =>
      rw [e] at h
      exact goAll_full (go1_zr e) h (go1_full z e x)
/-- 0 stands at one place alone -/
theorem full_nodup {n : Nat} {f : Fld} (h : Full n f) : (allV n f).Nodup := by
  refine h.symm.nodup ?_
  unfold List.Nodup
  rw [List.pairwise_map]
  refine List.Pairwise.imp ?_ List.nodup_range
  intro a b hab e
  exact hab (by omega)
theorem full_inj {n : Nat} {f : Fld} (h : Full n f) {i j : Nat} (hi : i < n) (hj : j < n) (e : f i = f j) : i = j := by
  have nd := full_nodup h
  have q := (List.getElem_inj (xs := allV n f) (i := i) (j := j) (h₀ := by simpa [allV] using hi) (h₁ := by simpa [allV] using hj) nd).mp
  exact q (by simpa [allV] using e)
theorem full_zero {n : Nat} {f : Fld} (hn : 0 < n) (h : Full n f) : ∃ p, p < n ∧ f p = 0 := by
  have m : (0 : Int) ∈ allV n f := h.symm.mem_iff.mp (List.mem_map.mpr ⟨0, List.mem_range.mpr hn, rfl⟩)
  obtain ⟨p, hp, e⟩ := List.mem_map.mp m
  exact ⟨p, List.mem_range.mp hp, e⟩
/-! ### thinned -/
/-- the last one of what is left goes with its own back -/
def thS (left : List Nat) (w : Nat) : List Nat := if left.getLast? = some (bk w) then left.dropLast else left ++ [w]
def thinL (ws : List Nat) : List Nat := ws.foldl thS []
def push (w : Nat) (f : List Nat) : List Nat := if f.head? = some (bk w) then f.tail else w :: f
def thinR (ws : List Nat) : List Nat := ws.foldr push []
def Red : List Nat → Prop
  | [] => True
  | [_] => True
  | x :: y :: r => y ≠ bk x ∧ Red (y :: r)
theorem red_tail : ∀ {x : Nat} {l : List Nat}, Red (x :: l) → Red l
  | _, [], _ => True.intro
  | _, _ :: _, h => h.2
theorem red_push {w : Nat} {f : List Nat} (h : Red f) : Red (push w f) := by
  unfold push
  split
  · cases f with
    | nil => exact True.intro
    | cons x r => exact red_tail h
  · rename_i k
    cases f with
    | nil => exact True.intro
    | cons x r => exact ⟨fun e => k (by rw [e]; rfl), h⟩
theorem push_push {w : Nat} {f : List Nat} (hf : Red f) : push (bk w) (push w f) = f := by
  unfold push
  by_cases k : f.head? = some (bk w)
  · rw [if_pos k]
    cases f with
    | nil => cases k
    | cons x r =>
      have e : x = bk w := Option.some.inj k
      subst e
      show (if r.head? = some (bk (bk w)) then r.tail else bk w :: r) = bk w :: r
      refine if_neg fun e => ?_
      cases r with
      | nil => cases e
      | cons y q => exact hf.1 (Option.some.inj e)
  · rw [if_neg k]
    show (if (w :: f).head? = some (bk (bk w)) then f else bk w :: w :: f) = f
    rw [if_pos (by rw [bk_bk]; rfl)]
theorem foldr_red (left : List Nat) {f : List Nat} (h : Red f) : Red (left.foldr push f) := by
  induction left with
  | nil => exact h
  | cons x r ih => exact red_push ih
theorem thS_foldr {left : List Nat} {w : Nat} {f : List Nat} (hf : Red f) : (thS left w).foldr push f = left.foldr push (push w f) := by
  unfold thS
  split
  · rename_i k
    have e : left = left.dropLast ++ [bk w] := by
      have hne : left ≠ [] := by
        intro e
        rw [e] at k
        cases k
      have h1 := List.dropLast_concat_getLast hne
      rw [List.getLast?_eq_getLast hne] at k
      rw [Option.some.inj k] at h1
      exact h1.symm
    generalize hd : left.dropLast = d at e
    rw [e, List.foldr_append]
    show d.foldr push f = d.foldr push (push (bk w) (push w f))
    rw [push_push hf]
  · rw [List.foldr_append]
    rfl
theorem foldl_foldr : ∀ (ws left : List Nat), (ws.foldl thS left).foldr push [] = left.foldr push (ws.foldr push [])
  | [], _ => rfl
  | w :: r, left => by
    show (r.foldl thS (thS left w)).foldr push [] = left.foldr push (push w (r.foldr push []))
    rw [foldl_foldr r (thS left w)]
    exact thS_foldr (foldr_red r True.intro)
theorem red_dropLast : ∀ {l : List Nat}, Red l → Red l.dropLast
  | [], _ => True.intro
  | [_], _ => True.intro
  | [_, _], _ => True.intro
  | x :: y :: z :: r, h => ⟨h.1, red_dropLast (l := y :: z :: r) h.2⟩
theorem red_snoc : ∀ {l : List Nat} {w : Nat}, Red l → l.getLast? ≠ some (bk w) → Red (l ++ [w])
  | [], _, _, _ => True.intro
  | [x], w, _, h => ⟨fun e => h (by rw [e, bk_bk]; rfl), True.intro⟩
  | x :: y :: r, w, h, k => ⟨h.1, red_snoc (l := y :: r) h.2 (by rw [List.getLast?_cons_cons] at k; exact k)⟩
theorem red_thS {l : List Nat} {w : Nat} (h : Red l) : Red (thS l w) := by
  unfold thS
  split
  · exact red_dropLast h
  · rename_i k
    exact red_snoc h k
theorem red_foldl : ∀ {ws l : List Nat}, Red l → Red (ws.foldl thS l)
  | [], _, h => h
  | w :: r, l, h => red_foldl (ws := r) (l := thS l w) (red_thS h)
theorem foldr_self : ∀ {l : List Nat}, Red l → l.foldr push [] = l
  | [], _ => rfl
  | [_], _ => rfl
  | x :: y :: r, h => by
    show push x ((y :: r).foldr push []) = x :: y :: r
    rw [foldr_self (l := y :: r) h.2]
    exact if_neg fun e => h.1 (Option.some.inj e)
theorem thin_same (ws : List Nat) : thinL ws = thinR ws := by
  have h := foldl_foldr ws []
  have r : Red (ws.foldl thS []) := red_foldl True.intro
  rw [foldr_self r] at h
  exact h
theorem thS_len (l : List Nat) (w : Nat) : (thS l w).length ≤ l.length + 1 := by
  unfold thS
  split
  · rw [List.length_dropLast]; omega
  · rw [List.length_append]; exact Nat.le_refl _
theorem thin_take {ws : List Nat} {i w : Nat} (h : ws[i]? = some w) : thinL (ws.take (i + 1)) = thS (thinL (ws.take i)) w := by
  unfold thinL
  rw [take_more h, List.foldl_append]
  rfl
theorem foldl_len : ∀ (ws l : List Nat), (ws.foldl thS l).length ≤ l.length + ws.length
  | [], l => Nat.le_refl _
  | w :: r, l => by
    have h := foldl_len r (thS l w)
    have h2 := thS_len l w
    show (r.foldl thS (thS l w)).length ≤ l.length + (r.length + 1)
    omega
theorem thinL_len (ws : List Nat) : (thinL ws).length ≤ ws.length := by
  have h := foldl_len ws []
  simpa [thinL] using h
theorem thinL_ok {ws : List Nat} : (∀ w ∈ ws, okL w) → ∀ w ∈ thinL ws, okL w := by
  have g : ∀ (ws l : List Nat), (∀ w ∈ l, okL w) → (∀ w ∈ ws, okL w) → ∀ w ∈ ws.foldl thS l, okL w := by
    intro ws
    induction ws with
    | nil => intro l hl _; exact hl
    | cons x r ih =>
      intro l hl hw
      refine ih (thS l x) ?_ (fun y hy => hw y (List.mem_cons_of_mem _ hy))
      intro y hy
      unfold thS at hy
      split at hy
      · exact hl y (List.dropLast_subset l hy)
      · rcases List.mem_append.mp hy with h | h
        · exact hl y h
        · rw [List.mem_singleton.mp h]
          exact hw x List.mem_cons_self
  exact fun h => g ws [] (fun _ h => by cases h) h
end Tr
/-! Rules and heaps -/
namespace Tr
open PySem PySem.Spec PyProof.Rows L2
/-! ### a product of any two ints that the machine takes -/
section
variable {X : Cx}
theorem op_mulX : OpR X (binaryOp .Mult) (rI IntMulOk fun i j => .int (i * j)) := opI fun _ _ _ _ _ _ _ hc q => mul_int q hc
end
/-! ### s[::-1] of a text -/
def tRevS (te : TE) : TE := fun σ H Q => te σ H fun x H1 => ∃ z : Str, x = .str z ∧ z.length ≤ sizeLine ∧ Q (.str ⟨z.cps.toList.reverse.toArray⟩) H1
theorem pick_rev {α : Type} (xs : Array α) : ((List.range xs.size).map fun k => xs.size - 1 - k).filterMap (xs[·]?) = xs.toList.reverse := by
  have e : ((List.range xs.size).map fun k => xs.size - 1 - k) = (List.range xs.size).reverse := by
    apply List.ext_getElem
    · simp
    · intro i h1 h2
      simp at h1 h2
      simp
  rw [e, List.filterMap_reverse, PySem.W.krv_all]
theorem rev_idx (n : Nat) : Builtin.Str.strSliceIndices none none (-1) n = (List.range n).map fun k => n - 1 - k := by
  unfold Builtin.Str.strSliceIndices
  exact PySem.W.krv_sliceRange n
section
variable {X : Cx}
theorem pe_revS {e : Expr} {te : TE} {k : Nat} {p1 p2 p3 pos : Pos} (he : PE X e te) : PE X (.Subscript e (.Slice none none (some (.UnaryOp .USub (.Constant (.int 1) k p1) p2)) p3) pos) (tRevS te) := by
  refine ⟨fun pins s σ H Q I h => ?_⟩
  refine Subscript_ (thn (he.run pins s σ H _ I h) fun v s1 ⟨x, H1, I1, r1, q1⟩ => ?_)
  obtain ⟨z, ex, hz, q⟩ := q1
  subst ex
  obtain ⟨t, rfl⟩ := r1
  have hst : PO X (some (.UnaryOp .USub (.Constant (.int 1) k p1) p2)) (tPart (tUn (rU fun i => .int (-i)) (tC (.int 1)))) := po_some (pe_un un_neg pe_int)
  refine wpAny_Slice (thn (po_none.run pins s1 σ H1 (fun o H2 => o = none ∧ H2 = H1) I1 ⟨rfl, rfl⟩) fun vl s2 ⟨l, H2, I2, pl, el, e2⟩ => ?_)
  subst el e2
  refine thn (po_none.run pins s2 σ H2 (fun o H3 => o = none ∧ H3 = H2) I2 ⟨rfl, rfl⟩) fun vu s3 ⟨u, H3, I3, pu, eu, e3⟩ => ?_
  subst eu e3
  refine thn (hst.run pins s3 σ H3 (fun o H4 => o = some (-1) ∧ H4 = H3) I3 ⟨1, rfl, -1, rfl, rfl, rfl⟩) fun vs s4 ⟨o, H4, I4, ps, eo, e4⟩ => ?_
  subst eo e4
  have I5 : Inv X pins σ H4 { s4 with heap := s4.heap.push { cls := .type "slice", data := .fields #[vl, vu, vs] } } := I4.kept (t' := s4.toks) fun b ob q => Heap.get?_push_of_some _ q
  obtain ⟨l, rfl, el⟩ := IsPart.raw pl
  obtain ⟨u, rfl, eu⟩ := IsPart.raw pu
  obtain ⟨st, rfl, est⟩ := IsPart.raw ps
  show wpAny (model X.prog X.w) X.A (subscriptTail e (.Slice none none (some (.UnaryOp .USub (.Constant (.int 1) k p1) p2)) p3) (.str z t) (.ref s4.heap.objs.size)) (EP X pins σ Q) X.xe { s4 with heap := s4.heap.push { cls := .type "slice", data := .fields #[partValue l, partValue u, partValue st] } }
  refine tail_any (ops := [.ref s4.heap.objs.size, .str z t]) (typeIs_str _ _ _) F.slot_str_getitem.lookup ?_ (by with_unfolding_all rfl)
  have h0 : ((st.map (·.1)).getD 1 == 0) = false := by rw [est]; rfl
  refine wpAny_getItem_str_slice (l := l) (u := u) (st := st) ⟨_, Heap.get?_push_size _ rfl, rfl, rfl⟩ h0 ?_
  have e1 : slicePicked z l u st = (List.range z.length).map fun k => z.length - 1 - k := by
    unfold slicePicked
    rw [el, eu, est]
    exact rev_idx z.length
  unfold sliceMade
  rw [e1, est]
  have e2 : ((List.range z.length).map fun k => z.length - 1 - k).filterMap (z.cps[·]?) = z.cps.toList.reverse := pick_rev z.cps
  rw [e2]
  have c : ¬ ((((some (-1 : Int)).getD 1 == 1) && (((List.range z.length).map fun k => z.length - 1 - k).length == z.length)) = true) := by
    intro c
    have := (Bool.and_eq_true _ _).mp c
    exact absurd this.1 (by decide)
  rw [if_neg c]
  refine ⟨?_, .str _, H4, I5.tok _, ⟨_, rfl⟩, q⟩
  show z.cps.toList.reverse.toArray.size ≤ sizeLine
  rw [List.size_toArray, List.length_reverse, Array.length_toList]
  exact hz
end
/-! ### texts by their codes -/
abbrev txt (ws : List Nat) : Str := ⟨ws.toArray⟩
theorem txt_len (ws : List Nat) : (txt ws).length = ws.length := by
  show ws.toArray.size = ws.length
  exact List.size_toArray
theorem txt_add (a b : List Nat) : txt a ++ txt b = txt (a ++ b) := by
  show (⟨a.toArray ++ b.toArray⟩ : Str) = ⟨(a ++ b).toArray⟩
  rw [List.append_toArray]
theorem txt_of (z : Str) : z = txt z.cps.toList := by
  cases z
  rfl
theorem txt_inj {a b : List Nat} (h : txt a = txt b) : a = b := by
  have := congrArg (fun z : Str => z.cps.toList) h
  exact this
/-! ### heaps -/
theorem same_upd {H : Hp} {p : Addr} {o : HO} (h : H p = none) : Same H (upd H p o) := fun b x e => by
  rw [upd_ne (ne_of_none e h)]
  exact e
/-- one row of a tray, from its first place on -/
def rowV (C : Nat) (f : Fld) (i : Nat) : List V := (List.range C).map fun j => V.int (f (i * C + j))
theorem rowV_len (C : Nat) (f : Fld) (i : Nat) : (rowV C f i).length = C := by
  unfold rowV
  rw [List.length_map, List.length_range]
theorem rowV_get {C : Nat} {f : Fld} {i j : Nat} (h : j < C) : (rowV C f i)[j]? = some (V.int (f (i * C + j))) := by
  unfold rowV
  rw [List.getElem?_map, List.getElem?_range h]
  rfl
theorem rowV_set {C : Nat} {f : Fld} {i j : Nat} {v : Int} {g : Fld} (hg : ∀ k, k < C → g (i * C + k) = if k = j then v else f (i * C + k)) : (rowV C f i).set j (V.int v) = rowV C g i := by
  apply List.ext_getElem
  · simp [rowV]
  · intro k h1 h2
    have hk : k < C := by simpa [rowV] using h2
    simp only [rowV, List.getElem_set, List.getElem_map, List.getElem_range]
    rw [hg k hk]
    by_cases e : j = k
    · rw [if_pos e, if_pos e.symm]
    · rw [if_neg e, if_neg fun z => e z.symm]
/-- at a stands a tray of R rows (at rs) and C columns -/
structure TrayAt (H : Hp) (a : Addr) (rs : List Addr) (R C : Nat) (f : Fld) : Prop where
  top : H a = some (.lst (rs.map V.ref))
  len : rs.length = R
  row : ∀ i r, rs[i]? = some r → H r = some (.lst (rowV C f i))
  nd : rs.Nodup
  na : a ∉ rs
theorem TrayAt.mono {H H' : Hp} {a : Addr} {rs : List Addr} {R C : Nat} {f : Fld} (s : Same H H') (t : TrayAt H a rs R C f) : TrayAt H' a rs R C f :=
  ⟨s _ _ t.top, t.len, fun i r h => s _ _ (t.row i r h), t.nd, t.na⟩
theorem TrayAt.get {H : Hp} {a : Addr} {rs : List Addr} {R C : Nat} {f : Fld} (t : TrayAt H a rs R C f) {i : Nat} (hi : i < R) : ∃ r, rs[i]? = some r ∧ (rs.map V.ref)[i]? = some (V.ref r) ∧ H r = some (.lst (rowV C f i)) := by
  have h : i < rs.length := by rw [t.len]; exact hi
  refine ⟨rs[i], List.getElem?_eq_getElem h, ?_, t.row i _ (List.getElem?_eq_getElem h)⟩
  rw [List.getElem?_map, List.getElem?_eq_getElem h]
  rfl
theorem TrayAt.congr {H : Hp} {a : Addr} {rs : List Addr} {R C : Nat} {f g : Fld} (h : ∀ k, k < R * C → f k = g k) (t : TrayAt H a rs R C f) : TrayAt H a rs R C g := by
  refine ⟨t.top, t.len, fun i r e => ?_, t.nd, t.na⟩
  rw [t.row i r e]
  have hi : i < R := by
    rw [← t.len]
    exact (List.getElem?_eq_some_iff.mp e).1
  have : rowV C f i = rowV C g i := by
    unfold rowV
    refine List.map_congr_left fun j hj => ?_
    rw [h _ (ix_lt hi (List.mem_range.mp hj))]
  rw [this]
/-! ### the data of a tray, compared -/
def rowD (C : Nat) (f : Fld) (i : Nat) : PyData := .list ((List.range C).map fun j => PyData.int (f (i * C + j)))
theorem dp_ints {K : PySem.W.Frag} {H : Hp} : ∀ ns : List Int, DpAll K H (ns.map V.int) (ns.map PyData.int)
  | [] => .nil
  | n :: r => .cons (.int n) (dp_ints r)
theorem dp_row {K : PySem.W.Frag} {H : Hp} {C : Nat} {f : Fld} {i : Nat} {r : Addr} (h : H r = some (.lst (rowV C f i))) : Dp K H (.ref r) (rowD C f i) := by
  have e : rowV C f i = ((List.range C).map fun j => f (i * C + j)).map V.int := by
    unfold rowV
    rw [List.map_map]
    rfl
  have e2 : rowD C f i = .list (((List.range C).map fun j => f (i * C + j)).map PyData.int) := by
    unfold rowD
    rw [List.map_map]
    rfl
  rw [e] at h
  rw [e2]
  exact .lst (SqL.of h) (dp_ints _)
theorem dp_all {K : PySem.W.Frag} {H : Hp} : ∀ {vs : List V} {ds : List PyData}, vs.length = ds.length → (∀ (i : Nat) (v : V) (d : PyData), vs[i]? = some v → ds[i]? = some d → Dp K H v d) → DpAll K H vs ds
  | [], [], _, _ => .nil
  | v :: vs, d :: ds, hl, h => .cons (h 0 v d rfl rfl) (dp_all (by simpa using hl) fun i x y a b => h (i + 1) x y a b)
  | [], _ :: _, hl, _ => by simp at hl
  | _ :: _, [], hl, _ => by simp at hl
def rowsD (C : Nat) (f : Fld) (ks : List Nat) : PyData := .list (ks.map (rowD C f))
theorem dp_rows {K : PySem.W.Frag} {H : Hp} {C : Nat} {f : Fld} {a : Addr} {rs : List Addr} {ks : List Nat} (ha : H a = some (.lst (rs.map V.ref))) (hl : rs.length = ks.length) (h : ∀ (i : Nat) (r : Addr) (k : Nat), rs[i]? = some r → ks[i]? = some k → H r = some (.lst (rowV C f k))) : Dp K H (.ref a) (rowsD C f ks) := by
  refine .lst (SqL.of ha) (dp_all (by simpa using hl) fun i v d e1 e2 => ?_)
  rw [List.getElem?_map] at e1 e2
  cases q1 : rs[i]? with
  | none => rw [q1] at e1; cases e1
  | some r =>
    cases q2 : ks[i]? with
    | none => rw [q2] at e2; cases e2
    | some k =>
      rw [q1] at e1
      rw [q2] at e2
      have e1 := Option.some.inj e1
      have e2 := Option.some.inj e2
      subst e1 e2
      exact dp_row (h i r k q1 q2)
theorem TrayAt.dp {K : PySem.W.Frag} {H : Hp} {a : Addr} {rs : List Addr} {R C : Nat} {f : Fld} (t : TrayAt H a rs R C f) : Dp K H (.ref a) (rowsD C f (List.range R)) := by
  refine dp_rows t.top (by rw [t.len, List.length_range]) fun i r k e1 e2 => ?_
  have hi := (List.getElem?_eq_some_iff.mp e2).1
  rw [List.length_range] at hi
  rw [List.getElem?_range hi] at e2
  cases e2
  exact t.row i r e1
theorem lay_rows {C : Nat} {f : Fld} : ∀ ks : List Nat, PyData.canLayAll0 (ks.map (rowD C f)) = true
  | [] => rfl
  | k :: r => by
    have h := lay_rows (C := C) (f := f) r
    have h2 : PyData.canLay0 (rowD C f k) = true := by
      have e : rowD C f k = .list (((List.range C).map fun j => f (k * C + j)).map PyData.int) := by
        unfold rowD
        rw [List.map_map]
        rfl
      rw [e]
      simp only [PyData.canLay0]
      exact PySem.W.canLayAll0_ints _
    simp only [List.map_cons, PyData.canLayAll0, h, h2, Bool.and_self]
theorem depth_rows {C : Nat} {f : Fld} : ∀ ks : List Nat, PyData.depthAll (ks.map (rowD C f)) ≤ 2
  | [] => by simp [PyData.depthAll]
  | k :: r => by
    have h := depth_rows (C := C) (f := f) r
    have h2 : PyData.depth (rowD C f k) ≤ 2 := by
      have e : rowD C f k = .list (((List.range C).map fun j => f (k * C + j)).map PyData.int) := by
        unfold rowD
        rw [List.map_map]
        rfl
      rw [e]
      have := PySem.W.depthAll_ints ((List.range C).map fun j => f (k * C + j))
      simp only [PyData.depth]
      omega
    simp only [List.map_cons, PyData.depthAll]
    omega
theorem shaped_rows {C : Nat} {f : Fld} (ks : List Nat) : SeqAt.shaped (rowsD C f ks) = true := by
  have h1 := depth_rows (C := C) (f := f) ks
  have h2 : PyData.depth (rowsD C f ks) ≤ 64 := by
    unfold rowsD
    simp only [PyData.depth]
    omega
  show (PyData.canLay0 (rowsD C f ks) && decide (PyData.depth (rowsD C f ks) ≤ 64)) = true
  rw [Bool.and_eq_true]
  refine ⟨?_, decide_eq_true h2⟩
  unfold rowsD
  simp only [PyData.canLay0]
  exact lay_rows ks
theorem eqv_rows {C : Nat} {f : Fld} (ks : List Nat) : PyData.eqv (rowsD C f ks) (rowsD C f ks) = true := SeqAt.eqv_refl _ (SeqAt.canLay_of_shaped (shaped_rows ks))
end Tr
/-! The text by places -/
namespace Tr
open PySem PySem.Spec PyProof.Rows L2
def topS (i : Nat) : Stmt := PySem.Challenge.pw_slidetray_k05_refused.main.body.getD i (.Pass ⟨0, 0, 0, 0⟩)
abbrev d_wall : Stmt := topS 1
abbrev d_moved : Stmt := topS 12
abbrev d_ways : Stmt := topS 13
abbrev d_undone : Stmt := topS 14
abbrev d_thinned : Stmt := topS 15
abbrev d_check_tray : Stmt := topS 16
abbrev d_check_slides : Stmt := topS 17
abbrev d_empty_place : Stmt := topS 18
abbrev d_place_beside : Stmt := topS 19
abbrev d_is_wide : Stmt := topS 21
abbrev d_numbers_of : Stmt := topS 22
abbrev d_pieces_of : Stmt := topS 23
abbrev d_crossed_pairs : Stmt := topS 24
abbrev d_steps_apart : Stmt := topS 25
abbrev d_Led_init : Stmt := inClass (topS 28) 0
abbrev d_Led_shows : Stmt := inClass (topS 28) 1
abbrev d_Odd_init : Stmt := inClass (topS 29) 0
abbrev d_Odd_shows : Stmt := inClass (topS 29) 1
abbrev d_Passed_init : Stmt := inClass (topS 30) 0
abbrev d_Passed_shows : Stmt := inClass (topS 30) 1
abbrev d_Passed_is_first : Stmt := inClass (topS 30) 2
abbrev d_straight : Stmt := topS 32
abbrev d_slides_between : Stmt := topS 33
abbrev d_settling_slides : Stmt := topS 34
abbrev d_groups_of_places : Stmt := topS 35
abbrev d_group_slides : Stmt := topS 36
abbrev d_standing_behind : Stmt := topS 37
abbrev d_free_places_beside : Stmt := topS 38
abbrev d_places_of : Stmt := topS 39
abbrev d_told : Stmt := topS 41
abbrev d_told_of_wide : Stmt := topS 42
abbrev d_told_of_narrow : Stmt := topS 43
abbrev d_law_with_tray : Stmt := topS 45
abbrev d_law_bad_tray : Stmt := topS 46
abbrev d_law_great : Stmt := topS 47
abbrev d_law_told : Stmt := topS 48
abbrev d_law : Stmt := topS 49
end Tr
/-! The text by places, and what the written part says -/
namespace Tr
open PySem PySem.Spec PyProof.Rows L2
/-- the written dict of the steps -/
structure StepsD (K : PySem.W.Frag) (w : World) (d : Addr) : Prop where
  ex : ∃ es n, KDict K w d es n
  at_ : ∀ c, okL c → ∃ t, KDct K w d (txt [c]) (.ref t) ∧ ∀ H, SqT K H t [.int (stp c).1, .int (stp c).2]
  yes : ∀ c, okL c → ∃ v, PySem.W.nsIn K d (txt [c]) = some (some v)
  no : ∀ c, ¬ okL c → PySem.W.nsIn K d (txt [c]) = some none
/-- the written dict of the backs -/
structure BackD (K : PySem.W.Frag) (w : World) (d : Addr) : Prop where
  at_ : ∀ c, okL c → KDct K w d (txt [c]) (.str (txt [bk c]))
theorem decI {p : Prop} [Decidable p] {A B : Prop} (h1 : p → A) (h2 : ¬ p → B) : if decide p = true then A else B := by
  by_cases h : p
  · rw [if_pos (decide_eq_true h)]
    exact h1 h
  · rw [if_neg (by simpa using h)]
    exact h2 h
end Tr
namespace Tr
open PySem PySem.Spec PyProof.Rows L2
/-- an own exception class over ValueError, at C -/
structure ExcT (K : PySem.W.Frag) (mg : Str → Option Value) (x : Str) (C : Addr) : Prop where
  g : mg x = some (.ref C)
  x : PySem.W.excIn K C [.type "ValueError", .type "Exception", .type "BaseException", .type "object"] "ValueError.__new__" = true
  k : PySem.W.keepIn K (.ref C) = true
  b : PySem.W.subIn K (.ref C) (.type "BaseException") = some true
  t : PySem.W.typeIn K (.ref C) = some (.type "type")
end Tr
namespace Tr
open PySem PySem.Spec PyProof.Rows L2
/-- any clause of a comprehension, its turn left open -/
theorem lc_gen {J : It} {n : Nat} {G : Hp → Prop} {Y : Nat → Hp → V → Hp → Prop} (w : Walk J n G Y) {H1 : Hp} {Qd : Hp → Prop} {Body : (Hp → Prop) → V → Hp → Prop} (Pv : Nat → Hp → Prop) (h0 : Pv 0 H1) (hG : ∀ i H, i ≤ n → Pv i H → G H)
    (hs : ∀ i x H H', i < n → Pv i H → Y i H x H' → Body (Pv (i + 1)) x H') (hd : ∀ H, Pv n H → Qd H) :
    ∃ W : Nat → Nat → Hp → Prop, (∃ m, W 0 m H1) ∧ ∀ i m H, W i m H →
      (J.stop i H ∧ Qd H) ∨ (J.go i H ∧ ∃ Nx : Hp → Prop, (∀ H', Nx H' → ∃ m', m' < m ∧ W (i + 1) m' H') ∧ ∀ x H', J.yld i H x H' → Body Nx x H') := by
  refine ⟨fun i m H => m = n - i ∧ i ≤ n ∧ Pv i H, ⟨n, by simp, Nat.zero_le _, h0⟩, ?_⟩
  rintro i m H ⟨rfl, hi, p⟩
  have q := hG i H hi p
  by_cases hlt : i < n
  · refine .inr ⟨w.goes i H hlt q, Pv (i + 1), fun H' p' => ⟨n - (i + 1), by omega, rfl, hlt, p'⟩, fun x H' y => hs i x H H' hlt p (w.yields i H x H' hlt q y)⟩
  · have e : i = n := by omega
    subst e
    exact .inl ⟨w.stops H q, hd H p⟩
/-- a flat list of one row behind the other -/
theorem allV_rows (C : Nat) (f : Fld) (i : Nat) : (allV (i * C) f).map V.int ++ rowV C f i = (allV ((i + 1) * C) f).map V.int := by
  unfold allV rowV
  rw [Nat.add_mul, Nat.one_mul, List.range_add, List.map_append, List.map_append, List.map_map, List.map_map, List.map_map]
  rfl
end Tr
namespace Tr
open PySem PySem.Spec PyProof.Rows L2
def rListOf (K : PySem.W.Frag) : List V → Hp → VK → Prop := fun xs H Q => ∃ p ys, xs = [.ref p] ∧ (SqL K H p ys ∨ SqT K H p ys) ∧ ∀ l, H l = none → Q (.ref l) (upd H l (.lst ys))
theorem cr_listOf {X : Cx} : CallR X (.type "list") (rListOf X.K) := call_list_of
theorem ixN_nat {n j : Nat} (h : j < n) : ixN n (j : Int) = some j := by
  unfold ixN
  rw [if_pos (by omega), if_pos (by omega)]
  simp
/-- a tray with one row more -/
theorem TrayAt.snoc {H : Hp} {D l : Addr} {rs : List Addr} {i C : Nat} {f : Fld} (T : TrayAt H D rs i C f) (hl : H l = none) (hD : l ≠ D) : TrayAt (upd (upd H l (.lst (rowV C f i))) D (.lst (rs.map V.ref ++ [V.ref l]))) D (rs ++ [l]) (i + 1) C f := by
  have hlr : l ∉ rs := fun m => by
    obtain ⟨j, hj, e⟩ := List.getElem_of_mem m
    have := T.row j l (by rw [← e]; exact List.getElem?_eq_getElem hj)
    rw [hl] at this
    cases this
  refine ⟨by rw [upd_same, List.map_append]; rfl, by rw [List.length_append, T.len]; rfl, fun j r e => ?_, ?_, ?_⟩
  · have hr : r ∈ rs ++ [l] := List.mem_of_getElem? e
    have rD : r ≠ D := by
      rcases List.mem_append.mp hr with m | m
      · exact fun z => T.na (z ▸ m)
      · rw [List.mem_singleton.mp m]
        exact hD
    rw [upd_ne rD]
    by_cases hj : j < rs.length
    · rw [List.getElem?_append_left hj] at e
      have rl : r ≠ l := fun z => hlr (z ▸ List.mem_of_getElem? e)
      rw [upd_ne rl]
      exact T.row j r e
    · rw [List.getElem?_append_right (by omega)] at e
      have hj2 : j = rs.length := by
        have := (List.getElem?_eq_some_iff.mp e).1
        have h1 : ([l] : List Addr).length = 1 := rfl
        omega
      subst hj2
      rw [Nat.sub_self] at e
      cases e
      rw [upd_same, T.len]
  · rw [List.nodup_append]
    refine ⟨T.nd, by simp, fun x hx y hy => ?_⟩
    rw [List.mem_singleton.mp hy]
    exact fun z => hlr (z ▸ hx)
  · intro m
    rcases List.mem_append.mp m with m | m
    · exact T.na m
    · exact hD (List.mem_singleton.mp m).symm
/-- one number stored -/
theorem TrayAt.put {H : Hp} {a r : Addr} {rs : List Addr} {R C i j : Nat} {f : Fld} {v : Int} (T : TrayAt H a rs R C f) (e : rs[i]? = some r) (hj : j < C) : TrayAt (upd H r (.lst ((rowV C f i).set j (V.int v)))) a rs R C (fun k => if k = i * C + j then v else f k) := by
  have ra : a ≠ r := fun z => T.na (z ▸ List.mem_of_getElem? e)
  refine ⟨by rw [upd_ne ra]; exact T.top, T.len, fun i2 r2 e2 => ?_, T.nd, T.na⟩
  by_cases z : i2 = i
  · subst z
    rw [e] at e2
    cases e2
    rw [upd_same]
    refine congrArg (fun x => some (HO.lst x)) (rowV_set fun k hk => ?_)
    by_cases y : k = j
    · rw [if_pos y, if_pos (by rw [y])]
    · rw [if_neg y, if_neg (by omega)]
  · have r2r : r2 ≠ r := fun y => z (nd_ix T.nd (y ▸ e2) e)
    rw [upd_ne r2r, T.row i2 r2 e2]
    refine congrArg (fun x => some (HO.lst x)) ?_
    unfold rowV
    refine List.map_congr_left fun k hk => congrArg V.int ?_
    exact (if_neg fun y => z (ix_inj (List.mem_range.mp hk) hj y).1).symm
/-- [list(row) for row in tray] -/
theorem lc_copy {K : PySem.W.Frag} {H : Hp} {a D : Addr} {rs : List Addr} {R C i : Nat} {f : Fld} {σ : L2.St} {Qd : Hp → Prop} (T : TrayAt H a rs R C f) (hR : R ≤ 1000) (nD : H D = none) (hi : i < σ.length)
    (q : ∀ (rs1 : List Addr) (H1 : Hp), Same H H1 → (∀ x ∈ rs1, H x = none) → TrayAt H1 D rs1 R C f → Qd H1) :
    ∃ W : Nat → Nat → Hp → Prop, (∃ m, W 0 m (upd H D (.lst []))) ∧ ∀ n m H, W n m H →
      ((Itl K a).stop n H ∧ Qd H) ∨ ((Itl K a).go n H ∧ ∃ Nx : Hp → Prop, (∀ H', Nx H' → ∃ m', m' < m ∧ W (n + 1) m' H') ∧ ∀ x H', (Itl K a).yld n H x H' → gName i x (wipe σ [i]) H' fun σ2 H2 => wipe σ2 [i] = wipe σ [i] ∧ tYes σ2 H2 fun b H3 =>
        if b = true then tCB (rListOf K) (tCons (tVar i) tNil) σ2 H3 fun y H4 => ∃ acc, H4 D = some (.lst acc) ∧ acc.length < sizeLine ∧ Nx (upd H4 D (.lst (acc ++ [y]))) else Nx H3) := by
  refine lc_gen (walk_list (K := K) (a := a) (xs := rs.map V.ref)) (fun i H1 => ∃ rs1, TrayAt H1 D rs1 i C f ∧ (∀ x ∈ rs1, H x = none) ∧ Same H H1)
    ⟨[], ⟨upd_same, rfl, fun i r e => by simp at e, List.nodup_nil, by simp⟩, (fun x m => by cases m), same_upd nD⟩ (fun i H1 _ ⟨_, _, _, s⟩ => s.seq (SqL.of T.top)) ?_ ?_
  · rintro n x H1 H2 hn ⟨rs1, T1, hx1, sm⟩ ⟨rfl, hx⟩
    have hn : n < R := by
      rw [List.length_map, T.len] at hn
      exact hn
    obtain ⟨rn, k1, k2, k3⟩ := T.get hn
    rw [k2] at hx
    cases hx
    refine ⟨?_, ?_⟩
    · show (((σ.set i none).set i (some (.ref rn))).set i none) = σ.set i none
      rw [List.set_set, List.set_set]
    · refine ⟨.ref rn, ?_, rn, _, rfl, .inl (SqL.of (sm _ _ k3)), fun l nl => ?_⟩
      · show ((σ.set i none).set i (some (V.ref rn)))[i]? = _
        rw [List.getElem?_set_self (by rw [List.length_set]; exact hi)]
      · have hlD : l ≠ D := fun z => by
          rw [z, T1.top] at nl
          cases nl
        refine ⟨_, by rw [upd_ne hlD.symm]; exact T1.top, ?_, rs1 ++ [l], T1.snoc nl hlD, ?_, ?_⟩
        · rw [List.length_map, T1.len]
          exact small1000 (by omega)
        · intro x m
          rcases List.mem_append.mp m with m | m
          · exact hx1 x m
          · rw [List.mem_singleton.mp m]
            exact sm.free nl
        · intro b o e
          rw [upd_ne (ne_of_none e nD), upd_ne (ne_of_none e (sm.free nl))]
          exact sm _ _ e
  · rintro H1 ⟨rs1, T1, hx1, sm⟩
    rw [List.length_map, T.len] at T1
    exact q rs1 H1 sm hx1 T1
theorem goAll_bad {R C : Nat} (hR : R ≤ 9) : ∀ {ws : List Nat} {s : Sl}, (∃ l ∈ ws, ¬ okL l) → goAll R C s ws = none
  | [], _, ⟨_, h, _⟩ => by cases h
  | w :: r, s, ⟨l, h, hb⟩ => by
    show (go1 R C s w).bind (fun s' => goAll R C s' r) = none
    cases e : go1 R C s w with
    | none => rfl
    | some s1 =>
      rcases List.mem_cons.mp h with z | z
      · subst z
        unfold go1 at e
        rw [nxt_bad hR hb] at e
        cases e
      · exact goAll_bad hR ⟨l, z, hb⟩
theorem go1_of_nxt {R C r c w : Nat} {f : Fld} {n : Nat × Nat} (h : nxt R C r c w = some n) : go1 R C (f, r, c) w = some (put2 f (r * C + c) (n.1 * C + n.2), n.1, n.2) := by
  unfold go1
  dsimp only
  rw [h]
  rfl
theorem go1_of_none {R C r c w : Nat} {f : Fld} (h : nxt R C r c w = none) : go1 R C (f, r, c) w = none := by
  unfold go1
  dsimp only
  rw [h]
  rfl
end Tr
namespace Tr
open PySem PySem.Spec PyProof.Rows L2
def udlr : List Nat := [117, 100, 108, 114]
theorem udlr_eq : ("udlr" : Str) = txt udlr := by decide +kernel
theorem empty_eq : ("" : Str) = txt [] := by decide +kernel
theorem glue_fold : ∀ (r : List Nat) (acc : Array Nat), (r.map fun l => txt [l]).foldl (fun (acc : Array Nat) (p : Str) => acc ++ (txt []).cps ++ p.cps) acc = acc ++ r.toArray
  | [], acc => by simp
  | c :: r, acc => by
    have h := glue_fold r (acc ++ (txt []).cps ++ (txt [c]).cps)
    show (r.map fun l => txt [l]).foldl (fun (acc : Array Nat) (p : Str) => acc ++ (txt []).cps ++ p.cps) (acc ++ (txt []).cps ++ (txt [c]).cps) = acc ++ (c :: r).toArray
    rw [h]
    apply Array.ext'
    simp
theorem join_txt (ws : List Nat) : Txt.join (txt []) (ws.map fun l => txt [l]) = txt ws := by
  show Builtin.Str.glued (txt []) (ws.map fun l => txt [l]) = txt ws
  unfold Builtin.Str.glued
  cases ws with
  | nil => rfl
  | cons c r =>
    show (⟨(r.map fun l => txt [l]).foldl (fun (acc : Array Nat) (p : Str) => acc ++ (txt []).cps ++ p.cps) (txt [c]).cps⟩ : Str) = txt (c :: r)
    rw [glue_fold]
    refine congrArg Str.mk ?_
    apply Array.ext'
    simp
theorem ones_sum (ws : List Nat) : ((ws.map fun l => txt [l]).map (·.length)).sum + (ws.map fun l => txt [l]).length * (txt []).length = ws.length := by
  have e : (txt []).length = 0 := rfl
  rw [e, Nat.mul_zero, Nat.add_zero, List.map_map]
  induction ws with
  | nil => rfl
  | cons c r ih =>
    rw [List.map_cons, List.sum_cons, ih, List.length_cons]
    have : ((fun x : Str => x.length) ∘ fun l => txt [l]) c = 1 := rfl
    rw [this]
    omega
theorem txts_map (ws : List Nat) : (ws.map fun l => V.str (txt [l])) = (ws.map fun l => txt [l]).map V.str := by
  rw [List.map_map]
  rfl
end Tr
/-! Lists of numbers and trays, compared -/
namespace Tr
open PySem PySem.Spec PyProof.Rows L2
theorem eqvAll_ints : ∀ a b : List Int, PyData.eqvAll (a.map PyData.int) (b.map PyData.int) = decide (a = b)
  | [], [] => rfl
  | [], y :: ys => by simp [PyData.eqvAll]
  | x :: xs, [] => by simp [PyData.eqvAll]
  | x :: xs, y :: ys => by
    rw [List.map_cons, List.map_cons, PyData.eqvAll, eqvAll_ints xs ys, PyData.eqv]
    by_cases e : x = y
    · subst e
      simp
    · simp [e]
theorem eqv_ints (a b : List Int) : PyData.eqv (.list (a.map PyData.int)) (.list (b.map PyData.int)) = decide (a = b) := by
  rw [PyData.eqv, eqvAll_ints]
theorem rowD_eq (C : Nat) (f : Fld) (i : Nat) : rowD C f i = .list (((List.range C).map fun j => f (i * C + j)).map PyData.int) := by
  unfold rowD
  rw [List.map_map]
  rfl
theorem eqv_rowD (C : Nat) (f g : Fld) (i : Nat) : PyData.eqv (rowD C f i) (rowD C g i) = decide (∀ j, j < C → f (i * C + j) = g (i * C + j)) := by
  rw [rowD_eq, rowD_eq, eqv_ints]
  refine decide_eq_decide.mpr ⟨fun h j hj => ?_, fun h => ?_⟩
  · have := congrArg (fun l : List Int => l[j]?) h
    simpa [List.getElem?_map, List.getElem?_range hj] using this
  · exact List.map_congr_left fun j hj => h j (List.mem_range.mp hj)
theorem eqvAll_rows (C : Nat) (f g : Fld) : ∀ ks : List Nat, PyData.eqvAll (ks.map (rowD C f)) (ks.map (rowD C g)) = decide (∀ k ∈ ks, ∀ j, j < C → f (k * C + j) = g (k * C + j))
  | [] => by simp [PyData.eqvAll]
  | k :: r => by
    rw [List.map_cons, List.map_cons, PyData.eqvAll, eqvAll_rows C f g r, eqv_rowD, ← Bool.decide_and]
    refine decide_eq_decide.mpr ⟨fun h x hx => ?_, fun h => ⟨h k List.mem_cons_self, fun x hx => h x (List.mem_cons_of_mem _ hx)⟩⟩
    rcases List.mem_cons.mp hx with rfl | hx
    · exact h.1
    · exact h.2 x hx
theorem eqv_trays (R C : Nat) (f g : Fld) : PyData.eqv (rowsD C f (List.range R)) (rowsD C g (List.range R)) = decide (∀ k, k < R * C → f k = g k) := by
  unfold rowsD
  rw [PyData.eqv, eqvAll_rows]
  refine decide_eq_decide.mpr ⟨fun h k hk => ?_, fun h i hi j hj => h _ (ix_lt (List.mem_range.mp hi) hj)⟩
  have hC : 0 < C := by
    rcases Nat.eq_zero_or_pos C with z | z
    · subst z
      simp at hk
    · exact z
  have h1 : k / C < R := by
    rw [Nat.div_lt_iff_lt_mul hC]
    exact hk
  have := h (k / C) (List.mem_range.mpr h1) (k % C) (Nat.mod_lt _ hC)
  rwa [Nat.mul_comm, Nat.div_add_mod] at this
/-! ### a flat list of rows of one length -/
theorem flat_get {α : Type} {C : Nat} : ∀ {L : List (List α)} {i j : Nat}, (∀ l ∈ L, l.length = C) → j < C → ∀ {l}, L[i]? = some l → L.flatten[i * C + j]? = l[j]?
  | [], i, j, _, _, l, h => by simp at h
  | x :: xs, 0, j, hl, hj, l, h => by
    have e : x = l := by simpa using h
    subst e
    have hx := hl x List.mem_cons_self
    rw [List.flatten_cons, Nat.zero_mul, Nat.zero_add, List.getElem?_append_left (by omega)]
  | x :: xs, i + 1, j, hl, hj, l, h => by
    have hx := hl x List.mem_cons_self
    have h : xs[i]? = some l := by simpa using h
    rw [List.flatten_cons, List.getElem?_append_right (by rw [hx, Nat.add_mul]; omega)]
    have e : (i + 1) * C + j - x.length = i * C + j := by
      rw [hx, Nat.add_mul]
      omega
    rw [e]
    exact flat_get (fun l m => hl l (List.mem_cons_of_mem _ m)) hj h
theorem flat_len {α : Type} {C : Nat} : ∀ {L : List (List α)}, (∀ l ∈ L, l.length = C) → L.flatten.length = L.length * C
  | [], _ => by simp
  | x :: xs, hl => by
    rw [List.flatten_cons, List.length_append, hl x List.mem_cons_self, flat_len fun l m => hl l (List.mem_cons_of_mem _ m), List.length_cons, Nat.add_mul]
    omega
end Tr
namespace Tr
open PySem PySem.Spec PyProof.Rows L2
def Uniq (R C : Nat) (f : Fld) (p : Nat) : Prop := ∀ k, k < R * C → f k = 0 → k = p
/-- a tray of at most six rows and columns, all its numbers each once, 0 at (r, c) -/
structure Good (R C : Nat) (s : Sl) : Prop where
  r0 : 0 < R
  r6 : R ≤ 6
  c0 : 0 < C
  c6 : C ≤ 6
  full : Full (R * C) s.1
  z : Zr R C s
theorem Good.uniq {R C : Nat} {s : Sl} (g : Good R C s) : Uniq R C s.1 (s.2.1 * C + s.2.2) := fun k hk e => full_inj g.full hk (ix_lt g.z.r g.z.c) (e.trans g.z.z.symm)
theorem Good.go {R C : Nat} {s s' : Sl} {ws : List Nat} (g : Good R C s) (h : goAll R C s ws = some s') : Good R C s' := ⟨g.r0, g.r6, g.c0, g.c6, goAll_full g.z h g.full, goAll_zr g.z h⟩
end Tr
/-! A tray's check, of whatever can be read -/
namespace Tr
open PySem PySem.Spec PyProof.Rows L2
theorem scCheckT : FnScope ["tray", "row", "number", "numbers"] ["tray"] (defScope d_check_tray) := ⟨rfl, rfl, rfl, by decide +kernel, rfl, by decide +kernel, by decide +kernel⟩
theorem rows36 {R C : Nat} (h1 : R ≤ 6) (h2 : C ≤ 6) : R * C ≤ 36 := Nat.mul_le_mul h1 h2
/-- of a kind that isinstance denies -/
def TyN (K : PySem.W.Frag) (H : Hp) (x : V) (ty : String) : Prop := ∃ t, TyX K H x t ∧ PySem.W.kitOne K t (.type ty) = some false
def IsL (H : Hp) (x : V) : Prop := ∃ r ys, x = .ref r ∧ H r = some (.lst ys)
/-- no list, now and later -/
def NL (H : Hp) (x : V) : Prop := (∀ r, x ≠ .ref r) ∨ ∃ r o, x = .ref r ∧ H r = some o ∧ ∀ ys, o ≠ .lst ys
theorem NL.no {H : Hp} {x : V} (n : NL H x) : ¬ IsL H x := by
  rintro ⟨r, ys, rfl, h⟩
  rcases n with n | ⟨r2, o, e, h2, n⟩
  · exact n r rfl
  · cases e
    rw [h] at h2
    cases h2
    exact n _ rfl
theorem NL.same {H H' : Hp} {x : V} (sm : Same H H') (n : NL H x) : NL H' x := by
  rcases n with n | ⟨r, o, e, h, n⟩
  · exact .inl n
  · exact .inr ⟨r, o, e, sm _ _ h, n⟩
def listOf (H : Hp) (x : V) : List V := match x with
  | .ref r => (match H r with
    | some (.lst ys) => ys
    | _ => [])
  | _ => []
theorem listOf_eq {H : Hp} {r : Addr} {ys : List V} (h : H r = some (.lst ys)) : listOf H (.ref r) = ys := by
  unfold listOf
  dsimp only
  rw [h]
structure Rd2 (K : PySem.W.Frag) (H : Hp) (xs : List V) : Prop where
  row : ∀ x ∈ xs, IsL H x ∨ (NL H x ∧ TyN K H x "list")
  num : ∀ x ∈ xs, ∀ y ∈ listOf H x, (∃ z, y = .int z) ∨ ((∀ z, y ≠ .int z) ∧ ((∃ b, y = .bl b) ∨ TyN K H y "int"))
/-- what stands there is a tray -/
def GoodL (H : Hp) (xs : List V) : Prop := ∃ (R C : Nat) (f : Fld), xs.length = R ∧ 0 < R ∧ R ≤ 6 ∧ 0 < C ∧ C ≤ 6 ∧ (∀ i x, xs[i]? = some x → ∃ r, x = .ref r ∧ H r = some (.lst (rowV C f i))) ∧ Full (R * C) f
def BadV (K : PySem.W.Frag) (H : Hp) (v : V) : Prop := (NL H v ∧ TyN K H v "list") ∨ ∃ a xs, v = .ref a ∧ H a = some (.lst xs) ∧ Rd2 K H xs ∧ ¬ GoodL H xs
/-- a tray's check, of anything -/
def spCheckTG (K : PySem.W.Frag) (CT : Addr) : Sp := fun vs H Q E => ∃ v, vs = [v] ∧
  ((BadV K H v ∧ ∀ H', Same H H' → E (.ref CT) none H') ∨
   (∃ a xs, v = .ref a ∧ H a = some (.lst xs) ∧ Rd2 K H xs ∧ GoodL H xs ∧ ∀ H', Same H H' → Q .non H'))
theorem decN {p : Prop} [Decidable p] {A B : Prop} (h1 : p → B) (h2 : ¬ p → A) : if (!decide p) = true then A else B := by
  by_cases h : p
  · exact iteNS h (h1 h)
  · rw [decide_eq_false h]
    exact iteT (h2 h)
theorem GoodL.isL {H : Hp} {xs : List V} {i : Nat} {x : V} (g : GoodL H xs) (h : xs[i]? = some x) : IsL H x := by
  obtain ⟨R, C, f, _, _, _, _, _, hr, _⟩ := g
  obtain ⟨r, rfl, e⟩ := hr i x h
  exact ⟨r, _, rfl, e⟩
theorem GoodL.len {H : Hp} {xs : List V} (g : GoodL H xs) : ∃ C, 0 < C ∧ C ≤ 6 ∧ ∀ (i : Nat) (x : V), xs[i]? = some x → (listOf H x).length = C := by
  obtain ⟨R, C, f, _, _, _, h0, h6, hr, _⟩ := g
  refine ⟨C, h0, h6, fun i x h => ?_⟩
  obtain ⟨r, rfl, e⟩ := hr i x h
  rw [listOf_eq e, rowV_len]
theorem IsL.same {H H' : Hp} {x : V} (sm : Same H H') (h : IsL H x) : IsL H' x := by
  obtain ⟨r, ys, e, h⟩ := h
  exact ⟨r, ys, e, sm _ _ h⟩
theorem tyof_same {K : PySem.W.Frag} {H H' : Hp} {x : V} {t : Value} (sm : Same H H') (h : TyOf K H x t) : TyOf K H' x t := by
  cases h with
  | non => exact .non
  | bl x => exact .bl x
  | int i => exact .int i
  | str x => exact .str x
  | flt x => exact .flt x
  | lst h => exact .lst (sm _ _ h)
  | frz h => exact .frz (sm _ _ h)
  | tup h => exact .tup (sm _ _ h)
  | dK h => exact .dK (sm _ _ h)
  | dT h => exact .dT (sm _ _ h)
  | ins h a b c d e => exact .ins (sm _ _ h) a b c d e
theorem tyx_same {K : PySem.W.Frag} {H H' : Hp} {x : V} {t : Value} (sm : Same H H') (h : TyX K H x t) : TyX K H' x t := by
  cases h with
  | base h => exact .base (tyof_same sm h)
  | byt b => exact .byt b
  | set h => exact .set (sm _ _ h)
  | kList a b => exact .kList a b
  | kTuple a b => exact .kTuple a b
  | kDict a b => exact .kDict a b
  | fTuple h => exact .fTuple (sm _ _ h)
  | fDict h => exact .fDict (sm _ _ h)
theorem TyN.same {K : PySem.W.Frag} {H H' : Hp} {x : V} {ty : String} (sm : Same H H') (h : TyN K H x ty) : TyN K H' x ty := by
  obtain ⟨t, a, b⟩ := h
  exact ⟨t, tyx_same sm a, b⟩
theorem listOf_no {H : Hp} {x : V} (h : ¬ IsL H x) : listOf H x = [] := by
  unfold listOf
  split
  · rename_i r
    split
    · rename_i ys e
      exact absurd ⟨r, ys, rfl, e⟩ h
    · rfl
  · rfl
theorem listOf_same {K : PySem.W.Frag} {H H' : Hp} {xs : List V} {x : V} (sm : Same H H') (R : Rd2 K H xs) (m : x ∈ xs) : listOf H' x = listOf H x := by
  rcases R.row x m with ⟨r, ys, rfl, h⟩ | ⟨n, _⟩
  · rw [listOf_eq h, listOf_eq (sm _ _ h)]
  · rw [listOf_no n.no, listOf_no (n.same sm).no]
theorem Rd2.same {K : PySem.W.Frag} {H H' : Hp} {xs : List V} (sm : Same H H') (R : Rd2 K H xs) : Rd2 K H' xs := by
  refine ⟨fun x m => ?_, fun x m y hy => ?_⟩
  · rcases R.row x m with h | ⟨n, t⟩
    · exact .inl (h.same sm)
    · exact .inr ⟨n.same sm, t.same sm⟩
  · rw [listOf_same sm R m] at hy
    rcases R.num x m y hy with h | ⟨n, h | t⟩
    · exact .inl h
    · exact .inr ⟨n, .inl h⟩
    · exact .inr ⟨n, .inr (t.same sm)⟩
theorem GoodL.back {K : PySem.W.Frag} {H H' : Hp} {xs : List V} (sm : Same H H') (R : Rd2 K H xs) (g : GoodL H' xs) : GoodL H xs := by
  obtain ⟨a, C, f, h1, h2, h3, h4, h5, hr, hF⟩ := g
  refine ⟨a, C, f, h1, h2, h3, h4, h5, fun i x e => ?_, hF⟩
  obtain ⟨r, rfl, e'⟩ := hr i x e
  have m := List.mem_of_getElem? e
  rcases R.row _ m with ⟨r2, ys, e2, h⟩ | ⟨n, _⟩
  · cases e2
    refine ⟨r, rfl, ?_⟩
    rw [sm _ _ h] at e'
    rw [h]
    exact e'
  · exact absurd ⟨r, _, rfl, e'⟩ (n.same sm).no
theorem BadV.same {K : PySem.W.Frag} {H H' : Hp} {v : V} (sm : Same H H') (b : BadV K H v) : BadV K H' v := by
  rcases b with ⟨n, t⟩ | ⟨a, xs, e, h, R, g⟩
  · exact .inl ⟨n.same sm, t.same sm⟩
  · exact .inr ⟨a, xs, e, sm _ _ h, R.same sm, fun z => g (z.back sm R)⟩
theorem ints_of : ∀ {vs : List V}, (∀ y ∈ vs, ∃ z, y = V.int z) → ∃ ns : List Int, vs = ns.map V.int
  | [], _ => ⟨[], rfl⟩
  | y :: r, h => by
    obtain ⟨z, rfl⟩ := h y List.mem_cons_self
    obtain ⟨ns, rfl⟩ := ints_of fun y m => h y (List.mem_cons_of_mem _ m)
    exact ⟨z :: ns, rfl⟩
theorem ints_inj : ∀ {a b : List Int}, a.map V.int = b.map V.int → a = b
  | [], [], _ => rfl
  | [], _ :: _, h => by cases h
  | _ :: _, [], h => by cases h
  | x :: a, y :: b, h => by
    rw [List.map_cons, List.map_cons] at h
    obtain ⟨e1, e2⟩ := List.cons.inj h
    rw [V.int.inj e1, ints_inj e2]
theorem flat_rows (C : Nat) (f : Fld) : ∀ R, ((List.range R).map (rowV C f)).flatten = (allV (R * C) f).map V.int
  | 0 => by
    rw [Nat.zero_mul]
    rfl
  | R + 1 => by
    rw [List.range_succ, List.map_append, List.flatten_append, flat_rows C f R, ← allV_rows]
    simp
theorem GoodL.flat {H : Hp} {xs : List V} (g : GoodL H xs) : ∃ n f, (xs.map (listOf H)).flatten = (allV n f).map V.int ∧ Full n f := by
  obtain ⟨R, C, f, hl, _, _, _, _, hr, hF⟩ := g
  refine ⟨R * C, f, ?_, hF⟩
  rw [← flat_rows]
  refine congrArg List.flatten ?_
  apply List.ext_getElem?
  intro i
  rw [List.getElem?_map, List.getElem?_map]
  by_cases hi : i < R
  · rw [List.getElem?_range hi, List.getElem?_eq_getElem (by omega)]
    obtain ⟨r, e1, e2⟩ := hr i _ (List.getElem?_eq_getElem (by omega))
    rw [e1]
    exact congrArg some (listOf_eq e2)
  · rw [List.getElem?_eq_none (by omega), List.getElem?_eq_none (by rw [List.length_range]; omega)]
    rfl
section
variable {P : Program} {w : World} {K : PySem.W.Frag} {mg : Str → Option Value} {base : Heap}
theorem ok_checkTG {fa CT : Addr} {fd : FuncData} {k : Nat} {t6 : Tok} (F : Fun K "check_tray" "check_tray" d_check_tray fa fd) (T : ExcT K mg "BadTray" CT) (gM : mg "MOST" = some (.int 6 t6)) (mI : mg "isinstance" = none) (mLi : mg "list" = none) (mL : mg "len" = none) (mInt : mg "int" = none) (mB : mg "bool" = none) (mSo : mg "sorted" = none) (mR : mg "range" = none) :
    FnOk P w K mg base (L2.CX P w) (k + 1) fa fd ["tray"] (spCheckTG K CT) := by
  refine F.okX scCheckT (fun vs H Q E h => ?_) (fun cdv A outer s H vs Q E hr h => ?_)
  · obtain ⟨v, rfl, _⟩ := h
    rfl
  · obtain ⟨v, rfl, h⟩ := h
    refine ⟨_, pss_cons (ps_if (PW.pt (pw_or (pt_not (pt_val (pe_callB call_isi (by rfl) mI (by decide +kernel) (pa_cons (pv 0) (pa_cons (pe_bltn (v := .ty "list") (by rfl) mLi (by decide +kernel) rfl) pa_nil)))))
          (pw_or1 (pt_not (pt_chain op_le op_le pe_int (pe_callB call_len_seq (by rfl) mL PySem.boot_len (pa_cons (pv 0) pa_nil)) (pe_glob (v := .int 6) rfl gM ⟨_, rfl⟩)))))) (pss_one (ps_raise rfl (takes_of rfl rfl rfl rfl) (pmk_own PySem.F.excBase_ValueError T.x T.g T.k (raises_own T.b T.t) rfl))) pss_nil)
      (pss_cons (ps_for (passes_of rfl) rfl (pi_list (pv 0)) (pg_name (i := 1) scCheckT.nd rfl (.inl rfl))
        (pss_cons (ps_if (PW.pt (pw_or (pt_not (pt_val (pe_callB call_isi (by rfl) mI (by decide +kernel) (pa_cons (pv 1) (pa_cons (pe_bltn (v := .ty "list") (by rfl) mLi (by decide +kernel) rfl) pa_nil)))))
            (pw_or1 (pt_not (pt_chain op_le op_le pe_int (pe_callB call_len_seq (by rfl) mL PySem.boot_len (pa_cons (pv 1) pa_nil)) (pe_glob (v := .int 6) rfl gM ⟨_, rfl⟩)))))) (pss_one (ps_raise rfl (takes_of rfl rfl rfl rfl) (pmk_own PySem.F.excBase_ValueError T.x T.g T.k (raises_own T.b T.t) rfl))) pss_nil)
        (pss_one (ps_if (pt_cmpR op_ne (pe_callB call_len_seq (by rfl) mL PySem.boot_len (pa_cons (pv 1) pa_nil)) (pe_callB call_len_seq (by rfl) mL PySem.boot_len (pa_cons (pe_ix ix_list (pv 0) pe_int (fun _ _ => rfl)) pa_nil)) (nomark _)) (pss_one (ps_raise rfl (takes_of rfl rfl rfl rfl) (pmk_own PySem.F.excBase_ValueError T.x T.g T.k (raises_own T.b T.t) rfl))) pss_nil))))
      (pss_cons (ps_setLc2 (i := 3) (own := [("row", 1), ("number", 2)]) (vs1 := [2]) (g := gName 1) (g1 := gName 2) (tt := tYes) (tt1 := tYes) (te := tVar 2) (wi1 := iList K (tVar 1)) rfl scCheckT.nd rfl rfl (sw_true rfl rfl rfl (by decide +kernel)) (pi_list (pv 0))
          (blkOk_by (own := [("row", 1), ("number", 2)]) (N := ["tray", "row", "number", "numbers"]) (sc := defScope d_check_tray) (by decide +kernel)) (by decide)
          (fun _ _ _ _ _ => pg_name (i := 1) scCheckT.nd rfl (.inl rfl)) (fun _ _ _ _ _ => pts_nil) (fun _ _ _ _ _ => pi_list (pv 1)) (fun _ _ _ _ _ => pg_name (i := 2) scCheckT.nd rfl (.inl rfl)) (fun _ _ _ _ _ => pts_nil) (fun _ _ _ _ _ => pv 2))
      (pss_cons (ps_for (passes_of rfl) rfl (pi_list (pv 3)) (pg_name (i := 2) scCheckT.nd rfl (.inl rfl))
        (pss_one (ps_if (PW.pt (pw_or (pt_not (pt_val (pe_callB call_isi (by rfl) mI (by decide +kernel) (pa_cons (pv 2) (pa_cons (pe_bltn (v := .ty "int") (by rfl) mInt (by decide +kernel) rfl) pa_nil)))))
          (pw_or1 (pt_val (pe_callB call_isi (by rfl) mI (by decide +kernel) (pa_cons (pv 2) (pa_cons (pe_bltn (v := .ty "bool") (by rfl) mB (by decide +kernel) rfl) pa_nil))))))) (pss_one (ps_raise rfl (takes_of rfl rfl rfl rfl) (pmk_own PySem.F.excBase_ValueError T.x T.g T.k (raises_own T.b T.t) rfl))) pss_nil)))
      (pss_one (ps_if (pt_cmpR (op_neD hr.units) (pe_callB cr_sorted (by rfl) mSo (by decide +kernel) (pa_cons (pv 3) pa_nil)) (pe_listRg rfl rfl mLi (prg_1 rfl mR (pe_callB call_len_seq (by rfl) mL PySem.boot_len (pa_cons (pv 3) pa_nil)))) (nomark _)) (pss_one (ps_raise rfl (takes_of rfl rfl rfl rfl) (pmk_own PySem.F.excBase_ValueError T.x T.g T.k (raises_own T.b T.t) rfl))) pss_nil))))), ?_⟩
    have hh : (NL H v ∧ TyN K H v "list" ∧ E (.ref CT) none H) ∨ ∃ a xs, v = .ref a ∧ H a = some (.lst xs) ∧ Rd2 K H xs ∧ (GoodL H xs → ∀ H', Same H H' → Q .non H') ∧ (¬ GoodL H xs → ∀ H', Same H H' → E (.ref CT) none H') := by
      rcases h with ⟨⟨hb, ht⟩ | ⟨a, xs, e1, e2, e3, e4⟩, qe⟩ | ⟨a, xs, e1, e2, e3, e4, q⟩
      · exact .inl ⟨hb, ht, qe _ (Same.refl H)⟩
      · exact .inr ⟨a, xs, e1, e2, e3, fun g => absurd g e4, fun _ => qe⟩
      · exact .inr ⟨a, xs, e1, e2, e3, fun _ => q, fun g => absurd e4 g⟩
    clear h
    rcases hh with ⟨hb, ⟨t, ty, hk⟩, qe⟩ | ⟨a, xs, rfl, hA, hR, q, qe⟩
    · exact ⟨_, rfl, v, .ty "list", t, .type "list", false, rfl, .ty "list", ty, hk, _, rfl, iteT qe⟩
    -- isinstance(tray, list), 1 <= len(tray) <= MOST
    refine ⟨_, rfl, .ref a, .ty "list", .type "list", .type "list", true, rfl, .ty "list", .base (.lst hA), kit_ty (by decide +kernel), _, rfl, iteF ?_⟩
    refine ⟨.ref a, rfl, a, _, rfl, .inl (SqL.of hA), 1, _, rfl, rfl, _, rfl, ?_⟩
    refine decI (fun h1 => ?_) (fun z => ?_)
    case refine_2 =>
      refine ⟨_, rfl, iteT ?_⟩
      refine qe (fun g => ?_) _ (Same.refl H)
      obtain ⟨R, C, f, hl, h0, _⟩ := g
      exact z (by omega)
    refine ⟨_, 6, rfl, rfl, _, rfl, ?_⟩
    refine decN (fun h6 => ?_) (fun h6 => ?_)
    case refine_2 =>
      refine qe (fun g => ?_) _ (Same.refl H)
      obtain ⟨R, C, f, hl, h0, hr6, _⟩ := g
      exact h6 (by omega)
    have hx0 : ∃ x0, xs[0]? = some x0 := by
      cases xs with
      | nil => simp at h1
      | cons x r => exact ⟨x, rfl⟩
    obtain ⟨x0, hx0⟩ := hx0
    -- the rows
    refine ⟨_, rfl, a, rfl, ⟨_, SqL.of hA⟩, for_list (K := K) (a := a) (xs := xs) (fun i σ H' => H' = H ∧ (∃ v, σ = [some (.ref a), v, none, none]) ∧ ∀ j x, j < i → xs[j]? = some x → IsL H x ∧ (listOf H x).length = (listOf H x0).length ∧ 0 < (listOf H x).length ∧ (listOf H x).length ≤ 6) ⟨rfl, ⟨none, rfl⟩, fun j x hj => absurd hj (Nat.not_lt_zero _)⟩ (fun i σ H' _ p => p.1 ▸ SqL.of hA) ?_ ?_⟩
    · rintro i x σ H' hx ⟨rfl, ⟨v, rfl⟩, hp⟩
      have hm := List.mem_of_getElem? hx
      rcases hR.row x hm with ⟨r, ys, rfl, hr'⟩ | ⟨hn, t, ty, hk⟩
      case inr =>
        exact ⟨_, rfl, x, .ty "list", t, .type "list", false, rfl, .ty "list", ty, hk, _, rfl, iteT (qe (fun g => hn.no (g.isL hx)) _ (Same.refl H'))⟩
      have hlo := listOf_eq hr'
      refine ⟨_, rfl, .ref r, .ty "list", .type "list", .type "list", true, rfl, .ty "list", .base (.lst hr'), kit_ty (by decide +kernel), _, rfl, iteF ?_⟩
      refine ⟨.ref r, rfl, r, _, rfl, .inl (SqL.of hr'), 1, _, rfl, rfl, _, rfl, ?_⟩
      refine decI (fun k1 => ?_) (fun z => ?_)
      case refine_2 =>
        refine ⟨_, rfl, iteT ?_⟩
        refine qe (fun g => ?_) _ (Same.refl H')
        obtain ⟨C, c0, c6, hc⟩ := g.len
        have := hc i _ hx
        rw [hlo] at this
        exact z (by omega)
      refine ⟨_, 6, rfl, rfl, _, rfl, ?_⟩
      refine decN (fun k6 => ?_) (fun z => ?_)
      case refine_2 =>
        refine qe (fun g => ?_) _ (Same.refl H')
        obtain ⟨C, c0, c6, hc⟩ := g.len
        have := hc i _ hx
        rw [hlo] at this
        exact z (by omega)
      -- len(row) != len(tray[0])
      have hx0L : IsL H' x0 := by
        cases i with
        | zero =>
          rw [hx0] at hx
          cases hx
          exact ⟨r, ys, rfl, hr'⟩
        | succ i => exact (hp 0 x0 (Nat.succ_pos _) hx0).1
      obtain ⟨r0, ys0, rfl, hr0⟩ := hx0L
      have hlo0 := listOf_eq hr0
      refine ⟨.ref r, rfl, r, _, rfl, .inl (SqL.of hr'), .ref a, rfl, a, _, 0, _, rfl, rfl, SqL.of hA, atI_nat (j := 0) hx0, r0, _, rfl, .inl (SqL.of hr0), rfl, _, rfl, ?_⟩
      refine decN (fun e => ?_) (fun z => ?_)
      case refine_2 =>
        refine qe (fun g => ?_) _ (Same.refl H')
        obtain ⟨C, c0, c6, hc⟩ := g.len
        have e1 := hc i _ hx
        have e0 := hc 0 _ hx0
        rw [hlo] at e1
        rw [hlo0] at e0
        exact z (by rw [e1, e0])
      have e : ys.length = ys0.length := by
        have := V.int.inj e
        omega
      refine ⟨rfl, ⟨_, rfl⟩, fun j x hj hxj => ?_⟩
      by_cases y : j = i
      · subst y
        rw [hx] at hxj
        cases hxj
        rw [hlo, hlo0]
        exact ⟨⟨r, ys, rfl, hr'⟩, e, by omega, by omega⟩
      · exact hp j x (by omega) hxj
    · rintro σ H' ⟨rfl, ⟨v, rfl⟩, hp⟩
      -- numbers
      have hall : ∀ x ∈ xs, IsL H' x ∧ (listOf H' x).length = (listOf H' x0).length ∧ 0 < (listOf H' x).length ∧ (listOf H' x).length ≤ 6 := fun x m => by
        obtain ⟨j, hj, e⟩ := List.getElem_of_mem m
        exact hp j x hj (by rw [← e]; exact List.getElem?_eq_getElem hj)
      generalize hCe : (listOf H' x0).length = C at hall
      have hm0 := hall x0 (List.mem_of_getElem? hx0)
      have hC0 : 0 < C := by
        have := hm0.2.2.1
        omega
      have hC6 : C ≤ 6 := by
        have := hm0.2.2.2
        omega
      have hlen6 : xs.length ≤ 6 := by omega
      have hCl : ∀ ys ∈ xs.map (listOf H'), ys.length = C := fun ys m => by
        obtain ⟨x, hx, rfl⟩ := List.mem_map.mp m
        exact (hall x hx).2.1
      have hFl : ((xs.map (listOf H')).flatten).length = xs.length * C := by
        rw [flat_len hCl, List.length_map]
      have h36 := rows36 hlen6 hC6
      refine ⟨_, rfl, a, rfl, ⟨_, SqL.of hA⟩, fun D nD => ?_⟩
      refine lc_gen (walk_list (K := K) (a := a) (xs := xs)) (fun i H1 => Same H' H1 ∧ H1 D = some (.lst ((xs.take i).map (listOf H')).flatten)) ⟨same_upd nD, by rw [upd_same]; rfl⟩ (fun i H1 _ p => p.1.seq (SqL.of hA)) ?_ ?_
      · rintro i x H1 H2 hi ⟨sm, hD⟩ ⟨rfl, hx⟩
        obtain ⟨⟨r, ys, rfl, hr'⟩, hxl, _, hx6⟩ := hall x (List.mem_of_getElem? hx)
        have hlo := listOf_eq hr'
        rw [hlo] at hxl hx6
        refine ⟨rfl, ?_⟩
        have s3 := sm _ _ hr'
        refine ⟨_, rfl, r, rfl, ⟨_, SqL.of s3⟩, ?_⟩
        refine lc_gen (walk_list (K := K) (a := r) (xs := ys)) (fun j H3 => Same H' H3 ∧ H3 D = some (.lst (((xs.take i).map (listOf H')).flatten ++ ys.take j))) ⟨sm, by rw [hD, List.take_zero, List.append_nil]⟩ (fun j H3 _ p => p.1.seq (SqL.of hr')) ?_ ?_
        · rintro j y H3 H4 hj ⟨sm3, hD3⟩ ⟨rfl, hy⟩
          refine ⟨rfl, ?_⟩
          refine ⟨_, rfl, _, hD3, ?_, ?_, ?_⟩
          · rw [List.length_append, flat_len (C := C) (fun l m => hCl l (by
              obtain ⟨z, hz, e⟩ := List.mem_map.mp m
              exact List.mem_map.mpr ⟨z, List.mem_of_mem_take hz, e⟩)), List.length_map, List.length_take, List.length_take]
            refine small1000 ?_
            have : min i xs.length * C ≤ xs.length * C := Nat.mul_le_mul_right C (Nat.min_le_right _ _)
            omega
          · intro b o e
            rw [upd_ne (ne_of_none e nD)]
            exact sm3 _ _ e
          · rw [upd_same, take_more hy, List.append_assoc]
        · rintro H3 ⟨sm3, hD3⟩
          refine ⟨sm3, ?_⟩
          rw [hD3, List.take_length, take_more hx, List.map_append, List.flatten_append]
          simp [hlo]
      · rintro H1 ⟨sm, hD⟩
        rw [List.take_length] at hD
        have hnum : ∀ y ∈ (xs.map (listOf H')).flatten, (∃ z, y = .int z) ∨ ((∀ z, y ≠ .int z) ∧ ((∃ b, y = .bl b) ∨ TyN K H' y "int")) := fun y m => by
          obtain ⟨l, hl, hy⟩ := List.mem_flatten.mp m
          obtain ⟨x, hx, rfl⟩ := List.mem_map.mp hl
          exact hR.num x hx y hy
        have hgi : GoodL H' xs → ∀ y ∈ (xs.map (listOf H')).flatten, ∃ z, y = V.int z := fun g y m => by
          obtain ⟨n, f, e, _⟩ := g.flat
          rw [e] at m
          obtain ⟨z, _, e⟩ := List.mem_map.mp m
          exact ⟨z, e.symm⟩
        have hget : ∀ (i : Nat) (r : Addr) (x : V), xs[i]? = some x → x = .ref r → ∀ j, j < C → (listOf H' x)[j]? = ((xs.map (listOf H')).flatten)[i * C + j]? := fun i r x hx _ j hj => by
          rw [flat_get hCl hj (i := i) (l := listOf H' x) (by rw [List.getElem?_map, hx]; rfl)]
        generalize hFe : (xs.map (listOf H')).flatten = Fl at hD hFl hnum hgi hget
        -- every number
        refine ⟨_, rfl, D, rfl, ⟨_, SqL.of hD⟩, for_list (K := K) (a := D) (xs := Fl) (fun i σ H2 => H2 = H1 ∧ (∃ v u, σ = [some (.ref a), v, u, some (.ref D)]) ∧ ∀ j y, j < i → Fl[j]? = some y → ∃ z, y = V.int z) ⟨rfl, ⟨_, _, rfl⟩, fun j y hj => absurd hj (Nat.not_lt_zero _)⟩ (fun i σ H2 _ p => p.1 ▸ SqL.of hD) ?_ ?_⟩
        · rintro i y σ H2 hy ⟨rfl, ⟨v, u, rfl⟩, hz⟩
          have hm := List.mem_of_getElem? hy
          rcases hnum y hm with ⟨z, rfl⟩ | ⟨hni, hbt⟩
          · refine ⟨_, rfl, .int z, .ty "int", .type "int", .type "int", true, rfl, .ty "int", .base (.int _), kit_ty (by decide +kernel), _, rfl, iteF ?_⟩
            refine ⟨_, rfl, .int z, .ty "bool", .type "int", .type "bool", false, rfl, .ty "bool", .base (.int _), kit_ty (by decide +kernel), _, rfl, iteF ?_⟩
            refine ⟨rfl, ⟨_, _, rfl⟩, fun j y' hj hy' => ?_⟩
            by_cases e : j = i
            · subst e
              rw [hy] at hy'
              cases hy'
              exact ⟨z, rfl⟩
            · exact hz j y' (by omega) hy'
          · have hng : ¬ GoodL H' xs := fun g => by
              obtain ⟨z, e⟩ := hgi g y hm
              exact hni z e
            rcases hbt with ⟨b, rfl⟩ | ⟨t, ty, hk⟩
            · refine ⟨_, rfl, .bl b, .ty "int", .type "bool", .type "int", true, rfl, .ty "int", .base (.bl _), kit_ty (by decide +kernel), _, rfl, iteF ?_⟩
              exact ⟨_, rfl, .bl b, .ty "bool", .type "bool", .type "bool", true, rfl, .ty "bool", .base (.bl _), kit_ty (by decide +kernel), _, rfl, iteT (qe hng _ sm)⟩
            · exact ⟨_, rfl, y, .ty "int", t, .type "int", false, rfl, .ty "int", tyx_same sm ty, hk, _, rfl, iteT (qe hng _ sm)⟩
        · rintro σ H2 ⟨rfl, ⟨v, u, rfl⟩, hz⟩
          have hFi : ∀ y ∈ Fl, ∃ z, y = V.int z := fun y m => by
            obtain ⟨j, hj, e⟩ := List.getElem_of_mem m
            exact hz j y hj (by rw [← e]; exact List.getElem?_eq_getElem hj)
          obtain ⟨ns, rfl⟩ := ints_of hFi
          have hn : ns.length = xs.length * C := by
            rw [← hFl, List.length_map]
          -- sorted(numbers) != list(range(len(numbers)))
          refine ⟨_, rfl, D, _, rfl, SqL.of hD, by omega, fun ns' p hpm hs np => ?_⟩
          have s4 : Same H2 (upd H2 p (.lst (ns'.map V.int))) := same_upd np
          refine ⟨_, rfl, D, _, rfl, .inl (s4.seq (SqL.of hD)), _, rfl, ?_, fun p2 np2 => ?_⟩
          · rw [hFl]
            exact RgOk.of_le (by omega) (by omega) (by omega) (by omega)
          · rw [hFl]
            have e2 : rgV 0 ((xs.length * C : Nat) : Int) = ((List.range (xs.length * C)).map fun k : Nat => (k : Int)).map V.int := by
              unfold rgV
              rw [List.map_map, Int.sub_zero, Int.toNat_natCast]
              refine List.map_congr_left fun k _ => ?_
              show V.int (0 + (k : Int)) = V.int k
              rw [Int.zero_add]
            rw [e2]
            have np12 : p ≠ p2 := fun e => by
              rw [← e, upd_same] at np2
              cases np2
            refine ⟨.list (ns'.map PyData.int), .list (((List.range (xs.length * C)).map fun k : Nat => (k : Int)).map PyData.int), .lst (SqL.of (by rw [upd_ne np12, upd_same])) (dp_ints _), .lst (SqL.of upd_same) (dp_ints _), PySem.W.shaped_ints _, PySem.W.shaped_ints _, _, rfl, ?_⟩
            rw [eqv_ints]
            have smm : Same H' (upd (upd H2 p (.lst (ns'.map V.int))) p2 (.lst (((List.range (xs.length * C)).map fun k : Nat => (k : Int)).map V.int))) := (sm.trans s4).trans (same_upd np2)
            refine decN (fun e => ?_) (fun z => ?_)
            · refine q ⟨xs.length, C, fun k => ns.getD k 0, rfl, by omega, hlen6, hC0, hC6, fun i x hx => ?_, ?_⟩ _ smm
              · obtain ⟨⟨r, ys, rfl, hr'⟩, hxl, _, _⟩ := hall x (List.mem_of_getElem? hx)
                have hi : i < xs.length := (List.getElem?_eq_some_iff.mp hx).1
                have hlo := listOf_eq hr'
                refine ⟨r, rfl, ?_⟩
                rw [hr']
                refine congrArg (fun l => some (HO.lst l)) ?_
                rw [← hlo]
                apply List.ext_getElem?
                intro j
                by_cases hj : j < C
                · rw [hget i r _ hx rfl j hj, rowV_get hj, List.getElem?_map]
                  have hb : i * C + j < ns.length := by
                    rw [hn]
                    exact ix_lt hi hj
                  rw [List.getElem?_eq_getElem hb]
                  show some (V.int ns[i * C + j]) = some (V.int (ns.getD (i * C + j) 0))
                  rw [List.getD_eq_getElem?_getD, List.getElem?_eq_getElem hb]
                  rfl
                · rw [List.getElem?_eq_none (by omega), List.getElem?_eq_none (by rw [rowV_len]; omega)]
              · show (allV (xs.length * C) _).Perm _
                have ea : allV (xs.length * C) (fun k => ns.getD k 0) = ns := by
                  unfold allV
                  apply List.ext_getElem
                  · rw [List.length_map, List.length_range, hn]
                  · intro k k1 k2
                    rw [List.getElem_map, List.getElem_range, List.getD_eq_getElem?_getD, List.getElem?_eq_getElem k2]
                    rfl
                rw [ea, ← e]
                exact hpm.symm
            · refine qe (fun g => ?_) _ smm
              obtain ⟨n, f, e, hF⟩ := g.flat
              have hne := ints_inj (hFe.symm.trans e)
              have hnn : n = xs.length * C := by
                have := congrArg List.length hne
                unfold allV at this
                rw [List.length_map, List.length_range] at this
                omega
              subst hnn
              refine z (PySem.W.ksm_same (hpm.trans ?_) hs ?_)
              · rw [hne]
                exact hF
              · rw [List.pairwise_map]
                refine List.Pairwise.imp ?_ List.pairwise_lt_range
                intro x y h
                omega
end
end Tr
namespace Tr
open PySem PySem.Spec PyProof.Rows L2
theorem scCheckS : FnScope ["slides", "letter"] ["slides"] (defScope d_check_slides) := ⟨rfl, rfl, rfl, by decide +kernel, rfl, by decide +kernel, by decide +kernel⟩
/-- a slides' check, of anything -/
def spCheckSG (K : PySem.W.Frag) (CS : Addr) : Sp := fun vs H Q E => ∃ v, vs = [v] ∧ ((TyN K H v "str" ∧ ∀ H', Same H H' → E (.ref CS) none H') ∨
  ∃ (ws : List Nat), v = .str (txt ws) ∧ ((∀ l ∈ ws, okL l) → Q .non H) ∧ ((∃ l ∈ ws, ¬ okL l) → E (.ref CS) none H))
section
variable {P : Program} {w : World} {K : PySem.W.Frag} {mg : Str → Option Value} {base : Heap}
theorem ok_checkSG {fa dS CS : Addr} {fd : FuncData} {k : Nat} (F : Fun K "check_slides" "check_slides" d_check_slides fa fd) (gS : mg "STEPS" = some (.ref dS)) (S : StepsD K w dS) (mI : mg "isinstance" = none) (mS : mg "str" = none) (T : ExcT K mg "BadSlides" CS) :
    FnOk P w K mg base (L2.CX P w) (k + 1) fa fd ["slides"] (spCheckSG K CS) := by
  refine F.okX scCheckS (fun vs H Q E h => ?_) (fun cdv A outer s H vs Q E hr h => ?_)
  · obtain ⟨v, rfl, _⟩ := h
    rfl
  · obtain ⟨v, rfl, hv⟩ := h
    obtain ⟨es, n, D⟩ := S.ex
    refine ⟨_, pss_cons (ps_if (pt_not (pt_val (pe_callB call_isi (by rfl) mI (by decide +kernel) (pa_cons (pv 0) (pa_cons (pe_bltn (v := .ty "str") (by rfl) mS (by decide +kernel) rfl) pa_nil)))))
        (pss_one (ps_raise rfl (takes_of rfl rfl rfl rfl) (pmk_own PySem.F.excBase_ValueError T.x T.g T.k (raises_own T.b T.t) rfl))) pss_nil)
      (pss_one (ps_for (passes_of rfl) rfl (pi_str (pv 0)) (pg_name (i := 1) scCheckS.nd rfl (.inl rfl))
        (pss_one (ps_if (pt_cmpR (op_notIn_kd D) (pv 1) (pe_glob (v := .ref dS) rfl gS rfl) rfl)
          (pss_one (ps_raise rfl (takes_of rfl rfl rfl rfl) (pmk_own PySem.F.excBase_ValueError T.x T.g T.k (raises_own T.b T.t) rfl))) pss_nil)))), ?_⟩
    rcases hv with ⟨⟨t, ty, hk⟩, qe⟩ | ⟨ws, rfl, q, qe⟩
    · exact ⟨_, rfl, v, .ty "str", t, .type "str", false, rfl, .ty "str", ty, hk, _, rfl, iteT (qe _ (Same.refl H))⟩
    refine ⟨_, rfl, .str (txt ws), .ty "str", .type "str", .type "str", true, rfl, .ty "str", .base (.str _), kit_ty (by decide +kernel), _, rfl, iteF ?_⟩
    refine ⟨_, rfl, _, rfl, for_it walk_str (fun i σ H' => H' = H ∧ ∃ v, σ = [some (.str (txt ws)), v] ∧ ∀ j l, j < i → ws[j]? = some l → okL l) ⟨rfl, none, rfl, fun j l hj => absurd hj (Nat.not_lt_zero _)⟩ (fun _ _ _ _ _ => True.intro) ?_ ?_⟩
    · rintro i x σ H1 H2 hi ⟨rfl, v, rfl, hok⟩ ⟨rfl, c, hc, rfl⟩
      have hc : ws[i]? = some c := by simpa using hc
      by_cases z : okL c
      · obtain ⟨v, e⟩ := S.yes c z
        refine ⟨_, rfl, txt [c], some v, rfl, rfl, e, _, rfl, iteF ⟨rfl, some (.str (txt [c])), rfl, fun j l hj hl => ?_⟩⟩
        by_cases y : j = i
        · subst y
          rw [hc] at hl
          cases hl
          exact z
        · exact hok j l (by omega) hl
      · exact ⟨_, rfl, txt [c], none, rfl, rfl, S.no c z, _, rfl, iteT (qe ⟨c, List.mem_of_getElem? hc, z⟩)⟩
    · rintro σ H1 ⟨rfl, v, rfl, hok⟩
      refine q fun l hl => ?_
      obtain ⟨j, hj, e⟩ := List.getElem_of_mem hl
      refine hok j l ?_ (by rw [← e]; exact List.getElem?_eq_getElem hj)
      simpa using hj
end
end Tr
namespace Tr
open PySem PySem.Spec PyProof.Rows L2
theorem in_row_true {C : Nat} {f : Fld} {i j : Nat} (hj : j < C) (h : f (i * C + j) = 0) : inV (.int 0) (rowV C f i) = true := by
  unfold inV
  rw [List.any_eq_true]
  refine ⟨.int (f (i * C + j)), List.mem_of_getElem? (rowV_get hj), ?_⟩
  rw [h]
  rfl
theorem in_row_false {C : Nat} {f : Fld} {i : Nat} (h : ∀ j, j < C → f (i * C + j) ≠ 0) : inV (.int 0) (rowV C f i) = false := by
  unfold inV
  rw [List.any_eq_false]
  intro x hx
  unfold rowV at hx
  obtain ⟨j, hj, rfl⟩ := List.mem_map.mp hx
  intro e
  have e : decide (f (i * C + j) = 0) = true := e
  exact h j (List.mem_range.mp hj) (of_decide_eq_true e)
theorem row_flat (C : Nat) (f : Fld) (i : Nat) : (rowV C f i).all flatV = true := by
  rw [List.all_eq_true]
  intro x hx
  unfold rowV at hx
  obtain ⟨j, hj, rfl⟩ := List.mem_map.mp hx
  rfl
theorem scEmpty : FnScope ["tray", "row", "numbers"] ["tray"] (defScope d_empty_place) := ⟨rfl, rfl, rfl, by decide +kernel, rfl, by decide +kernel, by decide +kernel⟩
def spEmpty : Sp := fun vs H Q _ => ∃ (a : Addr) (rs : List Addr) (R C : Nat) (f : Fld) (r c : Nat), vs = [.ref a] ∧ TrayAt H a rs R C f ∧ Zr R C (f, r, c) ∧ Uniq R C f (r * C + c) ∧ R ≤ 1000 ∧
  ∀ H' p, Same H H' → H p = none → H' p = some (.tup [.int r, .int c]) → Q (.ref p) H'
section
variable {P : Program} {w : World} {K : PySem.W.Frag} {mg : Str → Option Value} {base : Heap}
theorem ok_empty {fa : Addr} {fd : FuncData} {k : Nat} (F : Fun K "empty_place" "empty_place" d_empty_place fa fd) :
    FnOk P w K mg base CX0 (k + 1) fa fd ["tray"] spEmpty := by
  refine F.ok scEmpty (fun vs H Q E h => ?_) (fun cdv A outer s H vs Q E hr h => ?_)
  · obtain ⟨a, rs, R, C, f, r, c, rfl, _⟩ := h
    rfl
  · obtain ⟨a, rs, R, C, f, r, c, rfl, T, Z, U, hR, q⟩ := h
    refine ⟨_, pss_cons (ps_set (i := 1) scEmpty.nd rfl (.inl rfl) (pe_bm PySem.F.plainAttrs_list PySem.F.slot_list_index PySem.F.type_list_index mt_index
        (pe_lc (own := [("numbers", 2)]) (g := gName 2) (tt := tYes) rfl scEmpty.nd (pi_list (pv 0)) (blkOk_by (own := [("numbers", 2)]) (N := ["tray", "row", "numbers"]) (sc := defScope d_empty_place) (by decide +kernel))
          (fun _ _ _ _ _ => pg_name (i := 2) scEmpty.nd rfl (.inl rfl)) (fun _ _ _ _ _ => pts_nil) (fun _ _ _ _ _ => pe_cmpR (r := rIn K false) op_in_seq pe_int (pv 2) rfl)) (pa_cons pe_bl pa_nil)))
      (pss_one (ps_ret (pe_tup (pa_cons (pv 1) (pa_cons (pe_bm PySem.F.plainAttrs_list PySem.F.slot_list_index PySem.F.type_list_index mt_index (pe_ix ix_list (pv 0) (pv 1) (fun _ _ => rfl)) (pa_cons pe_int pa_nil)) pa_nil))))), ?_⟩
    have hrr : r < R := Z.r
    have hcc : c < C := Z.c
    have hz : f (r * C + c) = 0 := Z.z
    refine ⟨_, rfl, a, rfl, ⟨_, SqL.of T.top⟩, fun D nD => lc_list (K := K) (a := a) (xs := rs.map V.ref) (fun i H' => H' D = some (.lst ((List.range i).map fun i => V.bl (inV (.int 0) (rowV C f i)))) ∧ Same H H') ?_ ?_ ?_ ?_⟩
    · exact ⟨by rw [upd_same]; rfl, same_upd nD⟩
    · exact fun i H' _ p => p.2.seq (SqL.of T.top)
    · rintro i x H' hx ⟨hD, sm⟩
      have hi : i < R := by
        have := (List.getElem?_eq_some_iff.mp hx).1
        rw [List.length_map, T.len] at this
        exact this
      obtain ⟨ri, g1, g2, g3⟩ := T.get hi
      rw [g2] at hx
      cases hx
      refine ⟨rfl, ?_⟩
      refine ⟨_, rfl, ri, _, rfl, .inl (SqL.of (sm _ _ g3)), rfl, row_flat _ _ _, _, hD, ?_, ?_, ?_⟩
      · rw [List.length_map, List.length_range]
        exact small1000 (by omega)
      · rw [upd_same, List.range_succ, List.map_append]
        rfl
      · intro b o e
        rw [upd_ne (ne_of_none e nD)]
        exact sm _ _ e
    · rintro H' ⟨hD, sm⟩
      rw [List.length_map, T.len] at hD
      have T' := T.mono sm
      obtain ⟨ri, g1, g2, g3⟩ := T'.get hrr
      refine ⟨.inl ⟨rfl, _, SqL.of hD⟩, D, _, .bl true, r, .bl true, rfl, rfl, SqL.of hD, rfl, ?_, ?_, rfl, ?_, ?_⟩
      · rw [List.all_eq_true]
        intro x hx
        obtain ⟨j, hj, rfl⟩ := List.mem_map.mp hx
        rfl
      · rw [List.getElem?_map, List.getElem?_range hrr]
        show some (V.bl _) = _
        rw [in_row_true hcc hz]
      · intro m z' hm e
        rw [List.getElem?_map, List.getElem?_range (by omega)] at e
        have e := Option.some.inj e
        subst e
        show eqV (V.bl (inV (.int 0) (rowV C f m))) (.bl true) = false
        rw [in_row_false]
        · rfl
        · intro j hj e
          obtain ⟨e1, _⟩ := ix_inj hj hcc (U _ (ix_lt (by omega) hj) e)
          omega
      · refine ⟨_, rfl, .ref a, rfl, _, rfl, a, _, (r : Int), _, rfl, rfl, SqL.of T'.top, atI_nat g2, .inl ⟨rfl, _, SqL.of g3⟩, ri, _, .int 0, c, .int 0, rfl, rfl, SqL.of g3, rfl, row_flat _ _ _, ?_, rfl, ?_, ?_⟩
        · rw [rowV_get hcc, hz]
        · intro m z' hm e
          rw [rowV_get (by omega)] at e
          have e := Option.some.inj e
          subst e
          show decide (f (r * C + m) = 0) = false
          refine decide_eq_false fun e => ?_
          have := U _ (ix_lt hrr (by omega)) e
          omega
        · refine ⟨(by show 2 ≤ sizeLine; decide), fun p hp => q _ p (sm.trans (same_upd hp)) (sm.free hp) upd_same⟩
end
end Tr
namespace Tr
open PySem PySem.Spec PyProof.Rows L2
theorem scBeside : FnScope ["tray", "row", "column", "letter", "down", "right"] ["tray", "row", "column", "letter"] (defScope d_place_beside) := ⟨rfl, rfl, rfl, by decide +kernel, rfl, by decide +kernel, by decide +kernel⟩
def spBeside : Sp := fun vs H Q _ => ∃ (a : Addr) (rs : List Addr) (R C : Nat) (f : Fld) (r c l : Nat), vs = [.ref a, .int r, .int c, .str (txt [l])] ∧ TrayAt H a rs R C f ∧ 0 < R ∧ okL l ∧
  (∀ r' c', nxt R C r c l = some (r', c') → ∀ H' p, Same H H' → H p = none → H' p = some (.tup [.int r', .int c']) → Q (.ref p) H') ∧ (nxt R C r c l = none → Q .non H)
section
variable {P : Program} {w : World} {K : PySem.W.Frag} {mg : Str → Option Value} {base : Heap}
theorem ok_beside {fa dS : Addr} {fd : FuncData} {k : Nat} (F : Fun K "place_beside" "place_beside" d_place_beside fa fd) (gS : mg "STEPS" = some (.ref dS)) (S : StepsD K w dS) (mL : mg "len" = none) :
    FnOk P w K mg base CX0 (k + 1) fa fd ["tray", "row", "column", "letter"] spBeside := by
  refine F.ok scBeside (fun vs H Q E h => ?_) (fun cdv A outer s H vs Q E hr h => ?_)
  · obtain ⟨a, rs, R, C, f, r, c, l, rfl, _⟩ := h
    rfl
  · obtain ⟨a, rs, R, C, f, r, c, l, rfl, T, hR, hw, q, qn⟩ := h
    refine ⟨_, pss_cons (ps_asg (pe_ix ix_kdict (pe_glob (v := .ref dS) rfl gS rfl) (pv 3) (fun _ _ => rfl)) (pg_tup rfl (pgs_cons (pg_name (i := 4) scBeside.nd rfl (.inl rfl)) (pgs_cons (pg_name (i := 5) scBeside.nd rfl (.inl rfl)) pgs_nil))))
      (pss_cons (ps_set (i := 1) scBeside.nd rfl (.inl rfl) (pe_op op_add (pv 1) (pv 4)))
      (pss_cons (ps_set (i := 2) scBeside.nd rfl (.inl rfl) (pe_op op_add (pv 2) (pv 5)))
      (pss_cons (ps_if (PW.pt (pw_and (pt_chain op_le op_lt pe_int (pv 1) (pe_callB call_len_seq (by rfl) mL PySem.boot_len (pa_cons (pv 0) pa_nil)))
          (pw_and1 (pt_chain op_le op_lt pe_int (pv 2) (pe_callB call_len_seq (by rfl) mL PySem.boot_len (pa_cons (pe_ix ix_list (pv 0) pe_int (fun _ _ => rfl)) pa_nil))))))
        (pss_one (ps_ret (pe_tup (pa_cons (pv 1) (pa_cons (pv 2) pa_nil))))) pss_nil)
      (pss_one (ps_ret pe_non))))), ?_⟩
    obtain ⟨t, hk, ht⟩ := S.at_ l hw
    obtain ⟨r0, g1, g2, g3⟩ := T.get (i := 0) hR
    have hlen : ((rs.map V.ref).length : Int) = R := by rw [List.length_map, T.len]
    refine ⟨_, rfl, dS, _, _, rfl, rfl, hk, t, _, rfl, ht _, rfl, _, _, rfl, _, _, rfl, rfl, ?_⟩
    refine ⟨_, rfl, _, rfl, r, (stp l).1, rfl, rfl, ?_⟩
    refine ⟨_, rfl, _, rfl, c, (stp l).2, rfl, rfl, ?_⟩
    refine ⟨_, rfl, 0, (r : Int) + (stp l).1, rfl, rfl, _, rfl, ?_⟩
    have nn : ¬ (0 ≤ (r : Int) + (stp l).1 ∧ (r : Int) + (stp l).1 < R ∧ 0 ≤ (c : Int) + (stp l).2 ∧ (c : Int) + (stp l).2 < C) → Q V.non H := fun z => qn (nxt_none z)
    refine decI (fun z1 => ?_) (fun z1 => ⟨_, rfl, iteF (iteF (nn fun z => z1 z.1))⟩)
    refine ⟨.ref a, rfl, a, _, rfl, .inl (SqL.of T.top), _, _, rfl, rfl, _, rfl, ?_⟩
    refine decI (fun z2 => ?_) (fun z2 => iteF (nn fun z => z2 (by rw [hlen]; exact z.2.1)))
    rw [hlen] at z2
    refine ⟨_, rfl, 0, (c : Int) + (stp l).2, rfl, rfl, _, rfl, ?_⟩
    refine decI (fun z3 => ?_) (fun z3 => ⟨_, rfl, iteF (nn fun z => z3 z.2.2.1)⟩)
    refine ⟨.ref a, rfl, a, _, 0, _, rfl, rfl, SqL.of T.top, atI_nat (j := 0) g2, r0, _, rfl, .inl (SqL.of g3), _, _, rfl, rfl, _, rfl, ?_⟩
    rw [rowV_len]
    refine decI (fun z4 => ?_) (fun z4 => nn fun z => z4 z.2.2.2)
    have z2 : (r : Int) + (stp l).1 < R := z2
    have z4 : (c : Int) + (stp l).2 < C := z4
    refine ⟨_, rfl, _, rfl, (by show 2 ≤ sizeLine; decide), fun p hp => ?_⟩
    refine q _ _ (nxt_some ⟨z1, z2, z3, z4⟩) _ p (same_upd hp) hp ?_
    rw [upd_same, Int.toNat_of_nonneg z1, Int.toNat_of_nonneg z3]
end
end Tr
namespace Tr
open PySem PySem.Spec PyProof.Rows L2
theorem scMoved : FnScope ["tray", "slides", "row", "rows", "column", "letter", "place", "to_row", "to_column"] ["tray", "slides"] (defScope d_moved) := ⟨rfl, rfl, rfl, by decide +kernel, rfl, by decide +kernel, by decide +kernel⟩
theorem TrayAt.goodL {H : Hp} {a : Addr} {rs : List Addr} {R C : Nat} {s : Sl} (T : TrayAt H a rs R C s.1) (g : Good R C s) : GoodL H (rs.map V.ref) := by
  refine ⟨R, C, s.1, by rw [List.length_map, T.len], g.r0, g.r6, g.c0, g.c6, fun i x h => ?_, g.full⟩
  rw [List.getElem?_map] at h
  cases e : rs[i]? with
  | none => rw [e] at h; cases h
  | some r =>
    rw [e] at h
    cases h
    exact ⟨r, rfl, T.row i r e⟩
theorem TrayAt.rd2 {K : PySem.W.Frag} {H : Hp} {a : Addr} {rs : List Addr} {R C : Nat} {f : Fld} (T : TrayAt H a rs R C f) : Rd2 K H (rs.map V.ref) := by
  have key : ∀ x ∈ rs.map V.ref, ∃ i r, x = V.ref r ∧ H r = some (.lst (rowV C f i)) := fun x m => by
    obtain ⟨r, hr, rfl⟩ := List.mem_map.mp m
    obtain ⟨i, hi, e⟩ := List.getElem_of_mem hr
    exact ⟨i, r, rfl, T.row i r (by rw [← e]; exact List.getElem?_eq_getElem hi)⟩
  refine ⟨fun x m => ?_, fun x m y hy => ?_⟩
  · obtain ⟨i, r, rfl, e⟩ := key x m
    exact .inl ⟨r, _, rfl, e⟩
  · obtain ⟨i, r, rfl, e⟩ := key x m
    rw [listOf_eq e] at hy
    obtain ⟨j, _, rfl⟩ := List.mem_map.mp hy
    exact .inl ⟨_, rfl⟩
/-- a good tray goes through its check -/
theorem checkT_good {K : PySem.W.Frag} {CT : Addr} {H : Hp} {a : Addr} {rs : List Addr} {R C : Nat} {s : Sl} {Q : V → Hp → Prop} {E : Value → Option Addr → Hp → Prop} (T : TrayAt H a rs R C s.1) (g : Good R C s) (q : ∀ H', Same H H' → Q .non H') : spCheckTG K CT [.ref a] H Q E :=
  ⟨_, rfl, .inr ⟨a, _, rfl, T.top, T.rd2, T.goodL g, q⟩⟩
def spMovedG (K : PySem.W.Frag) (CT CS : Addr) : Sp := fun vs H Q E => ∃ v u, vs = [v, u] ∧ ((BadV K H v ∧ ∀ H', Same H H' → E (.ref CT) none H') ∨
  ∃ (a : Addr) (rs : List Addr) (R C : Nat) (s : Sl), v = .ref a ∧ TrayAt H a rs R C s.1 ∧ Good R C s ∧
  ((TyN K H u "str" ∧ ∀ H', Same H H' → E (.ref CS) none H') ∨ ∃ (ws : List Nat), u = .str (txt ws) ∧
  (∀ s', goAll R C s ws = some s' → ∀ H' p rs', Same H H' → H p = none → (∀ x ∈ rs', H x = none) → TrayAt H' p rs' R C s'.1 → Q (.ref p) H') ∧
  (goAll R C s ws = none → ∀ H', Same H H' → E (.ref CS) none H')))
section
variable {P : Program} {w : World} {K : PySem.W.Frag} {mg : Str → Option Value} {base : Heap}
theorem ok_movedG {fa CT CS fT fS fE fB : Addr} {fd fdT fdS fdE fdB : FuncData} {k : Nat} (F : Fun K "moved" "moved" d_moved fa fd) (T : ExcT K mg "BadSlides" CS) (mLi : mg "list" = none)
    (GT : FnOk P w K mg base (L2.CX P w) (k + 1) fT fdT ["tray"] (spCheckTG K CT)) (gT : mg "check_tray" = some (.ref fT)) (kT : PySem.W.keepIn K (.ref fT) = true) (bT : Binds K fdT ["tray"] [])
    (GS : FnOk P w K mg base (L2.CX P w) (k + 1) fS fdS ["slides"] (spCheckSG K CS)) (gS : mg "check_slides" = some (.ref fS)) (kS : PySem.W.keepIn K (.ref fS) = true) (bS : Binds K fdS ["slides"] [])
    (GE : FnOk P w K mg base CX0 (k + 1) fE fdE ["tray"] spEmpty) (gE : mg "empty_place" = some (.ref fE)) (kE : PySem.W.keepIn K (.ref fE) = true) (bE : Binds K fdE ["tray"] [])
    (GB : FnOk P w K mg base CX0 (k + 1) fB fdB ["tray", "row", "column", "letter"] spBeside) (gB : mg "place_beside" = some (.ref fB)) (kB : PySem.W.keepIn K (.ref fB) = true) (bB : Binds K fdB ["tray", "row", "column", "letter"] []) :
    FnOk P w K mg base (L2.CX P w) (k + 2) fa fd ["tray", "slides"] (spMovedG K CT CS) := by
  refine F.okX scMoved (fun vs H Q E h => ?_) (fun cdv A outer s H vs Q E hr h => ?_)
  · obtain ⟨v, u, rfl, _⟩ := h
    rfl
  · obtain ⟨v, u, rfl, hv⟩ := h
    refine ⟨_, pss_cons (ps_expr (pe_callS GT hr (by rfl) gT kT bT (fun σ => passAt (takes_of rfl rfl rfl rfl) σ) (pa_cons (pv 0) pa_nil)))
      (pss_cons (ps_expr (pe_callS GS hr (by rfl) gS kS bS (fun σ => passAt (takes_of rfl rfl rfl rfl) σ) (pa_cons (pv 1) pa_nil)))
      (pss_cons (ps_setLc (i := 3) (own := [("row", 2)]) (g := gName 2) (tt := tYes) rfl scMoved.nd rfl rfl (sw_true rfl rfl rfl (by decide +kernel)) (pi_list (pv 0))
          (blkOk_by (own := [("row", 2)]) (N := ["tray", "slides", "row", "rows", "column", "letter", "place", "to_row", "to_column"]) (sc := defScope d_moved) (by decide +kernel))
          (fun _ _ _ _ _ => pg_name (i := 2) scMoved.nd rfl (.inl rfl)) (fun _ _ _ _ _ => pts_nil) (fun _ _ _ _ _ => pe_callTy (r := rListOf K) cr_listOf (by rfl) mLi (by decide +kernel) (pa_cons (pv 2) pa_nil)))
      (pss_cons (ps_asg (pe_call GE hr (by rfl) gE kE bE .nil pass0 (pa_cons (pv 3) pa_nil)) (pg_tup rfl (pgs_cons (pg_name (i := 2) scMoved.nd rfl (.inl rfl)) (pgs_cons (pg_name (i := 4) scMoved.nd rfl (.inl rfl)) pgs_nil))))
      (pss_cons (ps_for (passes_of rfl) rfl (pi_str (pv 1)) (pg_name (i := 5) scMoved.nd rfl (.inl rfl))
        (pss_cons (ps_set (i := 6) scMoved.nd rfl (.inl rfl) (pe_call GB hr (by rfl) gB kB bB .nil pass0 (pa_cons (pv 3) (pa_cons (pv 2) (pa_cons (pv 4) (pa_cons (pv 5) pa_nil))))))
        (pss_cons (ps_if (pt_cmp (pc_isN (pv 6))) (pss_one (ps_raise rfl (takes_of rfl rfl rfl rfl) (pmk_own PySem.F.excBase_ValueError T.x T.g T.k (raises_own T.b T.t) rfl))) pss_nil)
        (pss_cons (ps_asg (pv 6) (pg_tup rfl (pgs_cons (pg_name (i := 7) scMoved.nd rfl (.inl rfl)) (pgs_cons (pg_name (i := 8) scMoved.nd rfl (.inl rfl)) pgs_nil))))
        (pss_cons (ps_asg (pe_ix ix_list (pe_ix ix_list (pv 3) (pv 7) (fun _ _ => rfl)) (pv 8) (fun _ _ => rfl)) (pg_sub (pe_ix ix_list (pv 3) (pv 2) (fun _ _ => rfl)) (pv 4) set_list))
        (pss_cons (ps_asg pe_int (pg_sub (pe_ix ix_list (pv 3) (pv 7) (fun _ _ => rfl)) (pv 8) set_list))
        (pss_one (ps_par (i := 2) (j := 4) (by rfl) scMoved.nd rfl rfl (by decide) rfl rfl (pa_cons (pv 7) (pa_cons (pv 8) pa_nil)) (by rfl)))))))))
      (pss_one (ps_ret (pv 3))))))), ?_⟩
    -- check_tray(tray); check_slides(slides)
    rcases hv with ⟨hb, qe⟩ | ⟨a, rs, R, C, ⟨f, r, c⟩, rfl, Ta, g, hv⟩
    · exact ⟨_, rfl, v, rfl, .inl ⟨hb, qe⟩⟩
    have hR := g.r6
    have hR0 := g.r0
    refine ⟨_, rfl, _, rfl, .inr ⟨a, _, rfl, Ta.top, Ta.rd2, Ta.goodL g, fun H1 s1 => ?_⟩⟩
    rcases hv with ⟨hs, qe⟩ | ⟨ws, rfl, q, qe⟩
    · exact ⟨_, rfl, u, rfl, .inl ⟨hs.same s1, fun H' s' => qe _ (s1.trans s')⟩⟩
    refine ⟨_, rfl, _, rfl, .inr ⟨ws, rfl, fun hok => ?_, fun hbad => qe (goAll_bad (by omega) hbad) H1 s1⟩⟩
    -- rows = [list(row) for row in tray]
    refine ⟨_, rfl, a, rfl, ⟨_, SqL.of (Ta.mono s1).top⟩, fun D nD => lc_copy (i := 2) (Ta.mono s1) (by omega) nD (by show 2 < 9; decide) fun rs1 H2 s2 nrs T2 => ?_⟩
    have s02 := s1.trans s2
    -- row, column = empty_place(rows)
    refine ⟨_, rfl, D, rs1, R, C, f, r, c, rfl, T2, g.z, g.uniq, by omega, fun H3 p s3 np hp => ?_⟩
    refine ⟨p, _, rfl, SqT.of hp, rfl, _, _, rfl, _, _, rfl, rfl, ?_⟩
    have s03 := s02.trans s3
    -- for letter in slides
    refine ⟨_, rfl, _, rfl, for_it walk_str (fun i σ H' => ∃ f' r' c' v5 v6 v7 v8, goAll R C (f, r, c) (ws.take i) = some (f', r', c') ∧ σ = [some (.ref a), some (.str (txt ws)), some (.int (r' : Nat)), some (.ref D), some (.int (c' : Nat)), v5, v6, v7, v8] ∧ Same H H' ∧ TrayAt H' D rs1 R C f')
      ⟨f, r, c, none, none, none, none, rfl, rfl, s03, T2.mono s3⟩ (fun _ _ _ _ _ => True.intro) ?_ ?_⟩
    · rintro i x σ H4 H5 hi ⟨f', r', c', v5, v6, v7, v8, hg, rfl, s4, T4⟩ ⟨rfl, l, hl, rfl⟩
      have hl : ws[i]? = some l := by simpa using hl
      have hlo : okL l := hok l (List.mem_of_getElem? hl)
      have g' : Good R C (f', r', c') := g.go hg
      refine ⟨_, rfl, _, rfl, _, rfl, _, rfl, D, rs1, R, C, f', r', c', l, rfl, T4, hR0, hlo, fun r2 c2 hn H6 p6 s6 np6 hp6 => ?_, fun hn => ?_⟩
      · refine ⟨_, rfl, _, rfl, iteF ?_⟩
        obtain ⟨_, _, hr2, hc2⟩ := nxt_eq hn
        have T6 := T4.mono s6
        obtain ⟨ra, a1, a2, a3⟩ := T6.get g'.z.r
        obtain ⟨rb, b1, b2, b3⟩ := T6.get hr2
        have hc' : c' < C := g'.z.c
        refine ⟨_, rfl, p6, _, rfl, SqT.of hp6, rfl, _, _, rfl, _, _, rfl, rfl, ?_⟩
        -- rows[row][column] = rows[to_row][to_column]
        refine ⟨.ref D, rfl, _, rfl, D, _, (r2 : Int), _, rfl, rfl, SqL.of T6.top, atI_nat b2, _, rfl, rb, _, (c2 : Int), _, rfl, rfl, SqL.of b3, atI_nat (rowV_get hc2), ?_⟩
        refine ⟨.ref D, rfl, _, rfl, D, _, (r' : Int), _, rfl, rfl, SqL.of T6.top, atI_nat a2, _, rfl, ra, _, (c' : Int), c', rfl, rfl, a3, by rw [rowV_len]; exact ixN_nat hc', ?_⟩
        have T7 := T6.put (v := f' (r2 * C + c2)) a1 hc'
        obtain ⟨rb', b1', b2', b3'⟩ := T7.get hr2
        rw [b1] at b1'
        cases b1'
        -- rows[to_row][to_column] = 0
        refine ⟨.ref D, rfl, _, rfl, D, _, (r2 : Int), _, rfl, rfl, SqL.of T7.top, atI_nat b2', _, rfl, rb, _, (c2 : Int), c2, rfl, rfl, b3', by rw [rowV_len]; exact ixN_nat hc2, ?_⟩
        have T8 := T7.put (v := 0) b1 hc2
        -- row, column = to_row, to_column
        refine ⟨_, rfl, _, rfl, _, _, rfl, put2 f' (r' * C + c') (r2 * C + c2), r2, c2, _, _, _, _, ?_, rfl, ?_, T8⟩
        · rw [goAll_take hg hl, go1_of_nxt hn]
        · intro b o e
          have nb : ∀ y ∈ rs1, b ≠ y := fun y hy z => by
            have h1 := nrs y hy
            rw [← z, s1 _ _ e] at h1
            cases h1
          rw [upd_ne (nb _ (List.mem_of_getElem? b1)), upd_ne (nb _ (List.mem_of_getElem? a1))]
          exact s6 _ _ (s4 _ _ e)
      · refine ⟨_, rfl, _, rfl, iteT ?_⟩
        exact qe (goAll_stop hg hl (go1_of_none hn)) _ s4
    · rintro σ H4 ⟨f', r', c', v5, v6, v7, v8, hg, rfl, s4, T4⟩
      have e : ws.take (txt ws).cps.size = ws := by
        show ws.take ws.toArray.size = ws
        rw [List.size_toArray, List.take_length]
      rw [e] at hg
      exact ⟨_, rfl, q _ hg H4 D rs1 s4 (s1.free nD) (fun x hx => s1.free (nrs x hx)) T4⟩
end
end Tr
namespace Tr
open PySem PySem.Spec PyProof.Rows L2
theorem scWays : FnScope ["tray", "row", "column", "letter"] ["tray"] (defScope d_ways) := ⟨rfl, rfl, rfl, by decide +kernel, rfl, by decide +kernel, by decide +kernel⟩
def waysL (R C : Nat) (s : Sl) : List Nat := udlr.filter fun l => (nxt R C s.2.1 s.2.2 l).isSome
def spWaysG (K : PySem.W.Frag) (CT : Addr) : Sp := fun vs H Q E => ∃ v, vs = [v] ∧ ((BadV K H v ∧ ∀ H', Same H H' → E (.ref CT) none H') ∨
  ∃ (a : Addr) (rs : List Addr) (R C : Nat) (s : Sl), v = .ref a ∧ TrayAt H a rs R C s.1 ∧ Good R C s ∧ ∀ H', Same H H' → Q (.str (txt (waysL R C s))) H')
theorem filter_more {α : Type} {p : α → Bool} {l : List α} {i : Nat} {x : α} (h : l[i]? = some x) : (l.take (i + 1)).filter p = (l.take i).filter p ++ (if p x = true then [x] else []) := by
  rw [take_more h, List.filter_append]
  by_cases e : p x = true
  · rw [if_pos e, List.filter_cons_of_pos e]
    rfl
  · rw [if_neg e, List.filter_cons_of_neg e]
    rfl
section
variable {P : Program} {w : World} {K : PySem.W.Frag} {mg : Str → Option Value} {base : Heap}
theorem ok_waysG {fa CT fT fE fB : Addr} {fd fdT fdE fdB : FuncData} {k : Nat} {tL : Tok} (F : Fun K "ways" "ways" d_ways fa fd) (gL : mg "LETTERS" = some (.str "udlr" tL))
    (GT : FnOk P w K mg base (L2.CX P w) (k + 1) fT fdT ["tray"] (spCheckTG K CT)) (gT : mg "check_tray" = some (.ref fT)) (kT : PySem.W.keepIn K (.ref fT) = true) (bT : Binds K fdT ["tray"] [])
    (GE : FnOk P w K mg base CX0 (k + 1) fE fdE ["tray"] spEmpty) (gE : mg "empty_place" = some (.ref fE)) (kE : PySem.W.keepIn K (.ref fE) = true) (bE : Binds K fdE ["tray"] [])
    (GB : FnOk P w K mg base CX0 (k + 1) fB fdB ["tray", "row", "column", "letter"] spBeside) (gB : mg "place_beside" = some (.ref fB)) (kB : PySem.W.keepIn K (.ref fB) = true) (bB : Binds K fdB ["tray", "row", "column", "letter"] []) :
    FnOk P w K mg base (L2.CX P w) (k + 2) fa fd ["tray"] (spWaysG K CT) := by
  refine F.okX scWays (fun vs H Q E h => ?_) (fun cdv A outer s H vs Q E hr h => ?_)
  · obtain ⟨v, rfl, _⟩ := h
    rfl
  · obtain ⟨v, rfl, hv⟩ := h
    refine ⟨_, pss_cons (ps_expr (pe_callS GT hr (by rfl) gT kT bT (fun σ => passAt (takes_of rfl rfl rfl rfl) σ) (pa_cons (pv 0) pa_nil)))
      (pss_cons (ps_asg (pe_call GE hr (by rfl) gE kE bE .nil pass0 (pa_cons (pv 0) pa_nil)) (pg_tup rfl (pgs_cons (pg_name (i := 1) scWays.nd rfl (.inr rfl)) (pgs_cons (pg_name (i := 2) scWays.nd rfl (.inr rfl)) pgs_nil))))
      (pss_one (ps_ret (pe_join pe_str (pe_lc (own := [("letter", 3)]) (g := gName 3) (tt := tB (tNotN (tCall spBeside [] E0 (tCons (tVar 0) (tCons (tVar 1) (tCons (tVar 2) (tCons (tVar 3) tNil))))))) rfl scWays.nd (pi_str (pe_glob (v := .str "udlr") rfl gL ⟨_, rfl⟩))
          (blkOk_by (own := [("letter", 3)]) (N := ["tray", "row", "column", "letter"]) (sc := defScope d_ways) (by decide +kernel))
          (fun _ _ _ _ _ => pg_name (i := 3) scWays.nd rfl (.inl rfl)) (fun _ _ _ _ _ => pts_one (pt_cmp (pc_notN (pe_call GB hr (by rfl) gB kB bB .nil pass0 (pa_cons (pv 0) (pa_cons (pv 1) (pa_cons (pv 2) (pa_cons (pv 3) pa_nil)))))))) (fun _ _ _ _ _ => pv 3)))))), ?_⟩
    rcases hv with ⟨hb, qe⟩ | ⟨a, rs, R, C, ⟨f, r, c⟩, rfl, Ta, g, q⟩
    · exact ⟨_, rfl, v, rfl, .inl ⟨hb, qe⟩⟩
    have hR := g.r6
    have hR0 := g.r0
    refine ⟨_, rfl, _, rfl, .inr ⟨a, _, rfl, Ta.top, Ta.rd2, Ta.goodL g, fun H1 s1 => ?_⟩⟩
    have T1 := Ta.mono s1
    refine ⟨_, rfl, a, rs, R, C, f, r, c, rfl, T1, g.z, g.uniq, by omega, fun H2 p s2 np hp => ?_⟩
    have s02 := s1.trans s2
    refine ⟨p, _, rfl, SqT.of hp, rfl, _, _, rfl, _, _, rfl, rfl, ?_⟩
    refine ⟨⟨_, rfl⟩, "udlr", rfl, fun D nD => ?_⟩
    rw [udlr_eq]
    refine lc_gen (walk_str (z := txt udlr)) (fun i H3 => Same H2 H3 ∧ H3 D = some (.lst (((udlr.take i).filter fun l => (nxt R C r c l).isSome).map fun l => V.str (txt [l])))) ⟨same_upd nD, by rw [upd_same]; rfl⟩ (fun _ _ _ _ => True.intro) ?_ ?_
    · rintro i x H3 H4 hi ⟨s3, hD⟩ ⟨rfl, l, hl, rfl⟩
      have hl : udlr[i]? = some l := by simpa using hl
      have hlo : okL l := by
        have m := List.mem_of_getElem? hl
        revert m
        unfold udlr okL
        simp
      have T3 := (T1.mono s2).mono s3
      have fm := filter_more (p := fun l => (nxt R C r c l).isSome) hl
      refine ⟨rfl, ?_⟩
      refine ⟨_, rfl, _, rfl, _, rfl, _, rfl, a, rs, R, C, f, r, c, l, rfl, T3, hR0, hlo, fun r2 c2 hn H5 p5 s5 np5 hp5 => ?_, fun hn => ?_⟩
      · refine ⟨_, rfl, ?_⟩
        refine ⟨_, rfl, _, s5 _ _ hD, ?_, ?_, ?_⟩
        · rw [List.length_map]
          refine small1000 (Nat.le_trans (List.length_filter_le _ _) (Nat.le_trans (List.length_take_le _ _) ?_))
          have : i < 4 := hi
          omega
        · intro b o e
          rw [upd_ne (ne_of_none e nD)]
          exact s5 _ _ (s3 _ _ e)
        · rw [upd_same, fm, hn, List.map_append]
          rfl
      · refine ⟨_, rfl, ?_⟩
        refine ⟨s3, ?_⟩
        rw [fm, hn, hD]
        simp
    · rintro H3 ⟨s3, hD⟩
      have e : (udlr.take (txt udlr).cps.size) = udlr := rfl
      rw [e, txts_map] at hD
      refine ⟨"", D, _, rfl, rfl, .inl (SqL.of hD), ?_, ?_⟩
      · rw [empty_eq, ones_sum]
        exact Nat.le_trans (List.length_filter_le _ _) (by decide)
      · rw [empty_eq, join_txt]
        exact q _ (s02.trans s3)
end
end Tr
namespace Tr
open PySem PySem.Spec PyProof.Rows L2
theorem small1000000 {n : Nat} (h : n ≤ 1000000) : n < sizeLine := Nat.lt_of_le_of_lt h (by decide)
theorem scUndone : FnScope ["slides", "letter"] ["slides"] (defScope d_undone) := ⟨rfl, rfl, rfl, by decide +kernel, rfl, by decide +kernel, by decide +kernel⟩
/-- slides handed in, of at most so many letters: they are changed to g of them, or refused -/
def spSlidesG (K : PySem.W.Frag) (CS : Addr) (g : List Nat → List Nat) : Sp := fun vs H Q E => ∃ v, vs = [v] ∧ ((TyN K H v "str" ∧ ∀ H', Same H H' → E (.ref CS) none H') ∨
  ∃ (ws : List Nat), v = .str (txt ws) ∧ ws.length ≤ 1000000 ∧ ((∀ l ∈ ws, okL l) → ∀ H', Same H H' → Q (.str (txt (g ws))) H') ∧ ((∃ l ∈ ws, ¬ okL l) → E (.ref CS) none H))
section
variable {P : Program} {w : World} {K : PySem.W.Frag} {mg : Str → Option Value} {base : Heap}
theorem ok_undoneG {fa CS fS dB : Addr} {fd fdS : FuncData} {k : Nat} (F : Fun K "undone" "undone" d_undone fa fd) (gB : mg "BACK" = some (.ref dB)) (B : BackD K w dB)
    (GS : FnOk P w K mg base (L2.CX P w) (k + 1) fS fdS ["slides"] (spCheckSG K CS)) (gS : mg "check_slides" = some (.ref fS)) (kS : PySem.W.keepIn K (.ref fS) = true) (bS : Binds K fdS ["slides"] []) :
    FnOk P w K mg base (L2.CX P w) (k + 2) fa fd ["slides"] (spSlidesG K CS undo) := by
  refine F.okX scUndone (fun vs H Q E h => ?_) (fun cdv A outer s H vs Q E hr h => ?_)
  · obtain ⟨v, rfl, _⟩ := h
    rfl
  · obtain ⟨v, rfl, hv⟩ := h
    refine ⟨_, pss_cons (ps_expr (pe_callS GS hr (by rfl) gS kS bS (fun σ => passAt (takes_of rfl rfl rfl rfl) σ) (pa_cons (pv 0) pa_nil)))
      (pss_one (ps_ret (pe_join pe_str (pe_lc (own := [("letter", 1)]) (g := gName 1) (tt := tYes) rfl scUndone.nd (pi_str (pe_revS (pv 0))) (blkOk_by (own := [("letter", 1)]) (N := ["slides", "letter"]) (sc := defScope d_undone) (by decide +kernel))
        (fun _ _ _ _ _ => pg_name (i := 1) scUndone.nd rfl (.inl rfl)) (fun _ _ _ _ _ => pts_nil) (fun _ _ _ _ _ => pe_ix (r := rIxD K w) ix_kdict (pe_glob (v := .ref dB) rfl gB rfl) (pv 1) (fun _ _ => rfl)))))), ?_⟩
    rcases hv with ⟨hs, qe⟩ | ⟨ws, rfl, hl, q, qe⟩
    · exact ⟨_, rfl, v, rfl, .inl ⟨hs, qe⟩⟩
    refine ⟨_, rfl, _, rfl, .inr ⟨ws, rfl, fun hok => ?_, qe⟩⟩
    have hsz : (txt ws).length ≤ sizeLine := by
      rw [txt_len]
      exact Nat.le_of_lt (small1000000 hl)
    refine ⟨⟨_, rfl⟩, _, rfl, txt ws, rfl, hsz, _, rfl, fun D nD => ?_⟩
    refine lc_gen (walk_str (z := txt ws.reverse)) (fun i H3 => Same H H3 ∧ H3 D = some (.lst (((ws.reverse.map bk).take i).map fun l => V.str (txt [l])))) ⟨same_upd nD, by rw [upd_same]; rfl⟩ (fun _ _ _ _ => True.intro) ?_ ?_
    · rintro i x H3 H4 hi ⟨s3, hD⟩ ⟨rfl, l, hx, rfl⟩
      have hx : ws.reverse[i]? = some l := by simpa using hx
      have hlo : okL l := hok l (List.mem_reverse.mp (List.mem_of_getElem? hx))
      have hy : (ws.reverse.map bk)[i]? = some (bk l) := by
        rw [List.getElem?_map, hx]
        rfl
      refine ⟨rfl, ?_⟩
      refine ⟨_, rfl, dB, txt [l], _, rfl, rfl, B.at_ l hlo, _, hD, ?_, ?_, ?_⟩
      · rw [List.length_map, List.length_take, List.length_map, List.length_reverse]
        exact small1000000 (by omega)
      · intro b o e
        rw [upd_ne (ne_of_none e nD)]
        exact s3 _ _ e
      · rw [upd_same, take_more hy, List.map_append]
        rfl
    · rintro H3 ⟨s3, hD⟩
      have e : ((ws.reverse.map bk).take (txt ws.reverse).cps.size) = undo ws := by
        show ((ws.reverse.map bk).take ws.reverse.toArray.size) = undo ws
        rw [List.size_toArray]
        refine List.take_of_length_le ?_
        rw [List.length_map]
        exact Nat.le_refl _
      rw [e, txts_map] at hD
      refine ⟨"", D, _, rfl, rfl, .inl (SqL.of hD), ?_, ?_⟩
      · rw [empty_eq, ones_sum, undo_len]
        omega
      · rw [empty_eq, join_txt]
        exact q hok _ s3
end
end Tr
namespace Tr
open PySem PySem.Spec PyProof.Rows L2
theorem scThinned : FnScope ["slides", "left", "letter"] ["slides"] (defScope d_thinned) := ⟨rfl, rfl, rfl, by decide +kernel, rfl, by decide +kernel, by decide +kernel⟩
abbrev lets (l : List Nat) : List V := l.map fun c => V.str (txt [c])
theorem lets_last {l : List Nat} {x : Nat} (h : l.getLast? = some x) : atI (lets l) (-1) = some (V.str (txt [x])) := by
  have hne : l ≠ [] := by
    intro e
    rw [e] at h
    cases h
  have e : l = l.dropLast ++ [x] := by
    have h1 := List.dropLast_concat_getLast hne
    rw [List.getLast?_eq_getLast hne] at h
    rw [Option.some.inj h] at h1
    exact h1.symm
  rw [e]
  show atI ((l.dropLast ++ [x]).map fun c => V.str (txt [c])) (-1) = _
  rw [List.map_append]
  exact atI_last _ _
theorem lets_drop (l : List Nat) : (lets l).dropLast = lets l.dropLast := by
  show (l.map _).dropLast = _
  rw [← List.map_dropLast]
section
variable {P : Program} {w : World} {K : PySem.W.Frag} {mg : Str → Option Value} {base : Heap}
theorem ok_thinnedG {fa CS fS dB : Addr} {fd fdS : FuncData} {k : Nat} (F : Fun K "thinned" "thinned" d_thinned fa fd) (gB : mg "BACK" = some (.ref dB)) (B : BackD K w dB)
    (GS : FnOk P w K mg base (L2.CX P w) (k + 1) fS fdS ["slides"] (spCheckSG K CS)) (gS : mg "check_slides" = some (.ref fS)) (kS : PySem.W.keepIn K (.ref fS) = true) (bS : Binds K fdS ["slides"] []) :
    FnOk P w K mg base (L2.CX P w) (k + 2) fa fd ["slides"] (spSlidesG K CS thinL) := by
  refine F.okX scThinned (fun vs H Q E h => ?_) (fun cdv A outer s H vs Q E hr h => ?_)
  · obtain ⟨v, rfl, _⟩ := h
    rfl
  · obtain ⟨v, rfl, hv⟩ := h
    refine ⟨_, pss_cons (ps_expr (pe_callS GS hr (by rfl) gS kS bS (fun σ => passAt (takes_of rfl rfl rfl rfl) σ) (pa_cons (pv 0) pa_nil)))
      (pss_cons (ps_set (i := 1) scThinned.nd rfl (.inl rfl) (pe_lst pa_nil))
      (pss_cons (ps_for (passes_of rfl) rfl (pi_str (pv 0)) (pg_name (i := 2) scThinned.nd rfl (.inl rfl))
        (pss_one (ps_if (PW.pt (pw_and (pt_truth (pv 1) (by intro _; rfl)) (pw_and1 (pt_cmpR op_eq (pe_ix ix_list (pv 1) (pe_un un_neg pe_int) (fun _ _ => rfl)) (pe_ix ix_kdict (pe_glob (v := .ref dB) rfl gB rfl) (pv 2) (fun _ _ => rfl)) (nomark _)))))
          (pss_one (ps_expr (pe_bm0 PySem.F.plainAttrs_list PySem.F.slot_list_pop PySem.F.type_list_pop mt_pop (pv 1))))
          (pss_one (ps_expr (pe_bm PySem.F.plainAttrs_list PySem.F.slot_list_append PySem.F.type_list_append mt_append (pv 1) (pa_cons (pv 2) pa_nil)))))))
      (pss_one (ps_ret (pe_join pe_str (pv 1)))))), ?_⟩
    rcases hv with ⟨hs, qe⟩ | ⟨ws, rfl, hl, q, qe⟩
    · exact ⟨_, rfl, v, rfl, .inl ⟨hs, qe⟩⟩
    refine ⟨_, rfl, _, rfl, .inr ⟨ws, rfl, fun hok => ?_, qe⟩⟩
    refine ⟨Nat.zero_le _, fun D nD => ?_⟩
    refine ⟨_, rfl, _, rfl, for_it walk_str (fun i σ H' => ∃ v, σ = [some (.str (txt ws)), some (.ref D), v] ∧ Same H H' ∧ H' D = some (.lst (lets (thinL (ws.take i))))) ⟨none, rfl, same_upd nD, upd_same⟩ (fun _ _ _ _ _ => True.intro) ?_ ?_⟩
    · rintro i x σ H1 H2 hi ⟨v, rfl, s1, hD⟩ ⟨rfl, l, hx, rfl⟩
      have hx : ws[i]? = some l := by simpa using hx
      have hlo : okL l := hok l (List.mem_of_getElem? hx)
      have ht := thin_take hx
      have hlen : (thinL (ws.take i)).length ≤ 1000000 := Nat.le_trans (thinL_len _) (by rw [List.length_take]; omega)
      have hadd : ∀ H3, H3 = upd H2 D (.lst (lets (thinL (ws.take i)) ++ [V.str (txt [l])])) → (thinL (ws.take i)).getLast? ≠ some (bk l) → Same H H3 ∧ H3 D = some (.lst (lets (thinL (ws.take (i + 1))))) := by
        rintro H3 rfl hne
        refine ⟨fun b o e => by rw [upd_ne (ne_of_none e nD)]; exact s1 _ _ e, ?_⟩
        rw [upd_same, ht]
        unfold thS
        rw [if_neg hne]
        show _ = some (HO.lst ((thinL (ws.take i) ++ [l]).map _))
        rw [List.map_append]
        rfl
      refine ⟨_, rfl, _, .inl ⟨_, SqL.of hD, rfl⟩, ?_⟩
      cases hle : (thinL (ws.take i)).getLast? with
      | none =>
        have hnil : thinL (ws.take i) = [] := List.getLast?_eq_none_iff.mp hle
        rw [hnil]
        refine iteF (iteF ?_)
        refine ⟨_, rfl, .inl ⟨rfl, _, SqL.of hD⟩, _, rfl, D, _, _, rfl, rfl, hD, ?_, ?_⟩
        · rw [List.length_map]
          exact small1000000 hlen
        · obtain ⟨e1, e2⟩ := hadd _ rfl (by rw [hle]; exact fun z => by cases z)
          exact ⟨_, rfl, e1, e2⟩
      | some y =>
        have hne : (lets (thinL (ws.take i))).isEmpty = false := by
          cases e : thinL (ws.take i) with
          | nil => rw [e] at hle; cases hle
          | cons a b => rfl
        rw [hne]
        refine iteT ?_
        refine ⟨_, rfl, 1, rfl, D, _, -1, _, rfl, rfl, SqL.of hD, lets_last hle, _, rfl, dB, txt [l], _, rfl, rfl, B.at_ l hlo, rfl, _, rfl, ?_⟩
        refine decI (fun z => ?_) (fun z => ?_)
        · have z : y = bk l := by
            have := txt_inj (V.str.inj z)
            exact List.head_eq_of_cons_eq this
          subst z
          have h1 : (lets (thinL (ws.take i)))[(lets (thinL (ws.take i))).length - 1]? = some (V.str (txt [bk l])) := by
            have := congrArg (Option.map fun c => V.str (txt [c])) hle
            rw [List.getLast?_eq_getElem?] at this
            rw [List.length_map, List.getElem?_map]
            exact this
          refine ⟨_, rfl, .inl ⟨rfl, _, SqL.of hD⟩, D, _, _, rfl, rfl, hD, h1, ?_⟩
          refine ⟨_, rfl, fun b o e => ?_, ?_⟩
          · rw [upd_ne (ne_of_none e nD)]
            exact s1 _ _ e
          · rw [upd_same, lets_drop, ht]
            unfold thS
            rw [if_pos hle]
        · refine ⟨_, rfl, .inl ⟨rfl, _, SqL.of hD⟩, _, rfl, D, _, _, rfl, rfl, hD, ?_, ?_⟩
          · rw [List.length_map]
            exact small1000000 hlen
          · obtain ⟨e1, e2⟩ := hadd _ rfl (by rw [hle]; exact fun e => z (by rw [Option.some.inj e]))
            exact ⟨_, rfl, e1, e2⟩
    · rintro σ H1 ⟨v, rfl, s1, hD⟩
      have e : ws.take (txt ws).cps.size = ws := by
        show ws.take ws.toArray.size = ws
        rw [List.size_toArray, List.take_length]
      rw [e] at hD
      have hD : H1 D = some (.lst (((thinL ws).map fun l => txt [l]).map V.str)) := by
        rw [hD, ← txts_map]
      refine ⟨⟨_, rfl⟩, _, rfl, "", D, _, rfl, rfl, .inl (SqL.of hD), ?_, ?_⟩
      · rw [empty_eq, ones_sum]
        exact Nat.le_trans (thinL_len ws) (by omega)
      · rw [empty_eq, join_txt]
        exact q hok _ s1
end
end Tr
/-! Lists of lists, of whatever stands in them -/
namespace Tr
open PySem PySem.Spec PyProof.Rows L2
structure Grd (H : Hp) (a : Addr) (rs : List Addr) (L : List (List V)) : Prop where
  top : H a = some (.lst (rs.map V.ref))
  len : rs.length = L.length
  row : ∀ (i : Nat) (r : Addr) (l : List V), rs[i]? = some r → L[i]? = some l → H r = some (.lst l)
  na : a ∉ rs
  nd : rs.Nodup
theorem Grd.mono {H H' : Hp} {a : Addr} {rs : List Addr} {L : List (List V)} (s : Same H H') (g : Grd H a rs L) : Grd H' a rs L :=
  ⟨s _ _ g.top, g.len, fun i r l h h2 => s _ _ (g.row i r l h h2), g.na, g.nd⟩
theorem Grd.nil {H : Hp} {a : Addr} (h : H a = some (.lst [])) : Grd H a [] [] := ⟨h, rfl, fun i r l h => by simp at h, by simp, List.nodup_nil⟩
theorem Grd.snoc {H : Hp} {D l : Addr} {rs : List Addr} {L : List (List V)} {x : List V} (T : Grd H D rs L) (hl : H l = none) : Grd (upd (upd H l (.lst x)) D (.lst (rs.map V.ref ++ [V.ref l]))) D (rs ++ [l]) (L ++ [x]) := by
  have hD : l ≠ D := fun z => by
    rw [z, T.top] at hl
    cases hl
  have hlr : ∀ i : Nat, i < L.length → rs[i]? ≠ some l := fun i hi e => by
    have := T.row i l _ e (List.getElem?_eq_getElem hi)
    rw [hl] at this
    cases this
  refine ⟨by rw [upd_same, List.map_append]; rfl, by rw [List.length_append, List.length_append, T.len]; rfl, fun j r y e1 e2 => ?_, ?_, ?_⟩
  · by_cases hj : j < rs.length
    · rw [List.getElem?_append_left hj] at e1
      rw [List.getElem?_append_left (by rw [← T.len]; exact hj)] at e2
      have rD : r ≠ D := fun z => T.na (z ▸ List.mem_of_getElem? e1)
      have rl : r ≠ l := fun z => hlr j (by rw [← T.len]; exact hj) (z ▸ e1)
      rw [upd_ne rD, upd_ne rl]
      exact T.row j r y e1 e2
    · rw [List.getElem?_append_right (by omega)] at e1
      rw [List.getElem?_append_right (by rw [← T.len]; omega)] at e2
      have hj2 : j = rs.length := by
        have := (List.getElem?_eq_some_iff.mp e1).1
        have h1 : ([l] : List Addr).length = 1 := rfl
        omega
      subst hj2
      rw [Nat.sub_self] at e1
      rw [T.len, Nat.sub_self] at e2
      cases e1
      cases e2
      rw [upd_ne hD, upd_same]
  · intro m
    rcases List.mem_append.mp m with m | m
    · exact T.na m
    · exact hD (List.mem_singleton.mp m).symm
  · rw [List.nodup_append]
    refine ⟨T.nd, by simp, fun x hx y hy z => ?_⟩
    rw [List.mem_singleton.mp hy] at z
    obtain ⟨i, hi, e⟩ := List.getElem_of_mem hx
    exact hlr i (by rw [← T.len]; exact hi) (by rw [← z, ← e]; exact List.getElem?_eq_getElem hi)
theorem Grd.put {H : Hp} {a r : Addr} {rs : List Addr} {L : List (List V)} {i : Nat} {l' : List V} (T : Grd H a rs L) (e : rs[i]? = some r) : Grd (upd H r (.lst l')) a rs (L.set i l') := by
  have ra : a ≠ r := fun z => T.na (z ▸ List.mem_of_getElem? e)
  refine ⟨by rw [upd_ne ra]; exact T.top, by rw [List.length_set]; exact T.len, fun j r2 l e2 e3 => ?_, T.na, T.nd⟩
  by_cases z : j = i
  · subst z
    rw [e] at e2
    cases e2
    have hj := (List.getElem?_eq_some_iff.mp e).1
    rw [List.getElem?_set_self (by rw [← T.len]; exact hj)] at e3
    cases e3
    exact upd_same
  · have r2r : r2 ≠ r := fun y => z (nd_ix T.nd (y ▸ e2) e)
    rw [upd_ne r2r]
    rw [List.getElem?_set_ne (fun y => z y.symm)] at e3
    exact T.row j r2 l e2 e3
theorem Grd.get {H : Hp} {a : Addr} {rs : List Addr} {L : List (List V)} {i : Nat} {l : List V} (T : Grd H a rs L) (h : L[i]? = some l) : ∃ r, rs[i]? = some r ∧ (rs.map V.ref)[i]? = some (V.ref r) ∧ H r = some (.lst l) := by
  have hi : i < rs.length := by
    rw [T.len]
    exact (List.getElem?_eq_some_iff.mp h).1
  refine ⟨rs[i], List.getElem?_eq_getElem hi, ?_, T.row i _ l (List.getElem?_eq_getElem hi) h⟩
  rw [List.getElem?_map, List.getElem?_eq_getElem hi]
  rfl
/-- a row more, one that stands already -/
theorem Grd.more {H : Hp} {D l : Addr} {rs : List Addr} {L : List (List V)} {x : List V} (T : Grd H D rs L) (hl : H l = some (.lst x)) (hD : l ≠ D) (hr : l ∉ rs) : Grd (upd H D (.lst (rs.map V.ref ++ [V.ref l]))) D (rs ++ [l]) (L ++ [x]) := by
  refine ⟨by rw [upd_same, List.map_append]; rfl, by rw [List.length_append, List.length_append, T.len]; rfl, fun j r y e1 e2 => ?_, ?_, ?_⟩
  · by_cases hj : j < rs.length
    · rw [List.getElem?_append_left hj] at e1
      rw [List.getElem?_append_left (by rw [← T.len]; exact hj)] at e2
      have rD : r ≠ D := fun z => T.na (z ▸ List.mem_of_getElem? e1)
      rw [upd_ne rD]
      exact T.row j r y e1 e2
    · rw [List.getElem?_append_right (by omega)] at e1
      rw [List.getElem?_append_right (by rw [← T.len]; omega)] at e2
      have hj2 : j = rs.length := by
        have := (List.getElem?_eq_some_iff.mp e1).1
        have h1 : ([l] : List Addr).length = 1 := rfl
        omega
      subst hj2
      rw [Nat.sub_self] at e1
      rw [T.len, Nat.sub_self] at e2
      cases e1
      cases e2
      rw [upd_ne hD]
      exact hl
  · intro m
    rcases List.mem_append.mp m with m | m
    · exact T.na m
    · exact hD (List.mem_singleton.mp m).symm
  · rw [List.nodup_append]
    refine ⟨T.nd, by simp, fun x hx y hy z => ?_⟩
    rw [List.mem_singleton.mp hy] at z
    exact hr (z ▸ hx)
theorem Grd.lists {H : Hp} {a : Addr} {rs : List Addr} {L : List (List V)} (g : Grd H a rs L) : (rs.map V.ref).map (listOf H) = L := by
  apply List.ext_getElem?
  intro i
  rw [List.getElem?_map, List.getElem?_map]
  cases e : L[i]? with
  | none =>
    have := List.getElem?_eq_none_iff.mp e
    rw [List.getElem?_eq_none (by rw [g.len]; exact this)]
    rfl
  | some l =>
    have hi := (List.getElem?_eq_some_iff.mp e).1
    have hr : i < rs.length := by rw [g.len]; exact hi
    rw [List.getElem?_eq_getElem hr]
    exact congrArg some (listOf_eq (g.row i _ l (List.getElem?_eq_getElem hr) e))
/-- rows that make a tray -/
def OkG (L : List (List V)) : Prop := ∃ (C : Nat) (ns : List Int), 0 < L.length ∧ L.length ≤ 6 ∧ 0 < C ∧ C ≤ 6 ∧ (∀ l ∈ L, l.length = C) ∧ L.flatten = ns.map V.int ∧ ns.Perm ((List.range ns.length).map fun k : Nat => (k : Int))
theorem GoodL.okG {H : Hp} {xs : List V} (g : GoodL H xs) : OkG (xs.map (listOf H)) := by
  obtain ⟨C, c0, c6, hc⟩ := g.len
  obtain ⟨n, f, e, hF⟩ := g.flat
  obtain ⟨R, C', f', hl, r0, r6, _⟩ := g
  refine ⟨C, allV n f, by rw [List.length_map]; omega, by rw [List.length_map]; omega, c0, c6, fun l m => ?_, e, ?_⟩
  · obtain ⟨x, hx, rfl⟩ := List.mem_map.mp m
    obtain ⟨i, hi, e⟩ := List.getElem_of_mem hx
    exact hc i x (by rw [← e]; exact List.getElem?_eq_getElem hi)
  · have hn : (allV n f).length = n := by
      unfold allV
      rw [List.length_map, List.length_range]
    rw [hn]
    exact hF
def Rdn (K : PySem.W.Frag) (H : Hp) (y : V) : Prop := (∃ z, y = .int z) ∨ ((∀ z, y ≠ .int z) ∧ ((∃ b, y = .bl b) ∨ TyN K H y "int"))
theorem Grd.bad {K : PySem.W.Frag} {H : Hp} {a : Addr} {rs : List Addr} {L : List (List V)} (g : Grd H a rs L) (hn : ∀ l ∈ L, ∀ y ∈ l, Rdn K H y) (hb : ¬ OkG L) : BadV K H (.ref a) := by
  refine .inr ⟨a, _, rfl, g.top, ⟨fun x m => ?_, fun x m y hy => ?_⟩, fun gl => hb ?_⟩
  · obtain ⟨r, hr, rfl⟩ := List.mem_map.mp m
    obtain ⟨i, hi, e⟩ := List.getElem_of_mem hr
    have hL : i < L.length := by rw [← g.len]; exact hi
    exact .inl ⟨r, _, rfl, g.row i r _ (by rw [← e]; exact List.getElem?_eq_getElem hi) (List.getElem?_eq_getElem hL)⟩
  · have h2 : listOf H x ∈ L := by
      rw [← g.lists]
      exact List.mem_map.mpr ⟨x, m, rfl⟩
    exact hn _ h2 y hy
  · have := gl.okG
    rwa [g.lists] at this
theorem notOk_flat {L : List (List V)} (ns : List Int) (h : L.flatten = ns.map V.int) (hn : ¬ ns.Perm ((List.range ns.length).map fun k : Nat => (k : Int))) : ¬ OkG L := by
  rintro ⟨C, ms, _, _, _, _, _, e, p⟩
  have := ints_inj (h.symm.trans e)
  subst this
  exact hn p
theorem OkG.int {L : List (List V)} (h : OkG L) {l : List V} {y : V} (hl : l ∈ L) (hy : y ∈ l) : ∃ v : Int, y = .int v ∧ 0 ≤ v ∧ v < L.flatten.length := by
  obtain ⟨C, ns, _, _, _, _, _, e, p⟩ := h
  have m : y ∈ L.flatten := List.mem_flatten.mpr ⟨l, hl, hy⟩
  rw [e] at m ⊢
  obtain ⟨v, hv, rfl⟩ := List.mem_map.mp m
  have := p.mem_iff.mp hv
  obtain ⟨k, hk, rfl⟩ := List.mem_map.mp this
  have := List.mem_range.mp hk
  rw [List.length_map]
  exact ⟨_, rfl, by omega, by omega⟩
theorem OkG.nodup {L : List (List V)} (h : OkG L) {v : V} (h0 : L.flatten[0]? = some v) (h1 : L.flatten[1]? = some v) : False := by
  obtain ⟨C, ns, _, _, _, _, _, e, p⟩ := h
  rw [e] at h0 h1
  rw [List.getElem?_map] at h0 h1
  have nd : ns.Nodup := by
    refine p.nodup_iff.mpr ?_
    refine List.Pairwise.map _ ?_ (List.nodup_range)
    intro a b h z
    exact h (by omega)
  cases e0 : ns[0]? with
  | none => rw [e0] at h0; cases h0
  | some a =>
    cases e1 : ns[1]? with
    | none => rw [e1] at h1; cases h1
    | some b =>
      rw [e0] at h0
      rw [e1] at h1
      have ea := V.int.inj ((Option.some.inj h0).trans (Option.some.inj h1).symm)
      have := nd_ix nd e0 (ea ▸ e1)
      omega
theorem new_upd {H : Hp} {p : Addr} (o : HO) (n : H p = none) : ∃ H1, H1 = upd H p o ∧ Same H H1 ∧ H1 p = some o := ⟨_, rfl, same_upd n, upd_same⟩
/-- one row alone -/
theorem Grd.one {H : Hp} {a r : Addr} {l : List V} (h1 : H a = some (.lst [V.ref r])) (h2 : H r = some (.lst l)) (hne : a ≠ r) : Grd H a [r] [l] := by
  refine ⟨h1, rfl, fun i r' y e1 e2 => ?_, fun m => hne (List.mem_singleton.mp m), by simp⟩
  cases i with
  | succ i => simp at e1
  | zero =>
    cases e1
    cases e2
    exact h2
theorem Grd.two {H : Hp} {a r r2 : Addr} {l l2 : List V} (h1 : H a = some (.lst [V.ref r, V.ref r2])) (h2 : H r = some (.lst l)) (h3 : H r2 = some (.lst l2)) (hne : a ≠ r) (hne2 : a ≠ r2) (h12 : r ≠ r2) : Grd H a [r, r2] [l, l2] := by
  refine ⟨h1, rfl, fun i r' y e1 e2 => ?_, fun m => ?_, ?_⟩
  · match i with
    | 0 =>
      cases e1
      cases e2
      exact h2
    | 1 =>
      cases e1
      cases e2
      exact h3
    | i + 2 => simp at e1
  · rcases List.mem_cons.mp m with z | z
    · exact hne z
    · exact hne2 (List.mem_singleton.mp z)
  · simp [h12]
/-- the numbers in their order, row by row -/
def rowN (C i : Nat) : List V := (List.range C).map fun j => V.int ((i * C + j : Nat) : Int)
def gridN (R C : Nat) : List (List V) := (List.range R).map (rowN C)
theorem rowN_len (C i : Nat) : (rowN C i).length = C := by
  unfold rowN
  rw [List.length_map, List.length_range]
theorem gridN_len (R C : Nat) : (gridN R C).length = R := by
  unfold gridN
  rw [List.length_map, List.length_range]
theorem gridN_get {R C i : Nat} (h : i < R) : (gridN R C)[i]? = some (rowN C i) := by
  unfold gridN
  rw [List.getElem?_map, List.getElem?_range h]
  rfl
theorem gridN_succ (R C : Nat) : gridN (R + 1) C = gridN R C ++ [rowN C R] := by
  unfold gridN
  rw [List.range_succ, List.map_append]
  rfl
theorem rowN_rdn {K : PySem.W.Frag} {H : Hp} {C i : Nat} : ∀ y ∈ rowN C i, Rdn K H y := fun y m => by
  obtain ⟨j, _, rfl⟩ := List.mem_map.mp m
  exact .inl ⟨_, rfl⟩
theorem same_upd_new {H0 H : Hp} {p : Addr} {o : HO} (s : Same H0 H) (n : H0 p = none) : Same H0 (upd H p o) := fun b x e => by
  rw [upd_ne (ne_of_none e n)]
  exact s _ _ e
end Tr
namespace Tr
open PySem PySem.Spec PyProof.Rows L2
theorem scGreat : FnScope ["_law_which", "_law_row"] ["_law_which"] (defScope d_law_great) := ⟨rfl, rfl, rfl, by decide +kernel, rfl, by decide +kernel, by decide +kernel⟩
def spBadMade (K : PySem.W.Frag) : Hp → VK → Prop := fun H Q => ∀ H' v, Same H H' → BadV K H' v → Q v H'
def spGreat (K : PySem.W.Frag) : Sp := fun vs H Q _ => ∃ z : Int, vs = [.int z] ∧ spBadMade K H Q
section
variable {P : Program} {w : World} {K : PySem.W.Frag} {mg : Str → Option Value} {base : Heap}
theorem ok_great {fa : Addr} {fd : FuncData} {k : Nat} (F : Fun K "_law_great" "_law_great" d_law_great fa fd) (mLi : mg "list" = none) (mR : mg "range" = none) :
    FnOk P w K mg base CX0 (k + 1) fa fd ["_law_which"] (spGreat K) := by
  refine F.ok scGreat (fun vs H Q E h => ?_) (fun cdv A outer s H vs Q E hr h => ?_)
  · obtain ⟨z, rfl, _⟩ := h
    rfl
  · obtain ⟨z, rfl, q⟩ := h
    refine ⟨_, pss_cons (ps_if (pt_cmpR op_eq (pe_op op_mod (pv 0) pe_int) pe_int (nomark _))
        (pss_one (ps_ret (pe_lc (own := [("_law_row", 1)]) (g := gName 1) (tt := tYes) rfl scGreat.nd (pi_range1 rfl mR (pa_cons pe_int pa_nil)) (blkOk_by (own := [("_law_row", 1)]) (N := ["_law_which", "_law_row"]) (sc := defScope d_law_great) (by decide +kernel))
          (fun _ _ _ _ _ => pg_name (i := 1) scGreat.nd rfl (.inl rfl)) (fun _ _ _ _ _ => pts_nil) (fun _ _ _ _ _ => pe_lst (pa_cons (pv 1) pa_nil))))) pss_nil)
      (pss_one (ps_ret (pe_lst (pa_cons (pe_listRg rfl rfl mLi (prg_1 rfl mR pe_int)) pa_nil)))), ?_⟩
    refine ⟨_, rfl, z, 2, rfl, rfl, (by show (0 : Int) < 2; decide), rfl, _, rfl, decI (fun _ => ?_) (fun _ => ?_)⟩
    · refine ⟨7, rfl, by decide, by decide, fun D nD => ?_⟩
      refine lc_gen (walk_range (lo := 0) (n := 7)) (fun i H2 => Same H H2 ∧ ∃ rs, Grd H2 D rs ((List.range i).map fun k : Nat => [V.int (k : Int)])) ⟨same_upd nD, [], Grd.nil upd_same⟩ (fun _ _ _ _ => True.intro) ?_ ?_
      · rintro i x H2 H3 hi ⟨sm, rs, G⟩ ⟨rfl, rfl⟩
        refine ⟨rfl, ?_⟩
        refine ⟨_, rfl, (by show 1 ≤ sizeLine; decide), fun l nl => ?_⟩
        have hlD : l ≠ D := fun z => by
          rw [z, G.top] at nl
          cases nl
        refine ⟨_, by rw [upd_ne hlD.symm]; exact G.top, ?_, ?_, rs ++ [l], ?_⟩
        · rw [List.length_map, G.len, List.length_map, List.length_range]
          exact small1000 (by omega)
        · intro b o e
          rw [upd_ne (ne_of_none e nD), upd_ne (ne_of_none e (sm.free nl))]
          exact sm _ _ e
        · rw [List.range_succ, List.map_append]
          have e : V.int (0 + (i : Int)) = V.int i := congrArg V.int (Int.zero_add _)
          show Grd (upd (upd H3 l (.lst [V.int (0 + (i : Int))])) D (.lst (rs.map V.ref ++ [V.ref l]))) D (rs ++ [l]) _
          rw [e]
          exact G.snoc nl
      · rintro H2 ⟨sm, rs, G⟩
        refine q H2 _ sm (G.bad (fun l hl y hy => ?_) ?_)
        · obtain ⟨k, _, rfl⟩ := List.mem_map.mp hl
          rw [List.mem_singleton.mp hy]
          exact .inl ⟨_, rfl⟩
        · rintro ⟨C, ns, _, h6, _⟩
          rw [List.length_map, List.length_range] at h6
          omega
    · refine ⟨7, rfl, RgOk.of_le (by omega) (by omega) (by omega) (by omega), fun l nl => ?_⟩
      refine ⟨(by show 1 ≤ sizeLine; decide), fun D nD => ?_⟩
      have e2 : rgV 0 7 = (List.range 7).map fun k : Nat => V.int k := rfl
      rw [e2] at nD ⊢
      have hlD : D ≠ l := fun z => by
        rw [z, upd_same] at nD
        cases nD
      refine q _ _ ((same_upd nl).trans (same_upd nD)) (Grd.bad (Grd.one (r := l) (l := (List.range 7).map fun k : Nat => V.int k) upd_same (by rw [upd_ne hlD.symm, upd_same]) hlD) (fun y hy v hv => ?_) ?_)
      · rw [List.mem_singleton.mp hy] at hv
        obtain ⟨k, _, rfl⟩ := List.mem_map.mp hv
        exact .inl ⟨_, rfl⟩
      · rintro ⟨C, ns, _, _, _, h6, hc, _⟩
        have := hc _ List.mem_cons_self
        rw [List.length_map, List.length_range] at this
        omega
end
end Tr
namespace Tr
open PySem PySem.Spec PyProof.Rows L2
theorem scBad : FnScope ["_law_which", "_law_more", "_law_bad", "_law_rows", "_law_columns", "_law_found", "_law_strange", "_law_row", "_law_column"] ["_law_which", "_law_more"] (defScope d_law_bad_tray) := ⟨rfl, rfl, rfl, by decide +kernel, rfl, by decide +kernel, by decide +kernel⟩
theorem bad_of {K : PySem.W.Frag} {H : Hp} {v : V} {t : Value} (hn : NL H v) (ty : TyX K H v t) (hk : PySem.W.kitOne K t (.type "list") = some false) : NL H v ∧ TyN K H v "list" := ⟨hn, t, ty, hk⟩
theorem bad_non {K : PySem.W.Frag} {H : Hp} : NL H .non ∧ TyN K H .non "list" := bad_of (.inl fun r e => by cases e) (.base .non) (kit_ty (by decide +kernel))
theorem bad_int {K : PySem.W.Frag} {H : Hp} (i : Int) : NL H (.int i) ∧ TyN K H (.int i) "list" := bad_of (.inl fun r e => by cases e) (.base (.int i)) (kit_ty (by decide +kernel))
theorem bad_str {K : PySem.W.Frag} {H : Hp} (x : Str) : NL H (.str x) ∧ TyN K H (.str x) "list" := bad_of (.inl fun r e => by cases e) (.base (.str x)) (kit_ty (by decide +kernel))
theorem bad_tup {K : PySem.W.Frag} {H : Hp} {a : Addr} {xs : List V} (h : H a = some (.tup xs)) : NL H (.ref a) ∧ TyN K H (.ref a) "list" := bad_of (.inr ⟨a, _, rfl, h, fun ys z => by cases z⟩) (.base (.tup h)) (kit_ty (by decide +kernel))
theorem bad_dK {K : PySem.W.Frag} {H : Hp} {a : Addr} {xs : List (Key × V)} (h : H a = some (.dK xs)) : NL H (.ref a) ∧ TyN K H (.ref a) "list" := bad_of (.inr ⟨a, _, rfl, h, fun ys z => by cases z⟩) (.base (.dK h)) (kit_ty (by decide +kernel))
/-- a list whose things are no lists -/
theorem bad_rows {K : PySem.W.Frag} {H : Hp} {a : Addr} {xs : List V} {x : V} (h : H a = some (.lst xs)) (hm : x ∈ xs) (hx : ∀ x ∈ xs, NL H x ∧ TyN K H x "list") : BadV K H (.ref a) := by
  refine .inr ⟨a, xs, rfl, h, ⟨fun x m => .inr (hx x m), fun x m y hy => ?_⟩, fun g => ?_⟩
  · rw [listOf_no (hx x m).1.no] at hy
    cases hy
  · obtain ⟨i, hi, e⟩ := List.getElem_of_mem hm
    exact (hx x hm).1.no (g.isL (by rw [← e]; exact List.getElem?_eq_getElem hi))
theorem rdn_ints {K : PySem.W.Frag} {H : Hp} {L : List (List Int)} : ∀ l ∈ L.map (fun l => l.map V.int), ∀ y ∈ l, Rdn K H y := fun l m y hy => by
  obtain ⟨ns, _, rfl⟩ := List.mem_map.mp m
  obtain ⟨z, _, rfl⟩ := List.mem_map.mp hy
  exact .inl ⟨_, rfl⟩
theorem bad_one {K : PySem.W.Frag} {H : Hp} {a r : Addr} {ns : List Int} (h1 : H a = some (.lst [V.ref r])) (h2 : H r = some (.lst (ns.map V.int))) (hn : ¬ ns.Perm ((List.range ns.length).map fun k : Nat => (k : Int))) : BadV K H (.ref a) := by
  have ne : a ≠ r := fun e => by
    rw [e, h2] at h1
    cases ns with
    | nil => cases h1
    | cons x r => cases h1
  exact (Grd.one h1 h2 ne).bad (rdn_ints (L := [ns])) (notOk_flat ns (by simp) hn)
theorem bad_nil {K : PySem.W.Frag} {H : Hp} {a : Addr} (h : H a = some (.lst [])) : BadV K H (.ref a) := (Grd.nil h).bad (fun l m => by cases m) (by
  rintro ⟨C, ns, h, _⟩
  exact absurd h (by decide))
theorem bad_nil1 {K : PySem.W.Frag} {H : Hp} {a r : Addr} (h1 : H a = some (.lst [V.ref r])) (h2 : H r = some (.lst [])) : BadV K H (.ref a) := by
  have ne : a ≠ r := fun e => by
    rw [e, h2] at h1
    cases h1
  refine (Grd.one h1 h2 ne).bad (rdn_ints (L := [[]])) ?_
  rintro ⟨C, ns, _, _, h, _, hc, _⟩
  have := hc _ List.mem_cons_self
  rw [← this] at h
  exact absurd h (by decide)
theorem bad_two {K : PySem.W.Frag} {H : Hp} {a r r2 : Addr} {l l2 : List Int} (h1 : H a = some (.lst [V.ref r, V.ref r2])) (h2 : H r = some (.lst (l.map V.int))) (h3 : H r2 = some (.lst (l2.map V.int))) (hl : l.length ≠ l2.length) : BadV K H (.ref a) := by
  have ne : a ≠ r := fun e => by
    rw [e, h2] at h1
    cases l with
    | nil => cases h1
    | cons x t => cases h1
  have ne2 : a ≠ r2 := fun e => by
    rw [e, h3] at h1
    cases l2 with
    | nil => cases h1
    | cons x t => cases h1
  have n12 : r ≠ r2 := fun e => by
    rw [e, h3] at h2
    have h2 := congrArg List.length (HO.lst.inj (Option.some.inj h2))
    rw [List.length_map, List.length_map] at h2
    exact hl h2.symm
  refine (Grd.two h1 h2 h3 ne ne2 n12).bad (rdn_ints (L := [l, l2])) ?_
  rintro ⟨C, ns, _, _, _, _, hc, _⟩
  have e1 := hc _ List.mem_cons_self
  have e2 := hc _ (List.mem_cons_of_mem _ List.mem_cons_self)
  rw [List.length_map] at e1 e2
  exact hl (e1.trans e2.symm)
theorem bad_ints {K : PySem.W.Frag} {H : Hp} {a : Addr} {n : Int} {ns : List Int} (h : H a = some (.lst ((n :: ns).map V.int))) : BadV K H (.ref a) := by
  refine bad_rows h (x := V.int n) List.mem_cons_self fun x m => ?_
  obtain ⟨z, _, rfl⟩ := List.mem_map.mp m
  exact bad_int z
theorem bad_tup1 {K : PySem.W.Frag} {H : Hp} {a t : Addr} {xs : List V} (h : H a = some (.lst [V.ref t])) (ht : H t = some (.tup xs)) : BadV K H (.ref a) := by
  refine bad_rows h (x := V.ref t) List.mem_cons_self fun x m => ?_
  rw [List.mem_singleton.mp m]
  exact bad_tup ht
theorem all_nil {K : PySem.W.Frag} {H : Hp} : ∀ x ∈ ([] : List V), BadV K H x := fun x m => by cases m
theorem all_cons {K : PySem.W.Frag} {H : Hp} {v : V} {vs : List V} (h : BadV K H v) (hs : ∀ x ∈ vs, BadV K H x) : ∀ x ∈ v :: vs, BadV K H x := fun x m => by
  rcases List.mem_cons.mp m with rfl | m
  · exact h
  · exact hs x m
theorem bads_get {K : PySem.W.Frag} {H : Hp} {xs : List V} (hb : ∀ x ∈ xs, BadV K H x) {j : Nat} (hj : j < xs.length) : ∃ v, xs[j]? = some v ∧ BadV K H v := ⟨xs[j], List.getElem?_eq_getElem hj, hb _ (List.getElem_mem hj)⟩
theorem tyx_upd {K : PySem.W.Frag} {H : Hp} {a : Addr} {l l' : List V} {x : V} {t : Value} (h : H a = some (.lst l)) (ty : TyX K H x t) : TyX K (upd H a (.lst l')) x t := by
  have key : ∀ b o, H b = some o → (∀ ys, o ≠ .lst ys) → (upd H a (.lst l')) b = some o := fun b o e n => by
    have : b ≠ a := fun z => by
      rw [z, h] at e
      exact n _ (Option.some.inj e).symm
    rw [upd_ne this]
    exact e
  cases ty with
  | base ty =>
    cases ty with
    | non => exact .base .non
    | bl x => exact .base (.bl x)
    | int i => exact .base (.int i)
    | str x => exact .base (.str x)
    | flt x => exact .base (.flt x)
    | @lst b ys e =>
      by_cases z : b = a
      · subst z
        exact .base (.lst upd_same)
      · exact .base (.lst (by rw [upd_ne z]; exact e))
    | frz e => exact .base (.frz (key _ _ e (fun ys z => by cases z)))
    | tup e => exact .base (.tup (key _ _ e (fun ys z => by cases z)))
    | dK e => exact .base (.dK (key _ _ e (fun ys z => by cases z)))
    | dT e => exact .base (.dT (key _ _ e (fun ys z => by cases z)))
    | ins e a b c d f => exact .base (.ins (key _ _ e (fun ys z => by cases z)) a b c d f)
  | byt b => exact .byt b
  | set e => exact .set (key _ _ e (fun ys z => by cases z))
  | kList a b => exact .kList a b
  | kTuple a b => exact .kTuple a b
  | kDict a b => exact .kDict a b
  | fTuple e => exact .fTuple (key _ _ e (fun ys z => by cases z))
  | fDict e => exact .fDict (key _ _ e (fun ys z => by cases z))
theorem Rdn.upd_lst {K : PySem.W.Frag} {H : Hp} {a : Addr} {l l' : List V} {y : V} (h : H a = some (.lst l)) (r : Rdn K H y) : Rdn K (upd H a (.lst l')) y := by
  rcases r with r | ⟨n, b | ⟨t, ty, k⟩⟩
  · exact .inl r
  · exact .inr ⟨n, .inl b⟩
  · exact .inr ⟨n, .inr ⟨t, tyx_upd h ty, k⟩⟩
theorem Rdn.same {K : PySem.W.Frag} {H H' : Hp} {y : V} (sm : Same H H') (r : Rdn K H y) : Rdn K H' y := by
  rcases r with r | ⟨n, b | t⟩
  · exact .inl r
  · exact .inr ⟨n, .inl b⟩
  · exact .inr ⟨n, .inr (t.same sm)⟩
theorem same_new {H : Hp} {p : Addr} {o : HO} (h : Same H (upd H p o)) : (upd H p o) p = some o := upd_same
def spBad (K : PySem.W.Frag) : Sp := fun vs H Q _ => ∃ (z y : Nat), vs = [.int z, .int y] ∧ spBadMade K H Q
section
variable {P : Program} {w : World} {K : PySem.W.Frag} {mg : Str → Option Value} {base : Heap}
theorem ok_bad {fa : Addr} {fd : FuncData} {k : Nat} (F : Fun K "_law_bad_tray" "_law_bad_tray" d_law_bad_tray fa fd) (mLi : mg "list" = none) (mR : mg "range" = none) :
    FnOk P w K mg base CX0 (k + 1) fa fd ["_law_which", "_law_more"] (spBad K) := by
  refine F.ok scBad (fun vs H Q E h => ?_) (fun cdv A outer s H vs Q E hr h => ?_)
  · obtain ⟨z, y, rfl, _⟩ := h
    rfl
  · obtain ⟨z, y, rfl, q⟩ := h
    refine ⟨_, pss_cons (ps_set (i := 2) scBad.nd rfl (.inl rfl) (pe_lst (pa_cons pe_non (pa_cons (pe_tup pa_nil) (pa_cons (pe_lst pa_nil) (pa_cons pe_str (pa_cons pe_int (pa_cons pe_dnewK (pa_cons (pe_lst (pa_cons (pe_lst pa_nil) pa_nil))
        (pa_cons (pe_lst (pa_cons (pe_lst (pa_cons pe_int (pa_cons pe_int pa_nil))) (pa_cons (pe_lst (pa_cons pe_int pa_nil)) pa_nil)))
        (pa_cons (pe_lst (pa_cons (pe_tup (pa_cons pe_int (pa_cons pe_int pa_nil))) pa_nil))
        (pa_cons (pe_lst (pa_cons (pe_lst (pa_cons pe_int (pa_cons pe_int pa_nil))) pa_nil))
        (pa_cons (pe_lst (pa_cons (pe_lst (pa_cons pe_int (pa_cons pe_int pa_nil))) pa_nil))
        (pa_cons (pe_lst (pa_cons (pe_lst (pa_cons pe_int (pa_cons pe_int pa_nil))) pa_nil)) pa_nil))))))))))))))
      (pss_cons (ps_set (i := 2) scBad.nd rfl (.inl rfl) (pe_op op_cat (pv 2) (pe_lst (pa_cons (pe_lst (pa_cons (pe_op op_cat (pe_lst (pa_cons pe_int pa_nil)) (pe_op op_rep (pe_lst (pa_cons pe_int pa_nil)) pe_int)) pa_nil)) (pa_cons (pe_lst (pa_cons pe_int (pa_cons pe_int pa_nil))) pa_nil)))))
      (pss_cons (ps_if (pt_cmpR op_lt (pe_op op_mod (pv 0) pe_int) pe_int (nomark _))
        (pss_one (ps_ret (pe_ix ix_list (pv 2) (pe_op op_mod (pv 0) pe_int) (fun _ _ => rfl)))) pss_nil)
      (pss_cons (ps_asg (pe_tup (pa_cons (pe_op op_add pe_int (pe_op op_mod (pv 1) pe_int)) (pa_cons (pe_op op_add pe_int (pe_op op_mod (pe_op op_fdiv (pv 1) pe_int) pe_int)) pa_nil)))
          (pg_tup rfl (pgs_cons (pg_name (i := 3) scBad.nd rfl (.inl rfl)) (pgs_cons (pg_name (i := 4) scBad.nd rfl (.inr rfl)) pgs_nil))))
      (pss_cons (ps_setLc (i := 5) (own := [("_law_row", 7)]) (g := gName 7) (tt := tYes) rfl scBad.nd rfl rfl (sw_true rfl rfl rfl (by decide +kernel)) (pi_range1 rfl mR (pa_cons (pv 3) pa_nil)) (blkOk_by (own := [("_law_row", 7)]) (N := ["_law_which", "_law_more", "_law_bad", "_law_rows", "_law_columns", "_law_found", "_law_strange", "_law_row", "_law_column"]) (sc := defScope d_law_bad_tray) (by decide +kernel))
          (fun _ _ _ _ _ => pg_name (i := 7) scBad.nd rfl (.inr rfl)) (fun _ _ _ _ _ => pts_nil)
          (fun _ _ _ _ _ => pe_lc (own := [("_law_column", 8)]) (g := gName 8) (tt := tYes) rfl scBad.nd (pi_range1 rfl mR (pa_cons (pv 4) pa_nil)) (blkOk_by (own := [("_law_column", 8)]) (N := ["_law_which", "_law_more", "_law_bad", "_law_rows", "_law_columns", "_law_found", "_law_strange", "_law_row", "_law_column"]) (sc := ({ kind := .function, names := [((".0" : Str), .local), (("_law_row" : Str), .cell), (("range" : Str), .globalImplicit), (("_law_columns" : Str), .cell)], isGenerator := false, isCoroutine := false } : Scope)) (by decide +kernel))
            (fun _ _ _ _ _ => pg_name (i := 8) scBad.nd rfl (.inl rfl)) (fun _ _ _ _ _ => pts_nil) (fun _ _ _ _ _ => pe_op op_add (pe_op op_mul (pv 7) (pv 4)) (pv 8))))
      (pss_cons (ps_set (i := 6) scBad.nd rfl (.inl rfl) (pe_lst (pa_cons pe_non (pa_cons pe_str (pa_cons pe_bl (pa_cons pe_bl (pa_cons (pe_un un_neg pe_int) (pa_cons (pe_op op_mul (pv 3) (pv 4)) (pa_cons (pe_lst (pa_cons pe_int pa_nil)) (pa_cons (pe_tup (pa_cons pe_int pa_nil)) (pa_cons (pe_op op_pow pe_int pe_int) (pa_cons pe_int pa_nil))))))))))))
      (pss_cons (ps_asg (pe_ix ix_list (pv 6) (pe_op op_sub (pe_op op_mod (pv 0) pe_int) pe_int) (fun _ _ => rfl)) (pg_sub (pe_ix ix_list (pv 5) (pe_op op_mod (pe_op op_fdiv (pv 0) pe_int) (pv 3)) (fun _ _ => rfl)) (pe_op op_mod (pe_op op_fdiv (pv 0) pe_int) (pv 4)) set_list))
      (pss_cons (ps_if (pt_cmpR op_eq (pe_op op_mod (pv 0) pe_int) pe_int (nomark _))
        (pss_one (ps_asg (pe_tup (pa_cons pe_int (pa_cons pe_int pa_nil))) (pg_tup rfl (pgs_cons (pg_sub (pe_ix ix_list (pv 5) pe_int (fun _ _ => rfl)) pe_int set_list) (pgs_cons (pg_sub (pe_ix ix_list (pv 5) pe_int (fun _ _ => rfl)) pe_int set_list) pgs_nil))))) pss_nil)
      (pss_one (ps_ret (pv 5)))))))))), ?_⟩
    -- ALLOC
    refine ⟨(by show 0 ≤ sizeLine; decide), fun p1 n1 => ?_⟩
    have s1 := same_upd (o := .tup []) n1
    refine ⟨(by show 0 ≤ sizeLine; decide), fun p2 n2 => ?_⟩
    have s2 := same_upd (o := .lst []) n2
    refine fun p3 n3 => ?_
    have s3 := same_upd (o := .dK []) n3
    refine ⟨(by show 0 ≤ sizeLine; decide), fun p4 n4 => ?_⟩
    have s4 := same_upd (o := .lst []) n4
    refine ⟨(by show 1 ≤ sizeLine; decide), fun p5 n5 => ?_⟩
    have s5 := same_upd (o := .lst [V.ref p4]) n5
    refine ⟨(by show 2 ≤ sizeLine; decide), fun p6 n6 => ?_⟩
    have s6 := same_upd (o := .lst [V.int 1, V.int 0]) n6
    refine ⟨(by show 1 ≤ sizeLine; decide), fun p7 n7 => ?_⟩
    have s7 := same_upd (o := .lst [V.int 2]) n7
    refine ⟨(by show 2 ≤ sizeLine; decide), fun p8 n8 => ?_⟩
    have s8 := same_upd (o := .lst [V.ref p6, V.ref p7]) n8
    refine ⟨(by show 2 ≤ sizeLine; decide), fun p9 n9 => ?_⟩
    have s9 := same_upd (o := .tup [V.int 1, V.int 0]) n9
    refine ⟨(by show 1 ≤ sizeLine; decide), fun p10 n10 => ?_⟩
    have s10 := same_upd (o := .lst [V.ref p9]) n10
    refine ⟨(by show 2 ≤ sizeLine; decide), fun p11 n11 => ?_⟩
    have s11 := same_upd (o := .lst [V.int 1, V.int 2]) n11
    refine ⟨(by show 1 ≤ sizeLine; decide), fun p12 n12 => ?_⟩
    have s12 := same_upd (o := .lst [V.ref p11]) n12
    refine ⟨(by show 2 ≤ sizeLine; decide), fun p13 n13 => ?_⟩
    have s13 := same_upd (o := .lst [V.int 0, V.int 0]) n13
    refine ⟨(by show 1 ≤ sizeLine; decide), fun p14 n14 => ?_⟩
    have s14 := same_upd (o := .lst [V.ref p13]) n14
    refine ⟨(by show 2 ≤ sizeLine; decide), fun p15 n15 => ?_⟩
    have s15 := same_upd (o := .lst [V.int 0, V.int 2]) n15
    refine ⟨(by show 1 ≤ sizeLine; decide), fun p16 n16 => ?_⟩
    have s16 := same_upd (o := .lst [V.ref p15]) n16
    refine ⟨(by show 12 ≤ sizeLine; decide), fun p17 n17 => ?_⟩
    have s17 := same_upd (o := .lst [V.non, V.ref p1, V.ref p2, V.str "10", V.int 5, V.ref p3, V.ref p5, V.ref p8, V.ref p10, V.ref p12, V.ref p14, V.ref p16]) n17
    refine ⟨_, rfl, ?_⟩
    refine ⟨(by show 1 ≤ sizeLine; decide), fun p18 n18 => ?_⟩
    have s18 := same_upd (o := .lst [V.int 0]) n18
    refine ⟨(by show 1 ≤ sizeLine; decide), fun p19 n19 => ?_⟩
    have s19 := same_upd (o := .lst [V.int 1]) n19
    refine ⟨_, _, _, rfl, rfl, upd_same, by decide, by decide, (by show 1 * 6 ≤ sizeLine; decide), fun p20 n20 => ?_⟩
    have s20 := same_upd (o := .lst [V.int 1, V.int 1, V.int 1, V.int 1, V.int 1, V.int 1]) n20
    refine ⟨_, _, _, _, rfl, rfl, (s19.trans s20) _ _ upd_same, upd_same, (by show 1 + 6 ≤ sizeLine; decide), fun p21 n21 => ?_⟩
    have s21 := same_upd (o := .lst [V.int 0, V.int 1, V.int 1, V.int 1, V.int 1, V.int 1, V.int 1]) n21
    refine ⟨(by show 1 ≤ sizeLine; decide), fun p22 n22 => ?_⟩
    have s22 := same_upd (o := .lst [V.ref p21]) n22
    refine ⟨(by show 2 ≤ sizeLine; decide), fun p23 n23 => ?_⟩
    have s23 := same_upd (o := .lst [V.int 0, V.int 1]) n23
    refine ⟨(by show 2 ≤ sizeLine; decide), fun p24 n24 => ?_⟩
    have s24 := same_upd (o := .lst [V.ref p22, V.ref p23]) n24
    refine ⟨_, _, _, _, rfl, rfl, (s18.trans (s19.trans (s20.trans (s21.trans (s22.trans (s23.trans s24)))))) _ _ upd_same, upd_same, (by show 12 + 2 ≤ sizeLine; decide), fun p25 n25 => ?_⟩
    have s25 := same_upd (o := .lst ([V.non, V.ref p1, V.ref p2, V.str "10", V.int 5, V.ref p3, V.ref p5, V.ref p8, V.ref p10, V.ref p12, V.ref p14, V.ref p16] ++ [V.ref p22, V.ref p23])) n25
    have t25 := s25
    have t24 := s24.trans t25
    have t23 := s23.trans t24
    have t22 := s22.trans t23
    have t21 := s21.trans t22
    have t20 := s20.trans t21
    have t19 := s19.trans t20
    have t18 := s18.trans t19
    have t17 := s17.trans t18
    have t16 := s16.trans t17
    have t15 := s15.trans t16
    have t14 := s14.trans t15
    have t13 := s13.trans t14
    have t12 := s12.trans t13
    have t11 := s11.trans t12
    have t10 := s10.trans t11
    have t9 := s9.trans t10
    have t8 := s8.trans t9
    have t7 := s7.trans t8
    have t6 := s6.trans t7
    have t5 := s5.trans t6
    have t4 := s4.trans t5
    have t3 := s3.trans t4
    have t2 := s2.trans t3
    have t1 := s1.trans t2
    have f1 := t2 _ _ (upd_same (o := .tup []))
    have f3 := t4 _ _ (upd_same (o := .dK []))
    have f4 := t5 _ _ (upd_same (o := .lst []))
    have f5 := t6 _ _ (upd_same (o := .lst [V.ref p4]))
    have f6 := t7 _ _ (upd_same (o := .lst [V.int 1, V.int 0]))
    have f7 := t8 _ _ (upd_same (o := .lst [V.int 2]))
    have f8 := t9 _ _ (upd_same (o := .lst [V.ref p6, V.ref p7]))
    have f9 := t10 _ _ (upd_same (o := .tup [V.int 1, V.int 0]))
    have f10 := t11 _ _ (upd_same (o := .lst [V.ref p9]))
    have f11 := t12 _ _ (upd_same (o := .lst [V.int 1, V.int 2]))
    have f12 := t13 _ _ (upd_same (o := .lst [V.ref p11]))
    have f13 := t14 _ _ (upd_same (o := .lst [V.int 0, V.int 0]))
    have f14 := t15 _ _ (upd_same (o := .lst [V.ref p13]))
    have f15 := t16 _ _ (upd_same (o := .lst [V.int 0, V.int 2]))
    have f16 := t17 _ _ (upd_same (o := .lst [V.ref p15]))
    have f21 := t22 _ _ (upd_same (o := .lst [V.int 0, V.int 1, V.int 1, V.int 1, V.int 1, V.int 1, V.int 1]))
    have f22 := t23 _ _ (upd_same (o := .lst [V.ref p21]))
    have f23 := t24 _ _ (upd_same (o := .lst [V.int 0, V.int 1]))
    have f2 := t3 _ _ (upd_same (o := .lst []))
    have f25 := same_new s25
    refine ⟨_, rfl, z, 24, rfl, rfl, (by show (0 : Int) < 24; decide), _, _, rfl, rfl, _, rfl, decI (fun hz => ?_) (fun hz => ?_)⟩
    · have hb := all_cons (K := K) (.inl bad_non) (all_cons (.inl (bad_tup f1)) (all_cons (bad_nil f2) (all_cons (.inl (bad_str "10")) (all_cons (.inl (bad_int 5)) (all_cons (.inl (bad_dK f3)) (all_cons (bad_nil1 f5 f4)
        (all_cons (bad_two (l := [1, 0]) (l2 := [2]) f8 f6 f7 (by decide)) (all_cons (bad_tup1 f10 f9) (all_cons (bad_one (ns := [1, 2]) f12 f11 (by decide)) (all_cons (bad_one (ns := [0, 0]) f14 f13 (by decide)) (all_cons (bad_one (ns := [0, 2]) f16 f15 (by decide))
        (all_cons (bad_one (ns := [0, 1, 1, 1, 1, 1, 1]) f22 f21 (by decide)) (all_cons (bad_ints (n := 0) (ns := [1]) f23) all_nil)))))))))))))
      have hz : (z : Int) % 24 < 14 := hz
      have hzn : z % 24 < 14 := by omega
      obtain ⟨v, e, hv⟩ := bads_get hb hzn
      refine ⟨_, rfl, _, rfl, z, 24, rfl, rfl, (by show (0 : Int) < 24; decide), p25, _, ((z % 24 : Nat) : Int), v, rfl, congrArg V.int (by omega), SqL.of f25, atI_nat e, ?_⟩
      exact q _ v t1 hv
    have hzn : 14 ≤ z % 24 := by
      have hz : ¬ (z : Int) % 24 < 14 := hz
      omega
    clear f25 f23 f22 f21 f16 f15 f14 f13 f12 f11 f10 f9 f8 f7 f6 f5 f4 f3 f2 f1
    generalize upd _ p25 _ = G at t1 ⊢
    clear t2 t3 t4 t5 t6 t7 t8 t9 t10 t11 t12 t13 t14 t15 t16 t17 t18 t19 t20 t21 t22 t23 t24
    -- _law_rows, _law_columns
    obtain ⟨R, hRe⟩ : ∃ R, R = 1 + y % 3 := ⟨_, rfl⟩
    obtain ⟨C, hCe⟩ : ∃ C, C = 2 + y / 3 % 4 := ⟨_, rfl⟩
    refine ⟨_, rfl, y, 3, rfl, rfl, (by show (0 : Int) < 3; decide), 1, _, rfl, rfl, _, rfl, y, 3, rfl, rfl, ⟨by decide, by decide⟩, _, 4, rfl, rfl, (by show (0 : Int) < 4; decide), 2, _, rfl, rfl, (by show 2 ≤ sizeLine; decide), fun pt nt => ?_⟩
    have e1 : (1 : Int) + (y : Int) % 3 = (R : Int) := by omega
    have e2 : (2 : Int) + (y : Int) / 3 % 4 = (C : Int) := by omega
    have st := same_upd (o := .tup [V.int (1 + (y : Int) % 3), V.int (2 + (y : Int) / 3 % 4)]) nt
    refine ⟨pt, _, rfl, SqT.of upd_same, rfl, _, _, rfl, _, _, rfl, rfl, ?_⟩
    have hG := t1.trans st
    clear st
    generalize upd G pt _ = G1 at hG ⊢
    have hR : R ≤ 3 := by omega
    have hR0 : 0 < R := by omega
    have hC : C ≤ 5 := by omega
    have hC2 : 2 ≤ C := by omega
    have q2 : ∀ H' v, Same G1 H' → BadV K H' v → Q v H' := fun H' v s b => q H' v (hG.trans s) b
    -- the numbers in their order
    refine ⟨_, rfl, (R : Int), congrArg (fun k => [V.int k]) e1, by omega, by omega, fun D nD => ?_⟩
    rw [Int.toNat_natCast]
    refine lc_gen (walk_range (lo := 0) (n := R)) (fun i H2 => Same G1 H2 ∧ ∃ rs, Grd H2 D rs (gridN i C) ∧ ∀ r ∈ rs, G1 r = none) ⟨same_upd nD, [], Grd.nil upd_same, fun r m => by cases m⟩ (fun _ _ _ _ => True.intro) ?_ ?_
    · rintro i x H2 H3 hi ⟨sm, rs, T, hrs⟩ ⟨rfl, rfl⟩
      refine ⟨rfl, ?_⟩
      refine ⟨_, rfl, (C : Int), congrArg (fun k => [V.int k]) e2, by omega, by omega, fun D2 nD2 => ?_⟩
      rw [Int.toNat_natCast]
      refine lc_gen (walk_range (lo := 0) (n := C)) (fun j H4 => Same H3 H4 ∧ H4 D2 = some (.lst ((rowN C i).take j))) ⟨same_upd nD2, by rw [upd_same]; rfl⟩ (fun _ _ _ _ => True.intro) ?_ ?_
      · rintro j x H4 H5 hj ⟨sm4, hD2⟩ ⟨rfl, rfl⟩
        refine ⟨rfl, ?_⟩
        have ev : (0 + (i : Int)) * (C : Int) + (0 + (j : Int)) = ((i * C + j : Nat) : Int) := by
          rw [Int.zero_add, Int.zero_add, Int.natCast_add, Int.natCast_mul]
        refine ⟨_, rfl, _, rfl, _, (C : Int), rfl, congrArg V.int e2, .inl ⟨by omega, by omega⟩, _, rfl, _, _, rfl, rfl, ?_⟩
        refine ⟨_, hD2, ?_, same_upd_new sm4 nD2, ?_⟩
        · rw [List.length_take, rowN_len]
          exact small1000 (by omega)
        · rw [upd_same, take_more (x := V.int ((i * C + j : Nat) : Int)) (by
            unfold rowN
            rw [List.getElem?_map, List.getElem?_range hj]
            rfl), ← ev]
      · rintro H4 ⟨sm4, hD2⟩
        rw [List.take_of_length_le (by rw [rowN_len]; exact Nat.le_refl _)] at hD2
        have T4 := T.mono sm4
        have hD2D : D2 ≠ D := fun e => by
          rw [e, T.top] at nD2
          cases nD2
        have hD2r : D2 ∉ rs := fun m => by
          obtain ⟨k, hk, e⟩ := List.getElem_of_mem m
          have := T.row k D2 _ (by rw [← e]; exact List.getElem?_eq_getElem hk) (List.getElem?_eq_getElem (by rw [← T.len]; exact hk))
          rw [nD2] at this
          cases this
        refine ⟨_, T4.top, ?_, same_upd_new (sm.trans sm4) nD, rs ++ [D2], ?_, fun r m => ?_⟩
        · rw [List.length_map, T.len, gridN_len]
          exact small1000 (by omega)
        · rw [gridN_succ]
          exact T4.more hD2 hD2D hD2r
        · rcases List.mem_append.mp m with m | m
          · exact hrs r m
          · rw [List.mem_singleton.mp m]
            exact sm.free nD2
    · rintro H2 ⟨sm, rs, T, hrs⟩
      have hRC : R * C ≤ 15 := Nat.le_trans (Nat.mul_le_mul hR hC) (by decide)
      have eRC : (R : Int) * (C : Int) = ((R * C : Nat) : Int) := (Int.natCast_mul R C).symm
      -- _law_strange
      refine ⟨_, rfl, _, rfl, _, rfl, (R : Int), (C : Int), congrArg V.int e1, congrArg V.int e2, .inl ⟨by omega, by omega⟩, (by show 1 ≤ sizeLine; decide), fun pa na => ?_⟩
      have sa := same_upd (o := .lst [V.int 1]) na
      refine ⟨(by show 1 ≤ sizeLine; decide), fun pb nb => ?_⟩
      have sb := same_upd (o := .tup [V.int 0]) nb
      refine ⟨_, _, rfl, rfl, ⟨by decide, by decide, by decide⟩, (by show 10 ≤ sizeLine; decide), fun pc nc => ?_⟩
      have sc := same_upd (o := .lst [V.non, V.str "1", V.bl true, V.bl false, V.int (-1), V.int ((R : Int) * (C : Int)), V.ref pa, V.ref pb, V.int (10 ^ (9 : Int).toNat), V.int 0]) nc
      have fa := (sb.trans sc) _ _ upd_same
      have fb := sc _ _ upd_same
      have fc := same_new sc
      have T5 := T.mono (sa.trans (sb.trans sc))
      have s5 := sm.trans (sa.trans (sb.trans sc))
      generalize upd _ pc _ = H5 at fa fb fc T5 s5 ⊢
      clear sa sb sc nc nb na T sm
      have hx : ∃ x, [V.non, V.str "1", V.bl true, V.bl false, V.int (-1), V.int ((R : Int) * (C : Int)), V.ref pa, V.ref pb, V.int (10 ^ (9 : Int).toNat), V.int 0][z % 24 - 14]? = some x ∧ Rdn K H5 x ∧ (z % 24 ≠ 23 → ∀ v : Int, x = .int v → v < 0 ∨ ((R * C : Nat) : Int) ≤ v) := by
        have hj : z % 24 - 14 < 10 := by omega
        have h23 : z % 24 ≠ 23 → z % 24 - 14 ≠ 9 := by omega
        generalize z % 24 - 14 = j at hj h23
        have hb : ∀ y, (∀ v, y ≠ V.int v) → (∃ t, TyX K H5 y t ∧ PySem.W.kitOne K t (.type "int") = some false) → Rdn K H5 y := fun y h1 h2 => .inr ⟨h1, .inr h2⟩
        have h10 : j = 0 ∨ j = 1 ∨ j = 2 ∨ j = 3 ∨ j = 4 ∨ j = 5 ∨ j = 6 ∨ j = 7 ∨ j = 8 ∨ j = 9 := by omega
        rcases h10 with rfl | rfl | rfl | rfl | rfl | rfl | rfl | rfl | rfl | rfl
        · exact ⟨_, rfl, hb _ (fun v e => by cases e) ⟨_, .base .non, kit_ty (by decide +kernel)⟩, fun _ v e => by cases e⟩
        · exact ⟨_, rfl, hb _ (fun v e => by cases e) ⟨_, .base (.str _), kit_ty (by decide +kernel)⟩, fun _ v e => by cases e⟩
        · exact ⟨_, rfl, .inr ⟨(fun v e => by cases e), .inl ⟨_, rfl⟩⟩, fun _ v e => by cases e⟩
        · exact ⟨_, rfl, .inr ⟨(fun v e => by cases e), .inl ⟨_, rfl⟩⟩, fun _ v e => by cases e⟩
        · refine ⟨_, rfl, .inl ⟨_, rfl⟩, fun _ v e => ?_⟩
          have := V.int.inj e
          exact .inl (by omega)
        · refine ⟨_, rfl, .inl ⟨_, rfl⟩, fun _ v e => ?_⟩
          have := V.int.inj e
          exact .inr (by omega)
        · exact ⟨_, rfl, hb _ (fun v e => by cases e) ⟨_, .base (.lst fa), kit_ty (by decide +kernel)⟩, fun _ v e => by cases e⟩
        · exact ⟨_, rfl, hb _ (fun v e => by cases e) ⟨_, .base (.tup fb), kit_ty (by decide +kernel)⟩, fun _ v e => by cases e⟩
        · refine ⟨_, rfl, .inl ⟨_, rfl⟩, fun _ v e => ?_⟩
          have := V.int.inj e
          have h9 : (10 : Int) ^ (9 : Int).toNat = 1000000000 := rfl
          rw [h9] at this
          exact .inr (by omega)
        · exact ⟨_, rfl, .inl ⟨_, rfl⟩, fun h => absurd rfl (h23 h)⟩
      obtain ⟨x, hx, rx, ox⟩ := hx
      -- the strange one is put in
      obtain ⟨i, hi⟩ : ∃ i, i = z / 24 % R := ⟨_, rfl⟩
      obtain ⟨j, hj⟩ : ∃ j, j = z / 72 % C := ⟨_, rfl⟩
      have hiR : i < R := by
        rw [hi]
        exact Nat.mod_lt _ hR0
      have hjC : j < C := by
        rw [hj]
        exact Nat.mod_lt _ (by omega)
      have ei : (z : Int) / 24 % (R : Int) = (i : Int) := by rw [hi, Int.natCast_emod, Int.natCast_ediv]; rfl
      have ej : (z : Int) / 72 % (C : Int) = (j : Int) := by rw [hj, Int.natCast_emod, Int.natCast_ediv]; rfl
      obtain ⟨ri, k1, k2, k3⟩ := T5.get (gridN_get hiR)
      refine ⟨_, rfl, _, rfl, z, 24, rfl, rfl, (by show (0 : Int) < 24; decide), _, 14, rfl, rfl, pc, _, ((z % 24 - 14 : Nat) : Int), x, rfl, congrArg V.int (by omega), SqL.of fc, atI_nat hx, ?_⟩
      refine ⟨_, rfl, _, rfl, z, 24, rfl, rfl, ⟨by decide, by decide⟩, _, rfl, _, (R : Int), rfl, congrArg V.int e1, (by show (0 : Int) < (R : Int); omega), D, _, (i : Int), _, rfl, congrArg V.int ei, SqL.of T5.top, atI_nat k2, ?_⟩
      refine ⟨_, rfl, z, 72, rfl, rfl, ⟨by decide, by decide⟩, _, rfl, _, (C : Int), rfl, congrArg V.int e2, (by show (0 : Int) < (C : Int); omega), ri, _, (j : Int), j, rfl, congrArg V.int ej, k3, by rw [rowN_len]; exact ixN_nat hjC, ?_⟩
      have hri : G1 ri = none := hrs ri (List.mem_of_getElem? k1)
      have T6 := T5.put (l' := (rowN C i).set j x) k1
      have s6 := same_upd_new (o := .lst ((rowN C i).set j x)) s5 hri
      have hl6 : ∀ l ∈ (gridN R C).set i ((rowN C i).set j x), l.length = C ∧ ∀ y ∈ l, Rdn K (upd H5 ri (.lst ((rowN C i).set j x))) y := fun l m => by
        have base : ∀ l ∈ gridN R C, l.length = C ∧ ∀ y ∈ l, Rdn K (upd H5 ri (.lst ((rowN C i).set j x))) y := fun l m => by
          obtain ⟨k, _, rfl⟩ := List.mem_map.mp m
          exact ⟨rowN_len C k, rowN_rdn⟩
        rcases List.mem_or_eq_of_mem_set m with m | rfl
        · exact base l m
        · refine ⟨by rw [List.length_set, rowN_len], fun y my => ?_⟩
          rcases List.mem_or_eq_of_mem_set my with my | rfl
          · exact rowN_rdn y my
          · exact Rdn.upd_lst k3 rx
      have hget6 : ((gridN R C).set i ((rowN C i).set j x))[i]? = some ((rowN C i).set j x) := List.getElem?_set_self (by rw [gridN_len]; exact hiR)
      generalize upd H5 ri _ = H6 at T6 s6 hl6 ⊢
      have hflat : (((gridN R C).set i ((rowN C i).set j x)).flatten).length = R * C := by
        rw [flat_len fun l m => (hl6 l m).1, List.length_set, gridN_len]
      have hlen6 : ((gridN R C).set i ((rowN C i).set j x)).length = R := by rw [List.length_set, gridN_len]
      have hbad6 : z % 24 ≠ 23 → ¬ OkG ((gridN R C).set i ((rowN C i).set j x)) := fun h ok => by
        obtain ⟨v, e, h0, hlt⟩ := ok.int (List.mem_of_getElem? hget6) (List.mem_of_getElem? (List.getElem?_set_self (by rw [rowN_len]; exact hjC)))
        rw [hflat] at hlt
        have := ox h v e
        omega
      clear hget6 hflat
      generalize (gridN R C).set i ((rowN C i).set j x) = L6 at T6 hl6 hbad6 hlen6
      refine ⟨_, rfl, z, 24, rfl, rfl, (by show (0 : Int) < 24; decide), rfl, _, rfl, decI (fun h => ?_) (fun h => ?_)⟩
      case refine_2 =>
        have h23 : z % 24 ≠ 23 := fun e => h (congrArg V.int (by omega))
        exact ⟨_, rfl, q2 _ _ s6 (T6.bad (fun l m => (hl6 l m).2) (hbad6 h23))⟩
      refine ⟨(by show 2 ≤ sizeLine; decide), fun pt nt => ?_⟩
      have st := same_upd (o := .tup [V.int 1, V.int 1]) nt
      have s7 := s6.trans st
      have T7 := T6.mono st
      obtain ⟨l0, hl0⟩ : ∃ l0, L6[0]? = some l0 := ⟨_, List.getElem?_eq_getElem (by omega)⟩
      obtain ⟨r0, g1, g2, g3⟩ := T7.get hl0
      have h0 := hl6 l0 (List.mem_of_getElem? hl0)
      have hr0 : G1 r0 = none := by
        have hm : r0 ∈ rs := List.mem_of_getElem? g1
        exact hrs r0 hm
      have T8 := T7.put (l' := l0.set 0 (V.int 1)) g1
      have s8 := same_upd_new (o := .lst (l0.set 0 (V.int 1))) s7 hr0
      have hl80 : (L6.set 0 (l0.set 0 (V.int 1)))[0]? = some (l0.set 0 (V.int 1)) := List.getElem?_set_self (by omega)
      obtain ⟨r0', g1', g2', g3'⟩ := T8.get hl80
      have er : r0' = r0 := by
        rw [g1] at g1'
        exact (Option.some.inj g1').symm
      subst er
      refine ⟨pt, _, rfl, SqT.of upd_same, rfl, _, _, rfl, _, rfl, D, _, 0, _, rfl, rfl, SqL.of T7.top, atI_nat (j := 0) g2, r0', _, 0, 0, rfl, rfl, g3, ixN_nat (j := 0) (show 0 < l0.length by omega), ?_⟩
      refine ⟨_, _, rfl, _, rfl, D, _, 0, _, rfl, rfl, SqL.of T8.top, atI_nat (j := 0) g2', r0', _, 1, 1, rfl, rfl, g3', (by rw [List.length_set]; exact ixN_nat (j := 1) (show 1 < l0.length by omega)), rfl, ?_⟩
      have T9 := T8.put (l' := (l0.set 0 (V.int 1)).set 1 (V.int 1)) g1'
      have s9 := same_upd_new (o := .lst ((l0.set 0 (V.int 1)).set 1 (V.int 1))) s8 hr0
      refine ⟨_, rfl, q2 _ _ s9 (T9.bad (fun l m y my => ?_) (fun ok => ?_))⟩
      · have tr : ∀ y, Rdn K H6 y → Rdn K _ y := fun y r => Rdn.upd_lst (l' := (l0.set 0 (V.int 1)).set 1 (V.int 1)) g3' (Rdn.upd_lst (l' := l0.set 0 (V.int 1)) g3 (Rdn.same st r))
        have hl0r : ∀ y ∈ l0.set 0 (V.int 1), Rdn K H6 y := fun y my => by
          rcases List.mem_or_eq_of_mem_set my with my | rfl
          · exact h0.2 y my
          · exact .inl ⟨_, rfl⟩
        rcases List.mem_or_eq_of_mem_set m with m | rfl
        · rcases List.mem_or_eq_of_mem_set m with m | rfl
          · exact tr y ((hl6 l m).2 y my)
          · exact tr y (hl0r y my)
        · rcases List.mem_or_eq_of_mem_set my with my | rfl
          · exact tr y (hl0r y my)
          · exact .inl ⟨_, rfl⟩
      · have hlen : ∀ l ∈ (L6.set 0 (l0.set 0 (V.int 1))).set 0 ((l0.set 0 (V.int 1)).set 1 (V.int 1)), l.length = C := fun l m => by
          rcases List.mem_or_eq_of_mem_set m with m | rfl
          · rcases List.mem_or_eq_of_mem_set m with m | rfl
            · exact (hl6 l m).1
            · rw [List.length_set]
              exact h0.1
          · rw [List.length_set, List.length_set]
            exact h0.1
        have hg : ((L6.set 0 (l0.set 0 (V.int 1))).set 0 ((l0.set 0 (V.int 1)).set 1 (V.int 1)))[0]? = some ((l0.set 0 (V.int 1)).set 1 (V.int 1)) := List.getElem?_set_self (by rw [List.length_set]; omega)
        have hl0 : l0.length = C := h0.1
        have f0 := flat_get hlen (i := 0) (j := 0) (by omega) hg
        have f1 := flat_get hlen (i := 0) (j := 1) (by omega) hg
        rw [List.getElem?_set_ne (by decide), List.getElem?_set_self (by omega)] at f0
        rw [List.getElem?_set_self (by rw [List.length_set]; omega)] at f1
        rw [Nat.zero_mul, Nat.zero_add] at f0 f1
        exact ok.nodup f0 f1
end
end Tr
/-! a text times a number -/
namespace Tr
open PySem PySem.Spec PyProof.Rows L2
def rMulS : V → V → Hp → VK → Prop := fun x y H Q => ∃ (ws : List Nat) (n : Nat), x = .str (txt ws) ∧ y = .int n ∧ n ≤ 1000 ∧ ws.length ≤ 1000 ∧ Q (.str (txt (List.replicate n ws).flatten)) H
theorem fold_app (a : Array Nat) : ∀ (n : Nat) (acc : Array Nat), List.foldl (fun x1 x2 => x1 ++ x2) acc (List.replicate n a) = acc ++ ((List.replicate n a.toList).flatten).toArray
  | 0, acc => by simp
  | n + 1, acc => by
    rw [List.replicate_succ, List.foldl_cons, fold_app a n, List.replicate_succ, List.flatten_cons]
    apply Array.ext'
    simp
theorem rep_len (n : Nat) (ws : List Nat) : ((List.replicate n ws).flatten).length = n * ws.length := by
  induction n with
  | zero => simp
  | succ n ih =>
    rw [List.replicate_succ, List.flatten_cons, List.length_append, ih, Nat.add_mul]
    omega
section
variable {X : Cx}
theorem op_mulS : OpR X (binaryOp .Mult) rMulS := by
  intro pins s σ H x y v u Q I rx ry h
  obtain ⟨ws, n, rfl, rfl, hn, hw, q⟩ := h
  obtain ⟨t, rfl⟩ := rx
  obtain ⟨t2, rfl⟩ := ry
  have hl : (txt ws).length = ws.length := txt_len ws
  have hm : n * ws.length ≤ 1000 * 1000 := Nat.mul_le_mul hn hw
  refine P.mul_str ?_ ?_ ?_ ?_
  · rw [Bool.or_eq_false_iff]
    exact ⟨decide_eq_false (by omega), decide_eq_false (by omega)⟩
  · intro h1 _ h2
    rw [hl] at h2
    have h3 : (2 ^ 63 - 1 : Int) / (n : Int) < 1000 + 1 := by omega
    have h4 := Int.lt_mul_of_ediv_lt (by omega) h3
    have h5 : (1000 + 1 : Int) * n ≤ (1000 + 1) * 1000 := by omega
    omega
  · intro _ _
    refine decide_eq_false (fun h2 => ?_)
    rw [hl, Int.toNat_natCast, Nat.mul_comm] at h2
    have : sizeLine = 16777216 := rfl
    omega
  · have e16 : sizeLine = 16777216 := rfl
    by_cases h1 : (n : Int) < 1
    · rw [if_pos h1]
      have h0 : n = 0 := by omega
      subst h0
      refine ⟨?_, .str _, H, I.tok _, ⟨_, rfl⟩, q⟩
      show (#[] : Array Nat).size ≤ sizeLine
      rw [e16]
      decide
    · rw [if_neg h1]
      by_cases c : ((n : Int) == 1 || (txt ws).length == 0) = true
      · rw [if_pos c]
        have e : (List.replicate n ws).flatten = ws := by
          rw [hl] at c
          rcases Bool.or_eq_true _ _ ▸ c with c | c
          · have : n = 1 := by
              have := eq_of_beq c
              omega
            subst this
            simp
          · have hw0 : ws = [] := List.eq_nil_of_length_eq_zero (eq_of_beq c)
            subst hw0
            apply List.eq_nil_of_length_eq_zero
            rw [rep_len]
            rfl
        rw [e] at q
        exact ⟨.str _, H, I, ⟨_, rfl⟩, q⟩
      · rw [if_neg c, Int.toNat_natCast, fold_app]
        have e : (#[] : Array Nat) ++ ((List.replicate n (txt ws).cps.toList).flatten).toArray = ((List.replicate n ws).flatten).toArray := by
          apply Array.ext'
          simp [txt]
        rw [e]
        refine ⟨?_, .str _, H, I.tok _, ⟨_, rfl⟩, q⟩
        show ((List.replicate n ws).flatten).toArray.size ≤ sizeLine
        rw [List.size_toArray, rep_len, e16]
        omega
end
end Tr
namespace Tr
open PySem PySem.Spec PyProof.Rows L2
theorem Grd.tray {H : Hp} {a : Addr} {rs : List Addr} {R C : Nat} {f : Fld} {L : List (List V)} (g : Grd H a rs L) (e : L = (List.range R).map (rowV C f)) : TrayAt H a rs R C f := by
  subst e
  refine ⟨g.top, by rw [g.len, List.length_map, List.length_range], fun i r h => g.row i r _ h ?_, g.nd, g.na⟩
  have hi := (List.getElem?_eq_some_iff.mp h).1
  rw [g.len, List.length_map, List.length_range] at hi
  rw [List.getElem?_map, List.getElem?_range hi]
  rfl
/-- told, of what is refused -/
def spToldR (K : PySem.W.Frag) (CT CU : Addr) : Sp := fun vs H Q E => ∃ v u, vs = [v, u] ∧ ((BadV K H v ∧ ∀ H', Same H H' → E (.ref CT) none H') ∨
  ∃ (a : Addr) (rs : List Addr) (R C : Nat) (s : Sl), v = .ref a ∧ TrayAt H a rs R C s.1 ∧ Good R C s ∧ ((BadV K H u ∧ ∀ H', Same H H' → E (.ref CT) none H') ∨
  ∃ (b : Addr) (rs' : List Addr) (R' C' : Nat) (s' : Sl), u = .ref b ∧ TrayAt H b rs' R' C' s'.1 ∧ Good R' C' s' ∧ (R ≠ R' ∨ C ≠ C') ∧ ∀ H', Same H H' → E (.ref CU) none H'))
def t22 : Fld := fun k => [1, 0, 2, 3].getD k 0
theorem good22 : Good 2 2 (t22, 0, 1) := ⟨by decide, by decide, by decide, by decide, (by show (allV (2 * 2) t22).Perm _; decide), ⟨by decide, by decide, by decide⟩⟩
theorem tray22 {H : Hp} {a r1 r2 : Addr} (h : H a = some (.lst [V.ref r1, V.ref r2])) (h1 : H r1 = some (.lst [V.int 1, V.int 0])) (h2 : H r2 = some (.lst [V.int 2, V.int 3])) (n12 : r1 ≠ r2) : TrayAt H a [r1, r2] 2 2 t22 := by
  have ne : a ≠ r1 := fun e => by
    rw [e, h1] at h
    cases h
  have ne2 : a ≠ r2 := fun e => by
    rw [e, h2] at h
    cases h
  exact (Grd.two h h1 h2 ne ne2 n12).tray rfl
theorem scWith : FnScope ["_law_door", "_law_tray"] ["_law_door", "_law_tray"] (defScope d_law_with_tray) := ⟨rfl, rfl, rfl, by decide +kernel, rfl, by decide +kernel, by decide +kernel⟩
def spWith (K : PySem.W.Frag) (CT : Addr) : Sp := fun vs H Q E => ∃ (d : Int) (v : V), vs = [.int d, v] ∧ BadV K H v ∧ ∀ H', Same H H' → E (.ref CT) none H'
section
variable {P : Program} {w : World} {K : PySem.W.Frag} {mg : Str → Option Value} {base : Heap}
theorem ok_with {fa CT CS CU fM fW fO : Addr} {fd fdM fdW fdO : FuncData} {k jm jw jo : Nat} (F : Fun K "_law_with_tray" "_law_with_tray" d_law_with_tray fa fd)
    (hm : jm ≤ k) (hw : jw ≤ k) (ho : jo ≤ k)
    (GM : FnOk P w K mg base (L2.CX P w) jm fM fdM ["tray", "slides"] (spMovedG K CT CS)) (gM : mg "moved" = some (.ref fM)) (kM : PySem.W.keepIn K (.ref fM) = true) (bM : Binds K fdM ["tray", "slides"] [])
    (GW : FnOk P w K mg base (L2.CX P w) jw fW fdW ["tray"] (spWaysG K CT)) (gW : mg "ways" = some (.ref fW)) (kW : PySem.W.keepIn K (.ref fW) = true) (bW : Binds K fdW ["tray"] [])
    (GO : FnOk P w K mg base (L2.CX P w) jo fO fdO ["one", "other"] (spToldR K CT CU)) (gO : mg "told" = some (.ref fO)) (kO : PySem.W.keepIn K (.ref fO) = true) (bO : Binds K fdO ["one", "other"] []) :
    FnOk P w K mg base (L2.CX P w) (k + 1) fa fd ["_law_door", "_law_tray"] (spWith K CT) := by
  refine F.okX scWith (fun vs H Q E h => ?_) (fun cdv A outer s H vs Q E hr h => ?_)
  · obtain ⟨d, v, rfl, _⟩ := h
    rfl
  · obtain ⟨d, v, rfl, hb, qe⟩ := h
    refine ⟨_, pss_cons (ps_if (pt_cmpR op_lt (pv 0) pe_int (nomark _))
        (pss_one (ps_ret (pe_ifExp (pt_cmpR op_eq (pv 0) pe_int (nomark _))
          (pe_callS GM (hr.mono hm) (by rfl) gM kM bM (fun σ => passAt (takes_of rfl rfl rfl rfl) σ) (pa_cons (pv 1) (pa_cons pe_non pa_nil)))
          (pe_callS GW (hr.mono hw) (by rfl) gW kW bW (fun σ => passAt (takes_of rfl rfl rfl rfl) σ) (pa_cons (pv 1) pa_nil))))) pss_nil)
      (pss_one (ps_ret (pe_ifExp (pt_cmpR op_eq (pv 0) pe_int (nomark _))
          (pe_callS GO (hr.mono ho) (by rfl) gO kO bO (fun σ => passAt (takes_of rfl rfl rfl rfl) σ) (pa_cons (pv 1) (pa_cons pe_non pa_nil)))
          (pe_callS GO (hr.mono ho) (by rfl) gO kO bO (fun σ => passAt (takes_of rfl rfl rfl rfl) σ) (pa_cons (pe_lst (pa_cons (pe_lst (pa_cons pe_int (pa_cons pe_int pa_nil))) (pa_cons (pe_lst (pa_cons pe_int (pa_cons pe_int pa_nil))) pa_nil))) (pa_cons (pv 1) pa_nil)))))), ?_⟩
    refine ⟨_, rfl, _, _, rfl, rfl, _, rfl, decI (fun _ => ?_) (fun _ => ?_)⟩
    · refine ⟨_, rfl, rfl, _, rfl, decI (fun _ => ?_) (fun _ => ?_)⟩
      · exact ⟨_, rfl, v, .non, rfl, .inl ⟨hb, qe⟩⟩
      · exact ⟨_, rfl, v, rfl, .inl ⟨hb, qe⟩⟩
    · refine ⟨_, rfl, rfl, _, rfl, decI (fun _ => ?_) (fun _ => ?_)⟩
      · exact ⟨_, rfl, v, .non, rfl, .inl ⟨hb, qe⟩⟩
      · refine ⟨(by show 2 ≤ sizeLine; decide), fun p1 n1 => ?_⟩
        have s1 := same_upd (o := .lst [V.int 1, V.int 0]) n1
        refine ⟨(by show 2 ≤ sizeLine; decide), fun p2 n2 => ?_⟩
        have s2 := same_upd (o := .lst [V.int 2, V.int 3]) n2
        refine ⟨(by show 2 ≤ sizeLine; decide), fun p3 n3 => ?_⟩
        have s3 := same_upd (o := .lst [V.ref p1, V.ref p2]) n3
        have f1 := (s2.trans s3) _ _ (upd_same (o := .lst [V.int 1, V.int 0]))
        have f2 := s3 _ _ (upd_same (o := .lst [V.int 2, V.int 3]))
        have n12 : p1 ≠ p2 := ne_of_none (o := .lst [V.int 1, V.int 0]) upd_same n2
        have T := tray22 (same_new s3) f1 f2 n12
        have sA := s1.trans (s2.trans s3)
        exact ⟨_, rfl, _, _, rfl, .inr ⟨p3, _, 2, 2, (t22, 0, 1), rfl, T, good22, .inl ⟨hb.same sA, fun H' s' => qe H' (sA.trans s')⟩⟩⟩
end
end Tr
namespace Tr
open PySem PySem.Spec PyProof.Rows L2
theorem PSs_some {X : Cx} {st : List Stmt} {p : Addr → Prop} {T : Addr → TS} (h : ∀ C, p C → PSs X st (T C)) : PSs X st (fun D σ H => ∃ C, p C ∧ T C D σ H) := ⟨fun pins s σ H D I q => by
  obtain ⟨C, hp, t⟩ := q
  exact (h C hp).run pins s σ H D I t⟩
/-- what isinstance says of an error of class C -/
structure Err1 (K : PySem.W.Frag) (CE CT CS CU C : Addr) (bT bS bU : Bool) : Prop where
  ex : PySem.W.exmOne K (.ref C) (.ref CE) = some true
  c : ExcC K C
  t : PySem.W.kitOne K (.ref C) (.ref CT) = some bT
  s : PySem.W.kitOne K (.ref C) (.ref CS) = some bS
  u : PySem.W.kitOne K (.ref C) (.ref CU) = some bU
  v : PySem.W.kitOne K (.ref C) (.type "ValueError") = some true
structure Err3 (K : PySem.W.Frag) (mg : Str → Option Value) (CE CT CS CU : Addr) : Prop where
  gE : mg "TrayError" = some (.ref CE)
  gS : mg "BadSlides" = some (.ref CS)
  gT : mg "BadTray" = some (.ref CT)
  gU : mg "Unlike" = some (.ref CU)
  eT : Err1 K CE CT CS CU CT true false false
  eS : Err1 K CE CT CS CU CS false true false
  eU : Err1 K CE CT CS CU CU false false true
/-- slides that are none -/
def BadS (K : PySem.W.Frag) (H : Hp) (x : V) : Prop := TyN K H x "str" ∨ ∃ ws : List Nat, x = .str (txt ws) ∧ ws.length ≤ 1000 ∧ ∃ l ∈ ws, ¬ okL l
theorem get_of {α : Type} {p : α → Prop} {xs : List α} (h : ∀ x ∈ xs, p x) {j : Nat} (hj : j < xs.length) : ∃ x, xs[j]? = some x ∧ p x := ⟨xs[j], List.getElem?_eq_getElem hj, h _ (List.getElem_mem hj)⟩
theorem mem9 {α : Type} {y a b c d e f g h i : α} (m : y ∈ [a, b, c, d, e, f, g, h, i]) : y = a ∨ y = b ∨ y = c ∨ y = d ∨ y = e ∨ y = f ∨ y = g ∨ y = h ∨ y = i := by simpa using m
theorem mem6 {α : Type} {y a b c d e f : α} (m : y ∈ [a, b, c, d, e, f]) : y = a ∨ y = b ∨ y = c ∨ y = d ∨ y = e ∨ y = f := by simpa using m
theorem mem5 {α : Type} {y a b c d e : α} (m : y ∈ [a, b, c, d, e]) : y = a ∨ y = b ∨ y = c ∨ y = d ∨ y = e := by simpa using m
theorem ld_eq : ("ld" : Str) = txt [108, 100] := by decide +kernel
theorem bigU_eq : ("U" : Str) = txt [85] := by decide +kernel
theorem dx_eq : ("d x" : Str) = txt [100, 32, 120] := by decide +kernel
theorem quest_eq : ("?" : Str) = txt [63] := by decide +kernel
theorem dru_eq : ("dru" : Str) = txt [100, 114, 117] := by decide +kernel
theorem d1_eq : ("d" : Str) = txt [100] := by decide +kernel
theorem u1_eq : ("u" : Str) = txt [117] := by decide +kernel
theorem r1_eq : ("r" : Str) = txt [114] := by decide +kernel
theorem l1_eq : ("l" : Str) = txt [108] := by decide +kernel
theorem dd_eq : ("dd" : Str) = txt [100, 100] := by decide +kernel
theorem ll_eq : ("ll" : Str) = txt [108, 108] := by decide +kernel
/-- the numbers in their order -/
def idT : Fld := fun k => (k : Int)
theorem goodId {R C : Nat} (r0 : 0 < R) (r6 : R ≤ 6) (c0 : 0 < C) (c6 : C ≤ 6) : Good R C (idT, 0, 0) := ⟨r0, r6, c0, c6, (by show (allV (R * C) idT).Perm _; exact List.Perm.refl _), ⟨r0, c0, by show ((0 * C + 0 : Nat) : Int) = 0; omega⟩⟩
theorem nl1 {H : Hp} {a r x : Addr} {y : Int} {xs : List V} {ys : List V} (h : H a = some (.lst (V.ref x :: xs))) (h2 : H r = some (.lst (V.int y :: ys))) : a ≠ r := fun e => by
  rw [e, h2] at h
  cases h
theorem nl2 {H : Hp} {a r : Addr} {x y : Int} {xs ys : List V} (h : H a = some (.lst (V.int x :: xs))) (h2 : H r = some (.lst (V.int y :: ys))) (n : x ≠ y) : a ≠ r := fun e => by
  rw [e, h2] at h
  have h := List.cons.inj (HO.lst.inj (Option.some.inj h))
  exact n (V.int.inj h.1).symm
theorem Grd.three {H : Hp} {a r r2 r3 : Addr} {l l2 l3 : List V} (h1 : H a = some (.lst [V.ref r, V.ref r2, V.ref r3])) (h2 : H r = some (.lst l)) (h3 : H r2 = some (.lst l2)) (h4 : H r3 = some (.lst l3)) (ne : a ≠ r) (ne2 : a ≠ r2) (ne3 : a ≠ r3) (h12 : r ≠ r2) (h13 : r ≠ r3) (h23 : r2 ≠ r3) : Grd H a [r, r2, r3] [l, l2, l3] := by
  refine ⟨h1, rfl, fun i r' y e1 e2 => ?_, fun m => ?_, ?_⟩
  · match i with
    | 0 =>
      cases e1
      cases e2
      exact h2
    | 1 =>
      cases e1
      cases e2
      exact h3
    | 2 =>
      cases e1
      cases e2
      exact h4
    | i + 3 => simp at e1
  · rcases List.mem_cons.mp m with z | z
    · exact ne z
    · rcases List.mem_cons.mp z with z | z
      · exact ne2 z
      · exact ne3 (List.mem_singleton.mp z)
  · simp [h12, h13, h23]
theorem scToldL : FnScope ["_law_kind", "_law_which", "_law_more", "_law_tray", "_law_bad", "_law_door", "_law_other", "error", "_law_found"] ["_law_kind", "_law_which", "_law_more"] (defScope d_law_told) := ⟨rfl, rfl, rfl, by decide +kernel, rfl, by decide +kernel, by decide +kernel⟩
def spToldL : Sp := fun vs H Q _ => ∃ (kd wh mo : Nat), vs = [.int kd, .int wh, .int mo] ∧ kd ≤ 3 ∧
  ∀ H' p, Same H H' → H' p = some (.lst [.bl (decide (kd = 0)), .bl (decide (kd = 1 ∨ kd = 2)), .bl (decide (kd = 3)), .bl true]) → Q (.ref p) H'
section
variable {P : Program} {w : World} {K : PySem.W.Frag} {mg : Str → Option Value} {base : Heap}
def tSuiteT (K : PySem.W.Frag) (CT CS CU a C : Addr) : TS :=
  tSeq (tAsg (tLst (tCons (tCB (rIsE K C a) (tCons (tVar 7) (tCons (tC (.ref CT)) tNil))) (tCons (tCB (rIsE K C a) (tCons (tVar 7) (tCons (tC (.ref CS)) tNil))) (tCons (tCB (rIsE K C a) (tCons (tVar 7) (tCons (tC (.ref CU)) tNil))) tNil)))) (gName 8))
    (tRet (tOp rCat (tVar 8) (tLst (tCons (tCB (rIsE K C a) (tCons (tVar 7) (tCons (tC (.ty "ValueError")) tNil))) tNil))))
theorem suiteT_ok {CE CT CS CU C a : Addr} {bT bS bU : Bool} (e : Err1 K CE CT CS CU C bT bS bU) {D : Ends} {σ : L2.St} {H : Hp} (h7 : σ[7]? = some (some (.ref a))) (h9 : σ.length = 9)
    (q : ∀ H' p, Same H H' → H' p = some (.lst [.bl bT, .bl bS, .bl bU, .bl true]) → D.rt (.ref p) H') : tSuiteT K CT CS CU a C D σ H := by
  refine ⟨_, h7, .ref CT, .ref CT, bT, rfl, fun u r => r, e.t, _, h7, .ref CS, .ref CS, bS, rfl, fun u r => r, e.s, _, h7, .ref CU, .ref CU, bU, rfl, fun u r => r, e.u, (by show 3 ≤ sizeLine; decide), fun p n => ?_⟩
  have s1 := same_upd (o := .lst [V.bl bT, V.bl bS, V.bl bU]) n
  refine ⟨.ref p, ?_, _, ?_, .ty "ValueError", .type "ValueError", true, rfl, fun u r => r, e.v, (by show 1 ≤ sizeLine; decide), fun p2 n2 => ?_⟩
  · show (σ.set 8 (some (.ref p)))[8]? = _
    rw [List.getElem?_set_self (by omega)]
  · show (σ.set 8 (some (.ref p)))[7]? = _
    rw [List.getElem?_set_ne (by decide)]
    exact h7
  have s2 := same_upd (o := .lst [V.bl true]) n2
  refine ⟨_, _, _, _, rfl, rfl, s2 _ _ upd_same, upd_same, (by show 3 + 1 ≤ sizeLine; decide), fun p3 n3 => ?_⟩
  exact q _ _ (s1.trans (s2.trans (same_upd n3))) upd_same
theorem ok_toldL {fa fA fG fB fM fU fH fO CE CT CS CU : Addr} {fd fdA fdG fdB fdM fdU fdH fdO : FuncData} {k jA jG jB jM jU jH jO : Nat} (F : Fun K "_law_told" "_law_told" d_law_told fa fd) (mI : mg "isinstance" = none) (mV : mg "ValueError" = none) (Er : Err3 K mg CE CT CS CU)
    (hA : jA ≤ k) (hG : jG ≤ k) (hB : jB ≤ k) (hM : jM ≤ k) (hU : jU ≤ k) (hH : jH ≤ k) (hO : jO ≤ k)
    (GA : FnOk P w K mg base (L2.CX P w) jA fA fdA ["_law_door", "_law_tray"] (spWith K CT)) (gA : mg "_law_with_tray" = some (.ref fA)) (kA : PySem.W.keepIn K (.ref fA) = true) (bA : Binds K fdA ["_law_door", "_law_tray"] [])
    (GG : FnOk P w K mg base CX0 jG fG fdG ["_law_which"] (spGreat K)) (gG : mg "_law_great" = some (.ref fG)) (kG : PySem.W.keepIn K (.ref fG) = true) (bG : Binds K fdG ["_law_which"] [])
    (GB : FnOk P w K mg base CX0 jB fB fdB ["_law_which", "_law_more"] (spBad K)) (gB : mg "_law_bad_tray" = some (.ref fB)) (kB : PySem.W.keepIn K (.ref fB) = true) (bB : Binds K fdB ["_law_which", "_law_more"] [])
    (GM : FnOk P w K mg base (L2.CX P w) jM fM fdM ["tray", "slides"] (spMovedG K CT CS)) (gM : mg "moved" = some (.ref fM)) (kM : PySem.W.keepIn K (.ref fM) = true) (bM : Binds K fdM ["tray", "slides"] [])
    (GU : FnOk P w K mg base (L2.CX P w) jU fU fdU ["slides"] (spSlidesG K CS undo)) (gU : mg "undone" = some (.ref fU)) (kU : PySem.W.keepIn K (.ref fU) = true) (bU : Binds K fdU ["slides"] [])
    (GH : FnOk P w K mg base (L2.CX P w) jH fH fdH ["slides"] (spSlidesG K CS thinL)) (gH : mg "thinned" = some (.ref fH)) (kH : PySem.W.keepIn K (.ref fH) = true) (bH : Binds K fdH ["slides"] [])
    (GO : FnOk P w K mg base (L2.CX P w) jO fO fdO ["one", "other"] (spToldR K CT CU)) (gO : mg "told" = some (.ref fO)) (kO : PySem.W.keepIn K (.ref fO) = true) (bO : Binds K fdO ["one", "other"] []) :
    FnOk P w K mg base CX0 (k + 1) fa fd ["_law_kind", "_law_which", "_law_more"] spToldL := by
  refine F.ok scToldL (fun vs H Q E h => ?_) (fun cdv A outer s H vs Q E hr h => ?_)
  · obtain ⟨kd, wh, mo, rfl, _⟩ := h
    rfl
  · obtain ⟨kd, wh, mo, rfl, hk, q⟩ := h
    -- TERM
    refine ⟨_, (pss_cons (ps_set (i := 3) scToldL.nd rfl (.inl rfl) (pe_lst (pa_cons (pe_lst (pa_cons pe_int (pa_cons pe_int pa_nil))) (pa_cons (pe_lst (pa_cons pe_int (pa_cons pe_int pa_nil))) pa_nil))))
      (pss_cons (ps_try_as (i := 7) (ts := fun a cls d D σ H => ∃ C, (ExcC K C ∧ cls = .ref C ∧ d = none) ∧ tSuiteT K CT CS CU a C D σ H) (Wout := fun _ _ _ _ => False) rfl rfl scToldL.nd rfl rfl ⟨rfl, by decide, Or.inl Er.gE⟩ takes0
        (fun W pn xe tk _ => (pss_one (ps_if (PW.pt (pw_and (pt_cmpR op_eq (pv 0) pe_int (nomark _)) (pw_and1 (pt_cmpR op_eq (pe_op op_mod (pv 1) pe_int) pe_int (nomark _))))) (pss_one (ps_expr (pe_callS GA (hr.mono hA) (by rfl) gA kA bA (fun σ => passAt tk σ) (pa_cons (pe_op op_mod (pe_op op_fdiv (pv 1) pe_int) pe_int) (pa_cons (pe_call GG (hr.mono hG) (by rfl) gG kG bG .nil pass0 (pa_cons (pe_op op_fdiv (pv 1) pe_int) pa_nil)) pa_nil))))) (pss_one (ps_if (pt_cmpR op_eq (pv 0) pe_int (nomark _)) (pss_one (ps_expr (pe_callS GA (hr.mono hA) (by rfl) gA kA bA (fun σ => passAt tk σ) (pa_cons (pe_op op_mod (pe_op op_fdiv (pv 1) pe_int) pe_int) (pa_cons (pe_call GB (hr.mono hB) (by rfl) gB kB bB .nil pass0 (pa_cons (pv 1) (pa_cons (pv 2) pa_nil))) pa_nil))))) (pss_one (ps_if (pt_cmpR op_eq (pv 0) pe_int (nomark _)) (pss_cons (ps_set (i := 4) scToldL.nd rfl (.inl rfl) (pe_ix (r := rIxL K) ix_list (pe_lst (pa_cons pe_non (pa_cons pe_int (pa_cons (pe_lst (pa_cons pe_str pa_nil)) (pa_cons (pe_tup (pa_cons pe_str pa_nil)) (pa_cons pe_str (pa_cons pe_str (pa_cons pe_bl (pa_cons pe_dnewK (pa_cons (pe_op op_add_str (pe_op op_mulS pe_str (pe_op op_mod (pv 2) pe_int)) pe_str) pa_nil)))))))))) (pe_op op_mod (pv 1) pe_int) (fun _ _ => rfl)))
      (pss_cons (ps_set (i := 5) scToldL.nd rfl (.inl rfl) (pe_op op_mod (pe_op op_fdiv (pv 1) pe_int) pe_int))
      (pss_one (ps_expr (pe_ifExp (pt_cmpR op_eq (pv 5) pe_int (nomark _)) (pe_callS GM (hr.mono hM) (by rfl) gM kM bM (fun σ => passAt tk σ) (pa_cons (pv 3) (pa_cons (pv 4) pa_nil))) (pe_ifExp (pt_cmpR op_eq (pv 5) pe_int (nomark _)) (pe_callS GU (hr.mono hU) (by rfl) gU kU bU (fun σ => passAt tk σ) (pa_cons (pv 4) pa_nil)) (pe_callS GH (hr.mono hH) (by rfl) gH kH bH (fun σ => passAt tk σ) (pa_cons (pv 4) pa_nil)))))))) (pss_one (ps_if (pt_cmpR op_eq (pv 0) pe_int (nomark _)) (pss_one (ps_expr (pe_callS GM (hr.mono hM) (by rfl) gM kM bM (fun σ => passAt tk σ) (pa_cons (pv 3) (pa_cons (pe_ix (r := rIxL K) ix_list (pe_lst (pa_cons pe_str (pa_cons pe_str (pa_cons pe_str (pa_cons pe_str (pa_cons (pe_op op_mulS pe_str (pe_op op_add pe_int (pe_op op_mod (pv 2) pe_int))) (pa_cons (pe_op op_add_str pe_str (pe_op op_mulS pe_str (pe_op op_add pe_int (pe_op op_mod (pv 2) pe_int)))) pa_nil))))))) (pe_op op_mod (pv 1) pe_int) (fun _ _ => rfl)) pa_nil))))) (pss_cons (ps_set (i := 6) scToldL.nd rfl (.inl rfl) (pe_ix (r := rIxL K) ix_list (pe_lst (pa_cons (pe_lst (pa_cons (pe_lst (pa_cons pe_int pa_nil)) pa_nil)) (pa_cons (pe_lst (pa_cons (pe_lst (pa_cons pe_int (pa_cons pe_int pa_nil))) pa_nil)) (pa_cons (pe_lst (pa_cons (pe_lst (pa_cons pe_int pa_nil)) (pa_cons (pe_lst (pa_cons pe_int pa_nil)) pa_nil))) (pa_cons (pe_lst (pa_cons (pe_lst (pa_cons pe_int (pa_cons pe_int (pa_cons pe_int pa_nil)))) (pa_cons (pe_lst (pa_cons pe_int (pa_cons pe_int (pa_cons pe_int pa_nil)))) pa_nil))) (pa_cons (pe_lst (pa_cons (pe_lst (pa_cons pe_int (pa_cons pe_int pa_nil))) (pa_cons (pe_lst (pa_cons pe_int (pa_cons pe_int pa_nil))) (pa_cons (pe_lst (pa_cons pe_int (pa_cons pe_int pa_nil))) pa_nil)))) pa_nil)))))) (pe_op op_mod (pv 1) pe_int) (fun _ _ => rfl)))
      (pss_one (ps_expr (pe_ifExp (pt_cmpR op_eq (pe_op op_mod (pe_op op_fdiv (pv 1) pe_int) pe_int) pe_int (nomark _)) (pe_callS GO (hr.mono hO) (by rfl) gO kO bO (fun σ => passAt tk σ) (pa_cons (pv 3) (pa_cons (pv 6) pa_nil))) (pe_callS GO (hr.mono hO) (by rfl) gO kO bO (fun σ => passAt tk σ) (pa_cons (pv 6) (pa_cons (pv 3) pa_nil))))))))))))))))
        (fun a oe cls d pn hz hf => PSs_some fun C e => by
          obtain ⟨hc, rfl, rfl⟩ := e
          exact (pss_cons (ps_set (i := 8) scToldL.nd rfl (.inl rfl) (pe_lst (pa_cons (pe_callB (r := rIsE K C a) (call_isE hc hz hf) (by rfl) mI (by decide +kernel) (pa_cons (pv 7) (pa_cons (pe_glob (v := .ref CT) rfl Er.gT rfl) pa_nil))) (pa_cons (pe_callB (r := rIsE K C a) (call_isE hc hz hf) (by rfl) mI (by decide +kernel) (pa_cons (pv 7) (pa_cons (pe_glob (v := .ref CS) rfl Er.gS rfl) pa_nil))) (pa_cons (pe_callB (r := rIsE K C a) (call_isE hc hz hf) (by rfl) mI (by decide +kernel) (pa_cons (pv 7) (pa_cons (pe_glob (v := .ref CU) rfl Er.gU rfl) pa_nil))) pa_nil)))))
      (pss_one (ps_ret (pe_op op_cat (pv 8) (pe_lst (pa_cons (pe_callB (r := rIsE K C a) (call_isE hc hz hf) (by rfl) mI (by decide +kernel) (pa_cons (pv 7) (pa_cons (pe_bltn (v := .ty "ValueError") (by rfl) mV (by decide +kernel) rfl) pa_nil))) pa_nil))))))))
      (pss_one (ps_ret (pe_lst pa_nil))))), ?_⟩
    refine ⟨(by show 2 ≤ sizeLine; decide), fun p1 n1 => ?_⟩
    have s1 := same_upd (o := .lst [V.int 1, V.int 0]) n1
    refine ⟨(by show 2 ≤ sizeLine; decide), fun p2 n2 => ?_⟩
    have s2 := same_upd (o := .lst [V.int 2, V.int 3]) n2
    refine ⟨(by show 2 ≤ sizeLine; decide), fun p3 n3 => ?_⟩
    have s3 := same_upd (o := .lst [V.ref p1, V.ref p2]) n3
    have T := tray22 (same_new s3) ((s2.trans s3) _ _ (upd_same (o := .lst [V.int 1, V.int 0]))) (s3 _ _ (upd_same (o := .lst [V.int 2, V.int 3]))) (ne_of_none (o := .lst [V.int 1, V.int 0]) upd_same n2)
    have sA := s1.trans (s2.trans s3)
    generalize upd _ p3 _ = G at T sA ⊢
    clear s1 s2 s3 n1 n2 n3
    have q2 : ∀ H' p, Same G H' → H' p = some (.lst [.bl (decide (kd = 0)), .bl (decide (kd = 1 ∨ kd = 2)), .bl (decide (kd = 3)), .bl true]) → Q (.ref p) H' := fun H' p s h => q H' p (sA.trans s) h
    clear q sA
    have hdv : ∀ (x m : Int), 0 < m → m < 1000000 → True := fun _ _ _ _ => trivial
    refine ⟨_, rfl, rfl, _, rfl, decI (fun hk0 => ?_) (fun hk0 => ?_)⟩
    · have e0 : kd = 0 := by
        have := V.int.inj hk0
        omega
      subst e0
      refine ⟨_, rfl, _, _, rfl, rfl, (by show (0 : Int) < 25; decide), rfl, _, rfl, decI (fun h25 => ?_) (fun h25 => ?_)⟩
      · refine ⟨_, rfl, _, _, rfl, rfl, ⟨by decide, by decide⟩, _, _, rfl, rfl, (by show (0 : Int) < 4; decide), _, rfl, _, _, rfl, rfl, ⟨by decide, by decide⟩, _, rfl, fun H1 v sm hb => ?_⟩
        refine ⟨_, v, rfl, hb, fun H2 s2 => ?_⟩
        exact ⟨true, Er.eT.ex, fun _ x hx => ⟨CT, ⟨Er.eT.c, rfl, rfl⟩, suiteT_ok Er.eT rfl rfl (fun H3 p s3 hp => q2 H3 p (sm.trans (s2.trans s3)) hp)⟩, fun z => Bool.noConfusion z⟩
      · refine ⟨_, rfl, rfl, _, rfl, decI (fun _ => ?_) (fun z => absurd rfl z)⟩
        refine ⟨_, rfl, _, _, rfl, rfl, ⟨by decide, by decide⟩, _, _, rfl, rfl, (by show (0 : Int) < 4; decide), _, rfl, _, rfl, wh, mo, rfl, fun H1 v sm hb => ?_⟩
        refine ⟨_, v, rfl, hb, fun H2 s2 => ?_⟩
        exact ⟨true, Er.eT.ex, fun _ x hx => ⟨CT, ⟨Er.eT.c, rfl, rfl⟩, suiteT_ok Er.eT rfl rfl (fun H9 p s9 hp => q2 H9 p (sm.trans (s2.trans s9)) hp)⟩, fun z => Bool.noConfusion z⟩
    have n0 : kd ≠ 0 := fun e => hk0 (congrArg (fun n : Nat => V.int n) e)
    refine ⟨_, rfl, rfl, _, rfl, decI (fun z => absurd z hk0) (fun _ => ?_)⟩
    refine ⟨_, rfl, rfl, _, rfl, decI (fun hk1 => ?_) (fun hk1 => ?_)⟩
    · have e1 : kd = 1 := by
        have := V.int.inj hk1
        omega
      subst e1
      refine ⟨(by show 1 ≤ sizeLine; decide), fun pa na => ?_⟩
      have sa := same_upd (o := .lst [V.str "u"]) na
      refine ⟨(by show 1 ≤ sizeLine; decide), fun pb nb => ?_⟩
      have sb := same_upd (o := .tup [V.str "d"]) nb
      refine fun pd nd => ?_
      have sd := same_upd (o := .dK []) nd
      refine ⟨_, rfl, _, 9, rfl, rfl, (by show (0 : Int) < 9; decide), [108, 100], mo % 9, congrArg V.str ld_eq, congrArg V.int (show (mo : Int) % 9 = ((mo % 9 : Nat) : Int) by omega), by omega, by decide, ?_⟩
      have hll : ((List.replicate (mo % 9) [108, 100]).flatten).length ≤ 16 := by
        rw [rep_len]
        show mo % 9 * 2 ≤ 16
        omega
      generalize (List.replicate (mo % 9) [108, 100]).flatten = lds at hll ⊢
      refine ⟨_, _, rfl, rfl, ?_, (by show 9 ≤ sizeLine; decide), fun pe ne => ?_⟩
      · rw [txt_len]
        exact Nat.le_of_lt (small1000 (by show lds.length + 1 ≤ 1000; omega))
      have se := same_upd (o := .lst [V.non, V.int 5, V.ref pa, V.ref pb, V.str "U", V.str "d x", V.bl true, V.ref pd, V.str (txt lds ++ "?")]) ne
      have fa := (sb.trans (sd.trans se)) _ _ upd_same
      have fb := (sd.trans se) _ _ upd_same
      have fd := se _ _ upd_same
      have fe := same_new se
      have sx := sa.trans (sb.trans (sd.trans se))
      have T1 := T.mono sx
      generalize upd _ pe _ = G1 at fa fb fd fe sx T1 ⊢
      clear sa sb sd se na nb nd ne
      have hbs : ∀ y ∈ [V.non, V.int 5, V.ref pa, V.ref pb, V.str "U", V.str "d x", V.bl true, V.ref pd, V.str (txt lds ++ "?")], BadS K G1 y := by
        intro y hy
        rcases mem9 hy with rfl | rfl | rfl | rfl | rfl | rfl | rfl | rfl | rfl
        · exact .inl ⟨_, .base .non, kit_ty (by decide +kernel)⟩
        · exact .inl ⟨_, .base (.int _), kit_ty (by decide +kernel)⟩
        · exact .inl ⟨_, .base (.lst fa), kit_ty (by decide +kernel)⟩
        · exact .inl ⟨_, .base (.tup fb), kit_ty (by decide +kernel)⟩
        · exact .inr ⟨[85], congrArg V.str bigU_eq, by decide, 85, by decide, by decide⟩
        · exact .inr ⟨[100, 32, 120], congrArg V.str dx_eq, by decide, 32, by decide, by decide⟩
        · exact .inl ⟨_, .base (.bl _), kit_ty (by decide +kernel)⟩
        · exact .inl ⟨_, .base (.dK fd), kit_ty (by decide +kernel)⟩
        · refine .inr ⟨lds ++ [63], ?_, ?_, 63, by simp, by decide⟩
          · rw [quest_eq, txt_add]
          · rw [List.length_append]
            show lds.length + 1 ≤ 1000
            omega
      have hj : wh % 9 < 9 := by omega
      obtain ⟨y, hy, by_⟩ := get_of hbs hj
      refine ⟨_, rfl, _, 9, rfl, rfl, (by show (0 : Int) < 9; decide), pe, _, ((wh % 9 : Nat) : Int), y, rfl, congrArg V.int (show (wh : Int) % 9 = ((wh % 9 : Nat) : Int) by omega), SqL.of fe, atI_nat hy, ?_⟩
      refine ⟨_, rfl, _, _, rfl, rfl, ⟨by decide, by decide⟩, _, _, rfl, rfl, (by show (0 : Int) < 3; decide), ?_⟩
      refine ⟨_, rfl, rfl, _, rfl, decI (fun _ => ?_) (fun _ => ?_)⟩
      · refine ⟨_, rfl, _, rfl, _, y, rfl, .inr ⟨p3, _, 2, 2, (t22, 0, 1), rfl, T1, good22, ?_⟩⟩
        rcases by_ with ty | ⟨ws, rfl, hw, hbad⟩
        · exact .inl ⟨ty, fun H2 s2 => ⟨true, Er.eS.ex, fun _ x hx => ⟨CS, ⟨Er.eS.c, rfl, rfl⟩, suiteT_ok Er.eS rfl rfl (fun H9 p s9 hp => q2 H9 p (sx.trans (s2.trans s9)) hp)⟩, fun z => Bool.noConfusion z⟩⟩
        · exact .inr ⟨ws, rfl, fun s' hg => absurd ((goAll_bad (by decide) hbad).symm.trans hg) (fun z => by cases z), fun _ H2 s2 => ⟨true, Er.eS.ex, fun _ x hx => ⟨CS, ⟨Er.eS.c, rfl, rfl⟩, suiteT_ok Er.eS rfl rfl (fun H9 p s9 hp => q2 H9 p (sx.trans (s2.trans s9)) hp)⟩, fun z => Bool.noConfusion z⟩⟩
      · refine ⟨_, rfl, rfl, _, rfl, decI (fun _ => ?_) (fun _ => ?_)⟩
        · refine ⟨_, rfl, y, rfl, ?_⟩
          rcases by_ with ty | ⟨ws, rfl, hw, l, hl, hnl⟩
          · exact .inl ⟨ty, fun H2 s2 => ⟨true, Er.eS.ex, fun _ x hx => ⟨CS, ⟨Er.eS.c, rfl, rfl⟩, suiteT_ok Er.eS rfl rfl (fun H9 p s9 hp => q2 H9 p (sx.trans (s2.trans s9)) hp)⟩, fun z => Bool.noConfusion z⟩⟩
          · exact .inr ⟨ws, rfl, by omega, fun hall => absurd (hall l hl) hnl, fun _ => ⟨true, Er.eS.ex, fun _ x hx => ⟨CS, ⟨Er.eS.c, rfl, rfl⟩, suiteT_ok Er.eS rfl rfl (fun H9 p s9 hp => q2 H9 p (sx.trans s9) hp)⟩, fun z => Bool.noConfusion z⟩⟩
        · refine ⟨_, rfl, y, rfl, ?_⟩
          rcases by_ with ty | ⟨ws, rfl, hw, l, hl, hnl⟩
          · exact .inl ⟨ty, fun H2 s2 => ⟨true, Er.eS.ex, fun _ x hx => ⟨CS, ⟨Er.eS.c, rfl, rfl⟩, suiteT_ok Er.eS rfl rfl (fun H9 p s9 hp => q2 H9 p (sx.trans (s2.trans s9)) hp)⟩, fun z => Bool.noConfusion z⟩⟩
          · exact .inr ⟨ws, rfl, by omega, fun hall => absurd (hall l hl) hnl, fun _ => ⟨true, Er.eS.ex, fun _ x hx => ⟨CS, ⟨Er.eS.c, rfl, rfl⟩, suiteT_ok Er.eS rfl rfl (fun H9 p s9 hp => q2 H9 p (sx.trans s9) hp)⟩, fun z => Bool.noConfusion z⟩⟩
    have n1 : kd ≠ 1 := fun e => hk1 (congrArg (fun n : Nat => V.int n) e)
    refine ⟨_, rfl, rfl, _, rfl, decI (fun hk2 => ?_) (fun hk2 => ?_)⟩
    · have e2 : kd = 2 := by
        have := V.int.inj hk2
        omega
      subst e2
      refine ⟨_, rfl, _, rfl, _, 3, rfl, rfl, (by show (0 : Int) < 3; decide), 1, _, rfl, rfl, [100, 114, 117], 1 + mo % 3, congrArg V.str dru_eq, congrArg V.int (show 1 + (mo : Int) % 3 = ((1 + mo % 3 : Nat) : Int) by omega), by omega, by decide, ?_⟩
      refine ⟨_, rfl, _, 5, rfl, rfl, (by show (0 : Int) < 5; decide), 2, _, rfl, rfl, [100], 2 + mo % 5, congrArg V.str d1_eq, congrArg V.int (show 2 + (mo : Int) % 5 = ((2 + mo % 5 : Nat) : Int) by omega), by omega, by decide, _, _, rfl, rfl, ?_, ?_⟩
      · rw [l1_eq, txt_len, txt_len, rep_len]
        exact Nat.le_of_lt (small1000 (by show 1 + (2 + mo % 5) * 1 ≤ 1000; omega))
      refine ⟨(by show 6 ≤ sizeLine; decide), fun pe ne => ?_⟩
      have sx := same_upd (o := .lst [V.str "u", V.str "r", V.str "dd", V.str "ll", V.str (txt (List.replicate (1 + mo % 3) [100, 114, 117]).flatten), V.str ("l" ++ txt (List.replicate (2 + mo % 5) [100]).flatten)]) ne
      have fe := same_new sx
      have T1 := T.mono sx
      generalize upd _ pe _ = G1 at fe sx T1 ⊢
      clear ne
      have hbs : ∀ y ∈ [V.str "u", V.str "r", V.str "dd", V.str "ll", V.str (txt (List.replicate (1 + mo % 3) [100, 114, 117]).flatten), V.str ("l" ++ txt (List.replicate (2 + mo % 5) [100]).flatten)], ∃ ws, y = .str (txt ws) ∧ goAll 2 2 (t22, 0, 1) ws = none := by
        intro y hy
        rcases mem6 hy with rfl | rfl | rfl | rfl | rfl | rfl
        · exact ⟨[117], congrArg V.str u1_eq, Option.isNone_iff_eq_none.mp (by decide)⟩
        · exact ⟨[114], congrArg V.str r1_eq, Option.isNone_iff_eq_none.mp (by decide)⟩
        · exact ⟨[100, 100], congrArg V.str dd_eq, Option.isNone_iff_eq_none.mp (by decide)⟩
        · exact ⟨[108, 108], congrArg V.str ll_eq, Option.isNone_iff_eq_none.mp (by decide)⟩
        · refine ⟨_, rfl, ?_⟩
          have h3 : mo % 3 = 0 ∨ mo % 3 = 1 ∨ mo % 3 = 2 := by omega
          rcases h3 with e | e | e <;> rw [e] <;> exact Option.isNone_iff_eq_none.mp (by decide)
        · refine ⟨[108] ++ (List.replicate (2 + mo % 5) [100]).flatten, by rw [l1_eq, txt_add], ?_⟩
          have h5 : mo % 5 = 0 ∨ mo % 5 = 1 ∨ mo % 5 = 2 ∨ mo % 5 = 3 ∨ mo % 5 = 4 := by omega
          rcases h5 with e | e | e | e | e <;> rw [e] <;> exact Option.isNone_iff_eq_none.mp (by decide)
      have hj : wh % 6 < 6 := by omega
      obtain ⟨y, hy, ws, rfl, hws⟩ := get_of hbs hj
      refine ⟨_, rfl, _, 6, rfl, rfl, (by show (0 : Int) < 6; decide), pe, _, ((wh % 6 : Nat) : Int), _, rfl, congrArg V.int (show (wh : Int) % 6 = ((wh % 6 : Nat) : Int) by omega), SqL.of fe, atI_nat hy, ?_⟩
      exact ⟨_, _, rfl, .inr ⟨p3, _, 2, 2, (t22, 0, 1), rfl, T1, good22, .inr ⟨ws, rfl, fun s' hg => absurd (hws.symm.trans hg) (fun z => by cases z), fun _ H2 s2 => ⟨true, Er.eS.ex, fun _ x hx => ⟨CS, ⟨Er.eS.c, rfl, rfl⟩, suiteT_ok Er.eS rfl rfl (fun H9 p s9 hp => q2 H9 p (sx.trans (s2.trans s9)) hp)⟩, fun z => Bool.noConfusion z⟩⟩⟩⟩
    have e3 : kd = 3 := by
      have n2 : kd ≠ 2 := fun e => hk2 (congrArg (fun n : Nat => V.int n) e)
      omega
    subst e3
    refine ⟨(by show 1 ≤ sizeLine; decide), fun pa0 na0 => ?_⟩
    have sa0 := same_upd (o := .lst [V.int 0]) na0
    refine ⟨(by show 1 ≤ sizeLine; decide), fun pat nat => ?_⟩
    have sat := same_upd (o := .lst [V.ref pa0]) nat
    refine ⟨(by show 2 ≤ sizeLine; decide), fun pb0 nb0 => ?_⟩
    have sb0 := same_upd (o := .lst [V.int 0, V.int 1]) nb0
    refine ⟨(by show 1 ≤ sizeLine; decide), fun pbt nbt => ?_⟩
    have sbt := same_upd (o := .lst [V.ref pb0]) nbt
    refine ⟨(by show 1 ≤ sizeLine; decide), fun pc0 nc0 => ?_⟩
    have sc0 := same_upd (o := .lst [V.int 0]) nc0
    refine ⟨(by show 1 ≤ sizeLine; decide), fun pc1 nc1 => ?_⟩
    have sc1 := same_upd (o := .lst [V.int 1]) nc1
    refine ⟨(by show 2 ≤ sizeLine; decide), fun pct nct => ?_⟩
    have sct := same_upd (o := .lst [V.ref pc0, V.ref pc1]) nct
    refine ⟨(by show 3 ≤ sizeLine; decide), fun pd0 nd0 => ?_⟩
    have sd0 := same_upd (o := .lst [V.int 0, V.int 1, V.int 2]) nd0
    refine ⟨(by show 3 ≤ sizeLine; decide), fun pd1 nd1 => ?_⟩
    have sd1 := same_upd (o := .lst [V.int 3, V.int 4, V.int 5]) nd1
    refine ⟨(by show 2 ≤ sizeLine; decide), fun pdt ndt => ?_⟩
    have sdt := same_upd (o := .lst [V.ref pd0, V.ref pd1]) ndt
    refine ⟨(by show 2 ≤ sizeLine; decide), fun pe0 ne0 => ?_⟩
    have se0 := same_upd (o := .lst [V.int 0, V.int 1]) ne0
    refine ⟨(by show 2 ≤ sizeLine; decide), fun pe1 ne1 => ?_⟩
    have se1 := same_upd (o := .lst [V.int 2, V.int 3]) ne1
    refine ⟨(by show 2 ≤ sizeLine; decide), fun pe2 ne2 => ?_⟩
    have se2 := same_upd (o := .lst [V.int 4, V.int 5]) ne2
    refine ⟨(by show 3 ≤ sizeLine; decide), fun pet net => ?_⟩
    have set := same_upd (o := .lst [V.ref pe0, V.ref pe1, V.ref pe2]) net
    refine ⟨(by show 5 ≤ sizeLine; decide), fun po no => ?_⟩
    have so := same_upd (o := .lst [V.ref pat, V.ref pbt, V.ref pct, V.ref pdt, V.ref pet]) no
    have to_ := so
    have tet := set.trans to_
    have te2 := se2.trans tet
    have te1 := se1.trans te2
    have te0 := se0.trans te1
    have tdt := sdt.trans te0
    have td1 := sd1.trans tdt
    have td0 := sd0.trans td1
    have tct := sct.trans td0
    have tc1 := sc1.trans tct
    have tc0 := sc0.trans tc1
    have tbt := sbt.trans tc0
    have tb0 := sb0.trans tbt
    have tat := sat.trans tb0
    have ta0 := sa0.trans tat
    have fa0 := tat _ _ (upd_same (o := .lst [V.int 0]))
    have fat := tb0 _ _ (upd_same (o := .lst [V.ref pa0]))
    have fb0 := tbt _ _ (upd_same (o := .lst [V.int 0, V.int 1]))
    have fbt := tc0 _ _ (upd_same (o := .lst [V.ref pb0]))
    have fc0 := tc1 _ _ (upd_same (o := .lst [V.int 0]))
    have fc1 := tct _ _ (upd_same (o := .lst [V.int 1]))
    have fct := td0 _ _ (upd_same (o := .lst [V.ref pc0, V.ref pc1]))
    have fd0 := td1 _ _ (upd_same (o := .lst [V.int 0, V.int 1, V.int 2]))
    have fd1 := tdt _ _ (upd_same (o := .lst [V.int 3, V.int 4, V.int 5]))
    have fdt := te0 _ _ (upd_same (o := .lst [V.ref pd0, V.ref pd1]))
    have fe0 := te1 _ _ (upd_same (o := .lst [V.int 0, V.int 1]))
    have fe1 := te2 _ _ (upd_same (o := .lst [V.int 2, V.int 3]))
    have fe2 := tet _ _ (upd_same (o := .lst [V.int 4, V.int 5]))
    have fet := to_ _ _ (upd_same (o := .lst [V.ref pe0, V.ref pe1, V.ref pe2]))
    have fo := same_new so
    have T1 := T.mono ta0
    generalize upd _ po _ = G1 at fo ta0 T1 fa0 fat fb0 fbt fc0 fc1 fct fd0 fd1 fdt fe0 fe1 fe2 fet ⊢
    have hbs : ∀ y ∈ [V.ref pat, V.ref pbt, V.ref pct, V.ref pdt, V.ref pet], ∃ b rs R C s, y = V.ref b ∧ TrayAt G1 b rs R C s.1 ∧ Good R C s ∧ (2 ≠ R ∨ 2 ≠ C) := by
      intro y hy
      rcases mem5 hy with rfl | rfl | rfl | rfl | rfl
      · exact ⟨_, _, 1, 1, (idT, 0, 0), rfl, (Grd.one fat fa0 (nl1 fat fa0)).tray rfl, goodId (by decide) (by decide) (by decide) (by decide), .inl (by decide)⟩
      · exact ⟨_, _, 1, 2, (idT, 0, 0), rfl, (Grd.one fbt fb0 (nl1 fbt fb0)).tray rfl, goodId (by decide) (by decide) (by decide) (by decide), .inl (by decide)⟩
      · exact ⟨_, _, 2, 1, (idT, 0, 0), rfl, (Grd.two fct fc0 fc1 (nl1 fct fc0) (nl1 fct fc1) (nl2 fc0 fc1 (by decide))).tray rfl, goodId (by decide) (by decide) (by decide) (by decide), .inr (by decide)⟩
      · exact ⟨_, _, 2, 3, (idT, 0, 0), rfl, (Grd.two fdt fd0 fd1 (nl1 fdt fd0) (nl1 fdt fd1) (nl2 fd0 fd1 (by decide))).tray rfl, goodId (by decide) (by decide) (by decide) (by decide), .inr (by decide)⟩
      · exact ⟨_, _, 3, 2, (idT, 0, 0), rfl, (Grd.three fet fe0 fe1 fe2 (nl1 fet fe0) (nl1 fet fe1) (nl1 fet fe2) (nl2 fe0 fe1 (by decide)) (nl2 fe0 fe2 (by decide)) (nl2 fe1 fe2 (by decide))).tray rfl, goodId (by decide) (by decide) (by decide) (by decide), .inl (by decide)⟩
    have hj : wh % 5 < 5 := by omega
    obtain ⟨y, hy, b, rs, R, C, s', rfl, Tb, Gb, hne⟩ := get_of hbs hj
    have sx := ta0
    clear hbs
    refine ⟨_, rfl, _, 5, rfl, rfl, (by show (0 : Int) < 5; decide), po, _, ((wh % 5 : Nat) : Int), _, rfl, congrArg V.int (show (wh : Int) % 5 = ((wh % 5 : Nat) : Int) by omega), SqL.of fo, atI_nat hy, ?_⟩
    refine ⟨_, rfl, _, 5, rfl, rfl, ⟨by decide, by decide⟩, _, _, rfl, rfl, (by show (0 : Int) < 2; decide), rfl, _, rfl, decI (fun _ => ?_) (fun _ => ?_)⟩
    · exact ⟨_, rfl, _, rfl, _, _, rfl, .inr ⟨p3, _, 2, 2, (t22, 0, 1), rfl, T1, good22, .inr ⟨b, rs, R, C, s', rfl, Tb, Gb, hne, fun H2 s2 => ⟨true, Er.eU.ex, fun _ x hx => ⟨CU, ⟨Er.eU.c, rfl, rfl⟩, suiteT_ok Er.eU rfl rfl (fun H9 p s9 hp => q2 H9 p (sx.trans (s2.trans s9)) hp)⟩, fun z => Bool.noConfusion z⟩⟩⟩⟩
    · exact ⟨_, rfl, _, rfl, _, _, rfl, .inr ⟨b, rs, R, C, s', rfl, Tb, Gb, .inr ⟨p3, _, 2, 2, (t22, 0, 1), rfl, T1, good22, hne.imp Ne.symm Ne.symm, fun H2 s2 => ⟨true, Er.eU.ex, fun _ x hx => ⟨CU, ⟨Er.eU.c, rfl, rfl⟩, suiteT_ok Er.eU rfl rfl (fun H9 p s9 hp => q2 H9 p (sx.trans (s2.trans s9)) hp)⟩, fun z => Bool.noConfusion z⟩⟩⟩⟩
end
end Tr
namespace Tr
open PySem PySem.Spec PyProof.Rows L2
theorem dr_eq : ("dr" : Str) = txt [100, 114] := by decide +kernel
theorem scLaw5 : FnScope ["_law_script", "_law_cell", "_law_kind", "_law_due", "_law_great_here", "_law_row", "_law_column"] ["_law_script"] (defScope d_law) := ⟨rfl, rfl, rfl, by decide +kernel, rfl, by decide +kernel, by decide +kernel⟩
def spLaw (K : PySem.W.Frag) : Sp := fun vs H Q _ => ∃ (a : Addr) (ns : List Int), vs = [.ref a] ∧ SqL K H a (ns.map V.int) ∧ ns.length ≤ 63 ∧ (∀ z ∈ ns, Builtin.Int.intBits z ≤ 1048576) ∧ ∀ H', Q (.bl true) H'
section
variable {P : Program} {w : World} {K : PySem.W.Frag} {mg : Str → Option Value} {base : Heap}
theorem ok_law5 {fa fT fW fM fU CT CS : Addr} {fd fdT fdW fdM fdU : FuncData} {k jT jW jM jU : Nat} (F : Fun K "law" "law" d_law fa fd) (mR : mg "range" = none)
    (hT : jT ≤ k) (hW : jW ≤ k) (hM : jM ≤ k) (hU : jU ≤ k)
    (GT : FnOk P w K mg base CX0 jT fT fdT ["_law_kind", "_law_which", "_law_more"] spToldL) (gT : mg "_law_told" = some (.ref fT)) (kT : PySem.W.keepIn K (.ref fT) = true) (bT : Binds K fdT ["_law_kind", "_law_which", "_law_more"] [])
    (GW : FnOk P w K mg base (L2.CX P w) jW fW fdW ["tray"] (spWaysG K CT)) (gW : mg "ways" = some (.ref fW)) (kW : PySem.W.keepIn K (.ref fW) = true) (bW : Binds K fdW ["tray"] [])
    (GM : FnOk P w K mg base (L2.CX P w) jM fM fdM ["tray", "slides"] (spMovedG K CT CS)) (gM : mg "moved" = some (.ref fM)) (kM : PySem.W.keepIn K (.ref fM) = true) (bM : Binds K fdM ["tray", "slides"] [])
    (GU : FnOk P w K mg base (L2.CX P w) jU fU fdU ["slides"] (spSlidesG K CS undo)) (gU : mg "undone" = some (.ref fU)) (kU : PySem.W.keepIn K (.ref fU) = true) (bU : Binds K fdU ["slides"] []) :
    FnOk P w K mg base CX0 (k + 1) fa fd ["_law_script"] (spLaw K) := by
  refine F.ok scLaw5 (fun vs H Q E h => ?_) (fun cdv A outer s H vs Q E hr h => ?_)
  · obtain ⟨a, ns, rfl, _⟩ := h
    rfl
  · obtain ⟨a, ns, rfl, hS, hl, hb, q⟩ := h
    have hu65 : (A.deeper (envOfC "law" (defScope d_law) s.heap.objs.size fa cdv)).units + 65 < cLine := by
      have := hr.un
      omega
    refine ⟨_, (pss_cons (ps_for PassesOwn.never rfl (pi_list (pv 0)) (pg_name (i := 1) scLaw5.nd rfl (.inl rfl)) (pss_cons (ps_set (i := 2) scLaw5.nd rfl (.inl rfl) (pe_op op_mod (pv 1) pe_int))
      (pss_cons (ps_set (i := 3) scLaw5.nd rfl (.inl rfl) (pe_lst (pa_cons (pe_cmpR op_eq (pv 2) pe_int (nomark _)) (pa_cons (pe_cmpR (op_inD hu65) (pv 2) (pe_lst (pa_cons pe_int (pa_cons pe_int pa_nil))) rfl) (pa_cons (pe_cmpR op_eq (pv 2) pe_int (nomark _)) (pa_cons pe_bl pa_nil))))))
      (pss_one (ps_if (pt_cmpR (op_neD hr.units) (pe_call GT (hr.mono hT) (by rfl) gT kT bT .nil pass0 (pa_cons (pv 2) (pa_cons (pe_op op_mod (pe_op op_fdiv (pv 1) pe_int) pe_int) (pa_cons (pe_op op_mod (pe_op op_fdiv (pv 1) pe_int) pe_int) pa_nil)))) (pv 3) (nomark _)) (pss_one (ps_ret pe_bl)) pss_nil)))))
      (pss_cons (ps_setLc (i := 4) (own := [("_law_row", 5)]) (g := gName 5) (tt := tYes) rfl scLaw5.nd rfl rfl (sw_true rfl rfl rfl (by decide +kernel)) (pi_range1 rfl mR (pa_cons pe_int pa_nil)) (blkOk_by (own := [("_law_row", 5)]) (N := ["_law_script", "_law_cell", "_law_kind", "_law_due", "_law_great_here", "_law_row", "_law_column"]) (sc := defScope d_law) (by decide +kernel)) (fun _ _ _ _ _ => pg_name (i := 5) scLaw5.nd rfl (.inr rfl)) (fun _ _ _ _ _ => pts_nil) (fun _ _ _ _ _ => (pe_lc (own := [("_law_column", 6)]) (g := gName 6) (tt := tYes) rfl scLaw5.nd (pi_range1 rfl mR (pa_cons pe_int pa_nil)) (blkOk_by (own := [("_law_column", 6)]) (N := ["_law_script", "_law_cell", "_law_kind", "_law_due", "_law_great_here", "_law_row", "_law_column"]) (sc := ({ kind := .function, names := [((".0" : Str), .local), (("_law_row" : Str), .cell), (("range" : Str), .globalImplicit)], isGenerator := false, isCoroutine := false } : Scope)) (by decide +kernel)) (fun _ _ _ _ _ => pg_name (i := 6) scLaw5.nd rfl (.inl rfl)) (fun _ _ _ _ _ => pts_nil) (fun _ _ _ _ _ => (pe_op op_add (pe_op op_mul (pv 5) pe_int) (pv 6))))))
      (pss_one (ps_ret (pe_and (pe_cmpR op_eq (pe_call GW (hr.mono hW) (by rfl) gW kW bW .nil passL (pa_cons (pv 4) pa_nil)) pe_str (nomark _)) (pe_and (pe_cmpR (op_eqD hr.units) (pe_call GM (hr.mono hM) (by rfl) gM kM bM .nil passL (pa_cons (pe_lst (pa_cons (pe_lst (pa_cons pe_int pa_nil)) pa_nil)) (pa_cons pe_str pa_nil))) (pe_lst (pa_cons (pe_lst (pa_cons pe_int pa_nil)) pa_nil)) (nomark _)) (pe_one (pe_cmpR op_eq (pe_call GU (hr.mono hU) (by rfl) gU kU bU .nil passL (pa_cons pe_str pa_nil)) pe_str (nomark _))))))))), ?_⟩
    refine ⟨_, rfl, a, rfl, ⟨_, hS⟩, for_list (K := K) (a := a) (xs := ns.map V.int) (fun i σ H' => Same H H' ∧ ∃ v1 v2 v3, σ = [some (.ref a), v1, v2, v3, none, none, none]) ⟨Same.refl H, none, none, none, rfl⟩ (fun i σ H' _ p => p.1.seq hS) ?_ ?_⟩
    · rintro i x σ H1 hx ⟨sm, v1, v2, v3, rfl⟩
      obtain ⟨z, rfl⟩ : ∃ z, x = V.int z := by
        obtain ⟨z, _, e⟩ := List.mem_map.mp (List.mem_of_getElem? hx)
        exact ⟨z, e.symm⟩
      have h4 : 0 ≤ z % 4 ∧ z % 4 < 4 := ⟨Int.emod_nonneg _ (by decide), Int.emod_lt_of_pos _ (by decide)⟩
      obtain ⟨kd, e1⟩ := Int.eq_ofNat_of_zero_le h4.1
      obtain ⟨wh, e2⟩ := Int.eq_ofNat_of_zero_le (Int.emod_nonneg (z / 4) (show (100000 : Int) ≠ 0 by decide))
      obtain ⟨mo, e3⟩ := Int.eq_ofNat_of_zero_le (Int.emod_nonneg (z / 400000) (show (1000 : Int) ≠ 0 by decide))
      have hkd : kd ≤ 3 := by omega
      refine ⟨_, rfl, z, 4, rfl, rfl, (by show (0 : Int) < 4; decide), ?_⟩
      refine ⟨_, rfl, rfl, _, rfl, (by show 2 ≤ sizeLine; decide), fun p1 n1 => ?_⟩
      have s1 := same_upd (o := .lst [V.int 1, V.int 2]) n1
      refine ⟨.int (z % 4), [.int 1, .int 2], .int _, .lst (SqL.of upd_same) (dp_ints [1, 2]), rfl, PySem.W.shaped_ints [1, 2], _, rfl, rfl, (by show 4 ≤ sizeLine; decide), fun p2 n2 => ?_⟩
      have w1 : decide (V.int (z % 4) = V.int 0) = decide (kd = 0) := by
        rw [e1]
        exact decide_eq_decide.mpr ⟨fun h => by have := V.int.inj h; omega, fun h => by rw [h]; rfl⟩
      have w2 : ([PyData.int 1, PyData.int 2].any fun y => PyData.eqv y (.int (z % 4))) = decide (kd = 1 ∨ kd = 2) := by
        rw [e1]
        have hc : kd = 0 ∨ kd = 1 ∨ kd = 2 ∨ kd = 3 := by omega
        rcases hc with rfl | rfl | rfl | rfl <;> rfl
      have w3 : decide (V.int (z % 4) = V.int 3) = decide (kd = 3) := by
        rw [e1]
        exact decide_eq_decide.mpr ⟨fun h => by have := V.int.inj h; omega, fun h => by rw [h]; rfl⟩
      have s2 := same_upd (o := .lst [V.bl (decide (V.int (z % 4) = V.int 0)), V.bl ([PyData.int 1, PyData.int 2].any fun y => PyData.eqv y (.int (z % 4))), V.bl (decide (V.int (z % 4) = V.int 3)), V.bl true]) n2
      refine ⟨_, rfl, _, rfl, z, 4, rfl, rfl, ⟨by decide, by decide⟩, _, 100000, rfl, rfl, (by show (0 : Int) < 100000; decide), _, rfl, z, 400000, rfl, rfl, ⟨by decide, by decide⟩, _, 1000, rfl, rfl, (by show (0 : Int) < 1000; decide), kd, wh, mo, ?_, hkd, fun H2 p s3 hp => ?_⟩
      · show [V.int (z % 4), V.int (z / 4 % 100000), V.int (z / 400000 % 1000)] = _
        rw [e1, e2, e3]
      have b4 : ∀ (Hx : Hp) (b1 b2 b3 b4 : Bool), DpAll K Hx [V.bl b1, V.bl b2, V.bl b3, V.bl b4] [PyData.bool b1, PyData.bool b2, PyData.bool b3, PyData.bool b4] := fun Hx b1 b2 b3 b4 => .cons (.bl b1) (.cons (.bl b2) (.cons (.bl b3) (.cons (.bl b4) .nil)))
      refine ⟨_, rfl, _, _, .lst (SqL.of hp) (b4 _ _ _ _ _), .lst (SqL.of (s3 _ _ upd_same)) (b4 _ _ _ _ _), rfl, rfl, _, rfl, ?_⟩
      rw [w1, w2, w3, SeqAt.eqv_refl _ (SeqAt.canLay_of_shaped rfl)]
      refine iteF ?_
      exact ⟨sm.trans (s1.trans (s2.trans s3)), _, _, _, rfl⟩
    · rintro σ H1 ⟨sm, v1, v2, v3, rfl⟩
      clear hS
      refine ⟨6, rfl, by decide, by decide, fun D nD => ?_⟩
      refine lc_gen (walk_range (lo := 0) (n := 6)) (fun i H2 => ∃ rs, Grd H2 D rs (gridN i 6)) ⟨[], Grd.nil upd_same⟩ (fun _ _ _ _ => True.intro) ?_ ?_
      · rintro i x H2 H3 hi ⟨rs, T⟩ ⟨rfl, rfl⟩
        refine ⟨rfl, ?_⟩
        refine ⟨6, rfl, by decide, by decide, fun D2 nD2 => ?_⟩
        refine lc_gen (walk_range (lo := 0) (n := 6)) (fun j H4 => Same H3 H4 ∧ H4 D2 = some (.lst ((rowN 6 i).take j))) ⟨same_upd nD2, by rw [upd_same]; rfl⟩ (fun _ _ _ _ => True.intro) ?_ ?_
        · rintro j x H4 H5 hj ⟨sm4, hD2⟩ ⟨rfl, rfl⟩
          refine ⟨rfl, ?_⟩
          have ev : (0 + (i : Int)) * 6 + (0 + (j : Int)) = ((i * 6 + j : Nat) : Int) := by omega
          refine ⟨_, rfl, _, 6, rfl, rfl, .inl ⟨by omega, by omega⟩, _, rfl, _, _, rfl, rfl, ?_⟩
          refine ⟨_, hD2, ?_, same_upd_new sm4 nD2, ?_⟩
          · rw [List.length_take, rowN_len]
            exact small1000 (by omega)
          · rw [upd_same, take_more (x := V.int ((i * 6 + j : Nat) : Int)) (by
              unfold rowN
              rw [List.getElem?_map, List.getElem?_range hj]
              rfl), ← ev]
        · rintro H4 ⟨sm4, hD2⟩
          rw [List.take_of_length_le (by rw [rowN_len]; exact Nat.le_refl _)] at hD2
          have T4 := T.mono sm4
          have hD2D : D2 ≠ D := fun e => by
            rw [e, T.top] at nD2
            cases nD2
          have hD2r : D2 ∉ rs := fun m => by
            obtain ⟨k, hk, e⟩ := List.getElem_of_mem m
            have := T.row k D2 _ (by rw [← e]; exact List.getElem?_eq_getElem hk) (List.getElem?_eq_getElem (by rw [← T.len]; exact hk))
            rw [nD2] at this
            cases this
          refine ⟨_, T4.top, ?_, rs ++ [D2], ?_⟩
          · rw [List.length_map, T.len, gridN_len]
            exact small1000 (by omega)
          · rw [gridN_succ]
            exact T4.more hD2 hD2D hD2r
      · rintro H2 ⟨rs, T⟩
        refine ⟨_, rfl, _, rfl, .inr ⟨D, rs, 6, 6, (idT, 0, 0), rfl, T.tray rfl, goodId (by decide) (by decide) (by decide) (by decide), fun H3 s3 => ?_⟩⟩
        have ew : waysL 6 6 (idT, 0, 0) = [100, 114] := by decide
        rw [ew]
        refine ⟨rfl, _, rfl, decI (fun _ => ?_) (fun z => absurd (congrArg V.str dr_eq.symm) z)⟩
        refine ⟨(by show 1 ≤ sizeLine; decide), fun p4 n4 => ?_⟩
        have s4 := same_upd (o := .lst [V.int 0]) n4
        refine ⟨(by show 1 ≤ sizeLine; decide), fun p5 n5 => ?_⟩
        have s5 := same_upd (o := .lst [V.ref p4]) n5
        have f4 := s5 _ _ (upd_same (o := .lst [V.int 0]))
        have f5 := same_new s5
        refine ⟨_, _, rfl, .inr ⟨p5, [p4], 1, 1, (idT, 0, 0), rfl, (Grd.one f5 f4 (nl1 f5 f4)).tray rfl, goodId (by decide) (by decide) (by decide) (by decide), .inr ⟨[], congrArg V.str empty_eq, fun s' hg H6 p rs' s6 np nrs T6 => ?_, fun z => by cases z⟩⟩⟩
        have hs' : s' = (idT, 0, 0) := (Option.some.inj hg).symm
        subst hs'
        refine ⟨(by show 1 ≤ sizeLine; decide), fun p7 n7 => ?_⟩
        have s7 := same_upd (o := .lst [V.int 0]) n7
        refine ⟨(by show 1 ≤ sizeLine; decide), fun p8 n8 => ?_⟩
        have s8 := same_upd (o := .lst [V.ref p7]) n8
        have f7 := s8 _ _ (upd_same (o := .lst [V.int 0]))
        have f8 := same_new s8
        have T8 : TrayAt _ p8 [p7] 1 1 idT := (Grd.one f8 f7 (nl1 f8 f7)).tray rfl
        refine ⟨_, _, (T6.mono (s7.trans s8)).dp, T8.dp, shaped_rows _, shaped_rows _, _, rfl, ?_⟩
        rw [eqv_rows]
        refine iteT ?_
        refine ⟨_, rfl, .inr ⟨[], congrArg V.str empty_eq, by decide, fun _ H9 s9 => ?_, fun z => by obtain ⟨_, h, _⟩ := z; cases h⟩⟩
        refine ⟨rfl, ?_⟩
        have e : decide (V.str (txt (undo [])) = V.str "") = true := decide_eq_true (congrArg V.str empty_eq.symm)
        rw [e]
        exact q _
end
end Tr
namespace Tr
open PySem PySem.Spec PyProof.Rows L2
theorem scTold : FnScope ["one", "other"] ["one", "other"] (defScope d_told) := ⟨rfl, rfl, rfl, by decide +kernel, rfl, by decide +kernel, by decide +kernel⟩
section
variable {P : Program} {w : World} {K : PySem.W.Frag} {mg : Str → Option Value} {base : Heap}
/-- told refuses -/
theorem ok_toldR {fa CT CU fT : Addr} {fd fdT : FuncData} {k jT : Nat} (F : Fun K "told" "told" d_told fa fd) (TU : ExcT K mg "Unlike" CU) (mL : mg "len" = none) (hT : jT ≤ k)
    (GT : FnOk P w K mg base (L2.CX P w) jT fT fdT ["tray"] (spCheckTG K CT)) (gT : mg "check_tray" = some (.ref fT)) (kT : PySem.W.keepIn K (.ref fT) = true) (bT : Binds K fdT ["tray"] []) :
    FnOk P w K mg base (L2.CX P w) (k + 1) fa fd ["one", "other"] (spToldR K CT CU) := by
  refine F.okX scTold (fun vs H Q E h => ?_) (fun cdv A outer s H vs Q E hr h => ?_)
  · obtain ⟨v, u, rfl, _⟩ := h
    rfl
  · obtain ⟨v, u, rfl, h⟩ := h
    refine ⟨_, pss_cons (ps_expr (pe_callS GT (hr.mono hT) (by rfl) gT kT bT (fun σ => passAt (takes_of rfl rfl rfl rfl) σ) (pa_cons (pv 0) pa_nil)))
      (pss_cons (ps_expr (pe_callS GT (hr.mono hT) (by rfl) gT kT bT (fun σ => passAt (takes_of rfl rfl rfl rfl) σ) (pa_cons (pv 1) pa_nil)))
      (pss_cons (ps_if (PW.pt (pw_or (pt_cmpR op_ne (pe_callB call_len_seq (by rfl) mL PySem.boot_len (pa_cons (pv 0) pa_nil)) (pe_callB call_len_seq (by rfl) mL PySem.boot_len (pa_cons (pv 1) pa_nil)) (nomark _))
          (pw_or1 (pt_cmpR op_ne (pe_callB call_len_seq (by rfl) mL PySem.boot_len (pa_cons (pe_ix ix_list (pv 0) pe_int (fun _ _ => rfl)) pa_nil)) (pe_callB call_len_seq (by rfl) mL PySem.boot_len (pa_cons (pe_ix ix_list (pv 1) pe_int (fun _ _ => rfl)) pa_nil)) (nomark _)))))
          (pss_one (ps_raise rfl (takes_of rfl rfl rfl rfl) (pmk_own PySem.F.excBase_ValueError TU.x TU.g TU.k (raises_own TU.b TU.t) rfl))) pss_nil)
        pss_never)), ?_⟩
    rcases h with ⟨hb, qe⟩ | ⟨a, rs, R, C, s0, rfl, Ta, g, h⟩
    · exact ⟨_, rfl, v, rfl, .inl ⟨hb, qe⟩⟩
    refine ⟨_, rfl, _, rfl, .inr ⟨a, _, rfl, Ta.top, Ta.rd2, Ta.goodL g, fun H1 s1 => ?_⟩⟩
    rcases h with ⟨hb, qe⟩ | ⟨b, rs', R', C', s', rfl, Tb, g', hne, qe⟩
    · exact ⟨_, rfl, u, rfl, .inl ⟨hb.same s1, fun H' s2 => qe H' (s1.trans s2)⟩⟩
    have Tb1 := Tb.mono s1
    refine ⟨_, rfl, _, rfl, .inr ⟨b, _, rfl, Tb1.top, Tb1.rd2, Tb1.goodL g', fun H2 s2 => ?_⟩⟩
    have s02 := s1.trans s2
    have Ta2 := Ta.mono s02
    have Tb2 := Tb.mono s02
    refine ⟨_, rfl, a, _, rfl, .inl (SqL.of Ta2.top), _, rfl, b, _, rfl, .inl (SqL.of Tb2.top), rfl, _, rfl, ?_⟩
    rw [List.length_map, Ta2.len, List.length_map, Tb2.len]
    by_cases hR : R = R'
    · subst hR
      refine iteNS rfl ?_
      obtain ⟨r0, _, a2, a3⟩ := Ta2.get (i := 0) g.r0
      obtain ⟨r1, _, b2, b3⟩ := Tb2.get (i := 0) g'.r0
      refine ⟨_, rfl, a, _, (0 : Int), _, rfl, rfl, SqL.of Ta2.top, atI_nat (j := 0) a2, r0, _, rfl, .inl (SqL.of a3), _, rfl, b, _, (0 : Int), _, rfl, rfl, SqL.of Tb2.top, atI_nat (j := 0) b2, r1, _, rfl, .inl (SqL.of b3), rfl, _, rfl, ?_⟩
      rw [rowV_len, rowV_len]
      have hC : ¬ V.int (C : Nat) = V.int (C' : Nat) := fun e => by
        have := V.int.inj e
        omega
      rw [decide_eq_false hC]
      exact iteT (qe H2 s02)
    · have hR : ¬ V.int (R : Nat) = V.int (R' : Nat) := fun e => by
        have := V.int.inj e
        omega
      rw [decide_eq_false hR]
      exact iteT (qe H2 s02)
end
end Tr
namespace Tr
open PySem PySem.Spec PyProof.Rows L2
theorem u_eq : ("u" : Str) = txt [117] := u1_eq
theorem d_eq : ("d" : Str) = txt [100] := d1_eq
theorem l_eq : ("l" : Str) = txt [108] := l1_eq
theorem r_eq : ("r" : Str) = txt [114] := r1_eq
theorem kit_val {K : PySem.W.Frag} {D : Addr} (h : PySem.W.subIn K (.ref D) (.type "ValueError") = some true) : PySem.W.kitOne K (.ref D) (.type "ValueError") = some true := by
  unfold PySem.W.kitOne
  rw [if_neg (fun e => nomatch (beq_iff_eq.mp e : Value.ref D = Value.type "ValueError"))]
  show (if PySem.W.kitMeta "ValueError" = true then PySem.W.subIn K (.ref D) (.type "ValueError") else none) = some true
  rw [if_pos (by decide +kernel)]
  exact h
theorem kit_own {K : PySem.W.Frag} {D C : Addr} {b : Bool} (h2 : PySem.W.isClsIn K C = true) (h3 : PySem.W.typeIn K (.ref C) = some (.type "type")) (h4 : PySem.W.subIn K (.ref D) (.ref C) = some b) (h5 : PySem.W.subIn K (.ref D) (.ref D) = some true) : PySem.W.kitOne K (.ref D) (.ref C) = some b := by
  unfold PySem.W.kitOne
  by_cases e : ((Value.ref D == Value.ref C) = true)
  · rw [if_pos e]
    have e2 : D = C := Value.ref.inj (beq_iff_eq.mp e)
    subst e2
    rw [h5] at h4
    exact h4
  · rw [if_neg e]
    have e2 : ((PySem.W.clsIn K C).isSome && PySem.W.typeIn K (.ref C) == some (.type "type")) = true := by
      have h2' : (PySem.W.clsIn K C).isSome = true := h2
      rw [h2', h3] <;> rfl
    show (if ((PySem.W.clsIn K C).isSome && PySem.W.typeIn K (.ref C) == some (.type "type")) = true then PySem.W.subIn K (.ref D) (.ref C) else none) = some b
    rw [if_pos e2]
    exact h4
theorem sgn_eq (a c : Nat) : ((txt [a] : Str) == txt [c]) = decide (a = c) := by
  by_cases h : a = c
  · subst h
    rw [decide_eq_true rfl]
    exact beq_self_eq_true _
  · rw [decide_eq_false h]
    exact beq_eq_false_iff_ne.mpr fun e => h (List.head_eq_of_cons_eq (txt_inj e))
theorem ns4 {K : PySem.W.Frag} {d : Addr} {n : Nat} {h1 h2 h3 h4 : Int} {t1 t2 t3 t4 : Tok} {v1 v2 v3 v4 : Value}
    (l : K.lookup d = some ⟨.type "dict", none, .dict #[⟨h1, .str "u" t1, v1⟩, ⟨h2, .str "d" t2, v2⟩, ⟨h3, .str "l" t3, v3⟩, ⟨h4, .str "r" t4, v4⟩] n, #[]⟩) (c : Nat) :
    PySem.W.nsIn K d (txt [c]) = some (if c = 117 then some v1 else if c = 100 then some v2 else if c = 108 then some v3 else if c = 114 then some v4 else none) := by
  unfold PySem.W.nsIn
  rw [l]
  have f : (#[⟨h1, .str "u" t1, v1⟩, ⟨h2, .str "d" t2, v2⟩, ⟨h3, .str "l" t3, v3⟩, ⟨h4, .str "r" t4, v4⟩] : Array DictEntry).toList.find? (fun e => e.key.isStr (txt [c])) =
      if c = 117 then some ⟨h1, .str "u" t1, v1⟩ else if c = 100 then some ⟨h2, .str "d" t2, v2⟩ else if c = 108 then some ⟨h3, .str "l" t3, v3⟩ else if c = 114 then some ⟨h4, .str "r" t4, v4⟩ else none := by
    show List.find? (fun e : DictEntry => e.key.isStr (txt [c])) [⟨h1, .str "u" t1, v1⟩, ⟨h2, .str "d" t2, v2⟩, ⟨h3, .str "l" t3, v3⟩, ⟨h4, .str "r" t4, v4⟩] = _
    rw [u_eq, d_eq, l_eq, r_eq]
    have g : ∀ (h : Int) (a : Nat) (t : Tok) (v : Value), Value.isStr (DictEntry.key ⟨h, .str (txt [a]) t, v⟩) (txt [c]) = decide (a = c) := fun h a t v => sgn_eq a c
    by_cases z1 : c = 117
    · rw [if_pos z1, List.find?_cons_of_pos (by rw [g]; exact decide_eq_true z1.symm)]
    rw [if_neg z1, List.find?_cons_of_neg (by rw [g, decide_eq_true_eq]; exact fun e => z1 e.symm)]
    by_cases z2 : c = 100
    · rw [if_pos z2, List.find?_cons_of_pos (by rw [g]; exact decide_eq_true z2.symm)]
    rw [if_neg z2, List.find?_cons_of_neg (by rw [g, decide_eq_true_eq]; exact fun e => z2 e.symm)]
    by_cases z3 : c = 108
    · rw [if_pos z3, List.find?_cons_of_pos (by rw [g]; exact decide_eq_true z3.symm)]
    rw [if_neg z3, List.find?_cons_of_neg (by rw [g, decide_eq_true_eq]; exact fun e => z3 e.symm)]
    by_cases z4 : c = 114
    · rw [if_pos z4, List.find?_cons_of_pos (by rw [g]; exact decide_eq_true z4.symm)]
    rw [if_neg z4, List.find?_cons_of_neg (by rw [g, decide_eq_true_eq]; exact fun e => z4 e.symm)]
    rfl
  dsimp only
  rw [f]
  by_cases z1 : c = 117
  · rw [if_pos z1, if_pos z1]
  rw [if_neg z1, if_neg z1]
  by_cases z2 : c = 100
  · rw [if_pos z2, if_pos z2]
  rw [if_neg z2, if_neg z2]
  by_cases z3 : c = 108
  · rw [if_pos z3, if_pos z3]
  rw [if_neg z3, if_neg z3]
  by_cases z4 : c = 114
  · rw [if_pos z4, if_pos z4]
  rw [if_neg z4, if_neg z4]
  rfl
theorem sqT_two {K : PySem.W.Frag} {p : Addr} {a b : Int} {ta tb : Tok} {od : Option Addr} {n : Nat} {sl : Array (Option Value)} (l : K.lookup p = some ⟨.type "tuple", od, .seq #[.int a ta, .int b tb] n, sl⟩) : ∀ H, SqT K H p [.int a, .int b] := fun H =>
  .inr ⟨_, #[.int a ta, .int b tb], n, l, rfl, rfl, (by show 2 ≤ sizeLine; decide), .cons ⟨_, rfl⟩ (.cons ⟨_, rfl⟩ .nil)⟩
theorem all_mk {l : PySem.W.OpenLaw} {w : World} {K : PySem.W.Frag} {h : Heap} {mg : Str → Option Value} {fa f0 f1 f2 f3 f4 f5 f6 f7 f8 f9 f10 f11 f12 f13 CE CT CS CU dS p1 p2 p3 p4 dB : Addr} (X : K.In h) (G : h.Ns mainGlobals mg) (hfa : mg "law" = some (.ref fa))
    {od0 an0 : Option Addr} {sl0 : Array (Option Value)} {oc0 kV0 dc0 pm0 cd0 ct0 : Value} {od1 an1 : Option Addr} {sl1 : Array (Option Value)} {oc1 kV1 dc1 pm1 cd1 ct1 : Value} {od2 an2 : Option Addr} {sl2 : Array (Option Value)} {oc2 kV2 dc2 pm2 cd2 ct2 : Value} {od3 an3 : Option Addr} {sl3 : Array (Option Value)} {oc3 kV3 dc3 pm3 cd3 ct3 : Value} {od4 an4 : Option Addr} {sl4 : Array (Option Value)} {oc4 kV4 dc4 pm4 cd4 ct4 : Value} {od5 an5 : Option Addr} {sl5 : Array (Option Value)} {oc5 kV5 dc5 pm5 cd5 ct5 : Value} {od6 an6 : Option Addr} {sl6 : Array (Option Value)} {oc6 kV6 dc6 pm6 cd6 ct6 : Value} {od7 an7 : Option Addr} {sl7 : Array (Option Value)} {oc7 kV7 dc7 pm7 cd7 ct7 : Value} {od8 an8 : Option Addr} {sl8 : Array (Option Value)} {oc8 kV8 dc8 pm8 cd8 ct8 : Value} {od9 an9 : Option Addr} {sl9 : Array (Option Value)} {oc9 kV9 dc9 pm9 cd9 ct9 : Value} {od10 an10 : Option Addr} {sl10 : Array (Option Value)} {oc10 kV10 dc10 pm10 cd10 ct10 : Value} {od11 an11 : Option Addr} {sl11 : Array (Option Value)} {oc11 kV11 dc11 pm11 cd11 ct11 : Value} {od12 an12 : Option Addr} {sl12 : Array (Option Value)} {oc12 kV12 dc12 pm12 cd12 ct12 : Value} {od13 an13 : Option Addr} {sl13 : Array (Option Value)} {oc13 kV13 dc13 pm13 cd13 ct13 : Value} {tM : Tok} {tL : Tok} {ks1 ks2 ks3 ks4 qa1 qa2 qa3 qa4 qb1 qb2 qb3 qb4 : Tok} {hs1 hs2 hs3 hs4 : Int} {nS qn1 qn2 qn3 qn4 : Nat} {qd1 qd2 qd3 qd4 : Option Addr} {qs1 qs2 qs3 qs4 : Array (Option Value)} {kb1 kb2 kb3 kb4 vb1 vb2 vb3 vb4 : Tok} {hb1 hb2 hb3 hb4 : Int} {nB : Nat}
    (a0 : PySem.W.nsIn K mainGlobals "moved" = some (some (.ref f0)))
    (l0 : K.lookup f0 = some ⟨oc0, od0, .func (PySem.W.fnOf "moved" "moved" (defArgs d_moved) (defBody d_moved) (defScope d_moved) .none kV0 dc0 pm0 an0 cd0 ct0), sl0⟩)
    (c0 : PySem.W.codeIn K cd0 "moved" = true)
    (k0 : PySem.W.keepIn K (.ref f0) = true)
    (a1 : PySem.W.nsIn K mainGlobals "ways" = some (some (.ref f1)))
    (l1 : K.lookup f1 = some ⟨oc1, od1, .func (PySem.W.fnOf "ways" "ways" (defArgs d_ways) (defBody d_ways) (defScope d_ways) .none kV1 dc1 pm1 an1 cd1 ct1), sl1⟩)
    (c1 : PySem.W.codeIn K cd1 "ways" = true)
    (k1 : PySem.W.keepIn K (.ref f1) = true)
    (a2 : PySem.W.nsIn K mainGlobals "undone" = some (some (.ref f2)))
    (l2 : K.lookup f2 = some ⟨oc2, od2, .func (PySem.W.fnOf "undone" "undone" (defArgs d_undone) (defBody d_undone) (defScope d_undone) .none kV2 dc2 pm2 an2 cd2 ct2), sl2⟩)
    (c2 : PySem.W.codeIn K cd2 "undone" = true)
    (k2 : PySem.W.keepIn K (.ref f2) = true)
    (a3 : PySem.W.nsIn K mainGlobals "thinned" = some (some (.ref f3)))
    (l3 : K.lookup f3 = some ⟨oc3, od3, .func (PySem.W.fnOf "thinned" "thinned" (defArgs d_thinned) (defBody d_thinned) (defScope d_thinned) .none kV3 dc3 pm3 an3 cd3 ct3), sl3⟩)
    (c3 : PySem.W.codeIn K cd3 "thinned" = true)
    (k3 : PySem.W.keepIn K (.ref f3) = true)
    (a4 : PySem.W.nsIn K mainGlobals "check_tray" = some (some (.ref f4)))
    (l4 : K.lookup f4 = some ⟨oc4, od4, .func (PySem.W.fnOf "check_tray" "check_tray" (defArgs d_check_tray) (defBody d_check_tray) (defScope d_check_tray) .none kV4 dc4 pm4 an4 cd4 ct4), sl4⟩)
    (c4 : PySem.W.codeIn K cd4 "check_tray" = true)
    (k4 : PySem.W.keepIn K (.ref f4) = true)
    (a5 : PySem.W.nsIn K mainGlobals "check_slides" = some (some (.ref f5)))
    (l5 : K.lookup f5 = some ⟨oc5, od5, .func (PySem.W.fnOf "check_slides" "check_slides" (defArgs d_check_slides) (defBody d_check_slides) (defScope d_check_slides) .none kV5 dc5 pm5 an5 cd5 ct5), sl5⟩)
    (c5 : PySem.W.codeIn K cd5 "check_slides" = true)
    (k5 : PySem.W.keepIn K (.ref f5) = true)
    (a6 : PySem.W.nsIn K mainGlobals "empty_place" = some (some (.ref f6)))
    (l6 : K.lookup f6 = some ⟨oc6, od6, .func (PySem.W.fnOf "empty_place" "empty_place" (defArgs d_empty_place) (defBody d_empty_place) (defScope d_empty_place) .none kV6 dc6 pm6 an6 cd6 ct6), sl6⟩)
    (c6 : PySem.W.codeIn K cd6 "empty_place" = true)
    (k6 : PySem.W.keepIn K (.ref f6) = true)
    (a7 : PySem.W.nsIn K mainGlobals "place_beside" = some (some (.ref f7)))
    (l7 : K.lookup f7 = some ⟨oc7, od7, .func (PySem.W.fnOf "place_beside" "place_beside" (defArgs d_place_beside) (defBody d_place_beside) (defScope d_place_beside) .none kV7 dc7 pm7 an7 cd7 ct7), sl7⟩)
    (c7 : PySem.W.codeIn K cd7 "place_beside" = true)
    (k7 : PySem.W.keepIn K (.ref f7) = true)
    (a8 : PySem.W.nsIn K mainGlobals "told" = some (some (.ref f8)))
    (l8 : K.lookup f8 = some ⟨oc8, od8, .func (PySem.W.fnOf "told" "told" (defArgs d_told) (defBody d_told) (defScope d_told) .none kV8 dc8 pm8 an8 cd8 ct8), sl8⟩)
    (c8 : PySem.W.codeIn K cd8 "told" = true)
    (k8 : PySem.W.keepIn K (.ref f8) = true)
    (a9 : PySem.W.nsIn K mainGlobals "_law_with_tray" = some (some (.ref f9)))
    (l9 : K.lookup f9 = some ⟨oc9, od9, .func (PySem.W.fnOf "_law_with_tray" "_law_with_tray" (defArgs d_law_with_tray) (defBody d_law_with_tray) (defScope d_law_with_tray) .none kV9 dc9 pm9 an9 cd9 ct9), sl9⟩)
    (c9 : PySem.W.codeIn K cd9 "_law_with_tray" = true)
    (k9 : PySem.W.keepIn K (.ref f9) = true)
    (a10 : PySem.W.nsIn K mainGlobals "_law_bad_tray" = some (some (.ref f10)))
    (l10 : K.lookup f10 = some ⟨oc10, od10, .func (PySem.W.fnOf "_law_bad_tray" "_law_bad_tray" (defArgs d_law_bad_tray) (defBody d_law_bad_tray) (defScope d_law_bad_tray) .none kV10 dc10 pm10 an10 cd10 ct10), sl10⟩)
    (c10 : PySem.W.codeIn K cd10 "_law_bad_tray" = true)
    (k10 : PySem.W.keepIn K (.ref f10) = true)
    (a11 : PySem.W.nsIn K mainGlobals "_law_great" = some (some (.ref f11)))
    (l11 : K.lookup f11 = some ⟨oc11, od11, .func (PySem.W.fnOf "_law_great" "_law_great" (defArgs d_law_great) (defBody d_law_great) (defScope d_law_great) .none kV11 dc11 pm11 an11 cd11 ct11), sl11⟩)
    (c11 : PySem.W.codeIn K cd11 "_law_great" = true)
    (k11 : PySem.W.keepIn K (.ref f11) = true)
    (a12 : PySem.W.nsIn K mainGlobals "_law_told" = some (some (.ref f12)))
    (l12 : K.lookup f12 = some ⟨oc12, od12, .func (PySem.W.fnOf "_law_told" "_law_told" (defArgs d_law_told) (defBody d_law_told) (defScope d_law_told) .none kV12 dc12 pm12 an12 cd12 ct12), sl12⟩)
    (c12 : PySem.W.codeIn K cd12 "_law_told" = true)
    (k12 : PySem.W.keepIn K (.ref f12) = true)
    (a13 : PySem.W.nsIn K mainGlobals "law" = some (some (.ref f13)))
    (l13 : K.lookup f13 = some ⟨oc13, od13, .func (PySem.W.fnOf "law" "law" (defArgs d_law) (defBody d_law) (defScope d_law) .none kV13 dc13 pm13 an13 cd13 ct13), sl13⟩)
    (c13 : PySem.W.codeIn K cd13 "law" = true)
    (k13 : PySem.W.keepIn K (.ref f13) = true)
    (z_list : PySem.W.nsIn K mainGlobals "list" = some none)
    (z_len : PySem.W.nsIn K mainGlobals "len" = some none)
    (z_isinstance : PySem.W.nsIn K mainGlobals "isinstance" = some none)
    (z_int : PySem.W.nsIn K mainGlobals "int" = some none)
    (z_bool : PySem.W.nsIn K mainGlobals "bool" = some none)
    (z_sorted : PySem.W.nsIn K mainGlobals "sorted" = some none)
    (z_range : PySem.W.nsIn K mainGlobals "range" = some none)
    (z_str : PySem.W.nsIn K mainGlobals "str" = some none)
    (z_ValueError : PySem.W.nsIn K mainGlobals "ValueError" = some none)
    (gCE : PySem.W.nsIn K mainGlobals "TrayError" = some (some (.ref CE)))
    (iCE : PySem.W.isClsIn K CE = true)
    (tCE : PySem.W.typeIn K (.ref CE) = some (.type "type"))
    (bCE : PySem.W.subIn K (.ref CE) (.type "BaseException") = some true)
    (hCE : PySem.W.hasDictIn K CE = true)
    (gCT : PySem.W.nsIn K mainGlobals "BadTray" = some (some (.ref CT)))
    (iCT : PySem.W.isClsIn K CT = true)
    (tCT : PySem.W.typeIn K (.ref CT) = some (.type "type"))
    (xCT : PySem.W.excIn K CT [.type "ValueError", .type "Exception", .type "BaseException", .type "object"] "ValueError.__new__" = true)
    (kCT : PySem.W.keepIn K (.ref CT) = true)
    (bCT : PySem.W.subIn K (.ref CT) (.type "BaseException") = some true)
    (gCS : PySem.W.nsIn K mainGlobals "BadSlides" = some (some (.ref CS)))
    (iCS : PySem.W.isClsIn K CS = true)
    (tCS : PySem.W.typeIn K (.ref CS) = some (.type "type"))
    (xCS : PySem.W.excIn K CS [.type "ValueError", .type "Exception", .type "BaseException", .type "object"] "ValueError.__new__" = true)
    (kCS : PySem.W.keepIn K (.ref CS) = true)
    (bCS : PySem.W.subIn K (.ref CS) (.type "BaseException") = some true)
    (gCU : PySem.W.nsIn K mainGlobals "Unlike" = some (some (.ref CU)))
    (iCU : PySem.W.isClsIn K CU = true)
    (tCU : PySem.W.typeIn K (.ref CU) = some (.type "type"))
    (xCU : PySem.W.excIn K CU [.type "ValueError", .type "Exception", .type "BaseException", .type "object"] "ValueError.__new__" = true)
    (kCU : PySem.W.keepIn K (.ref CU) = true)
    (bCU : PySem.W.subIn K (.ref CU) (.type "BaseException") = some true)
    (en : PySem.W.specialIn K (.builtin "object.__class__") "__get__" = some (some (.builtin "getset_descriptor.__get__")))
    (et : PySem.W.takesIn K (.builtin "object.__class__") = some true)
    (egCT : PySem.W.findIn K (.ref CT) "__getattribute__" = some (some (.builtin "BaseException.__getattribute__")))
    (ekCT : PySem.W.findIn K (.ref CT) "__getattr__" = some none)
    (edCT : PySem.W.hasDictIn K CT = true)
    (eaCT : PySem.W.findIn K (.ref CT) "__class__" = some (some (.builtin "object.__class__")))
    (emCT : PySem.W.mroIn K CT (.type "object") = some true)
    (sCTCT : PySem.W.subIn K (.ref CT) (.ref CT) = some true)
    (sCTCS : PySem.W.subIn K (.ref CT) (.ref CS) = some false)
    (sCTCU : PySem.W.subIn K (.ref CT) (.ref CU) = some false)
    (sCTCE : PySem.W.subIn K (.ref CT) (.ref CE) = some true)
    (vCT : PySem.W.subIn K (.ref CT) (.type "ValueError") = some true)
    (egCS : PySem.W.findIn K (.ref CS) "__getattribute__" = some (some (.builtin "BaseException.__getattribute__")))
    (ekCS : PySem.W.findIn K (.ref CS) "__getattr__" = some none)
    (edCS : PySem.W.hasDictIn K CS = true)
    (eaCS : PySem.W.findIn K (.ref CS) "__class__" = some (some (.builtin "object.__class__")))
    (emCS : PySem.W.mroIn K CS (.type "object") = some true)
    (sCSCT : PySem.W.subIn K (.ref CS) (.ref CT) = some false)
    (sCSCS : PySem.W.subIn K (.ref CS) (.ref CS) = some true)
    (sCSCU : PySem.W.subIn K (.ref CS) (.ref CU) = some false)
    (sCSCE : PySem.W.subIn K (.ref CS) (.ref CE) = some true)
    (vCS : PySem.W.subIn K (.ref CS) (.type "ValueError") = some true)
    (egCU : PySem.W.findIn K (.ref CU) "__getattribute__" = some (some (.builtin "BaseException.__getattribute__")))
    (ekCU : PySem.W.findIn K (.ref CU) "__getattr__" = some none)
    (edCU : PySem.W.hasDictIn K CU = true)
    (eaCU : PySem.W.findIn K (.ref CU) "__class__" = some (some (.builtin "object.__class__")))
    (emCU : PySem.W.mroIn K CU (.type "object") = some true)
    (sCUCT : PySem.W.subIn K (.ref CU) (.ref CT) = some false)
    (sCUCS : PySem.W.subIn K (.ref CU) (.ref CS) = some false)
    (sCUCU : PySem.W.subIn K (.ref CU) (.ref CU) = some true)
    (sCUCE : PySem.W.subIn K (.ref CU) (.ref CE) = some true)
    (vCU : PySem.W.subIn K (.ref CU) (.type "ValueError") = some true)
    (vM : PySem.W.nsIn K mainGlobals "MOST" = some (some (.int 6 tM)))
    (vL : PySem.W.nsIn K mainGlobals "LETTERS" = some (some (.str "udlr" tL)))
    (vS : PySem.W.nsIn K mainGlobals "STEPS" = some (some (.ref dS)))
    (lS : K.lookup dS = some ⟨.type "dict", none, .dict #[⟨hs1, .str "u" ks1, .ref p1⟩, ⟨hs2, .str "d" ks2, .ref p2⟩, ⟨hs3, .str "l" ks3, .ref p3⟩, ⟨hs4, .str "r" ks4, .ref p4⟩] nS, #[]⟩)
    (yS : PySem.W.KeysLit w.params (#[⟨hs1, .str "u" ks1, .ref p1⟩, ⟨hs2, .str "d" ks2, .ref p2⟩, ⟨hs3, .str "l" ks3, .ref p3⟩, ⟨hs4, .str "r" ks4, .ref p4⟩] : Array DictEntry).toList)
    (wS : (dS == sysModules) = false)
    (q1 : K.lookup p1 = some ⟨.type "tuple", qd1, .seq #[.int (-1) qa1, .int (0) qb1] qn1, qs1⟩)
    (q2 : K.lookup p2 = some ⟨.type "tuple", qd2, .seq #[.int (1) qa2, .int (0) qb2] qn2, qs2⟩)
    (q3 : K.lookup p3 = some ⟨.type "tuple", qd3, .seq #[.int (0) qa3, .int (-1) qb3] qn3, qs3⟩)
    (q4 : K.lookup p4 = some ⟨.type "tuple", qd4, .seq #[.int (0) qa4, .int (1) qb4] qn4, qs4⟩)
    (vB : PySem.W.nsIn K mainGlobals "BACK" = some (some (.ref dB)))
    (lB : K.lookup dB = some ⟨.type "dict", none, .dict #[⟨hb1, .str "u" kb1, .str "d" vb1⟩, ⟨hb2, .str "d" kb2, .str "u" vb2⟩, ⟨hb3, .str "l" kb3, .str "r" vb3⟩, ⟨hb4, .str "r" kb4, .str "l" vb4⟩] nB, #[]⟩)
    (yB : PySem.W.KeysLit w.params (#[⟨hb1, .str "u" kb1, .str "d" vb1⟩, ⟨hb2, .str "d" kb2, .str "u" vb2⟩, ⟨hb3, .str "l" kb3, .str "r" vb3⟩, ⟨hb4, .str "r" kb4, .str "l" vb4⟩] : Array DictEntry).toList)
    : ∃ fd : FuncData, (∀ (s : Shared) (v : Value), BindsTo s fd ⟨[v], []⟩ [("_law_script", v)]) ∧ ∀ base : Heap, K.In base → base.Ns mainGlobals mg → FnOk l.prog w K mg base CX0 5 fa fd ["_law_script"] (spLaw K) := by
  have e := hfa.symm.trans (PySem.W.mg_of X G a13)
  cases e
  have F0 := fun_mk (st := d_moved) l0 c0 k0
  have b0 := F0.binds (ps := ["tray", "slides"]) fun _ _ _ _ _ _ us hl => match us, hl with | [_, _], _ => rfl
  have g0 := PySem.W.mg_of X G a0
  have F1 := fun_mk (st := d_ways) l1 c1 k1
  have b1 := F1.binds (ps := ["tray"]) fun _ _ _ _ _ _ us hl => match us, hl with | [_], _ => rfl
  have g1 := PySem.W.mg_of X G a1
  have F2 := fun_mk (st := d_undone) l2 c2 k2
  have b2 := F2.binds (ps := ["slides"]) fun _ _ _ _ _ _ us hl => match us, hl with | [_], _ => rfl
  have g2 := PySem.W.mg_of X G a2
  have F3 := fun_mk (st := d_thinned) l3 c3 k3
  have b3 := F3.binds (ps := ["slides"]) fun _ _ _ _ _ _ us hl => match us, hl with | [_], _ => rfl
  have g3 := PySem.W.mg_of X G a3
  have F4 := fun_mk (st := d_check_tray) l4 c4 k4
  have b4 := F4.binds (ps := ["tray"]) fun _ _ _ _ _ _ us hl => match us, hl with | [_], _ => rfl
  have g4 := PySem.W.mg_of X G a4
  have F5 := fun_mk (st := d_check_slides) l5 c5 k5
  have b5 := F5.binds (ps := ["slides"]) fun _ _ _ _ _ _ us hl => match us, hl with | [_], _ => rfl
  have g5 := PySem.W.mg_of X G a5
  have F6 := fun_mk (st := d_empty_place) l6 c6 k6
  have b6 := F6.binds (ps := ["tray"]) fun _ _ _ _ _ _ us hl => match us, hl with | [_], _ => rfl
  have g6 := PySem.W.mg_of X G a6
  have F7 := fun_mk (st := d_place_beside) l7 c7 k7
  have b7 := F7.binds (ps := ["tray", "row", "column", "letter"]) fun _ _ _ _ _ _ us hl => match us, hl with | [_, _, _, _], _ => rfl
  have g7 := PySem.W.mg_of X G a7
  have F8 := fun_mk (st := d_told) l8 c8 k8
  have b8 := F8.binds (ps := ["one", "other"]) fun _ _ _ _ _ _ us hl => match us, hl with | [_, _], _ => rfl
  have g8 := PySem.W.mg_of X G a8
  have F9 := fun_mk (st := d_law_with_tray) l9 c9 k9
  have b9 := F9.binds (ps := ["_law_door", "_law_tray"]) fun _ _ _ _ _ _ us hl => match us, hl with | [_, _], _ => rfl
  have g9 := PySem.W.mg_of X G a9
  have F10 := fun_mk (st := d_law_bad_tray) l10 c10 k10
  have b10 := F10.binds (ps := ["_law_which", "_law_more"]) fun _ _ _ _ _ _ us hl => match us, hl with | [_, _], _ => rfl
  have g10 := PySem.W.mg_of X G a10
  have F11 := fun_mk (st := d_law_great) l11 c11 k11
  have b11 := F11.binds (ps := ["_law_which"]) fun _ _ _ _ _ _ us hl => match us, hl with | [_], _ => rfl
  have g11 := PySem.W.mg_of X G a11
  have F12 := fun_mk (st := d_law_told) l12 c12 k12
  have b12 := F12.binds (ps := ["_law_kind", "_law_which", "_law_more"]) fun _ _ _ _ _ _ us hl => match us, hl with | [_, _, _], _ => rfl
  have g12 := PySem.W.mg_of X G a12
  have F13 := fun_mk (st := d_law) l13 c13 k13
  have b13 := F13.binds (ps := ["_law_script"]) fun _ _ _ _ _ _ us hl => match us, hl with | [_], _ => rfl
  have g13 := PySem.W.mg_of X G a13
  have m_list := PySem.W.mg_none_of X G z_list
  have m_len := PySem.W.mg_none_of X G z_len
  have m_isinstance := PySem.W.mg_none_of X G z_isinstance
  have m_int := PySem.W.mg_none_of X G z_int
  have m_bool := PySem.W.mg_none_of X G z_bool
  have m_sorted := PySem.W.mg_none_of X G z_sorted
  have m_range := PySem.W.mg_none_of X G z_range
  have m_str := PySem.W.mg_none_of X G z_str
  have m_ValueError := PySem.W.mg_none_of X G z_ValueError
  have mCE := PySem.W.mg_of X G gCE
  have mCT := PySem.W.mg_of X G gCT
  have TCT : ExcT K mg "BadTray" CT := ⟨mCT, xCT, kCT, bCT, tCT⟩
  have mCS := PySem.W.mg_of X G gCS
  have TCS : ExcT K mg "BadSlides" CS := ⟨mCS, xCS, kCS, bCS, tCS⟩
  have mCU := PySem.W.mg_of X G gCU
  have TCU : ExcT K mg "Unlike" CU := ⟨mCU, xCU, kCU, bCU, tCU⟩
  have XCT : ExcC K CT := ⟨egCT, ekCT, bCT, edCT, eaCT, en, et, emCT⟩
  have XCS : ExcC K CS := ⟨egCS, ekCS, bCS, edCS, eaCS, en, et, emCS⟩
  have XCU : ExcC K CU := ⟨egCU, ekCU, bCU, edCU, eaCU, en, et, emCU⟩
  have gMo := PySem.W.mg_of X G vM
  have gLe := PySem.W.mg_of X G vL
  have SD : StepsD K w dS := by
    refine ⟨⟨_, _, lS, yS, wS⟩, fun c hc => ?_, fun c hc => ?_, fun c hc => ?_⟩
    · rcases hc with rfl | rfl | rfl | rfl
      · exact ⟨p1, ⟨_, _, _, lS, yS, ns4 lS 117, rfl⟩, sqT_two q1⟩
      · exact ⟨p2, ⟨_, _, _, lS, yS, ns4 lS 100, rfl⟩, sqT_two q2⟩
      · exact ⟨p3, ⟨_, _, _, lS, yS, ns4 lS 108, rfl⟩, sqT_two q3⟩
      · exact ⟨p4, ⟨_, _, _, lS, yS, ns4 lS 114, rfl⟩, sqT_two q4⟩
    · rcases hc with rfl | rfl | rfl | rfl
      · exact ⟨_, ns4 lS 117⟩
      · exact ⟨_, ns4 lS 100⟩
      · exact ⟨_, ns4 lS 108⟩
      · exact ⟨_, ns4 lS 114⟩
    · rw [ns4 lS c]
      unfold okL at hc
      rw [if_neg (by omega), if_neg (by omega), if_neg (by omega), if_neg (by omega)]
  have gSt := PySem.W.mg_of X G vS
  have BD : BackD K w dB := by
    refine ⟨fun c hc => ?_⟩
    rcases hc with rfl | rfl | rfl | rfl
    · exact ⟨_, _, _, lB, yB, ns4 lB 117, ⟨_, by rw [d_eq]; rfl⟩⟩
    · exact ⟨_, _, _, lB, yB, ns4 lB 100, ⟨_, by rw [u_eq]; rfl⟩⟩
    · exact ⟨_, _, _, lB, yB, ns4 lB 108, ⟨_, by rw [r_eq]; rfl⟩⟩
    · exact ⟨_, _, _, lB, yB, ns4 lB 114, ⟨_, by rw [l_eq]; rfl⟩⟩
  have gBk := PySem.W.mg_of X G vB
  refine ⟨PySem.W.fnOf "law" "law" (defArgs d_law) (defBody d_law) (defScope d_law) .none kV13 dc13 pm13 an13 cd13 ct13, fun s v => .of_eq rfl, fun base _ _ => ?_⟩
  have Er : Err3 K mg CE CT CS CU := ⟨mCE, mCS, mCT, mCU, ⟨PySem.W.exm_ref bCE hCE tCE sCTCE, XCT, kit_own iCT tCT sCTCT sCTCT, kit_own iCS tCS sCTCS sCTCT, kit_own iCU tCU sCTCU sCTCT, kit_val vCT⟩, ⟨PySem.W.exm_ref bCE hCE tCE sCSCE, XCS, kit_own iCT tCT sCSCT sCSCS, kit_own iCS tCS sCSCS sCSCS, kit_own iCU tCU sCSCU sCSCS, kit_val vCS⟩, ⟨PySem.W.exm_ref bCE hCE tCE sCUCE, XCU, kit_own iCT tCT sCUCT sCUCU, kit_own iCS tCS sCUCS sCUCU, kit_own iCU tCU sCUCU sCUCU, kit_val vCU⟩⟩
  have OT := ok_checkTG (P := l.prog) (w := w) (base := base) (k := 0) F4 TCT gMo m_isinstance m_list m_len m_int m_bool m_sorted m_range
  have OS := ok_checkSG (P := l.prog) (w := w) (base := base) (k := 0) F5 gSt SD m_isinstance m_str TCS
  have OE := ok_empty (P := l.prog) (w := w) (mg := mg) (base := base) (k := 0) F6
  have OB := ok_beside (P := l.prog) (w := w) (base := base) (k := 0) F7 gSt SD m_len
  have OM := ok_movedG (k := 0) F0 TCS m_list OT g4 k4 b4 OS g5 k5 b5 OE g6 k6 b6 OB g7 k7 b7
  have OY := ok_waysG (k := 0) F1 gLe OT g4 k4 b4 OE g6 k6 b6 OB g7 k7 b7
  have OU := ok_undoneG (k := 0) F2 gBk BD OS g5 k5 b5
  have OH := ok_thinnedG (k := 0) F3 gBk BD OS g5 k5 b5
  have OO := ok_toldR (k := 1) F8 TCU m_len (by decide) OT g4 k4 b4
  have OA := ok_with (k := 2) F9 (by decide) (by decide) (by decide) OM g0 k0 b0 OY g1 k1 b1 OO g8 k8 b8
  have OBT := ok_bad (P := l.prog) (w := w) (base := base) (k := 0) F10 m_list m_range
  have OG := ok_great (P := l.prog) (w := w) (base := base) (k := 0) F11 m_list m_range
  have OL := ok_toldL (k := 3) F12 m_isinstance m_ValueError Er (by decide) (by decide) (by decide) (by decide) (by decide) (by decide) (by decide) OA g9 k9 b9 OG g11 k11 b11 OBT g10 k10 b10 OM g0 k0 b0 OU g2 k2 b2 OH g3 k3 b3 OO g8 k8 b8
  exact ok_law5 (k := 4) F13 m_range (by decide) (by decide) (by decide) (by decide) OL g12 k12 b12 OY g1 k1 b1 OM g0 k0 b0 OU g2 k2 b2
end Tr
open PySem PySem.W PyProof.Rows
set_option maxHeartbeats 0 in
theorem PySem.Challenge.cw_slidetray_k05_refused_holds : PySem.Challenge.rw_slidetray_k05_refused.Holds := by
  w_on; o_law; k_head; (case hw => w_witness2)
  k_fill
  refine L2.walk_ofB (l := PySem.Challenge.rw_slidetray_k05_refused) (n := 63) (k := 5) (x := "_law_script") (CX := fun _ => L2.CX0) (sp := fun w => Tr.spLaw _) rfl (by decide) rfl ⟨rfl, by decide, by decide⟩ (fun w h Y => PySem.W.kIn_of Y) ?F (fun _ _ a ns hl hb _ hS => ⟨a, ns, rfl, hS, hl, hb, fun _ => rfl⟩) (fun _ _ _ _ _ h => h)
  case F =>
    intro w mg fa h KX G hmg
    refine' Tr.all_mk KX G hmg ?a0 ?l0 ?c0 ?k0 ?a1 ?l1 ?c1 ?k1 ?a2 ?l2 ?c2 ?k2 ?a3 ?l3 ?c3 ?k3 ?a4 ?l4 ?c4 ?k4 ?a5 ?l5 ?c5 ?k5 ?a6 ?l6 ?c6 ?k6 ?a7 ?l7 ?c7 ?k7 ?a8 ?l8 ?c8 ?k8 ?a9 ?l9 ?c9 ?k9 ?a10 ?l10 ?c10 ?k10 ?a11 ?l11 ?c11 ?k11 ?a12 ?l12 ?c12 ?k12 ?a13 ?l13 ?c13 ?k13 ?z_list ?z_len ?z_isinstance ?z_int ?z_bool ?z_sorted ?z_range ?z_str ?z_ValueError ?gCE ?iCE ?tCE ?bCE ?hCE ?gCT ?iCT ?tCT ?xCT ?kCT ?bCT ?gCS ?iCS ?tCS ?xCS ?kCS ?bCS ?gCU ?iCU ?tCU ?xCU ?kCU ?bCU ?en ?et ?egCT ?ekCT ?edCT ?eaCT ?emCT ?sCTCT ?sCTCS ?sCTCU ?sCTCE ?vCT ?egCS ?ekCS ?edCS ?eaCS ?emCS ?sCSCT ?sCSCS ?sCSCU ?sCSCE ?vCS ?egCU ?ekCU ?edCU ?eaCU ?emCU ?sCUCT ?sCUCS ?sCUCU ?sCUCE ?vCU ?vM ?vL ?vS ?lS ?yS ?wS ?q1 ?q2 ?q3 ?q4 ?vB ?lB ?yB
    (case a0 => k_is); (case l0 => k_is); (case c0 => k_is); (case k0 => k_is)
    (case a1 => k_is); (case l1 => k_is); (case c1 => k_is); (case k1 => k_is)
    (case a2 => k_is); (case l2 => k_is); (case c2 => k_is); (case k2 => k_is)
    (case a3 => k_is); (case l3 => k_is); (case c3 => k_is); (case k3 => k_is)
    (case a4 => k_is); (case l4 => k_is); (case c4 => k_is); (case k4 => k_is)
    (case a5 => k_is); (case l5 => k_is); (case c5 => k_is); (case k5 => k_is)
    (case a6 => k_is); (case l6 => k_is); (case c6 => k_is); (case k6 => k_is)
    (case a7 => k_is); (case l7 => k_is); (case c7 => k_is); (case k7 => k_is)
    (case a8 => k_is); (case l8 => k_is); (case c8 => k_is); (case k8 => k_is)
    (case a9 => k_is); (case l9 => k_is); (case c9 => k_is); (case k9 => k_is)
    (case a10 => k_is); (case l10 => k_is); (case c10 => k_is); (case k10 => k_is)
    (case a11 => k_is); (case l11 => k_is); (case c11 => k_is); (case k11 => k_is)
    (case a12 => k_is); (case l12 => k_is); (case c12 => k_is); (case k12 => k_is)
    (case a13 => k_is); (case l13 => k_is); (case c13 => k_is); (case k13 => k_is)
    (case z_list => k_is); (case z_len => k_is); (case z_isinstance => k_is); (case z_int => k_is)
    (case z_bool => k_is); (case z_sorted => k_is); (case z_range => k_is); (case z_str => k_is)
    (case z_ValueError => k_is); (case gCE => k_is); (case iCE => k_is); (case tCE => k_is)
    (case bCE => k_is); (case hCE => k_is); (case gCT => k_is); (case iCT => k_is)
    (case tCT => k_is); (case xCT => k_exc); (case kCT => k_is); (case bCT => k_is)
    (case gCS => k_is); (case iCS => k_is); (case tCS => k_is); (case xCS => k_exc)
    (case kCS => k_is); (case bCS => k_is); (case gCU => k_is); (case iCU => k_is)
    (case tCU => k_is); (case xCU => k_exc); (case kCU => k_is); (case bCU => k_is)
    (case en => k_is); (case et => k_is); (case egCT => k_is); (case ekCT => k_is)
    (case edCT => k_is); (case eaCT => k_is); (case emCT => k_is); (case sCTCT => k_is)
    (case sCTCS => k_is); (case sCTCU => k_is); (case sCTCE => k_is); (case vCT => k_is)
    (case egCS => k_is); (case ekCS => k_is); (case edCS => k_is); (case eaCS => k_is)
    (case emCS => k_is); (case sCSCT => k_is); (case sCSCS => k_is); (case sCSCU => k_is)
    (case sCSCE => k_is); (case vCS => k_is); (case egCU => k_is); (case ekCU => k_is)
    (case edCU => k_is); (case eaCU => k_is); (case emCU => k_is); (case sCUCT => k_is)
    (case sCUCS => k_is); (case sCUCU => k_is); (case sCUCE => k_is); (case vCU => k_is)
    (case vM => k_is); (case vL => k_is); (case vS => k_is); (case lS => k_is)
    (case yS => k_keys); (case wS => exact (by decide)); (case q1 => k_is); (case q2 => k_is)
    (case q3 => k_is); (case q4 => k_is); (case vB => k_is); (case lB => k_is)
    (case yB => k_keys)
#print axioms PySem.Challenge.cw_slidetray_k05_refused_holds
