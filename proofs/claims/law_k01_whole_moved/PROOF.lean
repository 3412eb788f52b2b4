import PyProof.Rows.All
import Wide.All
import OpenK.AllK
import Wide.FinOn
import HandS.ForMost
import HandS.Exc
import HandS.TryOnly
import HandS.ExcOwn
import HandS.WordsExc
import HandS.ExcIs
import HandS.IsInst
import HandS.Walk
import HandS.Style
import HandS.More
import HandS.Wide
import HandS.EndBits
import KE.KRevSl
import PyProof.Fits
import HandS.Conv
import HandS.Codes
import PySem.Challenge.RW_slidetray_k01_whole_moved
set_option Elab.async false
set_option linter.all false
set_option maxRecDepth 100000
set_option maxHeartbeats 16000000
/-! The mathematics of trays: places, slides, undone, thinned. Core Lean alone. -/
namespace Tr
abbrev Fld := Nat → Int
/-- how far a letter leads: rows down, columns to the right; (9, 9) for what is no letter -/
def stp (w : Nat) : Int × Int := if w = 117 then (-1, 0) else if w = 100 then (1, 0) else if w = 108 then (0, -1) else if w = 114 then (0, 1) else (9, 9)
def okL (w : Nat) : Prop := w = 117 ∨ w = 100 ∨ w = 108 ∨ w = 114
instance (w : Nat) : Decidable (okL w) := by unfold okL; infer_instance
def bk (w : Nat) : Nat := if w = 117 then 100 else if w = 100 then 117 else if w = 108 then 114 else if w = 114 then 108 else w
theorem bk_no {w : Nat} (h : ¬ okL w) : bk w = w := by
  unfold okL at h
  unfold bk
  rw [if_neg (by omega), if_neg (by omega), if_neg (by omega), if_neg (by omega)]
theorem bk_bk {w : Nat} : bk (bk w) = w := by
  by_cases h : okL w
  · rcases h with rfl | rfl | rfl | rfl <;> rfl
  · rw [bk_no h, bk_no h]
theorem bk_ok {w : Nat} (h : okL w) : okL (bk w) := by rcases h with rfl | rfl | rfl | rfl <;> decide
theorem bk_ne {w : Nat} (h : okL w) : bk w ≠ w := by rcases h with rfl | rfl | rfl | rfl <;> decide
theorem bk_inj {a b : Nat} (h : bk a = bk b) : a = b := by
  have := congrArg bk h
  rwa [bk_bk, bk_bk] at this
/-- the place beside -/
def nxt (R C r c w : Nat) : Option (Nat × Nat) :=
  if 0 ≤ (r : Int) + (stp w).1 ∧ (r : Int) + (stp w).1 < R ∧ 0 ≤ (c : Int) + (stp w).2 ∧ (c : Int) + (stp w).2 < C then some (((r : Int) + (stp w).1).toNat, ((c : Int) + (stp w).2).toNat) else none
theorem nxt_some {R C r c w : Nat} (h : 0 ≤ (r : Int) + (stp w).1 ∧ (r : Int) + (stp w).1 < R ∧ 0 ≤ (c : Int) + (stp w).2 ∧ (c : Int) + (stp w).2 < C) : nxt R C r c w = some (((r : Int) + (stp w).1).toNat, ((c : Int) + (stp w).2).toNat) := if_pos h
theorem nxt_none {R C r c w : Nat} (h : ¬ (0 ≤ (r : Int) + (stp w).1 ∧ (r : Int) + (stp w).1 < R ∧ 0 ≤ (c : Int) + (stp w).2 ∧ (c : Int) + (stp w).2 < C)) : nxt R C r c w = none := if_neg h
theorem nxt_eq {R C r c w r' c' : Nat} (h : nxt R C r c w = some (r', c')) : (r' : Int) = r + (stp w).1 ∧ (c' : Int) = c + (stp w).2 ∧ r' < R ∧ c' < C := by
  unfold nxt at h
  split at h
  · rename_i k
    have e := Option.some.inj h
    have e1 := congrArg Prod.fst e
    have e2 := congrArg Prod.snd e
    dsimp only at e1 e2
    omega
  · cases h
theorem stp_bk {w : Nat} (h : okL w) : (stp (bk w)).1 = -(stp w).1 ∧ (stp (bk w)).2 = -(stp w).2 := by
  rcases h with rfl | rfl | rfl | rfl <;> decide
theorem stp_bad {w : Nat} (h : ¬ okL w) : stp w = (9, 9) := by
  unfold okL at h
  unfold stp
  rw [if_neg (by omega), if_neg (by omega), if_neg (by omega), if_neg (by omega)]
theorem stp_move {w : Nat} : (stp w).1 ≠ 0 ∨ (stp w).2 ≠ 0 := by
  unfold stp
  repeat' split
  all_goals decide
theorem nxt_back {R C r c w r' c' : Nat} (hr : r < R) (hc : c < C) (hw : okL w) (h : nxt R C r c w = some (r', c')) : nxt R C r' c' (bk w) = some (r, c) := by
  obtain ⟨e1, e2, _, _⟩ := nxt_eq h
  obtain ⟨b1, b2⟩ := stp_bk hw
  rw [nxt_some (by omega)]
  rw [b1, b2]
  refine congrArg some ?_
  have x1 : ((r' : Int) + -(stp w).1).toNat = r := by omega
  have x2 : ((c' : Int) + -(stp w).2).toNat = c := by omega
  rw [x1, x2]
theorem nxt_bad {R C r c w : Nat} (hR : R ≤ 9) (h : ¬ okL w) : nxt R C r c w = none := by
  refine nxt_none ?_
  rw [stp_bad h]
  dsimp only
  omega
theorem ix_inj {C r c r' c' : Nat} (hc : c < C) (hc' : c' < C) (h : r * C + c = r' * C + c') : r = r' ∧ c = c' := by
  have e1 : (r * C + c) / C = r := by
    rw [Nat.add_comm, Nat.add_mul_div_right _ _ (by omega), Nat.div_eq_of_lt hc, Nat.zero_add]
  have e2 : (r' * C + c') / C = r' := by
    rw [Nat.add_comm, Nat.add_mul_div_right _ _ (by omega), Nat.div_eq_of_lt hc', Nat.zero_add]
  have e : r = r' := by rw [← e1, ← e2, h]
  subst e
  exact ⟨rfl, by omega⟩
theorem ix_lt {R C r c : Nat} (hr : r < R) (hc : c < C) : r * C + c < R * C := by
  have h : (r + 1) * C ≤ R * C := Nat.mul_le_mul_right C hr
  rw [Nat.add_mul, Nat.one_mul] at h
  omega
/-- what stands at q goes to p, 0 to q -/
def put2 (f : Fld) (p q : Nat) : Fld := fun k => if k = q then 0 else if k = p then f q else f k
abbrev Sl := Fld × Nat × Nat
def go1 (R C : Nat) (s : Sl) (w : Nat) : Option Sl := (nxt R C s.2.1 s.2.2 w).map fun n => (put2 s.1 (s.2.1 * C + s.2.2) (n.1 * C + n.2), n.1, n.2)
def goAll (R C : Nat) : Sl → List Nat → Option Sl
  | s, [] => some s
  | s, w :: r => (go1 R C s w).bind fun s' => goAll R C s' r
theorem goAll_append (R C : Nat) : ∀ (a b : List Nat) (s : Sl), goAll R C s (a ++ b) = (goAll R C s a).bind fun s' => goAll R C s' b
  | [], b, s => rfl
  | w :: r, b, s => by
    show (go1 R C s w).bind (fun s' => goAll R C s' (r ++ b)) = ((go1 R C s w).bind fun s' => goAll R C s' r).bind fun s' => goAll R C s' b
    cases e : go1 R C s w with
    | none => rfl
    | some s1 => exact goAll_append R C r b s1
theorem goAll_one (R C : Nat) (s : Sl) (w : Nat) : goAll R C s [w] = go1 R C s w := by
  show (go1 R C s w).bind (fun s' => some s') = go1 R C s w
  cases go1 R C s w <;> rfl
theorem take_more {α : Type} : ∀ {l : List α} {i : Nat} {x : α}, l[i]? = some x → l.take (i + 1) = l.take i ++ [x]
  | [], i, x, h => by simp at h
  | a :: l, 0, x, h => by
    have e : a = x := Option.some.inj h
    subst e
    rfl
  | a :: l, i + 1, x, h => by
    have ih := take_more (l := l) (i := i) (x := x) h
    show a :: l.take (i + 1) = a :: l.take i ++ [x]
    rw [ih]
    rfl
theorem goAll_take {R C : Nat} {s s1 : Sl} {ws : List Nat} {i w : Nat} (h : goAll R C s (ws.take i) = some s1) (hw : ws[i]? = some w) : goAll R C s (ws.take (i + 1)) = go1 R C s1 w := by
  rw [take_more hw, goAll_append, h]
  exact goAll_one R C s1 w
theorem goAll_stop {R C : Nat} {s s1 : Sl} {ws : List Nat} {i w : Nat} (h : goAll R C s (ws.take i) = some s1) (hw : ws[i]? = some w) (hn : go1 R C s1 w = none) : goAll R C s ws = none := by
  have e : ws = ws.take (i + 1) ++ ws.drop (i + 1) := (List.take_append_drop (i + 1) ws).symm
  rw [e, goAll_append, goAll_take h hw, hn]
  rfl
/-- 0 stands at (r, c) -/
structure Zr (R C : Nat) (s : Sl) : Prop where
  r : s.2.1 < R
  c : s.2.2 < C
  z : s.1 (s.2.1 * C + s.2.2) = 0
def allV (n : Nat) (f : Fld) : List Int := (List.range n).map f
/-- all numbers from 0 on, each once -/
def Full (n : Nat) (f : Fld) : Prop := (allV n f).Perm ((List.range n).map fun k : Nat => (k : Int))
theorem go1_eq {R C : Nat} {s s' : Sl} {w : Nat} (h : go1 R C s w = some s') : nxt R C s.2.1 s.2.2 w = some (s'.2.1, s'.2.2) ∧ s' = (put2 s.1 (s.2.1 * C + s.2.2) (s'.2.1 * C + s'.2.2), s'.2.1, s'.2.2) := by
  unfold go1 at h
  cases e : nxt R C s.2.1 s.2.2 w with
  | none => rw [e] at h; cases h
  | some n =>
    rw [e] at h
    have h := Option.some.inj h
    subst h
    exact ⟨rfl, rfl⟩
theorem go1_zr {R C : Nat} {s s' : Sl} {w : Nat} (h : go1 R C s w = some s') : Zr R C s' := by
  obtain ⟨h1, h2⟩ := go1_eq h
  obtain ⟨_, _, h3, h4⟩ := nxt_eq h1
  refine ⟨h3, h4, ?_⟩
  rw [h2]
  exact if_pos rfl
theorem goAll_zr {R C : Nat} : ∀ {ws : List Nat} {s s' : Sl}, Zr R C s → goAll R C s ws = some s' → Zr R C s'
  | [], s, s', z, h => Option.some.inj h ▸ z
  | w :: r, s, s', z, h => by
    have h : (go1 R C s w).bind (fun s' => goAll R C s' r) = some s' := h
    cases e : go1 R C s w with
    | none => rw [e] at h; cases h
    | some s1 =>
      rw [e] at h
      exact goAll_zr (go1_zr e) h
theorem pq_ne {R C : Nat} {s s' : Sl} {w : Nat} (z : Zr R C s) (h : go1 R C s w = some s') : s.2.1 * C + s.2.2 ≠ s'.2.1 * C + s'.2.2 := by
  intro e
  obtain ⟨h1, h2⟩ := go1_eq h
  obtain ⟨e1, e2, h3, h4⟩ := nxt_eq h1
  obtain ⟨i1, i2⟩ := ix_inj z.c h4 e
  rcases stp_move (w := w) with m | m <;> omega
theorem go1_back {R C : Nat} {s s' : Sl} {w : Nat} (z : Zr R C s) (hw : okL w) (h : go1 R C s w = some s') : go1 R C s' (bk w) = some s := by
  obtain ⟨h1, h2⟩ := go1_eq h
  have hn := pq_ne z h
  obtain ⟨f, r, c⟩ := s
  obtain ⟨f', r', c'⟩ := s'
  dsimp only at h1 h2 hn
  have hf : f' = put2 f (r * C + c) (r' * C + c') := congrArg Prod.fst h2
  unfold go1
  dsimp only
  rw [nxt_back z.r z.c hw h1]
  show some (put2 f' (r' * C + c') (r * C + c), r, c) = some (f, r, c)
  have : put2 f' (r' * C + c') (r * C + c) = f := by
    funext k
    unfold put2
    by_cases k1 : k = r * C + c
    · rw [if_pos k1, k1]
      exact z.z.symm
    · rw [if_neg k1]
      rw [hf]
      unfold put2
      by_cases k2 : k = r' * C + c'
      · rw [if_pos k2, if_neg hn, if_pos rfl, k2]
      · rw [if_neg k2, if_neg k2, if_neg k1]
  rw [this]
def undo (ws : List Nat) : List Nat := ws.reverse.map bk
theorem undo_cons (w : Nat) (r : List Nat) : undo (w :: r) = undo r ++ [bk w] := by
  unfold undo
  rw [List.reverse_cons, List.map_append]
  rfl
theorem undo_undo (ws : List Nat) : undo (undo ws) = ws := by
  unfold undo
  rw [← List.map_reverse, List.reverse_reverse, List.map_map]
  have : (bk ∘ bk) = id := funext fun w => bk_bk
  rw [this, List.map_id]
theorem undo_ok {ws : List Nat} (h : ∀ w ∈ ws, okL w) : ∀ w ∈ undo ws, okL w := by
  intro w hw
  unfold undo at hw
  obtain ⟨x, hx, rfl⟩ := List.mem_map.mp hw
  exact bk_ok (h x (List.mem_reverse.mp hx))
theorem undo_len (ws : List Nat) : (undo ws).length = ws.length := by
  unfold undo
  rw [List.length_map, List.length_reverse]
theorem goAll_undo {R C : Nat} : ∀ {ws : List Nat} {s s' : Sl}, Zr R C s → (∀ w ∈ ws, okL w) → goAll R C s ws = some s' → goAll R C s' (undo ws) = some s
  | [], s, s', z, hk, h => by
    have e := Option.some.inj h
    subst e
    rfl
  | w :: r, s, s', z, hk, h => by
    have h : (go1 R C s w).bind (fun s' => goAll R C s' r) = some s' := h
    cases e : go1 R C s w with
    | none => rw [e] at h; cases h
    | some s1 =>
      rw [e] at h
      have ih := goAll_undo (go1_zr e) (fun x hx => hk x (List.mem_cons_of_mem _ hx)) h
      rw [undo_cons, goAll_append, ih]
      show goAll R C s1 [bk w] = some s
      rw [goAll_one]
      exact go1_back z (hk w List.mem_cons_self) e
/-! ### all numbers stay -/
theorem allV_put {n : Nat} {f : Fld} {p q : Nat} (hp : p < n) (hq : q < n) (hz : f p = 0) : allV n (put2 f p q) = ((allV n f).set p ((allV n f)[q]'(by unfold allV; simpa using hq))).set q ((allV n f)[p]'(by unfold allV; simpa using hp)) := by
  apply List.ext_getElem
  · simp [allV]
  · intro i h1 h2
    have hi : i < n := by simpa [allV] using h1
    simp only [allV, List.getElem_map, List.getElem_range, List.getElem_set]
    unfold put2
    by_cases a : i = q
    · subst a
      simp [hz]
    · rw [if_neg a, if_neg (fun e => a (Eq.symm e))]
      by_cases b : i = p
      · subst b
        simp
      · rw [if_neg b, if_neg (fun e => b (Eq.symm e))]
theorem put2_full {n : Nat} {f : Fld} {p q : Nat} (hp : p < n) (hq : q < n) (hz : f p = 0) (h : Full n f) : Full n (put2 f p q) := by
  unfold Full
  rw [allV_put hp hq hz]
  exact (List.set_set_perm (as := allV n f) (i := p) (j := q) (by unfold allV; simpa using hp) (by unfold allV; simpa using hq)).trans h
theorem go1_full {R C : Nat} {s s' : Sl} {w : Nat} (z : Zr R C s) (h : go1 R C s w = some s') (x : Full (R * C) s.1) : Full (R * C) s'.1 := by
  have z' := go1_zr h
  obtain ⟨h1, h2⟩ := go1_eq h
  rw [h2]
  exact put2_full (ix_lt z.r z.c) (ix_lt z'.r z'.c) z.z x
theorem goAll_full {R C : Nat} : ∀ {ws : List Nat} {s s' : Sl}, Zr R C s → goAll R C s ws = some s' → Full (R * C) s.1 → Full (R * C) s'.1
  | [], s, s', z, h, x => Option.some.inj h ▸ x
  | w :: r, s, s', z, h, x => by
    have h : (go1 R C s w).bind (fun s' => goAll R C s' r) = some s' := h
    cases e : go1 R C s w with
    | none => rw [e] at h; cases h
    | some s1 =>
      rw [e] at h
      exact goAll_full (go1_zr e) h (go1_full z e x)
/-- 0 stands at one place alone -/
theorem full_nodup {n : Nat} {f : Fld} (h : Full n f) : (allV n f).Nodup := by
  refine h.symm.nodup ?_
  unfold List.Nodup
  rw [List.pairwise_map]
  refine List.Pairwise.imp ?_ List.nodup_range
  intro a b hab e
  exact hab (by omega)
theorem full_inj {n : Nat} {f : Fld} (h : Full n f) {i j : Nat} (hi : i < n) (hj : j < n) (e : f i = f j) : i = j := by
  have nd := full_nodup h
  have q := (List.getElem_inj (xs := allV n f) (i := i) (j := j) (h₀ := by simpa [allV] using hi) (h₁ := by simpa [allV] using hj) nd).mp
  exact q (by simpa [allV] using e)
theorem full_zero {n : Nat} {f : Fld} (hn : 0 < n) (h : Full n f) : ∃ p, p < n ∧ f p = 0 := by
  have m : (0 : Int) ∈ allV n f := h.symm.mem_iff.mp (List.mem_map.mpr ⟨0, List.mem_range.mpr hn, rfl⟩)
  obtain ⟨p, hp, e⟩ := List.mem_map.mp m
  exact ⟨p, List.mem_range.mp hp, e⟩
/-! ### thinned -/
/-- the last one of what is left goes with its own back -/
def thS (left : List Nat) (w : Nat) : List Nat := if left.getLast? = some (bk w) then left.dropLast else left ++ [w]
def thinL (ws : List Nat) : List Nat := ws.foldl thS []
def push (w : Nat) (f : List Nat) : List Nat := if f.head? = some (bk w) then f.tail else w :: f
def thinR (ws : List Nat) : List Nat := ws.foldr push []
def Red : List Nat → Prop
  | [] => True
  | [_] => True
  | x :: y :: r => y ≠ bk x ∧ Red (y :: r)
theorem red_tail : ∀ {x : Nat} {l : List Nat}, Red (x :: l) → Red l
  | _, [], _ => True.intro
  | _, _ :: _, h => h.2
theorem red_push {w : Nat} {f : List Nat} (h : Red f) : Red (push w f) := by
  unfold push
  split
  · cases f with
    | nil => exact True.intro
    | cons x r => exact red_tail h
  · rename_i k
    cases f with
    | nil => exact True.intro
    | cons x r => exact ⟨fun e => k (by rw [e]; rfl), h⟩
theorem push_push {w : Nat} {f : List Nat} (hf : Red f) : push (bk w) (push w f) = f := by
  unfold push
  by_cases k : f.head? = some (bk w)
  · rw [if_pos k]
    cases f with
    | nil => cases k
    | cons x r =>
      have e : x = bk w := Option.some.inj k
      subst e
      show (if r.head? = some (bk (bk w)) then r.tail else bk w :: r) = bk w :: r
      refine if_neg fun e => ?_
      cases r with
      | nil => cases e
      | cons y q => exact hf.1 (Option.some.inj e)
  · rw [if_neg k]
    show (if (w :: f).head? = some (bk (bk w)) then f else bk w :: w :: f) = f
    rw [if_pos (by rw [bk_bk]; rfl)]
theorem foldr_red (left : List Nat) {f : List Nat} (h : Red f) : Red (left.foldr push f) := by
  induction left with
  | nil => exact h
  | cons x r ih => exact red_push ih
theorem thS_foldr {left : List Nat} {w : Nat} {f : List Nat} (hf : Red f) : (thS left w).foldr push f = left.foldr push (push w f) := by
  unfold thS
  split
  · rename_i k
    have e : left = left.dropLast ++ [bk w] := by
      have hne : left ≠ [] := by
        intro e
        rw [e] at k
        cases k
      have h1 := List.dropLast_concat_getLast hne
      rw [List.getLast?_eq_getLast hne] at k
      rw [Option.some.inj k] at h1
      exact h1.symm
    generalize hd : left.dropLast = d at e
    rw [e, List.foldr_append]
    show d.foldr push f = d.foldr push (push (bk w) (push w f))
    rw [push_push hf]
  · rw [List.foldr_append]
    rfl
theorem foldl_foldr : ∀ (ws left : List Nat), (ws.foldl thS left).foldr push [] = left.foldr push (ws.foldr push [])
  | [], _ => rfl
  | w :: r, left => by
    show (r.foldl thS (thS left w)).foldr push [] = left.foldr push (push w (r.foldr push []))
    rw [foldl_foldr r (thS left w)]
    exact thS_foldr (foldr_red r True.intro)
theorem red_dropLast : ∀ {l : List Nat}, Red l → Red l.dropLast
  | [], _ => True.intro
  | [_], _ => True.intro
  | [_, _], _ => True.intro
  | x :: y :: z :: r, h => ⟨h.1, red_dropLast (l := y :: z :: r) h.2⟩
theorem red_snoc : ∀ {l : List Nat} {w : Nat}, Red l → l.getLast? ≠ some (bk w) → Red (l ++ [w])
  | [], _, _, _ => True.intro
  | [x], w, _, h => ⟨fun e => h (by rw [e, bk_bk]; rfl), True.intro⟩
  | x :: y :: r, w, h, k => ⟨h.1, red_snoc (l := y :: r) h.2 (by rw [List.getLast?_cons_cons] at k; exact k)⟩
theorem red_thS {l : List Nat} {w : Nat} (h : Red l) : Red (thS l w) := by
  unfold thS
  split
  · exact red_dropLast h
  · rename_i k
    exact red_snoc h k
theorem red_foldl : ∀ {ws l : List Nat}, Red l → Red (ws.foldl thS l)
  | [], _, h => h
  | w :: r, l, h => red_foldl (ws := r) (l := thS l w) (red_thS h)
theorem foldr_self : ∀ {l : List Nat}, Red l → l.foldr push [] = l
  | [], _ => rfl
  | [_], _ => rfl
  | x :: y :: r, h => by
    show push x ((y :: r).foldr push []) = x :: y :: r
    rw [foldr_self (l := y :: r) h.2]
    exact if_neg fun e => h.1 (Option.some.inj e)
theorem thin_same (ws : List Nat) : thinL ws = thinR ws := by
  have h := foldl_foldr ws []
  have r : Red (ws.foldl thS []) := red_foldl True.intro
  rw [foldr_self r] at h
  exact h
theorem thS_len (l : List Nat) (w : Nat) : (thS l w).length ≤ l.length + 1 := by
  unfold thS
  split
  · rw [List.length_dropLast]; omega
  · rw [List.length_append]; exact Nat.le_refl _
theorem thin_take {ws : List Nat} {i w : Nat} (h : ws[i]? = some w) : thinL (ws.take (i + 1)) = thS (thinL (ws.take i)) w := by
  unfold thinL
  rw [take_more h, List.foldl_append]
  rfl
theorem foldl_len : ∀ (ws l : List Nat), (ws.foldl thS l).length ≤ l.length + ws.length
  | [], l => Nat.le_refl _
  | w :: r, l => by
    have h := foldl_len r (thS l w)
    have h2 := thS_len l w
    show (r.foldl thS (thS l w)).length ≤ l.length + (r.length + 1)
    omega
theorem thinL_len (ws : List Nat) : (thinL ws).length ≤ ws.length := by
  have h := foldl_len ws []
  simpa [thinL] using h
theorem thinL_ok {ws : List Nat} : (∀ w ∈ ws, okL w) → ∀ w ∈ thinL ws, okL w := by
  have g : ∀ (ws l : List Nat), (∀ w ∈ l, okL w) → (∀ w ∈ ws, okL w) → ∀ w ∈ ws.foldl thS l, okL w := by
    intro ws
    induction ws with
    | nil => intro l hl _; exact hl
    | cons x r ih =>
      intro l hl hw
      refine ih (thS l x) ?_ (fun y hy => hw y (List.mem_cons_of_mem _ hy))
      intro y hy
      unfold thS at hy
      split at hy
      · exact hl y (List.dropLast_subset l hy)
      · rcases List.mem_append.mp hy with h | h
        · exact hl y h
        · rw [List.mem_singleton.mp h]
          exact hw x List.mem_cons_self
  exact fun h => g ws [] (fun _ h => by cases h) h
end Tr
/-! Rules and heaps -/
namespace Tr
open PySem PySem.Spec PyProof.Rows L2
/-! ### a product of any two ints that the machine takes -/
section
variable {X : Cx}
theorem op_mulX : OpR X (binaryOp .Mult) (rI IntMulOk fun i j => .int (i * j)) := opI fun _ _ _ _ _ _ _ hc q => mul_int q hc
end
/-! ### s[::-1] of a text -/
def tRevS (te : TE) : TE := fun σ H Q => te σ H fun x H1 => ∃ z : Str, x = .str z ∧ z.length ≤ sizeLine ∧ Q (.str ⟨z.cps.toList.reverse.toArray⟩) H1
theorem pick_rev {α : Type} (xs : Array α) : ((List.range xs.size).map fun k => xs.size - 1 - k).filterMap (xs[·]?) = xs.toList.reverse := by
  have e : ((List.range xs.size).map fun k => xs.size - 1 - k) = (List.range xs.size).reverse := by
    apply List.ext_getElem
    · simp
    · intro i h1 h2
      simp at h1 h2
      simp
  rw [e, List.filterMap_reverse, PySem.W.krv_all]
theorem rev_idx (n : Nat) : Builtin.Str.strSliceIndices none none (-1) n = (List.range n).map fun k => n - 1 - k := by
  unfold Builtin.Str.strSliceIndices
  exact PySem.W.krv_sliceRange n
section
variable {X : Cx}
theorem pe_revS {e : Expr} {te : TE} {k : Nat} {p1 p2 p3 pos : Pos} (he : PE X e te) : PE X (.Subscript e (.Slice none none (some (.UnaryOp .USub (.Constant (.int 1) k p1) p2)) p3) pos) (tRevS te) := by
  refine ⟨fun pins s σ H Q I h => ?_⟩
  refine Subscript_ (thn (he.run pins s σ H _ I h) fun v s1 ⟨x, H1, I1, r1, q1⟩ => ?_)
  obtain ⟨z, ex, hz, q⟩ := q1
  subst ex
  obtain ⟨t, rfl⟩ := r1
  have hst : PO X (some (.UnaryOp .USub (.Constant (.int 1) k p1) p2)) (tPart (tUn (rU fun i => .int (-i)) (tC (.int 1)))) := po_some (pe_un un_neg pe_int)
  refine wpAny_Slice (thn (po_none.run pins s1 σ H1 (fun o H2 => o = none ∧ H2 = H1) I1 ⟨rfl, rfl⟩) fun vl s2 ⟨l, H2, I2, pl, el, e2⟩ => ?_)
  subst el e2
  refine thn (po_none.run pins s2 σ H2 (fun o H3 => o = none ∧ H3 = H2) I2 ⟨rfl, rfl⟩) fun vu s3 ⟨u, H3, I3, pu, eu, e3⟩ => ?_
  subst eu e3
  refine thn (hst.run pins s3 σ H3 (fun o H4 => o = some (-1) ∧ H4 = H3) I3 ⟨1, rfl, -1, rfl, rfl, rfl⟩) fun vs s4 ⟨o, H4, I4, ps, eo, e4⟩ => ?_
  subst eo e4
  have I5 : Inv X pins σ H4 { s4 with heap := s4.heap.push { cls := .type "slice", data := .fields #[vl, vu, vs] } } := I4.kept (t' := s4.toks) fun b ob q => Heap.get?_push_of_some _ q
  obtain ⟨l, rfl, el⟩ := IsPart.raw pl
  obtain ⟨u, rfl, eu⟩ := IsPart.raw pu
  obtain ⟨st, rfl, est⟩ := IsPart.raw ps
  show wpAny (model X.prog X.w) X.A (subscriptTail e (.Slice none none (some (.UnaryOp .USub (.Constant (.int 1) k p1) p2)) p3) (.str z t) (.ref s4.heap.objs.size)) (EP X pins σ Q) X.xe { s4 with heap := s4.heap.push { cls := .type "slice", data := .fields #[partValue l, partValue u, partValue st] } }
  refine tail_any (ops := [.ref s4.heap.objs.size, .str z t]) (typeIs_str _ _ _) F.slot_str_getitem.lookup ?_ (by with_unfolding_all rfl)
  have h0 : ((st.map (·.1)).getD 1 == 0) = false := by rw [est]; rfl
  refine wpAny_getItem_str_slice (l := l) (u := u) (st := st) ⟨_, Heap.get?_push_size _ rfl, rfl, rfl⟩ h0 ?_
  have e1 : slicePicked z l u st = (List.range z.length).map fun k => z.length - 1 - k := by
    unfold slicePicked
    rw [el, eu, est]
    exact rev_idx z.length
  unfold sliceMade
  rw [e1, est]
  have e2 : ((List.range z.length).map fun k => z.length - 1 - k).filterMap (z.cps[·]?) = z.cps.toList.reverse := pick_rev z.cps
  rw [e2]
  have c : ¬ ((((some (-1 : Int)).getD 1 == 1) && (((List.range z.length).map fun k => z.length - 1 - k).length == z.length)) = true) := by
    intro c
    have := (Bool.and_eq_true _ _).mp c
    exact absurd this.1 (by decide)
  rw [if_neg c]
  refine ⟨?_, .str _, H4, I5.tok _, ⟨_, rfl⟩, q⟩
  show z.cps.toList.reverse.toArray.size ≤ sizeLine
  rw [List.size_toArray, List.length_reverse, Array.length_toList]
  exact hz
end
/-! ### texts by their codes -/
abbrev txt (ws : List Nat) : Str := ⟨ws.toArray⟩
theorem txt_len (ws : List Nat) : (txt ws).length = ws.length := by
  show ws.toArray.size = ws.length
  exact List.size_toArray
theorem txt_add (a b : List Nat) : txt a ++ txt b = txt (a ++ b) := by
  show (⟨a.toArray ++ b.toArray⟩ : Str) = ⟨(a ++ b).toArray⟩
  rw [List.append_toArray]
theorem txt_of (z : Str) : z = txt z.cps.toList := by
  cases z
  rfl
theorem txt_inj {a b : List Nat} (h : txt a = txt b) : a = b := by
  have := congrArg (fun z : Str => z.cps.toList) h
  exact this
/-! ### heaps -/
theorem same_upd {H : Hp} {p : Addr} {o : HO} (h : H p = none) : Same H (upd H p o) := fun b x e => by
  rw [upd_ne (ne_of_none e h)]
  exact e
/-- one row of a tray, from its first place on -/
def rowV (C : Nat) (f : Fld) (i : Nat) : List V := (List.range C).map fun j => V.int (f (i * C + j))
theorem rowV_len (C : Nat) (f : Fld) (i : Nat) : (rowV C f i).length = C := by
  unfold rowV
  rw [List.length_map, List.length_range]
theorem rowV_get {C : Nat} {f : Fld} {i j : Nat} (h : j < C) : (rowV C f i)[j]? = some (V.int (f (i * C + j))) := by
  unfold rowV
  rw [List.getElem?_map, List.getElem?_range h]
  rfl
theorem rowV_set {C : Nat} {f : Fld} {i j : Nat} {v : Int} {g : Fld} (hg : ∀ k, k < C → g (i * C + k) = if k = j then v else f (i * C + k)) : (rowV C f i).set j (V.int v) = rowV C g i := by
  apply List.ext_getElem
  · simp [rowV]
  · intro k h1 h2
    have hk : k < C := by simpa [rowV] using h2
    simp only [rowV, List.getElem_set, List.getElem_map, List.getElem_range]
    rw [hg k hk]
    by_cases e : j = k
    · rw [if_pos e, if_pos e.symm]
    · rw [if_neg e, if_neg fun z => e z.symm]
/-- at a stands a tray of R rows (at rs) and C columns -/
structure TrayAt (H : Hp) (a : Addr) (rs : List Addr) (R C : Nat) (f : Fld) : Prop where
  top : H a = some (.lst (rs.map V.ref))
  len : rs.length = R
  row : ∀ i r, rs[i]? = some r → H r = some (.lst (rowV C f i))
  nd : rs.Nodup
  na : a ∉ rs
theorem TrayAt.mono {H H' : Hp} {a : Addr} {rs : List Addr} {R C : Nat} {f : Fld} (s : Same H H') (t : TrayAt H a rs R C f) : TrayAt H' a rs R C f :=
  ⟨s _ _ t.top, t.len, fun i r h => s _ _ (t.row i r h), t.nd, t.na⟩
theorem TrayAt.get {H : Hp} {a : Addr} {rs : List Addr} {R C : Nat} {f : Fld} (t : TrayAt H a rs R C f) {i : Nat} (hi : i < R) : ∃ r, rs[i]? = some r ∧ (rs.map V.ref)[i]? = some (V.ref r) ∧ H r = some (.lst (rowV C f i)) := by
  have h : i < rs.length := by rw [t.len]; exact hi
  refine ⟨rs[i], List.getElem?_eq_getElem h, ?_, t.row i _ (List.getElem?_eq_getElem h)⟩
  rw [List.getElem?_map, List.getElem?_eq_getElem h]
  rfl
theorem TrayAt.congr {H : Hp} {a : Addr} {rs : List Addr} {R C : Nat} {f g : Fld} (h : ∀ k, k < R * C → f k = g k) (t : TrayAt H a rs R C f) : TrayAt H a rs R C g := by
  refine ⟨t.top, t.len, fun i r e => ?_, t.nd, t.na⟩
  rw [t.row i r e]
  have hi : i < R := by
    rw [← t.len]
    exact (List.getElem?_eq_some_iff.mp e).1
  have : rowV C f i = rowV C g i := by
    unfold rowV
    refine List.map_congr_left fun j hj => ?_
    rw [h _ (ix_lt hi (List.mem_range.mp hj))]
  rw [this]
/-! ### the data of a tray, compared -/
def rowD (C : Nat) (f : Fld) (i : Nat) : PyData := .list ((List.range C).map fun j => PyData.int (f (i * C + j)))
theorem dp_ints {K : PySem.W.Frag} {H : Hp} : ∀ ns : List Int, DpAll K H (ns.map V.int) (ns.map PyData.int)
  | [] => .nil
  | n :: r => .cons (.int n) (dp_ints r)
theorem dp_row {K : PySem.W.Frag} {H : Hp} {C : Nat} {f : Fld} {i : Nat} {r : Addr} (h : H r = some (.lst (rowV C f i))) : Dp K H (.ref r) (rowD C f i) := by
  have e : rowV C f i = ((List.range C).map fun j => f (i * C + j)).map V.int := by
    unfold rowV
    rw [List.map_map]
    rfl
  have e2 : rowD C f i = .list (((List.range C).map fun j => f (i * C + j)).map PyData.int) := by
    unfold rowD
    rw [List.map_map]
    rfl
  rw [e] at h
  rw [e2]
  exact .lst (SqL.of h) (dp_ints _)
theorem dp_all {K : PySem.W.Frag} {H : Hp} : ∀ {vs : List V} {ds : List PyData}, vs.length = ds.length → (∀ (i : Nat) (v : V) (d : PyData), vs[i]? = some v → ds[i]? = some d → Dp K H v d) → DpAll K H vs ds
  | [], [], _, _ => .nil
  | v :: vs, d :: ds, hl, h => .cons (h 0 v d rfl rfl) (dp_all (by simpa using hl) fun i x y a b => h (i + 1) x y a b)
  | [], _ :: _, hl, _ => by simp at hl
  | _ :: _, [], hl, _ => by simp at hl
def rowsD (C : Nat) (f : Fld) (ks : List Nat) : PyData := .list (ks.map (rowD C f))
theorem dp_rows {K : PySem.W.Frag} {H : Hp} {C : Nat} {f : Fld} {a : Addr} {rs : List Addr} {ks : List Nat} (ha : H a = some (.lst (rs.map V.ref))) (hl : rs.length = ks.length) (h : ∀ (i : Nat) (r : Addr) (k : Nat), rs[i]? = some r → ks[i]? = some k → H r = some (.lst (rowV C f k))) : Dp K H (.ref a) (rowsD C f ks) := by
  refine .lst (SqL.of ha) (dp_all (by simpa using hl) fun i v d e1 e2 => ?_)
  rw [List.getElem?_map] at e1 e2
  cases q1 : rs[i]? with
  | none => rw [q1] at e1; cases e1
  | some r =>
    cases q2 : ks[i]? with
    | none => rw [q2] at e2; cases e2
    | some k =>
      rw [q1] at e1
      rw [q2] at e2
      have e1 := Option.some.inj e1
      have e2 := Option.some.inj e2
      subst e1 e2
      exact dp_row (h i r k q1 q2)
theorem TrayAt.dp {K : PySem.W.Frag} {H : Hp} {a : Addr} {rs : List Addr} {R C : Nat} {f : Fld} (t : TrayAt H a rs R C f) : Dp K H (.ref a) (rowsD C f (List.range R)) := by
  refine dp_rows t.top (by rw [t.len, List.length_range]) fun i r k e1 e2 => ?_
  have hi := (List.getElem?_eq_some_iff.mp e2).1
  rw [List.length_range] at hi
  rw [List.getElem?_range hi] at e2
  cases e2
  exact t.row i r e1
theorem lay_rows {C : Nat} {f : Fld} : ∀ ks : List Nat, PyData.canLayAll0 (ks.map (rowD C f)) = true
  | [] => rfl
  | k :: r => by
    have h := lay_rows (C := C) (f := f) r
    have h2 : PyData.canLay0 (rowD C f k) = true := by
      have e : rowD C f k = .list (((List.range C).map fun j => f (k * C + j)).map PyData.int) := by
        unfold rowD
        rw [List.map_map]
        rfl
      rw [e]
      simp only [PyData.canLay0]
      exact PySem.W.canLayAll0_ints _
    simp only [List.map_cons, PyData.canLayAll0, h, h2, Bool.and_self]
theorem depth_rows {C : Nat} {f : Fld} : ∀ ks : List Nat, PyData.depthAll (ks.map (rowD C f)) ≤ 2
  | [] => by simp [PyData.depthAll]
  | k :: r => by
    have h := depth_rows (C := C) (f := f) r
    have h2 : PyData.depth (rowD C f k) ≤ 2 := by
      have e : rowD C f k = .list (((List.range C).map fun j => f (k * C + j)).map PyData.int) := by
        unfold rowD
        rw [List.map_map]
        rfl
      rw [e]
      have := PySem.W.depthAll_ints ((List.range C).map fun j => f (k * C + j))
      simp only [PyData.depth]
      omega
    simp only [List.map_cons, PyData.depthAll]
    omega
theorem shaped_rows {C : Nat} {f : Fld} (ks : List Nat) : SeqAt.shaped (rowsD C f ks) = true := by
  have h1 := depth_rows (C := C) (f := f) ks
  have h2 : PyData.depth (rowsD C f ks) ≤ 64 := by
    unfold rowsD
    simp only [PyData.depth]
    omega
  show (PyData.canLay0 (rowsD C f ks) && decide (PyData.depth (rowsD C f ks) ≤ 64)) = true
  rw [Bool.and_eq_true]
  refine ⟨?_, decide_eq_true h2⟩
  unfold rowsD
  simp only [PyData.canLay0]
  exact lay_rows ks
theorem eqv_rows {C : Nat} {f : Fld} (ks : List Nat) : PyData.eqv (rowsD C f ks) (rowsD C f ks) = true := SeqAt.eqv_refl _ (SeqAt.canLay_of_shaped (shaped_rows ks))
end Tr
/-! The text by places, and what the written part says -/
namespace Tr
open PySem PySem.Spec PyProof.Rows L2
def topS (i : Nat) : Stmt := PySem.Challenge.pw_slidetray_k01_whole_moved.main.body.getD i (.Pass ⟨0, 0, 0, 0⟩)
abbrev sMoved : Stmt := topS 10
abbrev sWays : Stmt := topS 11
abbrev sUndone : Stmt := topS 12
abbrev sThinned : Stmt := topS 13
abbrev sCheckT : Stmt := topS 14
abbrev sCheckS : Stmt := topS 15
abbrev sEmpty : Stmt := topS 16
abbrev sBeside : Stmt := topS 17
abbrev sOrder : Stmt := topS 19
abbrev sDigits : Stmt := topS 20
abbrev sTrayL : Stmt := topS 21
abbrev sPlace : Stmt := topS 22
abbrev sSlid : Stmt := topS 23
abbrev sWalk : Stmt := topS 24
abbrev sNone : Stmt := topS 25
abbrev sThin : Stmt := topS 26
abbrev sLaw : Stmt := topS 27
/-- the written dict of the steps -/
structure StepsD (K : PySem.W.Frag) (w : World) (d : Addr) : Prop where
  ex : ∃ es n, KDict K w d es n
  at_ : ∀ c, okL c → ∃ t, KDct K w d (txt [c]) (.ref t) ∧ ∀ H, SqT K H t [.int (stp c).1, .int (stp c).2]
  yes : ∀ c, okL c → ∃ v, PySem.W.nsIn K d (txt [c]) = some (some v)
  no : ∀ c, ¬ okL c → PySem.W.nsIn K d (txt [c]) = some none
/-- the written dict of the backs -/
structure BackD (K : PySem.W.Frag) (w : World) (d : Addr) : Prop where
  at_ : ∀ c, okL c → KDct K w d (txt [c]) (.str (txt [bk c]))
theorem decI {p : Prop} [Decidable p] {A B : Prop} (h1 : p → A) (h2 : ¬ p → B) : if decide p = true then A else B := by
  by_cases h : p
  · rw [if_pos (decide_eq_true h)]
    exact h1 h
  · rw [if_neg (by simpa using h)]
    exact h2 h
end Tr
namespace Tr
open PySem PySem.Spec PyProof.Rows L2
/-- an own exception class over ValueError, at C -/
structure ExcT (K : PySem.W.Frag) (mg : Str → Option Value) (x : Str) (C : Addr) : Prop where
  g : mg x = some (.ref C)
  x : PySem.W.excIn K C [.type "ValueError", .type "Exception", .type "BaseException", .type "object"] "ValueError.__new__" = true
  k : PySem.W.keepIn K (.ref C) = true
  b : PySem.W.subIn K (.ref C) (.type "BaseException") = some true
  t : PySem.W.typeIn K (.ref C) = some (.type "type")
end Tr
namespace Tr
open PySem PySem.Spec PyProof.Rows L2
/-- any clause of a comprehension, its turn left open -/
theorem lc_gen {J : It} {n : Nat} {G : Hp → Prop} {Y : Nat → Hp → V → Hp → Prop} (w : Walk J n G Y) {H1 : Hp} {Qd : Hp → Prop} {Body : (Hp → Prop) → V → Hp → Prop} (Pv : Nat → Hp → Prop) (h0 : Pv 0 H1) (hG : ∀ i H, i ≤ n → Pv i H → G H)
    (hs : ∀ i x H H', i < n → Pv i H → Y i H x H' → Body (Pv (i + 1)) x H') (hd : ∀ H, Pv n H → Qd H) :
    ∃ W : Nat → Nat → Hp → Prop, (∃ m, W 0 m H1) ∧ ∀ i m H, W i m H →
      (J.stop i H ∧ Qd H) ∨ (J.go i H ∧ ∃ Nx : Hp → Prop, (∀ H', Nx H' → ∃ m', m' < m ∧ W (i + 1) m' H') ∧ ∀ x H', J.yld i H x H' → Body Nx x H') := by
  refine ⟨fun i m H => m = n - i ∧ i ≤ n ∧ Pv i H, ⟨n, by simp, Nat.zero_le _, h0⟩, ?_⟩
  rintro i m H ⟨rfl, hi, p⟩
  have q := hG i H hi p
  by_cases hlt : i < n
  · refine .inr ⟨w.goes i H hlt q, Pv (i + 1), fun H' p' => ⟨n - (i + 1), by omega, rfl, hlt, p'⟩, fun x H' y => hs i x H H' hlt p (w.yields i H x H' hlt q y)⟩
  · have e : i = n := by omega
    subst e
    exact .inl ⟨w.stops H q, hd H p⟩
/-- a flat list of one row behind the other -/
theorem allV_rows (C : Nat) (f : Fld) (i : Nat) : (allV (i * C) f).map V.int ++ rowV C f i = (allV ((i + 1) * C) f).map V.int := by
  unfold allV rowV
  rw [Nat.add_mul, Nat.one_mul, List.range_add, List.map_append, List.map_append, List.map_map, List.map_map, List.map_map]
  rfl
end Tr
namespace Tr
open PySem PySem.Spec PyProof.Rows L2
def rListOf (K : PySem.W.Frag) : List V → Hp → VK → Prop := fun xs H Q => ∃ p ys, xs = [.ref p] ∧ (SqL K H p ys ∨ SqT K H p ys) ∧ ∀ l, H l = none → Q (.ref l) (upd H l (.lst ys))
theorem cr_listOf {X : Cx} : CallR X (.type "list") (rListOf X.K) := call_list_of
theorem ixN_nat {n j : Nat} (h : j < n) : ixN n (j : Int) = some j := by
  unfold ixN
  rw [if_pos (by omega), if_pos (by omega)]
  simp
/-- a tray with one row more -/
theorem TrayAt.snoc {H : Hp} {D l : Addr} {rs : List Addr} {i C : Nat} {f : Fld} (T : TrayAt H D rs i C f) (hl : H l = none) (hD : l ≠ D) : TrayAt (upd (upd H l (.lst (rowV C f i))) D (.lst (rs.map V.ref ++ [V.ref l]))) D (rs ++ [l]) (i + 1) C f := by
  have hlr : l ∉ rs := fun m => by
    obtain ⟨j, hj, e⟩ := List.getElem_of_mem m
    have := T.row j l (by rw [← e]; exact List.getElem?_eq_getElem hj)
    rw [hl] at this
    cases this
  refine ⟨by rw [upd_same, List.map_append]; rfl, by rw [List.length_append, T.len]; rfl, fun j r e => ?_, ?_, ?_⟩
  · have hr : r ∈ rs ++ [l] := List.mem_of_getElem? e
    have rD : r ≠ D := by
      rcases List.mem_append.mp hr with m | m
      · exact fun z => T.na (z ▸ m)
      · rw [List.mem_singleton.mp m]
        exact hD
    rw [upd_ne rD]
    by_cases hj : j < rs.length
    · rw [List.getElem?_append_left hj] at e
      have rl : r ≠ l := fun z => hlr (z ▸ List.mem_of_getElem? e)
      rw [upd_ne rl]
      exact T.row j r e
    · rw [List.getElem?_append_right (by omega)] at e
      have hj2 : j = rs.length := by
        have := (List.getElem?_eq_some_iff.mp e).1
        have h1 : ([l] : List Addr).length = 1 := rfl
        omega
      subst hj2
      rw [Nat.sub_self] at e
      cases e
      rw [upd_same, T.len]
  · rw [List.nodup_append]
    refine ⟨T.nd, by simp, fun x hx y hy => ?_⟩
    rw [List.mem_singleton.mp hy]
    exact fun z => hlr (z ▸ hx)
  · intro m
    rcases List.mem_append.mp m with m | m
    · exact T.na m
    · exact hD (List.mem_singleton.mp m).symm
/-- one number stored -/
theorem TrayAt.put {H : Hp} {a r : Addr} {rs : List Addr} {R C i j : Nat} {f : Fld} {v : Int} (T : TrayAt H a rs R C f) (e : rs[i]? = some r) (hj : j < C) : TrayAt (upd H r (.lst ((rowV C f i).set j (V.int v)))) a rs R C (fun k => if k = i * C + j then v else f k) := by
  have ra : a ≠ r := fun z => T.na (z ▸ List.mem_of_getElem? e)
  refine ⟨by rw [upd_ne ra]; exact T.top, T.len, fun i2 r2 e2 => ?_, T.nd, T.na⟩
  by_cases z : i2 = i
  · subst z
    rw [e] at e2
    cases e2
    rw [upd_same]
    refine congrArg (fun x => some (HO.lst x)) (rowV_set fun k hk => ?_)
    by_cases y : k = j
    · rw [if_pos y, if_pos (by rw [y])]
    · rw [if_neg y, if_neg (by omega)]
  · have r2r : r2 ≠ r := fun y => z (nd_ix T.nd (y ▸ e2) e)
    rw [upd_ne r2r, T.row i2 r2 e2]
    refine congrArg (fun x => some (HO.lst x)) ?_
    unfold rowV
    refine List.map_congr_left fun k hk => congrArg V.int ?_
    exact (if_neg fun y => z (ix_inj (List.mem_range.mp hk) hj y).1).symm
/-- [list(row) for row in tray] -/
theorem lc_copy {K : PySem.W.Frag} {H : Hp} {a D : Addr} {rs : List Addr} {R C i : Nat} {f : Fld} {σ : L2.St} {Qd : Hp → Prop} (T : TrayAt H a rs R C f) (hR : R ≤ 1000) (nD : H D = none) (hi : i < σ.length)
    (q : ∀ (rs1 : List Addr) (H1 : Hp), Same H H1 → (∀ x ∈ rs1, H x = none) → TrayAt H1 D rs1 R C f → Qd H1) :
    ∃ W : Nat → Nat → Hp → Prop, (∃ m, W 0 m (upd H D (.lst []))) ∧ ∀ n m H, W n m H →
      ((Itl K a).stop n H ∧ Qd H) ∨ ((Itl K a).go n H ∧ ∃ Nx : Hp → Prop, (∀ H', Nx H' → ∃ m', m' < m ∧ W (n + 1) m' H') ∧ ∀ x H', (Itl K a).yld n H x H' → gName i x (wipe σ [i]) H' fun σ2 H2 => wipe σ2 [i] = wipe σ [i] ∧ tYes σ2 H2 fun b H3 =>
        if b = true then tCB (rListOf K) (tCons (tVar i) tNil) σ2 H3 fun y H4 => ∃ acc, H4 D = some (.lst acc) ∧ acc.length < sizeLine ∧ Nx (upd H4 D (.lst (acc ++ [y]))) else Nx H3) := by
  refine lc_gen (walk_list (K := K) (a := a) (xs := rs.map V.ref)) (fun i H1 => ∃ rs1, TrayAt H1 D rs1 i C f ∧ (∀ x ∈ rs1, H x = none) ∧ Same H H1)
    ⟨[], ⟨upd_same, rfl, fun i r e => by simp at e, List.nodup_nil, by simp⟩, (fun x m => by cases m), same_upd nD⟩ (fun i H1 _ ⟨_, _, _, s⟩ => s.seq (SqL.of T.top)) ?_ ?_
  · rintro n x H1 H2 hn ⟨rs1, T1, hx1, sm⟩ ⟨rfl, hx⟩
    have hn : n < R := by
      rw [List.length_map, T.len] at hn
      exact hn
    obtain ⟨rn, k1, k2, k3⟩ := T.get hn
    rw [k2] at hx
    cases hx
    refine ⟨?_, ?_⟩
    · show (((σ.set i none).set i (some (.ref rn))).set i none) = σ.set i none
      rw [List.set_set, List.set_set]
    · refine ⟨.ref rn, ?_, rn, _, rfl, .inl (SqL.of (sm _ _ k3)), fun l nl => ?_⟩
      · show ((σ.set i none).set i (some (V.ref rn)))[i]? = _
        rw [List.getElem?_set_self (by rw [List.length_set]; exact hi)]
      · have hlD : l ≠ D := fun z => by
          rw [z, T1.top] at nl
          cases nl
        refine ⟨_, by rw [upd_ne hlD.symm]; exact T1.top, ?_, rs1 ++ [l], T1.snoc nl hlD, ?_, ?_⟩
        · rw [List.length_map, T1.len]
          exact small1000 (by omega)
        · intro x m
          rcases List.mem_append.mp m with m | m
          · exact hx1 x m
          · rw [List.mem_singleton.mp m]
            exact sm.free nl
        · intro b o e
          rw [upd_ne (ne_of_none e nD), upd_ne (ne_of_none e (sm.free nl))]
          exact sm _ _ e
  · rintro H1 ⟨rs1, T1, hx1, sm⟩
    rw [List.length_map, T.len] at T1
    exact q rs1 H1 sm hx1 T1
theorem goAll_bad {R C : Nat} (hR : R ≤ 9) : ∀ {ws : List Nat} {s : Sl}, (∃ l ∈ ws, ¬ okL l) → goAll R C s ws = none
  | [], _, ⟨_, h, _⟩ => by cases h
  | w :: r, s, ⟨l, h, hb⟩ => by
    show (go1 R C s w).bind (fun s' => goAll R C s' r) = none
    cases e : go1 R C s w with
    | none => rfl
    | some s1 =>
      rcases List.mem_cons.mp h with z | z
      · subst z
        unfold go1 at e
        rw [nxt_bad hR hb] at e
        cases e
      · exact goAll_bad hR ⟨l, z, hb⟩
theorem go1_of_nxt {R C r c w : Nat} {f : Fld} {n : Nat × Nat} (h : nxt R C r c w = some n) : go1 R C (f, r, c) w = some (put2 f (r * C + c) (n.1 * C + n.2), n.1, n.2) := by
  unfold go1
  dsimp only
  rw [h]
  rfl
theorem go1_of_none {R C r c w : Nat} {f : Fld} (h : nxt R C r c w = none) : go1 R C (f, r, c) w = none := by
  unfold go1
  dsimp only
  rw [h]
  rfl
end Tr
namespace Tr
open PySem PySem.Spec PyProof.Rows L2
def udlr : List Nat := [117, 100, 108, 114]
theorem udlr_eq : ("udlr" : Str) = txt udlr := by decide +kernel
theorem empty_eq : ("" : Str) = txt [] := by decide +kernel
theorem glue_fold : ∀ (r : List Nat) (acc : Array Nat), (r.map fun l => txt [l]).foldl (fun (acc : Array Nat) (p : Str) => acc ++ (txt []).cps ++ p.cps) acc = acc ++ r.toArray
  | [], acc => by simp
  | c :: r, acc => by
    have h := glue_fold r (acc ++ (txt []).cps ++ (txt [c]).cps)
    show (r.map fun l => txt [l]).foldl (fun (acc : Array Nat) (p : Str) => acc ++ (txt []).cps ++ p.cps) (acc ++ (txt []).cps ++ (txt [c]).cps) = acc ++ (c :: r).toArray
    rw [h]
    apply Array.ext'
    simp
theorem join_txt (ws : List Nat) : Txt.join (txt []) (ws.map fun l => txt [l]) = txt ws := by
  show Builtin.Str.glued (txt []) (ws.map fun l => txt [l]) = txt ws
  unfold Builtin.Str.glued
  cases ws with
  | nil => rfl
  | cons c r =>
    show (⟨(r.map fun l => txt [l]).foldl (fun (acc : Array Nat) (p : Str) => acc ++ (txt []).cps ++ p.cps) (txt [c]).cps⟩ : Str) = txt (c :: r)
    rw [glue_fold]
    refine congrArg Str.mk ?_
    apply Array.ext'
    simp
theorem ones_sum (ws : List Nat) : ((ws.map fun l => txt [l]).map (·.length)).sum + (ws.map fun l => txt [l]).length * (txt []).length = ws.length := by
  have e : (txt []).length = 0 := rfl
  rw [e, Nat.mul_zero, Nat.add_zero, List.map_map]
  induction ws with
  | nil => rfl
  | cons c r ih =>
    rw [List.map_cons, List.sum_cons, ih, List.length_cons]
    have : ((fun x : Str => x.length) ∘ fun l => txt [l]) c = 1 := rfl
    rw [this]
    omega
theorem txts_map (ws : List Nat) : (ws.map fun l => V.str (txt [l])) = (ws.map fun l => txt [l]).map V.str := by
  rw [List.map_map]
  rfl
end Tr
namespace Tr
open PySem PySem.Spec PyProof.Rows L2
theorem scCheckT : FnScope ["tray", "row", "number", "numbers"] ["tray"] (defScope sCheckT) := ⟨rfl, rfl, rfl, by decide +kernel, rfl, by decide +kernel, by decide +kernel⟩
/-- a tray's check, of a tray -/
def spCheckT : Sp := fun vs H Q _ => ∃ (a : Addr) (rs : List Addr) (R C : Nat) (f : Fld), vs = [.ref a] ∧ TrayAt H a rs R C f ∧ 0 < R ∧ R ≤ 6 ∧ 0 < C ∧ C ≤ 6 ∧ Full (R * C) f ∧ ∀ H', Same H H' → Q .non H'
theorem rows36 {R C : Nat} (h1 : R ≤ 6) (h2 : C ≤ 6) : R * C ≤ 36 := Nat.mul_le_mul h1 h2
section
variable {P : Program} {w : World} {K : PySem.W.Frag} {mg : Str → Option Value} {base : Heap}
theorem ok_checkT {fa : Addr} {fd : FuncData} {k : Nat} {t6 : Tok} (F : Fun K "check_tray" "check_tray" sCheckT fa fd) (gM : mg "MOST" = some (.int 6 t6)) (mI : mg "isinstance" = none) (mLi : mg "list" = none) (mL : mg "len" = none) (mInt : mg "int" = none) (mB : mg "bool" = none) (mSo : mg "sorted" = none) (mR : mg "range" = none) :
    FnOk P w K mg base CX0 (k + 1) fa fd ["tray"] spCheckT := by
  refine F.ok scCheckT (fun vs H Q E h => ?_) (fun cdv A outer s H vs Q E hr h => ?_)
  · obtain ⟨a, rs, R, C, f, rfl, _⟩ := h
    rfl
  · obtain ⟨a, rs, R, C, f, rfl, T, hR0, hR, hC0, hC, hF, q⟩ := h
    have hRC := rows36 hR hC
    refine ⟨_, pss_cons (ps_if (PW.pt (pw_or (pt_not (pt_val (pe_callB call_isi (by rfl) mI (by decide +kernel) (pa_cons (pv 0) (pa_cons (pe_bltn (v := .ty "list") (by rfl) mLi (by decide +kernel) rfl) pa_nil)))))
          (pw_or1 (pt_not (pt_chain op_le op_le pe_int (pe_callB call_len_seq (by rfl) mL PySem.boot_len (pa_cons (pv 0) pa_nil)) (pe_glob (v := .int 6) rfl gM ⟨_, rfl⟩)))))) pss_never pss_nil)
      (pss_cons (ps_for PassesOwn.never rfl (pi_list (pv 0)) (pg_name (i := 1) scCheckT.nd rfl (.inl rfl))
        (pss_cons (ps_if (PW.pt (pw_or (pt_not (pt_val (pe_callB call_isi (by rfl) mI (by decide +kernel) (pa_cons (pv 1) (pa_cons (pe_bltn (v := .ty "list") (by rfl) mLi (by decide +kernel) rfl) pa_nil)))))
            (pw_or1 (pt_not (pt_chain op_le op_le pe_int (pe_callB call_len_seq (by rfl) mL PySem.boot_len (pa_cons (pv 1) pa_nil)) (pe_glob (v := .int 6) rfl gM ⟨_, rfl⟩)))))) pss_never pss_nil)
        (pss_one (ps_if (pt_cmpR op_ne (pe_callB call_len_seq (by rfl) mL PySem.boot_len (pa_cons (pv 1) pa_nil)) (pe_callB call_len_seq (by rfl) mL PySem.boot_len (pa_cons (pe_ix ix_list (pv 0) pe_int (fun _ _ => rfl)) pa_nil)) (nomark _)) pss_never pss_nil))))
      (pss_cons (ps_setLc2 (i := 3) (own := [("row", 1), ("number", 2)]) (vs1 := [2]) (g := gName 1) (g1 := gName 2) (tt := tYes) (tt1 := tYes) (te := tVar 2) (wi1 := iList K (tVar 1)) rfl scCheckT.nd rfl rfl (sw_true rfl rfl rfl (by decide +kernel)) (pi_list (pv 0))
          (blkOk_by (own := [("row", 1), ("number", 2)]) (N := ["tray", "row", "number", "numbers"]) (sc := defScope sCheckT) (by decide +kernel)) (by decide)
          (fun _ _ _ _ _ => pg_name (i := 1) scCheckT.nd rfl (.inl rfl)) (fun _ _ _ _ _ => pts_nil) (fun _ _ _ _ _ => pi_list (pv 1)) (fun _ _ _ _ _ => pg_name (i := 2) scCheckT.nd rfl (.inl rfl)) (fun _ _ _ _ _ => pts_nil) (fun _ _ _ _ _ => pv 2))
      (pss_cons (ps_for PassesOwn.never rfl (pi_list (pv 3)) (pg_name (i := 2) scCheckT.nd rfl (.inl rfl))
        (pss_one (ps_if (PW.pt (pw_or (pt_not (pt_val (pe_callB call_isi (by rfl) mI (by decide +kernel) (pa_cons (pv 2) (pa_cons (pe_bltn (v := .ty "int") (by rfl) mInt (by decide +kernel) rfl) pa_nil)))))
          (pw_or1 (pt_val (pe_callB call_isi (by rfl) mI (by decide +kernel) (pa_cons (pv 2) (pa_cons (pe_bltn (v := .ty "bool") (by rfl) mB (by decide +kernel) rfl) pa_nil))))))) pss_never pss_nil)))
      (pss_one (ps_if (pt_cmpR (op_neD hr.units) (pe_callB cr_sorted (by rfl) mSo (by decide +kernel) (pa_cons (pv 3) pa_nil)) (pe_listRg rfl rfl mLi (prg_1 rfl mR (pe_callB call_len_seq (by rfl) mL PySem.boot_len (pa_cons (pv 3) pa_nil)))) (nomark _)) pss_never pss_nil))))), ?_⟩
    obtain ⟨r0, g1, g2, g3⟩ := T.get (i := 0) hR0
    have hlen : ((rs.map V.ref).length : Int) = R := by rw [List.length_map, T.len]
    -- isinstance(tray, list), 1 <= len(tray) <= MOST
    refine ⟨_, rfl, .ref a, .ty "list", .type "list", .type "list", true, rfl, .ty "list", .base (.lst T.top), kit_ty (by decide +kernel), _, rfl, iteF ?_⟩
    refine ⟨.ref a, rfl, a, _, rfl, .inl (SqL.of T.top), 1, _, rfl, rfl, _, rfl, ?_⟩
    rw [hlen]
    refine decI (fun _ => ?_) (fun z => absurd (by omega) z)
    refine ⟨_, 6, rfl, rfl, _, rfl, ?_⟩
    show if (!decide ((R : Int) ≤ 6)) = true then _ else _
    refine iteNS (by omega) ?_
    -- the rows
    refine ⟨_, rfl, a, rfl, ⟨_, SqL.of T.top⟩, for_list (K := K) (a := a) (xs := rs.map V.ref) (fun i σ H' => H' = H ∧ ∃ v, σ = [some (.ref a), v, none, none]) ⟨rfl, none, rfl⟩ (fun i σ H' _ p => p.1 ▸ SqL.of T.top) ?_ ?_⟩
    · rintro i x σ H' hx ⟨rfl, v, rfl⟩
      have hi : i < R := by
        have := (List.getElem?_eq_some_iff.mp hx).1
        rw [List.length_map, T.len] at this
        exact this
      obtain ⟨ri, k1, k2, k3⟩ := T.get hi
      rw [k2] at hx
      cases hx
      refine ⟨_, rfl, .ref ri, .ty "list", .type "list", .type "list", true, rfl, .ty "list", .base (.lst k3), kit_ty (by decide +kernel), _, rfl, iteF ?_⟩
      refine ⟨.ref ri, rfl, ri, _, rfl, .inl (SqL.of k3), 1, _, rfl, rfl, _, rfl, ?_⟩
      rw [rowV_len]
      refine decI (fun _ => ?_) (fun z => absurd (by omega) z)
      refine ⟨_, 6, rfl, rfl, _, rfl, ?_⟩
      show if (!decide ((C : Int) ≤ 6)) = true then _ else _
      refine iteNS (by omega) ?_
      refine ⟨.ref ri, rfl, ri, _, rfl, .inl (SqL.of k3), .ref a, rfl, a, _, 0, _, rfl, rfl, SqL.of T.top, atI_nat (j := 0) g2, r0, _, rfl, .inl (SqL.of g3), rfl, _, rfl, ?_⟩
      rw [rowV_len, rowV_len]
      refine iteNS rfl ?_
      exact ⟨rfl, _, rfl⟩
    · rintro σ H' ⟨rfl, v, rfl⟩
      -- numbers
      refine ⟨_, rfl, a, rfl, ⟨_, SqL.of T.top⟩, fun D nD => ?_⟩
      refine lc_gen (walk_list (K := K) (a := a) (xs := rs.map V.ref)) (fun i H1 => Same H' H1 ∧ H1 D = some (.lst ((allV (i * C) f).map V.int))) ⟨same_upd nD, by rw [upd_same, Nat.zero_mul]; rfl⟩ (fun i H1 _ p => p.1.seq (SqL.of T.top)) ?_ ?_
      · rintro i x H1 H2 hi ⟨sm, hD⟩ ⟨rfl, hx⟩
        have hi : i < R := by
          rw [List.length_map, T.len] at hi
          exact hi
        obtain ⟨ri, k1, k2, k3⟩ := T.get hi
        rw [k2] at hx
        cases hx
        refine ⟨rfl, ?_⟩
        have s3 := sm _ _ k3
        refine ⟨_, rfl, ri, rfl, ⟨_, SqL.of s3⟩, ?_⟩
        refine lc_gen (walk_list (K := K) (a := ri) (xs := rowV C f i)) (fun j H3 => Same H' H3 ∧ H3 D = some (.lst ((allV (i * C) f).map V.int ++ (rowV C f i).take j))) ⟨sm, by rw [hD, List.take_zero, List.append_nil]⟩ (fun j H3 _ p => p.1.seq (SqL.of k3)) ?_ ?_
        · rintro j y H3 H4 hj ⟨sm3, hD3⟩ ⟨rfl, hy⟩
          refine ⟨rfl, ?_⟩
          refine ⟨_, rfl, _, hD3, ?_, ?_, ?_⟩
          · rw [List.length_append, List.length_map, List.length_take, rowV_len]
            unfold allV
            rw [List.length_map, List.length_range]
            refine small1000 ?_
            have : i * C ≤ R * C := Nat.mul_le_mul_right C (by omega)
            omega
          · intro b o e
            rw [upd_ne (ne_of_none e nD)]
            exact sm3 _ _ e
          · rw [upd_same, take_more hy, List.append_assoc]
        · rintro H3 ⟨sm3, hD3⟩
          rw [List.take_length, allV_rows] at hD3
          exact ⟨sm3, hD3⟩
      · rintro H1 ⟨sm, hD⟩
        rw [List.length_map, T.len] at hD
        have hn : (allV (R * C) f).length = R * C := by
          unfold allV
          rw [List.length_map, List.length_range]
        -- every number
        refine ⟨_, rfl, D, rfl, ⟨_, SqL.of hD⟩, for_list (K := K) (a := D) (xs := (allV (R * C) f).map V.int) (fun i σ H2 => H2 = H1 ∧ ∃ v u, σ = [some (.ref a), v, u, some (.ref D)]) ⟨rfl, _, _, rfl⟩ (fun i σ H2 _ p => p.1 ▸ SqL.of hD) ?_ ?_⟩
        · rintro i x σ H2 hx ⟨rfl, v, u, rfl⟩
          obtain ⟨z, rfl⟩ : ∃ z, x = V.int z := by
            rw [List.getElem?_map] at hx
            cases e : (allV (R * C) f)[i]? with
            | none => rw [e] at hx; cases hx
            | some z => rw [e] at hx; exact ⟨z, (Option.some.inj hx).symm⟩
          refine ⟨_, rfl, .int z, .ty "int", .type "int", .type "int", true, rfl, .ty "int", .base (.int _), kit_ty (by decide +kernel), _, rfl, iteF ?_⟩
          refine ⟨_, rfl, .int z, .ty "bool", .type "int", .type "bool", false, rfl, .ty "bool", .base (.int _), kit_ty (by decide +kernel), _, rfl, iteF ?_⟩
          exact ⟨rfl, _, _, rfl⟩
        · rintro σ H2 ⟨rfl, v, u, rfl⟩
          -- sorted(numbers) != list(range(len(numbers)))
          refine ⟨_, rfl, D, _, rfl, SqL.of hD, by omega, fun ns' p hp hs np => ?_⟩
          have s4 : Same H2 (upd H2 p (.lst (ns'.map V.int))) := same_upd np
          refine ⟨_, rfl, D, _, rfl, .inl (s4.seq (SqL.of hD)), _, rfl, ?_, fun p2 np2 => ?_⟩
          · rw [List.length_map, hn]
            exact RgOk.of_le (by omega) (by omega) (by omega) (by omega)
          · rw [List.length_map, hn]
            have e1 : ns' = (List.range (R * C)).map fun k : Nat => (k : Int) := by
              refine PySem.W.ksm_same (hp.trans hF) hs ?_
              rw [List.pairwise_map]
              refine List.Pairwise.imp ?_ List.pairwise_lt_range
              intro x y h
              omega
            have e2 : rgV 0 ((R * C : Nat) : Int) = ns'.map V.int := by
              unfold rgV
              rw [e1, List.map_map, Int.sub_zero, Int.toNat_natCast]
              refine List.map_congr_left fun k _ => ?_
              show V.int (0 + (k : Int)) = V.int k
              rw [Int.zero_add]
            rw [e2]
            have np12 : p ≠ p2 := fun e => by
              rw [← e, upd_same] at np2
              cases np2
            refine ⟨.list (ns'.map PyData.int), .list (ns'.map PyData.int), .lst (SqL.of (by rw [upd_ne np12, upd_same])) (dp_ints _), .lst (SqL.of upd_same) (dp_ints _), PySem.W.shaped_ints _, PySem.W.shaped_ints _, _, rfl, ?_⟩
            rw [SeqAt.eqv_refl _ (SeqAt.canLay_of_shaped (PySem.W.shaped_ints _))]
            refine iteF ?_
            exact q _ ((sm.trans s4).trans (same_upd np2))
end
end Tr
namespace Tr
open PySem PySem.Spec PyProof.Rows L2
theorem scCheckS : FnScope ["slides", "letter"] ["slides"] (defScope sCheckS) := ⟨rfl, rfl, rfl, by decide +kernel, rfl, by decide +kernel, by decide +kernel⟩
def spCheckS (CS : Addr) : Sp := fun vs H Q E => ∃ (ws : List Nat), vs = [.str (txt ws)] ∧ ((∀ l ∈ ws, okL l) → Q .non H) ∧ ((∃ l ∈ ws, ¬ okL l) → E (.ref CS) none H)
section
variable {P : Program} {w : World} {K : PySem.W.Frag} {mg : Str → Option Value} {base : Heap}
theorem ok_checkS {fa dS CS : Addr} {fd : FuncData} {k : Nat} (F : Fun K "check_slides" "check_slides" sCheckS fa fd) (gS : mg "STEPS" = some (.ref dS)) (S : StepsD K w dS) (mI : mg "isinstance" = none) (mS : mg "str" = none) (T : ExcT K mg "BadSlides" CS) :
    FnOk P w K mg base (L2.CX P w) (k + 1) fa fd ["slides"] (spCheckS CS) := by
  refine F.okX scCheckS (fun vs H Q E h => ?_) (fun cdv A outer s H vs Q E hr h => ?_)
  · obtain ⟨ws, rfl, _⟩ := h
    rfl
  · obtain ⟨ws, rfl, q, qe⟩ := h
    obtain ⟨es, n, D⟩ := S.ex
    refine ⟨_, pss_cons (ps_if (pt_not (pt_val (pe_callB call_isi (by rfl) mI (by decide +kernel) (pa_cons (pv 0) (pa_cons (pe_bltn (v := .ty "str") (by rfl) mS (by decide +kernel) rfl) pa_nil)))))
        (pss_one (ps_raise rfl (takes_of rfl rfl rfl rfl) (pmk_own PySem.F.excBase_ValueError T.x T.g T.k (raises_own T.b T.t) rfl))) pss_nil)
      (pss_one (ps_for (passes_of rfl) rfl (pi_str (pv 0)) (pg_name (i := 1) scCheckS.nd rfl (.inl rfl))
        (pss_one (ps_if (pt_cmpR (op_notIn_kd D) (pv 1) (pe_glob (v := .ref dS) rfl gS rfl) rfl)
          (pss_one (ps_raise rfl (takes_of rfl rfl rfl rfl) (pmk_own PySem.F.excBase_ValueError T.x T.g T.k (raises_own T.b T.t) rfl))) pss_nil)))), ?_⟩
    refine ⟨_, rfl, .str (txt ws), .ty "str", .type "str", .type "str", true, rfl, .ty "str", .base (.str _), kit_ty (by decide +kernel), _, rfl, iteF ?_⟩
    refine ⟨_, rfl, _, rfl, for_it walk_str (fun i σ H' => H' = H ∧ ∃ v, σ = [some (.str (txt ws)), v] ∧ ∀ j l, j < i → ws[j]? = some l → okL l) ⟨rfl, none, rfl, fun j l hj => absurd hj (Nat.not_lt_zero _)⟩ (fun _ _ _ _ _ => True.intro) ?_ ?_⟩
    · rintro i x σ H1 H2 hi ⟨rfl, v, rfl, hok⟩ ⟨rfl, c, hc, rfl⟩
      have hc : ws[i]? = some c := by simpa using hc
      by_cases z : okL c
      · obtain ⟨v, e⟩ := S.yes c z
        refine ⟨_, rfl, txt [c], some v, rfl, rfl, e, _, rfl, iteF ⟨rfl, some (.str (txt [c])), rfl, fun j l hj hl => ?_⟩⟩
        by_cases y : j = i
        · subst y
          rw [hc] at hl
          cases hl
          exact z
        · exact hok j l (by omega) hl
      · exact ⟨_, rfl, txt [c], none, rfl, rfl, S.no c z, _, rfl, iteT (qe ⟨c, List.mem_of_getElem? hc, z⟩)⟩
    · rintro σ H1 ⟨rfl, v, rfl, hok⟩
      refine q fun l hl => ?_
      obtain ⟨j, hj, e⟩ := List.getElem_of_mem hl
      refine hok j l ?_ (by rw [← e]; exact List.getElem?_eq_getElem hj)
      simpa using hj
end
end Tr
namespace Tr
open PySem PySem.Spec PyProof.Rows L2
theorem in_row_true {C : Nat} {f : Fld} {i j : Nat} (hj : j < C) (h : f (i * C + j) = 0) : inV (.int 0) (rowV C f i) = true := by
  unfold inV
  rw [List.any_eq_true]
  refine ⟨.int (f (i * C + j)), List.mem_of_getElem? (rowV_get hj), ?_⟩
  rw [h]
  rfl
theorem in_row_false {C : Nat} {f : Fld} {i : Nat} (h : ∀ j, j < C → f (i * C + j) ≠ 0) : inV (.int 0) (rowV C f i) = false := by
  unfold inV
  rw [List.any_eq_false]
  intro x hx
  unfold rowV at hx
  obtain ⟨j, hj, rfl⟩ := List.mem_map.mp hx
  intro e
  have e : decide (f (i * C + j) = 0) = true := e
  exact h j (List.mem_range.mp hj) (of_decide_eq_true e)
theorem row_flat (C : Nat) (f : Fld) (i : Nat) : (rowV C f i).all flatV = true := by
  rw [List.all_eq_true]
  intro x hx
  unfold rowV at hx
  obtain ⟨j, hj, rfl⟩ := List.mem_map.mp hx
  rfl
theorem scEmpty : FnScope ["tray", "row", "numbers"] ["tray"] (defScope sEmpty) := ⟨rfl, rfl, rfl, by decide +kernel, rfl, by decide +kernel, by decide +kernel⟩
def Uniq (R C : Nat) (f : Fld) (p : Nat) : Prop := ∀ k, k < R * C → f k = 0 → k = p
def spEmpty : Sp := fun vs H Q _ => ∃ (a : Addr) (rs : List Addr) (R C : Nat) (f : Fld) (r c : Nat), vs = [.ref a] ∧ TrayAt H a rs R C f ∧ Zr R C (f, r, c) ∧ Uniq R C f (r * C + c) ∧ R ≤ 1000 ∧
  ∀ H' p, Same H H' → H p = none → H' p = some (.tup [.int r, .int c]) → Q (.ref p) H'
section
variable {P : Program} {w : World} {K : PySem.W.Frag} {mg : Str → Option Value} {base : Heap}
theorem ok_empty {fa : Addr} {fd : FuncData} {k : Nat} (F : Fun K "empty_place" "empty_place" sEmpty fa fd) :
    FnOk P w K mg base CX0 (k + 1) fa fd ["tray"] spEmpty := by
  refine F.ok scEmpty (fun vs H Q E h => ?_) (fun cdv A outer s H vs Q E hr h => ?_)
  · obtain ⟨a, rs, R, C, f, r, c, rfl, _⟩ := h
    rfl
  · obtain ⟨a, rs, R, C, f, r, c, rfl, T, Z, U, hR, q⟩ := h
    refine ⟨_, pss_cons (ps_set (i := 1) scEmpty.nd rfl (.inl rfl) (pe_bm PySem.F.plainAttrs_list PySem.F.slot_list_index PySem.F.type_list_index mt_index
        (pe_lc (own := [("numbers", 2)]) (g := gName 2) (tt := tYes) rfl scEmpty.nd (pi_list (pv 0)) (blkOk_by (own := [("numbers", 2)]) (N := ["tray", "row", "numbers"]) (sc := defScope sEmpty) (by decide +kernel))
          (fun _ _ _ _ _ => pg_name (i := 2) scEmpty.nd rfl (.inl rfl)) (fun _ _ _ _ _ => pts_nil) (fun _ _ _ _ _ => pe_cmpR (r := rIn K false) op_in_seq pe_int (pv 2) rfl)) (pa_cons pe_bl pa_nil)))
      (pss_one (ps_ret (pe_tup (pa_cons (pv 1) (pa_cons (pe_bm PySem.F.plainAttrs_list PySem.F.slot_list_index PySem.F.type_list_index mt_index (pe_ix ix_list (pv 0) (pv 1) (fun _ _ => rfl)) (pa_cons pe_int pa_nil)) pa_nil))))), ?_⟩
    have hrr : r < R := Z.r
    have hcc : c < C := Z.c
    have hz : f (r * C + c) = 0 := Z.z
    refine ⟨_, rfl, a, rfl, ⟨_, SqL.of T.top⟩, fun D nD => lc_list (K := K) (a := a) (xs := rs.map V.ref) (fun i H' => H' D = some (.lst ((List.range i).map fun i => V.bl (inV (.int 0) (rowV C f i)))) ∧ Same H H') ?_ ?_ ?_ ?_⟩
    · exact ⟨by rw [upd_same]; rfl, same_upd nD⟩
    · exact fun i H' _ p => p.2.seq (SqL.of T.top)
    · rintro i x H' hx ⟨hD, sm⟩
      have hi : i < R := by
        have := (List.getElem?_eq_some_iff.mp hx).1
        rw [List.length_map, T.len] at this
        exact this
      obtain ⟨ri, g1, g2, g3⟩ := T.get hi
      rw [g2] at hx
      cases hx
      refine ⟨rfl, ?_⟩
      refine ⟨_, rfl, ri, _, rfl, .inl (SqL.of (sm _ _ g3)), rfl, row_flat _ _ _, _, hD, ?_, ?_, ?_⟩
      · rw [List.length_map, List.length_range]
        exact small1000 (by omega)
      · rw [upd_same, List.range_succ, List.map_append]
        rfl
      · intro b o e
        rw [upd_ne (ne_of_none e nD)]
        exact sm _ _ e
    · rintro H' ⟨hD, sm⟩
      rw [List.length_map, T.len] at hD
      have T' := T.mono sm
      obtain ⟨ri, g1, g2, g3⟩ := T'.get hrr
      refine ⟨.inl ⟨rfl, _, SqL.of hD⟩, D, _, .bl true, r, .bl true, rfl, rfl, SqL.of hD, rfl, ?_, ?_, rfl, ?_, ?_⟩
      · rw [List.all_eq_true]
        intro x hx
        obtain ⟨j, hj, rfl⟩ := List.mem_map.mp hx
        rfl
      · rw [List.getElem?_map, List.getElem?_range hrr]
        show some (V.bl _) = _
        rw [in_row_true hcc hz]
      · intro m z' hm e
        rw [List.getElem?_map, List.getElem?_range (by omega)] at e
        have e := Option.some.inj e
        subst e
        show eqV (V.bl (inV (.int 0) (rowV C f m))) (.bl true) = false
        rw [in_row_false]
        · rfl
        · intro j hj e
          obtain ⟨e1, _⟩ := ix_inj hj hcc (U _ (ix_lt (by omega) hj) e)
          omega
      · refine ⟨_, rfl, .ref a, rfl, _, rfl, a, _, (r : Int), _, rfl, rfl, SqL.of T'.top, atI_nat g2, .inl ⟨rfl, _, SqL.of g3⟩, ri, _, .int 0, c, .int 0, rfl, rfl, SqL.of g3, rfl, row_flat _ _ _, ?_, rfl, ?_, ?_⟩
        · rw [rowV_get hcc, hz]
        · intro m z' hm e
          rw [rowV_get (by omega)] at e
          have e := Option.some.inj e
          subst e
          show decide (f (r * C + m) = 0) = false
          refine decide_eq_false fun e => ?_
          have := U _ (ix_lt hrr (by omega)) e
          omega
        · refine ⟨(by show 2 ≤ sizeLine; decide), fun p hp => q _ p (sm.trans (same_upd hp)) (sm.free hp) upd_same⟩
end
end Tr
namespace Tr
open PySem PySem.Spec PyProof.Rows L2
theorem scBeside : FnScope ["tray", "row", "column", "letter", "down", "right"] ["tray", "row", "column", "letter"] (defScope sBeside) := ⟨rfl, rfl, rfl, by decide +kernel, rfl, by decide +kernel, by decide +kernel⟩
def spBeside : Sp := fun vs H Q _ => ∃ (a : Addr) (rs : List Addr) (R C : Nat) (f : Fld) (r c l : Nat), vs = [.ref a, .int r, .int c, .str (txt [l])] ∧ TrayAt H a rs R C f ∧ 0 < R ∧ okL l ∧
  (∀ r' c', nxt R C r c l = some (r', c') → ∀ H' p, Same H H' → H p = none → H' p = some (.tup [.int r', .int c']) → Q (.ref p) H') ∧ (nxt R C r c l = none → Q .non H)
section
variable {P : Program} {w : World} {K : PySem.W.Frag} {mg : Str → Option Value} {base : Heap}
theorem ok_beside {fa dS : Addr} {fd : FuncData} {k : Nat} (F : Fun K "place_beside" "place_beside" sBeside fa fd) (gS : mg "STEPS" = some (.ref dS)) (S : StepsD K w dS) (mL : mg "len" = none) :
    FnOk P w K mg base CX0 (k + 1) fa fd ["tray", "row", "column", "letter"] spBeside := by
  refine F.ok scBeside (fun vs H Q E h => ?_) (fun cdv A outer s H vs Q E hr h => ?_)
  · obtain ⟨a, rs, R, C, f, r, c, l, rfl, _⟩ := h
    rfl
  · obtain ⟨a, rs, R, C, f, r, c, l, rfl, T, hR, hw, q, qn⟩ := h
    refine ⟨_, pss_cons (ps_asg (pe_ix ix_kdict (pe_glob (v := .ref dS) rfl gS rfl) (pv 3) (fun _ _ => rfl)) (pg_tup rfl (pgs_cons (pg_name (i := 4) scBeside.nd rfl (.inl rfl)) (pgs_cons (pg_name (i := 5) scBeside.nd rfl (.inl rfl)) pgs_nil))))
      (pss_cons (ps_set (i := 1) scBeside.nd rfl (.inl rfl) (pe_op op_add (pv 1) (pv 4)))
      (pss_cons (ps_set (i := 2) scBeside.nd rfl (.inl rfl) (pe_op op_add (pv 2) (pv 5)))
      (pss_cons (ps_if (PW.pt (pw_and (pt_chain op_le op_lt pe_int (pv 1) (pe_callB call_len_seq (by rfl) mL PySem.boot_len (pa_cons (pv 0) pa_nil)))
          (pw_and1 (pt_chain op_le op_lt pe_int (pv 2) (pe_callB call_len_seq (by rfl) mL PySem.boot_len (pa_cons (pe_ix ix_list (pv 0) pe_int (fun _ _ => rfl)) pa_nil))))))
        (pss_one (ps_ret (pe_tup (pa_cons (pv 1) (pa_cons (pv 2) pa_nil))))) pss_nil)
      (pss_one (ps_ret pe_non))))), ?_⟩
    obtain ⟨t, hk, ht⟩ := S.at_ l hw
    obtain ⟨r0, g1, g2, g3⟩ := T.get (i := 0) hR
    have hlen : ((rs.map V.ref).length : Int) = R := by rw [List.length_map, T.len]
    refine ⟨_, rfl, dS, _, _, rfl, rfl, hk, t, _, rfl, ht _, rfl, _, _, rfl, _, _, rfl, rfl, ?_⟩
    refine ⟨_, rfl, _, rfl, r, (stp l).1, rfl, rfl, ?_⟩
    refine ⟨_, rfl, _, rfl, c, (stp l).2, rfl, rfl, ?_⟩
    refine ⟨_, rfl, 0, (r : Int) + (stp l).1, rfl, rfl, _, rfl, ?_⟩
    have nn : ¬ (0 ≤ (r : Int) + (stp l).1 ∧ (r : Int) + (stp l).1 < R ∧ 0 ≤ (c : Int) + (stp l).2 ∧ (c : Int) + (stp l).2 < C) → Q V.non H := fun z => qn (nxt_none z)
    refine decI (fun z1 => ?_) (fun z1 => ⟨_, rfl, iteF (iteF (nn fun z => z1 z.1))⟩)
    refine ⟨.ref a, rfl, a, _, rfl, .inl (SqL.of T.top), _, _, rfl, rfl, _, rfl, ?_⟩
    refine decI (fun z2 => ?_) (fun z2 => iteF (nn fun z => z2 (by rw [hlen]; exact z.2.1)))
    rw [hlen] at z2
    refine ⟨_, rfl, 0, (c : Int) + (stp l).2, rfl, rfl, _, rfl, ?_⟩
    refine decI (fun z3 => ?_) (fun z3 => ⟨_, rfl, iteF (nn fun z => z3 z.2.2.1)⟩)
    refine ⟨.ref a, rfl, a, _, 0, _, rfl, rfl, SqL.of T.top, atI_nat (j := 0) g2, r0, _, rfl, .inl (SqL.of g3), _, _, rfl, rfl, _, rfl, ?_⟩
    rw [rowV_len]
    refine decI (fun z4 => ?_) (fun z4 => nn fun z => z4 z.2.2.2)
    have z2 : (r : Int) + (stp l).1 < R := z2
    have z4 : (c : Int) + (stp l).2 < C := z4
    refine ⟨_, rfl, _, rfl, (by show 2 ≤ sizeLine; decide), fun p hp => ?_⟩
    refine q _ _ (nxt_some ⟨z1, z2, z3, z4⟩) _ p (same_upd hp) hp ?_
    rw [upd_same, Int.toNat_of_nonneg z1, Int.toNat_of_nonneg z3]
end
end Tr
namespace Tr
open PySem PySem.Spec PyProof.Rows L2
theorem scMoved : FnScope ["tray", "slides", "row", "rows", "column", "letter", "place", "to_row", "to_column"] ["tray", "slides"] (defScope sMoved) := ⟨rfl, rfl, rfl, by decide +kernel, rfl, by decide +kernel, by decide +kernel⟩
/-- a tray of at most six rows and columns, all its numbers each once, 0 at (r, c) -/
structure Good (R C : Nat) (s : Sl) : Prop where
  r0 : 0 < R
  r6 : R ≤ 6
  c0 : 0 < C
  c6 : C ≤ 6
  full : Full (R * C) s.1
  z : Zr R C s
theorem Good.uniq {R C : Nat} {s : Sl} (g : Good R C s) : Uniq R C s.1 (s.2.1 * C + s.2.2) := fun k hk e => full_inj g.full hk (ix_lt g.z.r g.z.c) (e.trans g.z.z.symm)
theorem Good.go {R C : Nat} {s s' : Sl} {ws : List Nat} (g : Good R C s) (h : goAll R C s ws = some s') : Good R C s' := ⟨g.r0, g.r6, g.c0, g.c6, goAll_full g.z h g.full, goAll_zr g.z h⟩
def spMoved (CS : Addr) : Sp := fun vs H Q E => ∃ (a : Addr) (rs : List Addr) (R C : Nat) (s : Sl) (ws : List Nat), vs = [.ref a, .str (txt ws)] ∧ TrayAt H a rs R C s.1 ∧ Good R C s ∧
  (∀ s', goAll R C s ws = some s' → ∀ H' p rs', Same H H' → H p = none → (∀ x ∈ rs', H x = none) → TrayAt H' p rs' R C s'.1 → Q (.ref p) H') ∧
  (goAll R C s ws = none → ∀ H', Same H H' → E (.ref CS) none H')
section
variable {P : Program} {w : World} {K : PySem.W.Frag} {mg : Str → Option Value} {base : Heap}
theorem ok_moved {fa CS fT fS fE fB : Addr} {fd fdT fdS fdE fdB : FuncData} {k : Nat} (F : Fun K "moved" "moved" sMoved fa fd) (T : ExcT K mg "BadSlides" CS) (mLi : mg "list" = none)
    (GT : FnOk P w K mg base CX0 (k + 1) fT fdT ["tray"] spCheckT) (gT : mg "check_tray" = some (.ref fT)) (kT : PySem.W.keepIn K (.ref fT) = true) (bT : Binds K fdT ["tray"] [])
    (GS : FnOk P w K mg base (L2.CX P w) (k + 1) fS fdS ["slides"] (spCheckS CS)) (gS : mg "check_slides" = some (.ref fS)) (kS : PySem.W.keepIn K (.ref fS) = true) (bS : Binds K fdS ["slides"] [])
    (GE : FnOk P w K mg base CX0 (k + 1) fE fdE ["tray"] spEmpty) (gE : mg "empty_place" = some (.ref fE)) (kE : PySem.W.keepIn K (.ref fE) = true) (bE : Binds K fdE ["tray"] [])
    (GB : FnOk P w K mg base CX0 (k + 1) fB fdB ["tray", "row", "column", "letter"] spBeside) (gB : mg "place_beside" = some (.ref fB)) (kB : PySem.W.keepIn K (.ref fB) = true) (bB : Binds K fdB ["tray", "row", "column", "letter"] []) :
    FnOk P w K mg base (L2.CX P w) (k + 2) fa fd ["tray", "slides"] (spMoved CS) := by
  refine F.okX scMoved (fun vs H Q E h => ?_) (fun cdv A outer s H vs Q E hr h => ?_)
  · obtain ⟨a, rs, R, C, s, ws, rfl, _⟩ := h
    rfl
  · obtain ⟨a, rs, R, C, ⟨f, r, c⟩, ws, rfl, Ta, g, q, qe⟩ := h
    have hR := g.r6
    have hR0 := g.r0
    refine ⟨_, pss_cons (ps_expr (pe_call GT hr (by rfl) gT kT bT .nil pass0 (pa_cons (pv 0) pa_nil)))
      (pss_cons (ps_expr (pe_callS GS hr (by rfl) gS kS bS (fun σ => passAt (takes_of rfl rfl rfl rfl) σ) (pa_cons (pv 1) pa_nil)))
      (pss_cons (ps_setLc (i := 3) (own := [("row", 2)]) (g := gName 2) (tt := tYes) rfl scMoved.nd rfl rfl (sw_true rfl rfl rfl (by decide +kernel)) (pi_list (pv 0))
          (blkOk_by (own := [("row", 2)]) (N := ["tray", "slides", "row", "rows", "column", "letter", "place", "to_row", "to_column"]) (sc := defScope sMoved) (by decide +kernel))
          (fun _ _ _ _ _ => pg_name (i := 2) scMoved.nd rfl (.inl rfl)) (fun _ _ _ _ _ => pts_nil) (fun _ _ _ _ _ => pe_callTy (r := rListOf K) cr_listOf (by rfl) mLi (by decide +kernel) (pa_cons (pv 2) pa_nil)))
      (pss_cons (ps_asg (pe_call GE hr (by rfl) gE kE bE .nil pass0 (pa_cons (pv 3) pa_nil)) (pg_tup rfl (pgs_cons (pg_name (i := 2) scMoved.nd rfl (.inl rfl)) (pgs_cons (pg_name (i := 4) scMoved.nd rfl (.inl rfl)) pgs_nil))))
      (pss_cons (ps_for (passes_of rfl) rfl (pi_str (pv 1)) (pg_name (i := 5) scMoved.nd rfl (.inl rfl))
        (pss_cons (ps_set (i := 6) scMoved.nd rfl (.inl rfl) (pe_call GB hr (by rfl) gB kB bB .nil pass0 (pa_cons (pv 3) (pa_cons (pv 2) (pa_cons (pv 4) (pa_cons (pv 5) pa_nil))))))
        (pss_cons (ps_if (pt_cmp (pc_isN (pv 6))) (pss_one (ps_raise rfl (takes_of rfl rfl rfl rfl) (pmk_own PySem.F.excBase_ValueError T.x T.g T.k (raises_own T.b T.t) rfl))) pss_nil)
        (pss_cons (ps_asg (pv 6) (pg_tup rfl (pgs_cons (pg_name (i := 7) scMoved.nd rfl (.inl rfl)) (pgs_cons (pg_name (i := 8) scMoved.nd rfl (.inl rfl)) pgs_nil))))
        (pss_cons (ps_asg (pe_ix ix_list (pe_ix ix_list (pv 3) (pv 7) (fun _ _ => rfl)) (pv 8) (fun _ _ => rfl)) (pg_sub (pe_ix ix_list (pv 3) (pv 2) (fun _ _ => rfl)) (pv 4) set_list))
        (pss_cons (ps_asg pe_int (pg_sub (pe_ix ix_list (pv 3) (pv 7) (fun _ _ => rfl)) (pv 8) set_list))
        (pss_one (ps_par (i := 2) (j := 4) (by rfl) scMoved.nd rfl rfl (by decide) rfl rfl (pa_cons (pv 7) (pa_cons (pv 8) pa_nil)) (by rfl)))))))))
      (pss_one (ps_ret (pv 3))))))), ?_⟩
    -- check_tray(tray); check_slides(slides)
    refine ⟨_, rfl, a, rs, R, C, f, rfl, Ta, hR0, hR, g.c0, g.c6, g.full, fun H1 s1 => ?_⟩
    refine ⟨_, rfl, ws, rfl, fun hok => ?_, fun hbad => qe (goAll_bad (by omega) hbad) H1 s1⟩
    -- rows = [list(row) for row in tray]
    refine ⟨_, rfl, a, rfl, ⟨_, SqL.of (Ta.mono s1).top⟩, fun D nD => lc_copy (i := 2) (Ta.mono s1) (by omega) nD (by show 2 < 9; decide) fun rs1 H2 s2 nrs T2 => ?_⟩
    have s02 := s1.trans s2
    -- row, column = empty_place(rows)
    refine ⟨_, rfl, D, rs1, R, C, f, r, c, rfl, T2, g.z, g.uniq, by omega, fun H3 p s3 np hp => ?_⟩
    refine ⟨p, _, rfl, SqT.of hp, rfl, _, _, rfl, _, _, rfl, rfl, ?_⟩
    have s03 := s02.trans s3
    -- for letter in slides
    refine ⟨_, rfl, _, rfl, for_it walk_str (fun i σ H' => ∃ f' r' c' v5 v6 v7 v8, goAll R C (f, r, c) (ws.take i) = some (f', r', c') ∧ σ = [some (.ref a), some (.str (txt ws)), some (.int (r' : Nat)), some (.ref D), some (.int (c' : Nat)), v5, v6, v7, v8] ∧ Same H H' ∧ TrayAt H' D rs1 R C f')
      ⟨f, r, c, none, none, none, none, rfl, rfl, s03, T2.mono s3⟩ (fun _ _ _ _ _ => True.intro) ?_ ?_⟩
    · rintro i x σ H4 H5 hi ⟨f', r', c', v5, v6, v7, v8, hg, rfl, s4, T4⟩ ⟨rfl, l, hl, rfl⟩
      have hl : ws[i]? = some l := by simpa using hl
      have hlo : okL l := hok l (List.mem_of_getElem? hl)
      have g' : Good R C (f', r', c') := g.go hg
      refine ⟨_, rfl, _, rfl, _, rfl, _, rfl, D, rs1, R, C, f', r', c', l, rfl, T4, hR0, hlo, fun r2 c2 hn H6 p6 s6 np6 hp6 => ?_, fun hn => ?_⟩
      · refine ⟨_, rfl, _, rfl, iteF ?_⟩
        obtain ⟨_, _, hr2, hc2⟩ := nxt_eq hn
        have T6 := T4.mono s6
        obtain ⟨ra, a1, a2, a3⟩ := T6.get g'.z.r
        obtain ⟨rb, b1, b2, b3⟩ := T6.get hr2
        have hc' : c' < C := g'.z.c
        refine ⟨_, rfl, p6, _, rfl, SqT.of hp6, rfl, _, _, rfl, _, _, rfl, rfl, ?_⟩
        -- rows[row][column] = rows[to_row][to_column]
        refine ⟨.ref D, rfl, _, rfl, D, _, (r2 : Int), _, rfl, rfl, SqL.of T6.top, atI_nat b2, _, rfl, rb, _, (c2 : Int), _, rfl, rfl, SqL.of b3, atI_nat (rowV_get hc2), ?_⟩
        refine ⟨.ref D, rfl, _, rfl, D, _, (r' : Int), _, rfl, rfl, SqL.of T6.top, atI_nat a2, _, rfl, ra, _, (c' : Int), c', rfl, rfl, a3, by rw [rowV_len]; exact ixN_nat hc', ?_⟩
        have T7 := T6.put (v := f' (r2 * C + c2)) a1 hc'
        obtain ⟨rb', b1', b2', b3'⟩ := T7.get hr2
        rw [b1] at b1'
        cases b1'
        -- rows[to_row][to_column] = 0
        refine ⟨.ref D, rfl, _, rfl, D, _, (r2 : Int), _, rfl, rfl, SqL.of T7.top, atI_nat b2', _, rfl, rb, _, (c2 : Int), c2, rfl, rfl, b3', by rw [rowV_len]; exact ixN_nat hc2, ?_⟩
        have T8 := T7.put (v := 0) b1 hc2
        -- row, column = to_row, to_column
        refine ⟨_, rfl, _, rfl, _, _, rfl, put2 f' (r' * C + c') (r2 * C + c2), r2, c2, _, _, _, _, ?_, rfl, ?_, T8⟩
        · rw [goAll_take hg hl, go1_of_nxt hn]
        · intro b o e
          have nb : ∀ y ∈ rs1, b ≠ y := fun y hy z => by
            have h1 := nrs y hy
            rw [← z, s1 _ _ e] at h1
            cases h1
          rw [upd_ne (nb _ (List.mem_of_getElem? b1)), upd_ne (nb _ (List.mem_of_getElem? a1))]
          exact s6 _ _ (s4 _ _ e)
      · refine ⟨_, rfl, _, rfl, iteT ?_⟩
        exact qe (goAll_stop hg hl (go1_of_none hn)) _ s4
    · rintro σ H4 ⟨f', r', c', v5, v6, v7, v8, hg, rfl, s4, T4⟩
      have e : ws.take (txt ws).cps.size = ws := by
        show ws.take ws.toArray.size = ws
        rw [List.size_toArray, List.take_length]
      rw [e] at hg
      exact ⟨_, rfl, q _ hg H4 D rs1 s4 (s1.free nD) (fun x hx => s1.free (nrs x hx)) T4⟩
end
end Tr
namespace Tr
open PySem PySem.Spec PyProof.Rows L2
theorem scWays : FnScope ["tray", "row", "column", "letter"] ["tray"] (defScope sWays) := ⟨rfl, rfl, rfl, by decide +kernel, rfl, by decide +kernel, by decide +kernel⟩
def waysL (R C : Nat) (s : Sl) : List Nat := udlr.filter fun l => (nxt R C s.2.1 s.2.2 l).isSome
def spWays : Sp := fun vs H Q _ => ∃ (a : Addr) (rs : List Addr) (R C : Nat) (s : Sl), vs = [.ref a] ∧ TrayAt H a rs R C s.1 ∧ Good R C s ∧ ∀ H', Same H H' → Q (.str (txt (waysL R C s))) H'
theorem filter_more {α : Type} {p : α → Bool} {l : List α} {i : Nat} {x : α} (h : l[i]? = some x) : (l.take (i + 1)).filter p = (l.take i).filter p ++ (if p x = true then [x] else []) := by
  rw [take_more h, List.filter_append]
  by_cases e : p x = true
  · rw [if_pos e, List.filter_cons_of_pos e]
    rfl
  · rw [if_neg e, List.filter_cons_of_neg e]
    rfl
section
variable {P : Program} {w : World} {K : PySem.W.Frag} {mg : Str → Option Value} {base : Heap}
theorem ok_ways {fa fT fE fB : Addr} {fd fdT fdE fdB : FuncData} {k : Nat} {tL : Tok} (F : Fun K "ways" "ways" sWays fa fd) (gL : mg "LETTERS" = some (.str "udlr" tL))
    (GT : FnOk P w K mg base CX0 (k + 1) fT fdT ["tray"] spCheckT) (gT : mg "check_tray" = some (.ref fT)) (kT : PySem.W.keepIn K (.ref fT) = true) (bT : Binds K fdT ["tray"] [])
    (GE : FnOk P w K mg base CX0 (k + 1) fE fdE ["tray"] spEmpty) (gE : mg "empty_place" = some (.ref fE)) (kE : PySem.W.keepIn K (.ref fE) = true) (bE : Binds K fdE ["tray"] [])
    (GB : FnOk P w K mg base CX0 (k + 1) fB fdB ["tray", "row", "column", "letter"] spBeside) (gB : mg "place_beside" = some (.ref fB)) (kB : PySem.W.keepIn K (.ref fB) = true) (bB : Binds K fdB ["tray", "row", "column", "letter"] []) :
    FnOk P w K mg base CX0 (k + 2) fa fd ["tray"] spWays := by
  refine F.ok scWays (fun vs H Q E h => ?_) (fun cdv A outer s H vs Q E hr h => ?_)
  · obtain ⟨a, rs, R, C, s, rfl, _⟩ := h
    rfl
  · obtain ⟨a, rs, R, C, ⟨f, r, c⟩, rfl, Ta, g, q⟩ := h
    have hR := g.r6
    have hR0 := g.r0
    refine ⟨_, pss_cons (ps_expr (pe_call GT hr (by rfl) gT kT bT .nil pass0 (pa_cons (pv 0) pa_nil)))
      (pss_cons (ps_asg (pe_call GE hr (by rfl) gE kE bE .nil pass0 (pa_cons (pv 0) pa_nil)) (pg_tup rfl (pgs_cons (pg_name (i := 1) scWays.nd rfl (.inr rfl)) (pgs_cons (pg_name (i := 2) scWays.nd rfl (.inr rfl)) pgs_nil))))
      (pss_one (ps_ret (pe_join pe_str (pe_lc (own := [("letter", 3)]) (g := gName 3) (tt := tB (tNotN (tCall spBeside [] E0 (tCons (tVar 0) (tCons (tVar 1) (tCons (tVar 2) (tCons (tVar 3) tNil))))))) rfl scWays.nd (pi_str (pe_glob (v := .str "udlr") rfl gL ⟨_, rfl⟩))
          (blkOk_by (own := [("letter", 3)]) (N := ["tray", "row", "column", "letter"]) (sc := defScope sWays) (by decide +kernel))
          (fun _ _ _ _ _ => pg_name (i := 3) scWays.nd rfl (.inl rfl)) (fun _ _ _ _ _ => pts_one (pt_cmp (pc_notN (pe_call GB hr (by rfl) gB kB bB .nil pass0 (pa_cons (pv 0) (pa_cons (pv 1) (pa_cons (pv 2) (pa_cons (pv 3) pa_nil)))))))) (fun _ _ _ _ _ => pv 3)))))), ?_⟩
    refine ⟨_, rfl, a, rs, R, C, f, rfl, Ta, hR0, hR, g.c0, g.c6, g.full, fun H1 s1 => ?_⟩
    have T1 := Ta.mono s1
    refine ⟨_, rfl, a, rs, R, C, f, r, c, rfl, T1, g.z, g.uniq, by omega, fun H2 p s2 np hp => ?_⟩
    have s02 := s1.trans s2
    refine ⟨p, _, rfl, SqT.of hp, rfl, _, _, rfl, _, _, rfl, rfl, ?_⟩
    refine ⟨⟨_, rfl⟩, "udlr", rfl, fun D nD => ?_⟩
    rw [udlr_eq]
    refine lc_gen (walk_str (z := txt udlr)) (fun i H3 => Same H2 H3 ∧ H3 D = some (.lst (((udlr.take i).filter fun l => (nxt R C r c l).isSome).map fun l => V.str (txt [l])))) ⟨same_upd nD, by rw [upd_same]; rfl⟩ (fun _ _ _ _ => True.intro) ?_ ?_
    · rintro i x H3 H4 hi ⟨s3, hD⟩ ⟨rfl, l, hl, rfl⟩
      have hl : udlr[i]? = some l := by simpa using hl
      have hlo : okL l := by
        have m := List.mem_of_getElem? hl
        revert m
        unfold udlr okL
        simp
      have T3 := (T1.mono s2).mono s3
      have fm := filter_more (p := fun l => (nxt R C r c l).isSome) hl
      refine ⟨rfl, ?_⟩
      refine ⟨_, rfl, _, rfl, _, rfl, _, rfl, a, rs, R, C, f, r, c, l, rfl, T3, hR0, hlo, fun r2 c2 hn H5 p5 s5 np5 hp5 => ?_, fun hn => ?_⟩
      · refine ⟨_, rfl, ?_⟩
        refine ⟨_, rfl, _, s5 _ _ hD, ?_, ?_, ?_⟩
        · rw [List.length_map]
          refine small1000 (Nat.le_trans (List.length_filter_le _ _) (Nat.le_trans (List.length_take_le _ _) ?_))
          have : i < 4 := hi
          omega
        · intro b o e
          rw [upd_ne (ne_of_none e nD)]
          exact s5 _ _ (s3 _ _ e)
        · rw [upd_same, fm, hn, List.map_append]
          rfl
      · refine ⟨_, rfl, ?_⟩
        refine ⟨s3, ?_⟩
        rw [fm, hn, hD]
        simp
    · rintro H3 ⟨s3, hD⟩
      have e : (udlr.take (txt udlr).cps.size) = udlr := rfl
      rw [e, txts_map] at hD
      refine ⟨"", D, _, rfl, rfl, .inl (SqL.of hD), ?_, ?_⟩
      · rw [empty_eq, ones_sum]
        exact Nat.le_trans (List.length_filter_le _ _) (by decide)
      · rw [empty_eq, join_txt]
        exact q _ (s02.trans s3)
end
end Tr
namespace Tr
open PySem PySem.Spec PyProof.Rows L2
theorem scUndone : FnScope ["slides", "letter"] ["slides"] (defScope sUndone) := ⟨rfl, rfl, rfl, by decide +kernel, rfl, by decide +kernel, by decide +kernel⟩
/-- slides handed in, of at most so many letters: they are changed to g of them, or refused -/
def spSlides (CS : Addr) (g : List Nat → List Nat) : Sp := fun vs H Q E => ∃ (ws : List Nat), vs = [.str (txt ws)] ∧ ws.length ≤ 1000 ∧ ((∀ l ∈ ws, okL l) → ∀ H', Same H H' → Q (.str (txt (g ws))) H') ∧ ((∃ l ∈ ws, ¬ okL l) → E (.ref CS) none H)
section
variable {P : Program} {w : World} {K : PySem.W.Frag} {mg : Str → Option Value} {base : Heap}
theorem ok_undone {fa CS fS dB : Addr} {fd fdS : FuncData} {k : Nat} (F : Fun K "undone" "undone" sUndone fa fd) (gB : mg "BACK" = some (.ref dB)) (B : BackD K w dB)
    (GS : FnOk P w K mg base (L2.CX P w) (k + 1) fS fdS ["slides"] (spCheckS CS)) (gS : mg "check_slides" = some (.ref fS)) (kS : PySem.W.keepIn K (.ref fS) = true) (bS : Binds K fdS ["slides"] []) :
    FnOk P w K mg base (L2.CX P w) (k + 2) fa fd ["slides"] (spSlides CS undo) := by
  refine F.okX scUndone (fun vs H Q E h => ?_) (fun cdv A outer s H vs Q E hr h => ?_)
  · obtain ⟨ws, rfl, _⟩ := h
    rfl
  · obtain ⟨ws, rfl, hl, q, qe⟩ := h
    refine ⟨_, pss_cons (ps_expr (pe_callS GS hr (by rfl) gS kS bS (fun σ => passAt (takes_of rfl rfl rfl rfl) σ) (pa_cons (pv 0) pa_nil)))
      (pss_one (ps_ret (pe_join pe_str (pe_lc (own := [("letter", 1)]) (g := gName 1) (tt := tYes) rfl scUndone.nd (pi_str (pe_revS (pv 0))) (blkOk_by (own := [("letter", 1)]) (N := ["slides", "letter"]) (sc := defScope sUndone) (by decide +kernel))
        (fun _ _ _ _ _ => pg_name (i := 1) scUndone.nd rfl (.inl rfl)) (fun _ _ _ _ _ => pts_nil) (fun _ _ _ _ _ => pe_ix (r := rIxD K w) ix_kdict (pe_glob (v := .ref dB) rfl gB rfl) (pv 1) (fun _ _ => rfl)))))), ?_⟩
    refine ⟨_, rfl, ws, rfl, fun hok => ?_, qe⟩
    have hsz : (txt ws).length ≤ sizeLine := by
      rw [txt_len]
      exact Nat.le_of_lt (small1000 hl)
    refine ⟨⟨_, rfl⟩, _, rfl, txt ws, rfl, hsz, _, rfl, fun D nD => ?_⟩
    refine lc_gen (walk_str (z := txt ws.reverse)) (fun i H3 => Same H H3 ∧ H3 D = some (.lst (((ws.reverse.map bk).take i).map fun l => V.str (txt [l])))) ⟨same_upd nD, by rw [upd_same]; rfl⟩ (fun _ _ _ _ => True.intro) ?_ ?_
    · rintro i x H3 H4 hi ⟨s3, hD⟩ ⟨rfl, l, hx, rfl⟩
      have hx : ws.reverse[i]? = some l := by simpa using hx
      have hlo : okL l := hok l (List.mem_reverse.mp (List.mem_of_getElem? hx))
      have hy : (ws.reverse.map bk)[i]? = some (bk l) := by
        rw [List.getElem?_map, hx]
        rfl
      refine ⟨rfl, ?_⟩
      refine ⟨_, rfl, dB, txt [l], _, rfl, rfl, B.at_ l hlo, _, hD, ?_, ?_, ?_⟩
      · rw [List.length_map, List.length_take, List.length_map, List.length_reverse]
        exact small1000 (by omega)
      · intro b o e
        rw [upd_ne (ne_of_none e nD)]
        exact s3 _ _ e
      · rw [upd_same, take_more hy, List.map_append]
        rfl
    · rintro H3 ⟨s3, hD⟩
      have e : ((ws.reverse.map bk).take (txt ws.reverse).cps.size) = undo ws := by
        show ((ws.reverse.map bk).take ws.reverse.toArray.size) = undo ws
        rw [List.size_toArray]
        refine List.take_of_length_le ?_
        rw [List.length_map]
        exact Nat.le_refl _
      rw [e, txts_map] at hD
      refine ⟨"", D, _, rfl, rfl, .inl (SqL.of hD), ?_, ?_⟩
      · rw [empty_eq, ones_sum, undo_len]
        omega
      · rw [empty_eq, join_txt]
        exact q hok _ s3
end
end Tr
namespace Tr
open PySem PySem.Spec PyProof.Rows L2
theorem scThinned : FnScope ["slides", "left", "letter"] ["slides"] (defScope sThinned) := ⟨rfl, rfl, rfl, by decide +kernel, rfl, by decide +kernel, by decide +kernel⟩
abbrev lets (l : List Nat) : List V := l.map fun c => V.str (txt [c])
theorem lets_last {l : List Nat} {x : Nat} (h : l.getLast? = some x) : atI (lets l) (-1) = some (V.str (txt [x])) := by
  have hne : l ≠ [] := by
    intro e
    rw [e] at h
    cases h
  have e : l = l.dropLast ++ [x] := by
    have h1 := List.dropLast_concat_getLast hne
    rw [List.getLast?_eq_getLast hne] at h
    rw [Option.some.inj h] at h1
    exact h1.symm
  rw [e]
  show atI ((l.dropLast ++ [x]).map fun c => V.str (txt [c])) (-1) = _
  rw [List.map_append]
  exact atI_last _ _
theorem lets_drop (l : List Nat) : (lets l).dropLast = lets l.dropLast := by
  show (l.map _).dropLast = _
  rw [← List.map_dropLast]
section
variable {P : Program} {w : World} {K : PySem.W.Frag} {mg : Str → Option Value} {base : Heap}
theorem ok_thinned {fa CS fS dB : Addr} {fd fdS : FuncData} {k : Nat} (F : Fun K "thinned" "thinned" sThinned fa fd) (gB : mg "BACK" = some (.ref dB)) (B : BackD K w dB)
    (GS : FnOk P w K mg base (L2.CX P w) (k + 1) fS fdS ["slides"] (spCheckS CS)) (gS : mg "check_slides" = some (.ref fS)) (kS : PySem.W.keepIn K (.ref fS) = true) (bS : Binds K fdS ["slides"] []) :
    FnOk P w K mg base (L2.CX P w) (k + 2) fa fd ["slides"] (spSlides CS thinL) := by
  refine F.okX scThinned (fun vs H Q E h => ?_) (fun cdv A outer s H vs Q E hr h => ?_)
  · obtain ⟨ws, rfl, _⟩ := h
    rfl
  · obtain ⟨ws, rfl, hl, q, qe⟩ := h
    refine ⟨_, pss_cons (ps_expr (pe_callS GS hr (by rfl) gS kS bS (fun σ => passAt (takes_of rfl rfl rfl rfl) σ) (pa_cons (pv 0) pa_nil)))
      (pss_cons (ps_set (i := 1) scThinned.nd rfl (.inl rfl) (pe_lst pa_nil))
      (pss_cons (ps_for (passes_of rfl) rfl (pi_str (pv 0)) (pg_name (i := 2) scThinned.nd rfl (.inl rfl))
        (pss_one (ps_if (PW.pt (pw_and (pt_truth (pv 1) (by intro _; rfl)) (pw_and1 (pt_cmpR op_eq (pe_ix ix_list (pv 1) (pe_un un_neg pe_int) (fun _ _ => rfl)) (pe_ix ix_kdict (pe_glob (v := .ref dB) rfl gB rfl) (pv 2) (fun _ _ => rfl)) (nomark _)))))
          (pss_one (ps_expr (pe_bm0 PySem.F.plainAttrs_list PySem.F.slot_list_pop PySem.F.type_list_pop mt_pop (pv 1))))
          (pss_one (ps_expr (pe_bm PySem.F.plainAttrs_list PySem.F.slot_list_append PySem.F.type_list_append mt_append (pv 1) (pa_cons (pv 2) pa_nil)))))))
      (pss_one (ps_ret (pe_join pe_str (pv 1)))))), ?_⟩
    refine ⟨_, rfl, ws, rfl, fun hok => ?_, qe⟩
    refine ⟨Nat.zero_le _, fun D nD => ?_⟩
    refine ⟨_, rfl, _, rfl, for_it walk_str (fun i σ H' => ∃ v, σ = [some (.str (txt ws)), some (.ref D), v] ∧ Same H H' ∧ H' D = some (.lst (lets (thinL (ws.take i))))) ⟨none, rfl, same_upd nD, upd_same⟩ (fun _ _ _ _ _ => True.intro) ?_ ?_⟩
    · rintro i x σ H1 H2 hi ⟨v, rfl, s1, hD⟩ ⟨rfl, l, hx, rfl⟩
      have hx : ws[i]? = some l := by simpa using hx
      have hlo : okL l := hok l (List.mem_of_getElem? hx)
      have ht := thin_take hx
      have hlen : (thinL (ws.take i)).length ≤ 1000 := Nat.le_trans (thinL_len _) (by rw [List.length_take]; omega)
      have hadd : ∀ H3, H3 = upd H2 D (.lst (lets (thinL (ws.take i)) ++ [V.str (txt [l])])) → (thinL (ws.take i)).getLast? ≠ some (bk l) → Same H H3 ∧ H3 D = some (.lst (lets (thinL (ws.take (i + 1))))) := by
        rintro H3 rfl hne
        refine ⟨fun b o e => by rw [upd_ne (ne_of_none e nD)]; exact s1 _ _ e, ?_⟩
        rw [upd_same, ht]
        unfold thS
        rw [if_neg hne]
        show _ = some (HO.lst ((thinL (ws.take i) ++ [l]).map _))
        rw [List.map_append]
        rfl
      refine ⟨_, rfl, _, .inl ⟨_, SqL.of hD, rfl⟩, ?_⟩
      cases hle : (thinL (ws.take i)).getLast? with
      | none =>
        have hnil : thinL (ws.take i) = [] := List.getLast?_eq_none_iff.mp hle
        rw [hnil]
        refine iteF (iteF ?_)
        refine ⟨_, rfl, .inl ⟨rfl, _, SqL.of hD⟩, _, rfl, D, _, _, rfl, rfl, hD, ?_, ?_⟩
        · rw [List.length_map]
          exact small1000 hlen
        · obtain ⟨e1, e2⟩ := hadd _ rfl (by rw [hle]; exact fun z => by cases z)
          exact ⟨_, rfl, e1, e2⟩
      | some y =>
        have hne : (lets (thinL (ws.take i))).isEmpty = false := by
          cases e : thinL (ws.take i) with
          | nil => rw [e] at hle; cases hle
          | cons a b => rfl
        rw [hne]
        refine iteT ?_
        refine ⟨_, rfl, 1, rfl, D, _, -1, _, rfl, rfl, SqL.of hD, lets_last hle, _, rfl, dB, txt [l], _, rfl, rfl, B.at_ l hlo, rfl, _, rfl, ?_⟩
        refine decI (fun z => ?_) (fun z => ?_)
        · have z : y = bk l := by
            have := txt_inj (V.str.inj z)
            exact List.head_eq_of_cons_eq this
          subst z
          have h1 : (lets (thinL (ws.take i)))[(lets (thinL (ws.take i))).length - 1]? = some (V.str (txt [bk l])) := by
            have := congrArg (Option.map fun c => V.str (txt [c])) hle
            rw [List.getLast?_eq_getElem?] at this
            rw [List.length_map, List.getElem?_map]
            exact this
          refine ⟨_, rfl, .inl ⟨rfl, _, SqL.of hD⟩, D, _, _, rfl, rfl, hD, h1, ?_⟩
          refine ⟨_, rfl, fun b o e => ?_, ?_⟩
          · rw [upd_ne (ne_of_none e nD)]
            exact s1 _ _ e
          · rw [upd_same, lets_drop, ht]
            unfold thS
            rw [if_pos hle]
        · refine ⟨_, rfl, .inl ⟨rfl, _, SqL.of hD⟩, _, rfl, D, _, _, rfl, rfl, hD, ?_, ?_⟩
          · rw [List.length_map]
            exact small1000 hlen
          · obtain ⟨e1, e2⟩ := hadd _ rfl (by rw [hle]; exact fun e => z (by rw [Option.some.inj e]))
            exact ⟨_, rfl, e1, e2⟩
    · rintro σ H1 ⟨v, rfl, s1, hD⟩
      have e : ws.take (txt ws).cps.size = ws := by
        show ws.take ws.toArray.size = ws
        rw [List.size_toArray, List.take_length]
      rw [e] at hD
      have hD : H1 D = some (.lst (((thinL ws).map fun l => txt [l]).map V.str)) := by
        rw [hD, ← txts_map]
      refine ⟨⟨_, rfl⟩, _, rfl, "", D, _, rfl, rfl, .inl (SqL.of hD), ?_, ?_⟩
      · rw [empty_eq, ones_sum]
        exact Nat.le_trans (thinL_len ws) (by omega)
      · rw [empty_eq, join_txt]
        exact q hok _ s1
end
end Tr
namespace Tr
open PySem PySem.Spec PyProof.Rows L2
theorem perm_erase {α : Type} : ∀ {l : List α} {k : Nat} {y : α}, l[k]? = some y → (y :: l.eraseIdx k).Perm l
  | [], k, y, h => by simp at h
  | a :: r, 0, y, h => by
    have e : a = y := Option.some.inj h
    subst e
    exact List.Perm.refl _
  | a :: r, k + 1, y, h => by
    have ih := perm_erase (l := r) (k := k) (y := y) h
    show (y :: a :: r.eraseIdx k).Perm (a :: r)
    exact (List.Perm.swap a y _).trans (List.Perm.cons a ih)
theorem map_erase {α β : Type} (f : α → β) : ∀ (l : List α) (k : Nat), (l.map f).eraseIdx k = (l.eraseIdx k).map f
  | [], k => by simp
  | a :: r, 0 => rfl
  | a :: r, k + 1 => by
    show f a :: (r.map f).eraseIdx k = f a :: (r.eraseIdx k).map f
    rw [map_erase f r k]
abbrev rangeI (n : Nat) : List Int := (List.range n).map fun k : Nat => (k : Int)
theorem scOrder : FnScope ["_law_number", "_law_many", "_law_left", "_law_found"] ["_law_number", "_law_many"] (defScope sOrder) := ⟨rfl, rfl, rfl, by decide +kernel, rfl, by decide +kernel, by decide +kernel⟩
def spOrder : Sp := fun vs H Q _ => ∃ (z : Int) (n : Nat), vs = [.int z, .int n] ∧ n ≤ 1000 ∧ ∀ H' p (os : List Int), Same H H' → H p = none → H' p = some (.lst (os.map V.int)) → os.Perm (rangeI n) → Q (.ref p) H'
section
variable {P : Program} {w : World} {K : PySem.W.Frag} {mg : Str → Option Value} {base : Heap}
theorem ok_order {fa : Addr} {fd : FuncData} {k : Nat} (F : Fun K "_law_order" "_law_order" sOrder fa fd) (mLi : mg "list" = none) (mR : mg "range" = none) (mL : mg "len" = none) :
    FnOk P w K mg base CX0 (k + 1) fa fd ["_law_number", "_law_many"] spOrder := by
  refine F.ok scOrder (fun vs H Q E h => ?_) (fun cdv A outer s H vs Q E hr h => ?_)
  · obtain ⟨z, n, rfl, _⟩ := h
    rfl
  · obtain ⟨z, n, rfl, hn, q⟩ := h
    refine ⟨_, pss_cons (ps_set (i := 2) scOrder.nd rfl (.inl rfl) (pe_listRg rfl rfl mLi (prg_1 rfl mR (pv 1))))
      (pss_cons (ps_set (i := 3) scOrder.nd rfl (.inl rfl) (pe_lst pa_nil))
      (pss_cons (ps_while PassesOwn.never (pt_cmpR (op_neD hr.units) (pv 2) (pe_lst pa_nil) (nomark _))
        (pss_cons (ps_expr (pe_bm PySem.F.plainAttrs_list PySem.F.slot_list_append PySem.F.type_list_append mt_append (pv 3) (pa_cons
            (pe_bm PySem.F.plainAttrs_list PySem.F.slot_list_pop PySem.F.type_list_pop mt_popAt (pv 2) (pa_cons (pe_op op_modN (pv 0) (pe_callB call_len_seq (by rfl) mL PySem.boot_len (pa_cons (pv 2) pa_nil))) pa_nil)) pa_nil)))
        (pss_one (ps_set (i := 0) scOrder.nd rfl (.inl rfl) (pe_op op_fdivN (pv 0) (pe_op op_add (pe_callB call_len_seq (by rfl) mL PySem.boot_len (pa_cons (pv 2) pa_nil)) pe_int))))))
      (pss_one (ps_ret (pv 3))))), ?_⟩
    refine ⟨_, rfl, n, rfl, RgOk.of_le (by omega) (by omega) (by omega) (by omega), fun L nL => ?_⟩
    have e0 : rgV 0 (n : Int) = (rangeI n).map V.int := by
      unfold rgV rangeI
      rw [List.map_map, Int.sub_zero, Int.toNat_natCast]
      refine List.map_congr_left fun k _ => ?_
      show V.int (0 + (k : Int)) = V.int k
      rw [Int.zero_add]
    rw [e0]
    refine ⟨Nat.zero_le _, fun D nD => ?_⟩
    have hDL : L ≠ D := fun e => by
      rw [← e, upd_same] at nD
      cases nD
    refine ⟨fun m σ H' => ∃ (y : Int) (left found : List Int), left.length = m ∧ σ = [some (.int y), some (.int n), some (.ref L), some (.ref D)] ∧ H' L = some (.lst (left.map V.int)) ∧ H' D = some (.lst (found.map V.int)) ∧ (found ++ left).Perm (rangeI n) ∧ Same H H',
      ⟨_, z, rangeI n, [], rfl, rfl, by rw [upd_ne hDL, upd_same], upd_same, List.Perm.refl _, (same_upd nL).trans (same_upd nD)⟩, ?_⟩
    rintro m σ H' ⟨y, left, found, hm, rfl, hL, hD, hp, sm⟩
    refine ⟨_, rfl, Nat.zero_le _, fun p np => ?_⟩
    have s1 : Same H' (upd H' p (.lst [])) := same_upd np
    have hL1 := s1 _ _ hL
    have hD1 := s1 _ _ hD
    have hall : found.length + left.length = n := by
      have := hp.length_eq
      rw [List.length_append] at this
      rw [this]
      show ((List.range n).map _).length = n
      rw [List.length_map, List.length_range]
    refine ⟨.list (left.map PyData.int), .list [], .lst (SqL.of hL1) (dp_ints _), .lst (SqL.of upd_same) .nil, PySem.W.shaped_ints _, PySem.W.shaped_ints [], _, rfl, ?_⟩
    cases left with
    | nil =>
      refine iteF ?_
      rw [List.append_nil] at hp
      exact ⟨_, rfl, q _ D found (sm.trans s1) ((same_upd nL).free nD) hD1 hp⟩
    | cons x r =>
      refine iteT ?_
      have hlp : 0 < (x :: r).length := Nat.zero_lt_succ _
      have b1 := Int.fmod_nonneg_of_pos y (b := ((x :: r).length : Int)) (by omega)
      have b2 := Int.fmod_lt_of_pos y (b := ((x :: r).length : Int)) (by omega)
      obtain ⟨j, hj⟩ := Int.eq_ofNat_of_zero_le b1
      have hjl : j < (x :: r).length := by omega
      have hget := List.getElem?_eq_getElem hjl
      have hnn : n ≤ 1000 := hn
      refine ⟨fun σ' H2 => ∃ (y' : Int) (found' : List Int), σ' = [some (.int y'), some (.int n), some (.ref L), some (.ref D)] ∧ H2 L = some (.lst (((x :: r).eraseIdx j).map V.int)) ∧ H2 D = some (.lst (found'.map V.int)) ∧ (found' ++ (x :: r).eraseIdx j).Perm (rangeI n) ∧ Same H H2, ?_, ?_⟩
      · rintro σ' H2 ⟨y', found', e1, e2, e3, e4, e5⟩
        refine ⟨((x :: r).eraseIdx j).length, ?_, y', _, found', rfl, e1, e2, e3, e4, e5⟩
        rw [List.length_eraseIdx_of_lt hjl]
        omega
      · have hs := ixN_seq (ixN_nat hjl)
        refine ⟨_, rfl, .inl ⟨rfl, _, SqL.of hD1⟩, ?_⟩
        refine ⟨_, rfl, .inl ⟨rfl, _, SqL.of hL1⟩, ?_⟩
        refine ⟨_, rfl, .ref L, rfl, L, _, rfl, .inl (SqL.of hL1), y, ((x :: r).length : Int), rfl, ?_, by omega, ?_⟩
        · rw [List.length_map]
        refine ⟨L, _, y.fmod ((x :: r).length : Int), j, V.int (x :: r)[j], rfl, rfl, hL1, by omega, by omega, ?_, ?_, ?_⟩
        · rw [List.length_map, hj]
          exact hs.1
        · rw [List.getElem?_map, hget]
          rfl
        · refine ⟨D, found.map V.int, _, rfl, rfl, ?_, ?_, ?_⟩
          · rw [upd_ne hDL.symm]
            exact hD1
          · rw [List.length_map]
            exact small1000 (by omega)
          · refine ⟨_, rfl, .ref L, rfl, L, _, rfl, .inl (SqL.of (by rw [upd_ne hDL, upd_same])), _, 1, rfl, rfl, y, _, rfl, rfl, ?_, ?_⟩
            · constructor
              · omega
              · rw [map_erase, List.length_map]
                have := List.length_eraseIdx_le (x :: r) j
                omega
            · refine ⟨_, found ++ [(x :: r)[j]], rfl, ?_, ?_, ?_, ?_⟩
              · rw [upd_ne hDL, upd_same, map_erase]
              · rw [upd_same, List.map_append]
                rfl
              · rw [List.append_assoc]
                refine List.Perm.trans (List.Perm.append_left found ?_) hp
                exact perm_erase hget
              · intro b o e
                rw [upd_ne (ne_of_none e ((same_upd nL).free nD)), upd_ne (ne_of_none e nL)]
                exact s1 _ _ (sm _ _ e)
end
end Tr
namespace Tr
open PySem PySem.Spec PyProof.Rows L2
/-- below 2 ^ n in size -/
def Bd (x : Int) (n : Nat) : Prop := x.natAbs < 2 ^ n
theorem Bd.mono {x : Int} {n m : Nat} (h : Bd x n) (hm : n ≤ m) : Bd x m := Nat.lt_of_lt_of_le h (Nat.pow_le_pow_right (by decide) hm)
theorem Bd.add {x y : Int} {n m : Nat} (h : Bd x n) (h' : Bd y m) : Bd (x + y) (n + m + 1) := by
  have h1 : Bd x (n + m) := h.mono (by omega)
  have h2 : Bd y (n + m) := h'.mono (by omega)
  unfold Bd at *
  rw [Nat.pow_succ]
  omega
theorem Bd.mul {x y : Int} {n m : Nat} (h : Bd x n) (h' : Bd y m) : Bd (x * y) (n + m) := wide_lt h h'
theorem Bd.ok {i j : Int} {a b : Nat} (ha : Bd i a) (hb : Bd j b) (h : a + b ≤ 100000000) : IntMulOk i j := by
  have g : ∀ (x : Int) (n : Nat), Bd x n → Builtin.Int.intBits x ≤ n + 1 := fun x n hx => by
    have := PySem.Flt.log2_lt_of (k := n + 1) (Nat.succ_pos n) (hx.mono (Nat.le_succ n))
    unfold Builtin.Int.intBits
    split <;> omega
  have h1 := g i a ha
  have h2 := g j b hb
  have e : bitsLine = 134217728 := by decide
  unfold IntMulOk
  intro z
  rw [Bool.and_eq_true] at z
  have z2 := z.2
  unfold Builtin.Int.intTooBig at z2
  have z3 := of_decide_eq_true z2
  rw [e] at z3
  omega
theorem Bd.of_bits {x : Int} : Bd x (Builtin.Int.intBits x) := by
  unfold Bd Builtin.Int.intBits
  by_cases h : x = 0
  · subst h
    decide
  · have : (x == 0) = false := by simpa using h
    rw [this]
    exact Nat.lt_log2_self
theorem Bd.small {x : Int} {n : Nat} (h : x.natAbs < 2 ^ n) : Bd x n := h
theorem scDigits : FnScope ["_law_cell", "_law_by", "_law_mixed", "_law_more"] ["_law_cell", "_law_by"] (defScope sDigits) := ⟨rfl, rfl, rfl, by decide +kernel, rfl, by decide +kernel, by decide +kernel⟩
def spDigits : Sp := fun vs H Q _ => ∃ (c : Int) (b : Nat), vs = [.int c, .int b] ∧ b ≤ 1000 ∧ Builtin.Int.intBits c ≤ 1048576 ∧ ∀ n, Q (.int n) H
section
variable {P : Program} {w : World} {K : PySem.W.Frag} {mg : Str → Option Value} {base : Heap}
theorem ok_digits {fa : Addr} {fd : FuncData} {k : Nat} (F : Fun K "_law_digits" "_law_digits" sDigits fa fd) :
    FnOk P w K mg base CX0 (k + 1) fa fd ["_law_cell", "_law_by"] spDigits := by
  refine F.ok scDigits (fun vs H Q E h => ?_) (fun cdv A outer s H vs Q E hr h => ?_)
  · obtain ⟨c, b, rfl, _⟩ := h
    rfl
  · obtain ⟨c, b, rfl, hb, hc, q⟩ := h
    have hB : Bd c (Builtin.Int.intBits c) := Bd.of_bits
    generalize Builtin.Int.intBits c = B at hc hB
    refine ⟨_, pss_cons (ps_if (pt_cmpR op_ge (pv 0) (pe_op op_pow pe_int pe_int) (nomark _)) (pss_one (ps_ret (pe_op op_fdivN (pv 0) (pe_op op_add (pv 1) pe_int)))) pss_nil)
      (pss_cons (ps_set (i := 2) scDigits.nd rfl (.inl rfl) (pe_op op_mod (pe_op op_mulX (pe_op op_add (pv 0) (pe_op op_mulX pe_int (pv 1))) pe_int) pe_int))
      (pss_cons (ps_set (i := 3) scDigits.nd rfl (.inl rfl) (pe_op op_mulX (pv 2) (pe_op op_add (pe_op op_add (pv 0) (pe_op op_mulX pe_int (pv 1))) pe_int)))
      (pss_one (ps_ret (pe_op op_fdivN (pe_op op_mulX (pe_op op_mulX (pv 3) (pe_op op_add (pe_op op_add (pv 2) (pe_op op_mulX (pv 0) (pv 1))) pe_int)) (pe_op op_add (pe_op op_mulX (pv 2) (pv 2)) (pv 1))) (pe_op op_add pe_int (pv 1))))))), ?_⟩
    have hbB : Bd (b : Int) 10 := Bd.small (by show b < 1024; omega)
    have k977 : Bd 977 10 := Bd.small (by decide)
    have k31 : Bd 31 10 := Bd.small (by decide)
    have k7 : Bd 7 10 := Bd.small (by decide)
    have k13 : Bd 13 10 := Bd.small (by decide)
    have k48 : Bd 48271 16 := Bd.small (by decide)
    refine ⟨_, rfl, 10, 18, rfl, rfl, ⟨by decide, by decide, by decide⟩, _, _, rfl, rfl, _, rfl, decI (fun _ => ?_) (fun _ => ?_)⟩
    · refine ⟨_, rfl, _, rfl, b, 1, rfl, rfl, c, _, rfl, rfl, ⟨by omega, by omega⟩, q _⟩
    · have a1 : Bd (977 * (b : Int)) (10 + 10) := k977.mul hbB
      have a2 := hB.add a1
      refine ⟨_, rfl, _, rfl, 977, b, rfl, rfl, k977.ok hbB (by decide), c, 977 * (b : Int), rfl, rfl, _, 48271, rfl, rfl, a2.ok k48 (by omega), _, 2147483647, rfl, rfl, (by show (0 : Int) < 2147483647; decide), ?_⟩
      have m1 := Int.emod_nonneg ((c + 977 * (b : Int)) * 48271) (b := 2147483647) (by decide)
      have m2 := Int.emod_lt_of_pos ((c + 977 * (b : Int)) * 48271) (b := 2147483647) (by decide)
      have hm : Bd (((c + 977 * (b : Int)) * 48271) % 2147483647) 31 := Bd.small (by show (((c + 977 * (b : Int)) * 48271) % 2147483647).natAbs < 2147483648; omega)
      have a3 : Bd (31 * (b : Int)) (10 + 10) := k31.mul hbB
      have a4 := (hB.add a3).add k7
      have a5 := hm.mul a4
      refine ⟨_, rfl, _, rfl, _, rfl, 31, b, rfl, rfl, k31.ok hbB (by decide), c, 31 * (b : Int), rfl, rfl, _, 7, rfl, rfl, _, _, rfl, rfl, hm.ok a4 (by omega), ?_⟩
      have a6 := (hm.add (hB.mul hbB)).add k13
      have a7 := a5.mul a6
      have a8 := (hm.mul hm).add hbB
      refine ⟨_, rfl, _, rfl, _, rfl, _, rfl, c, b, rfl, rfl, hB.ok hbB (by omega), _, c * (b : Int), rfl, rfl, _, 13, rfl, rfl, _, _, rfl, rfl, a5.ok a6 (by omega), ?_⟩
      refine ⟨_, rfl, _, rfl, _, _, rfl, rfl, hm.ok hm (by decide), _, rfl, _, b, rfl, rfl, _, _, rfl, rfl, a7.ok a8 (by omega), ?_⟩
      exact ⟨_, rfl, 1009, b, rfl, rfl, _, _, rfl, rfl, ⟨by omega, by omega⟩, q _⟩
end
end Tr
namespace Tr
open PySem PySem.Spec PyProof.Rows L2
theorem scTrayL : FnScope ["_law_number", "_law_rows", "_law_columns", "_law_order_here", "_law_row"] ["_law_number", "_law_rows", "_law_columns"] (defScope sTrayL) := ⟨rfl, rfl, rfl, by decide +kernel, rfl, by decide +kernel, by decide +kernel⟩
def spTrayL : Sp := fun vs H Q _ => ∃ (z : Int) (R C : Nat), vs = [.int z, .int R, .int C] ∧ R ≤ 6 ∧ C ≤ 6 ∧ ∀ H' p rs f, Same H H' → H p = none → (∀ x ∈ rs, H x = none) → TrayAt H' p rs R C f → Full (R * C) f → Q (.ref p) H'
theorem cut_row {os : List Int} {R C i : Nat} (h : os.length = R * C) (hi : i < R) : cutV (os.map V.int) (some ((i * C : Nat) : Int)) (some ((i * C + C : Nat) : Int)) = rowV C (fun k => os.getD k 0) i := by
  have hl : (os.map V.int).length = R * C := by rw [List.length_map, h]
  have hle : i * C + C ≤ R * C := by
    have : (i + 1) * C ≤ R * C := Nat.mul_le_mul_right C hi
    rw [Nat.add_mul, Nat.one_mul] at this
    exact this
  unfold cutV
  rw [HT.sIx_nat, HT.sIx_nat, hl, Nat.min_eq_left hle, Nat.min_eq_left (show i * C ≤ R * C by omega), Nat.add_sub_cancel_left]
  apply List.ext_getElem
  · rw [List.length_take, List.length_drop, hl, rowV_len]
    omega
  · intro j h1 h2
    rw [rowV_len] at h2
    have hk : i * C + j < os.length := by rw [h]; omega
    simp only [List.getElem_take, List.getElem_drop, List.getElem_map, rowV, List.getElem_range]
    rw [List.getD_eq_getElem?_getD, List.getElem?_eq_getElem hk]
    rfl
theorem allV_get {os : List Int} {n : Nat} (h : os.length = n) : allV n (fun k => os.getD k 0) = os := by
  apply List.ext_getElem
  · simp [allV, h]
  · intro j h1 h2
    simp only [allV, List.getElem_map, List.getElem_range]
    rw [List.getD_eq_getElem?_getD, List.getElem?_eq_getElem h2]
    rfl
section
variable {P : Program} {w : World} {K : PySem.W.Frag} {mg : Str → Option Value} {base : Heap}
theorem ok_trayL {fa fO : Addr} {fd fdO : FuncData} {k : Nat} (F : Fun K "_law_tray" "_law_tray" sTrayL fa fd) (mR : mg "range" = none)
    (GO : FnOk P w K mg base CX0 (k + 1) fO fdO ["_law_number", "_law_many"] spOrder) (gO : mg "_law_order" = some (.ref fO)) (kO : PySem.W.keepIn K (.ref fO) = true) (bO : Binds K fdO ["_law_number", "_law_many"] []) :
    FnOk P w K mg base CX0 (k + 2) fa fd ["_law_number", "_law_rows", "_law_columns"] spTrayL := by
  refine F.ok scTrayL (fun vs H Q E h => ?_) (fun cdv A outer s H vs Q E hr h => ?_)
  · obtain ⟨z, R, C, rfl, _⟩ := h
    rfl
  · obtain ⟨z, R, C, rfl, hR, hC, q⟩ := h
    have hRC := rows36 hR hC
    refine ⟨_, pss_cons (ps_set (i := 3) scTrayL.nd rfl (.inr rfl) (pe_call GO hr (by rfl) gO kO bO .nil pass0 (pa_cons (pv 0) (pa_cons (pe_op op_mul (pv 1) (pv 2)) pa_nil))))
      (pss_one (ps_ret (pe_lc (own := [("_law_row", 4)]) (g := gName 4) (tt := tYes) rfl scTrayL.nd (pi_range1 rfl mR (pa_cons (pv 1) pa_nil)) (blkOk_by (own := [("_law_row", 4)]) (N := ["_law_number", "_law_rows", "_law_columns", "_law_order_here", "_law_row"]) (sc := defScope sTrayL) (by decide +kernel))
        (fun _ _ _ _ _ => pg_name (i := 4) scTrayL.nd rfl (.inl rfl)) (fun _ _ _ _ _ => pts_nil) (fun _ _ _ _ _ => pe_slice (r := rSlL K) sl_list (pv 3) (po_some (pe_op op_mul (pv 4) (pv 2))) (po_some (pe_op op_add (pe_op op_mul (pv 4) (pv 2)) (pv 2))))))), ?_⟩
    refine ⟨_, rfl, _, rfl, _, rfl, R, C, rfl, rfl, .inl ⟨by omega, by omega⟩, z, R * C, ?_, by omega, fun H1 p os s1 np hp hperm => ?_⟩
    · rw [Int.natCast_mul]
      rfl
    have hol : os.length = R * C := by
      have := hperm.length_eq
      rw [this]
      show ((List.range (R * C)).map _).length = R * C
      rw [List.length_map, List.length_range]
    refine ⟨_, rfl, R, rfl, by omega, by omega, fun D nD => ?_⟩
    rw [Int.toNat_natCast]
    refine lc_gen (walk_range (lo := 0) (n := R)) (fun i H2 => ∃ rs1, TrayAt H2 D rs1 i C (fun k => os.getD k 0) ∧ (∀ x ∈ rs1, H1 x = none) ∧ Same H1 H2)
      ⟨[], ⟨upd_same, rfl, fun i r e => by simp at e, List.nodup_nil, by simp⟩, (fun x m => by cases m), same_upd nD⟩ (fun _ _ _ _ => True.intro) ?_ ?_
    · rintro i x H2 H3 hi ⟨rs1, T1, hx1, sm⟩ ⟨rfl, rfl⟩
      refine ⟨rfl, ?_⟩
      have e1 : (0 + (i : Int)) * (C : Int) = ((i * C : Nat) : Int) := by rw [Int.zero_add, Int.natCast_mul]
      have e2 : (0 + (i : Int)) * (C : Int) + (C : Int) = ((i * C + C : Nat) : Int) := by rw [e1, Int.natCast_add]
      refine ⟨_, rfl, _, rfl, _, rfl, _, C, rfl, rfl, .inl ⟨by omega, by omega⟩, ((i * C : Nat) : Int), congrArg V.int e1, ?_⟩
      refine ⟨_, rfl, _, rfl, _, C, rfl, rfl, .inl ⟨by omega, by omega⟩, _, rfl, _, C, rfl, rfl, ((i * C + C : Nat) : Int), congrArg V.int e2, ?_⟩
      refine ⟨p, os.map V.int, rfl, SqL.of (sm _ _ hp), fun l nl => ?_⟩
      rw [cut_row hol hi]
      have hlD : l ≠ D := fun z => by
        rw [z, T1.top] at nl
        cases nl
      refine ⟨_, by rw [upd_ne hlD.symm]; exact T1.top, ?_, rs1 ++ [l], T1.snoc nl hlD, ?_, ?_⟩
      · rw [List.length_map, T1.len]
        exact small1000 (by omega)
      · intro x m
        rcases List.mem_append.mp m with m | m
        · exact hx1 x m
        · rw [List.mem_singleton.mp m]
          exact sm.free nl
      · intro b o e
        rw [upd_ne (ne_of_none e nD), upd_ne (ne_of_none e (sm.free nl))]
        exact sm _ _ e
    · rintro H2 ⟨rs1, T1, hx1, sm⟩
      refine q H2 D rs1 _ (s1.trans sm) (s1.free nD) (fun x hx => s1.free (hx1 x hx)) T1 ?_
      unfold Full
      rw [allV_get hol]
      exact hperm
end
end Tr
namespace Tr
open PySem PySem.Spec PyProof.Rows L2
theorem scPlace : FnScope ["_law_tray_here", "_law_piece", "_law_row", "_law_column"] ["_law_tray_here", "_law_piece"] (defScope sPlace) := ⟨rfl, rfl, rfl, by decide +kernel, rfl, by decide +kernel, by decide +kernel⟩
def spPlace : Sp := fun vs H Q _ => ∃ (a : Addr) (rs : List Addr) (R C : Nat) (f : Fld) (r c : Nat), vs = [.ref a, .int 0] ∧ TrayAt H a rs R C f ∧ Zr R C (f, r, c) ∧ Uniq R C f (r * C + c) ∧ R ≤ 1000 ∧ C ≤ 1000 ∧
  ∀ H' p, Same H H' → H p = none → H' p = some (.tup [.int r, .int c]) → Q (.ref p) H'
section
variable {P : Program} {w : World} {K : PySem.W.Frag} {mg : Str → Option Value} {base : Heap}
theorem ok_place {fa : Addr} {fd : FuncData} {k : Nat} (F : Fun K "_law_place" "_law_place" sPlace fa fd) (mR : mg "range" = none) (mL : mg "len" = none) :
    FnOk P w K mg base CX0 (k + 1) fa fd ["_law_tray_here", "_law_piece"] spPlace := by
  refine F.ok scPlace (fun vs H Q E h => ?_) (fun cdv A outer s H vs Q E hr h => ?_)
  · obtain ⟨a, rs, R, C, f, r, c, rfl, _⟩ := h
    rfl
  · obtain ⟨a, rs, R, C, f, r, c, rfl, T, Z, U, hR, hC, q⟩ := h
    have hrr : r < R := Z.r
    have hcc : c < C := Z.c
    have hz : f (r * C + c) = 0 := Z.z
    refine ⟨_, pss_cons (ps_for PassesOwn.never rfl (pi_range1 rfl mR (pa_cons (pe_callB call_len_seq (by rfl) mL PySem.boot_len (pa_cons (pv 0) pa_nil)) pa_nil)) (pg_name (i := 2) scPlace.nd rfl (.inl rfl))
        (pss_one (ps_for PassesOwn.never rfl (pi_range1 rfl mR (pa_cons (pe_callB call_len_seq (by rfl) mL PySem.boot_len (pa_cons (pe_ix ix_list (pv 0) pe_int (fun _ _ => rfl)) pa_nil)) pa_nil)) (pg_name (i := 3) scPlace.nd rfl (.inl rfl))
          (pss_one (ps_if (pt_cmpR op_eq (pe_ix ix_list (pe_ix ix_list (pv 0) (pv 2) (fun _ _ => rfl)) (pv 3) (fun _ _ => rfl)) (pv 1) (nomark _)) (pss_one (ps_ret (pe_tup (pa_cons (pv 2) (pa_cons (pv 3) pa_nil))))) pss_nil)))))
      (pss_one (ps_ret pe_non)), ?_⟩
    obtain ⟨r0, g1, g2, g3⟩ := T.get (i := 0) (by omega)
    refine ⟨.ref a, rfl, a, _, rfl, .inl (SqL.of T.top), ?_⟩
    rw [List.length_map, T.len]
    refine ⟨(R : Int), rfl, by omega, by omega, ?_⟩
    rw [Int.toNat_natCast]
    refine for_it (walk_range (lo := 0) (n := R)) (fun i σ H' => H' = H ∧ i ≤ r ∧ ∃ v u, σ = [some (.ref a), some (.int 0), v, u]) ⟨rfl, Nat.zero_le _, none, none, rfl⟩ (fun _ _ _ _ _ => True.intro) ?_ ?_
    · rintro i x σ H1 H2 hi ⟨rfl, hir, v, u, rfl⟩ ⟨rfl, rfl⟩
      refine ⟨.ref a, rfl, a, _, 0, _, rfl, rfl, SqL.of T.top, atI_nat (j := 0) g2, r0, _, rfl, .inl (SqL.of g3), ?_⟩
      rw [rowV_len]
      refine ⟨(C : Int), rfl, by omega, by omega, ?_⟩
      rw [Int.toNat_natCast]
      obtain ⟨ri, k1, k2, k3⟩ := T.get hi
      refine for_it (walk_range (lo := 0) (n := C)) (fun j σ H' => H' = H2 ∧ (i = r → j ≤ c) ∧ ∃ u, σ = [some (.ref a), some (.int 0), some (.int (0 + (i : Int))), u]) ⟨rfl, fun _ => Nat.zero_le _, u, rfl⟩ (fun _ _ _ _ _ => True.intro) ?_ ?_
      · rintro j y σ H3 H4 hj ⟨rfl, hjc, u, rfl⟩ ⟨rfl, rfl⟩
        refine ⟨.ref a, rfl, _, rfl, a, _, (i : Int), _, rfl, congrArg V.int (Int.zero_add _), SqL.of T.top, atI_nat k2, _, rfl, ri, _, (j : Int), _, rfl, congrArg V.int (Int.zero_add _), SqL.of k3, atI_nat (rowV_get hj), .int 0, rfl, rfl, _, rfl, decI (fun z => ?_) (fun z => ?_)⟩
        · have z : f (i * C + j) = 0 := V.int.inj z
          obtain ⟨e1, e2⟩ := ix_inj hj hcc (U _ (ix_lt hi hj) z)
          subst e1 e2
          refine ⟨_, rfl, _, rfl, (by show 2 ≤ sizeLine; decide), fun p hp => q _ p (same_upd hp) hp ?_⟩
          rw [upd_same]
          show some (HO.tup [V.int (0 + (i : Int)), V.int (0 + (j : Int))]) = _
          rw [Int.zero_add, Int.zero_add]
        · refine ⟨rfl, fun e => ?_, _, rfl⟩
          have h1 := hjc e
          rcases Nat.lt_or_ge j c with h2 | h2
          · exact h2
          · exfalso
            have h3 : j = c := by omega
            subst e h3
            exact z (congrArg V.int hz)
      · rintro σ H3 ⟨rfl, hjc, u, rfl⟩
        refine ⟨rfl, ?_, _, _, rfl⟩
        rcases Nat.lt_or_ge i r with h2 | h2
        · exact h2
        · have h3 : i = r := by omega
          have := hjc h3
          omega
    · rintro σ H1 ⟨rfl, hir, v, u, rfl⟩
      omega
end
end Tr
namespace Tr
open PySem PySem.Spec PyProof.Rows L2
theorem u_eq : ("u" : Str) = txt [117] := by decide +kernel
theorem d_eq : ("d" : Str) = txt [100] := by decide +kernel
theorem l_eq : ("l" : Str) = txt [108] := by decide +kernel
theorem r_eq : ("r" : Str) = txt [114] := by decide +kernel
theorem key_eq {a b : Nat} : (Sum.inr (txt [a]) : Key) = Sum.inr (txt [b]) ↔ a = b := by
  constructor
  · intro h
    exact List.head_eq_of_cons_eq (txt_inj (Sum.inr.inj h))
  · intro h
    rw [h]
theorem val4 (v1 v2 v3 v4 : V) (l : Nat) : valV [((Sum.inr "u" : Key), v1), (Sum.inr "d", v2), (Sum.inr "l", v3), (Sum.inr "r", v4)] (Sum.inr (txt [l])) =
    if l = 117 then some v1 else if l = 100 then some v2 else if l = 108 then some v3 else if l = 114 then some v4 else none := by
  rw [u_eq, d_eq, l_eq, r_eq]
  unfold valV
  by_cases h1 : l = 117
  · subst h1
    rw [if_pos rfl, List.find?_cons_of_pos (by exact decide_eq_true rfl)]
    rfl
  rw [if_neg h1, List.find?_cons_of_neg (by rw [decide_eq_true_eq, key_eq]; omega)]
  by_cases h2 : l = 100
  · subst h2
    rw [if_pos rfl, List.find?_cons_of_pos (by exact decide_eq_true rfl)]
    rfl
  rw [if_neg h2, List.find?_cons_of_neg (by rw [decide_eq_true_eq, key_eq]; omega)]
  by_cases h3 : l = 108
  · subst h3
    rw [if_pos rfl, List.find?_cons_of_pos (by exact decide_eq_true rfl)]
    rfl
  rw [if_neg h3, List.find?_cons_of_neg (by rw [decide_eq_true_eq, key_eq]; omega)]
  by_cases h4 : l = 114
  · subst h4
    rw [if_pos rfl, List.find?_cons_of_pos (by exact decide_eq_true rfl)]
    rfl
  rw [if_neg h4, List.find?_cons_of_neg (by rw [decide_eq_true_eq, key_eq]; omega)]
  rfl
theorem scSlid : FnScope ["_law_tray_here", "_law_slides", "_law_row", "_law_found", "_law_column", "_law_letter", "_law_down", "_law_right", "_law_high", "_law_wide"] ["_law_tray_here", "_law_slides"] (defScope sSlid) := ⟨rfl, rfl, rfl, by decide +kernel, rfl, by decide +kernel, by decide +kernel⟩
def spSlid : Sp := fun vs H Q _ => ∃ (a : Addr) (rs : List Addr) (R C : Nat) (s : Sl) (ws : List Nat), vs = [.ref a, .str (txt ws)] ∧ TrayAt H a rs R C s.1 ∧ Good R C s ∧
  (∀ s', goAll R C s ws = some s' → ∀ H' p rs', Same H H' → H p = none → (∀ x ∈ rs', H x = none) → TrayAt H' p rs' R C s'.1 → Q (.ref p) H') ∧
  (goAll R C s ws = none → ∀ H', Same H H' → Q .non H')
section
variable {P : Program} {w : World} {K : PySem.W.Frag} {mg : Str → Option Value} {base : Heap}
theorem ok_slid {fa fP : Addr} {fd fdP : FuncData} {k : Nat} (F : Fun K "_law_slid" "_law_slid" sSlid fa fd) (mLi : mg "list" = none) (mL : mg "len" = none)
    (GP : FnOk P w K mg base CX0 (k + 1) fP fdP ["_law_tray_here", "_law_piece"] spPlace) (gP : mg "_law_place" = some (.ref fP)) (kP : PySem.W.keepIn K (.ref fP) = true) (bP : Binds K fdP ["_law_tray_here", "_law_piece"] []) :
    FnOk P w K mg base CX0 (k + 2) fa fd ["_law_tray_here", "_law_slides"] spSlid := by
  refine F.ok scSlid (fun vs H Q E h => ?_) (fun cdv A outer s H vs Q E hr h => ?_)
  · obtain ⟨a, rs, R, C, s, ws, rfl, _⟩ := h
    rfl
  · obtain ⟨a, rs, R, C, ⟨f, r, c⟩, ws, rfl, Ta, g, q, qn⟩ := h
    have hR := g.r6
    have hR0 := g.r0
    have hC := g.c6
    have hu := hu_of hr
    refine ⟨_, pss_cons (ps_setLc (i := 3) (own := [("_law_row", 2)]) (g := gName 2) (tt := tYes) rfl scSlid.nd rfl rfl (sw_true rfl rfl rfl (by decide +kernel)) (pi_list (pv 0))
          (blkOk_by (own := [("_law_row", 2)]) (N := ["_law_tray_here", "_law_slides", "_law_row", "_law_found", "_law_column", "_law_letter", "_law_down", "_law_right", "_law_high", "_law_wide"]) (sc := defScope sSlid) (by decide +kernel))
          (fun _ _ _ _ _ => pg_name (i := 2) scSlid.nd rfl (.inl rfl)) (fun _ _ _ _ _ => pts_nil) (fun _ _ _ _ _ => pe_callTy (r := rListOf K) cr_listOf (by rfl) mLi (by decide +kernel) (pa_cons (pv 2) pa_nil)))
      (pss_cons (ps_asg (pe_call GP hr (by rfl) gP kP bP .nil pass0 (pa_cons (pv 0) (pa_cons pe_int pa_nil))) (pg_tup rfl (pgs_cons (pg_name (i := 2) scSlid.nd rfl (.inl rfl)) (pgs_cons (pg_name (i := 4) scSlid.nd rfl (.inl rfl)) pgs_nil))))
      (pss_cons (ps_for PassesOwn.never rfl (pi_str (pv 1)) (pg_name (i := 5) scSlid.nd rfl (.inl rfl))
        (pss_cons (ps_asg (pe_dget2 hu (pe_disp (pps_cons pe_str (pe_tup (pa_cons (pe_un un_neg pe_int) (pa_cons pe_int pa_nil))) (pps_cons pe_str (pe_tup (pa_cons pe_int (pa_cons pe_int pa_nil))) (pps_cons pe_str (pe_tup (pa_cons pe_int (pa_cons (pe_un un_neg pe_int) pa_nil))) (pps_cons pe_str (pe_tup (pa_cons pe_int (pa_cons pe_int pa_nil))) pps_nil)))) (by rfl) (by rfl) (fun z => by cases z) (by decide)) (pv 5) (pe_tup (pa_cons pe_int (pa_cons pe_int pa_nil))) ⟨rfl, rfl, rfl, rfl⟩)
            (pg_tup rfl (pgs_cons (pg_name (i := 6) scSlid.nd rfl (.inl rfl)) (pgs_cons (pg_name (i := 7) scSlid.nd rfl (.inl rfl)) pgs_nil))))
        (pss_cons (ps_par (i := 8) (j := 9) (by rfl) scSlid.nd rfl rfl (by decide) rfl rfl (pa_cons (pe_op op_add (pv 2) (pv 6)) (pa_cons (pe_op op_add (pv 4) (pv 7)) pa_nil)) (by rfl))
        (pss_cons (ps_if (PW.pt (pw_or (pt_not (pt_chain op_le op_lt pe_int (pv 8) (pe_callB call_len_seq (by rfl) mL PySem.boot_len (pa_cons (pv 0) pa_nil))))
            (pw_or1 (pt_not (pt_chain op_le op_lt pe_int (pv 9) (pe_callB call_len_seq (by rfl) mL PySem.boot_len (pa_cons (pe_ix ix_list (pv 0) pe_int (fun _ _ => rfl)) pa_nil))))))) (pss_one (ps_ret pe_non)) pss_nil)
        (pss_cons (ps_asg (pe_ix ix_list (pe_ix ix_list (pv 3) (pv 8) (fun _ _ => rfl)) (pv 9) (fun _ _ => rfl)) (pg_sub (pe_ix ix_list (pv 3) (pv 2) (fun _ _ => rfl)) (pv 4) set_list))
        (pss_cons (ps_asg pe_int (pg_sub (pe_ix ix_list (pv 3) (pv 8) (fun _ _ => rfl)) (pv 9) set_list))
        (pss_one (ps_par (i := 2) (j := 4) (by rfl) scSlid.nd rfl rfl (by decide) rfl rfl (pa_cons (pv 8) (pa_cons (pv 9) pa_nil)) (by rfl)))))))))
      (pss_one (ps_ret (pv 3))))), ?_⟩
    -- the copy
    refine ⟨_, rfl, a, rfl, ⟨_, SqL.of Ta.top⟩, fun D nD => lc_copy (i := 2) Ta (by omega) nD (by show 2 < 10; decide) fun rs1 H2 s2 nrs T2 => ?_⟩
    refine ⟨_, rfl, a, rs, R, C, f, r, c, rfl, Ta.mono s2, g.z, g.uniq, by omega, by omega, fun H3 p s3 np hp => ?_⟩
    refine ⟨p, _, rfl, SqT.of hp, rfl, _, _, rfl, _, _, rfl, rfl, ?_⟩
    have s03 := s2.trans s3
    -- the slides
    refine ⟨_, rfl, _, rfl, for_it walk_str (fun i σ H' => ∃ f' r' c' v5 v6 v7 v8 v9, goAll R C (f, r, c) (ws.take i) = some (f', r', c') ∧ σ = [some (.ref a), some (.str (txt ws)), some (.int (r' : Nat)), some (.ref D), some (.int (c' : Nat)), v5, v6, v7, v8, v9] ∧ Same H H' ∧ TrayAt H' D rs1 R C f')
      ⟨f, r, c, none, none, none, none, none, rfl, rfl, s03, T2.mono s3⟩ (fun _ _ _ _ _ => True.intro) ?_ ?_⟩
    · rintro i x σ H4 H5 hi ⟨f', r', c', v5, v6, v7, v8, v9, hg, rfl, s4, T4⟩ ⟨rfl, l, hl, rfl⟩
      have hl : ws[i]? = some l := by simpa using hl
      have g' : Good R C (f', r', c') := g.go hg
      -- the dict; what it gives
      refine fun d nd => ?_
      have a0 : Same H5 (upd H5 d (.dK [])) := same_upd nd
      refine ⟨1, rfl, (by show 2 ≤ sizeLine; decide), fun t1 n1 => ?_⟩
      have a1 := same_upd (o := .tup [V.int (-1), V.int 0]) n1
      refine ⟨(by show 2 ≤ sizeLine; decide), fun t2 n2 => ?_⟩
      have a2 := same_upd (o := .tup [V.int 1, V.int 0]) n2
      refine ⟨1, rfl, (by show 2 ≤ sizeLine; decide), fun t3 n3 => ?_⟩
      have a3 := same_upd (o := .tup [V.int 0, V.int (-1)]) n3
      refine ⟨(by show 2 ≤ sizeLine; decide), fun t4 n4 => ?_⟩
      have a4 := same_upd (o := .tup [V.int 0, V.int 1]) n4
      have hd0 : (upd H5 d (.dK [])) d = some (.dK []) := upd_same
      have e1 := a4 _ _ (a3 _ _ (a2 _ _ (upd_same (H := upd H5 d (.dK [])) (a := t1) (o := .tup [V.int (-1), V.int 0]))))
      have e2 := a4 _ _ (a3 _ _ (upd_same (H := upd (upd H5 d (.dK [])) t1 (.tup [V.int (-1), V.int 0])) (a := t2) (o := .tup [V.int 1, V.int 0])))
      have e3 := a4 _ _ (upd_same (H := upd (upd (upd H5 d (.dK [])) t1 (.tup [V.int (-1), V.int 0])) t2 (.tup [V.int 1, V.int 0])) (a := t3) (o := .tup [V.int 0, V.int (-1)]))
      have e4 := upd_same (H := upd (upd (upd (upd H5 d (.dK [])) t1 (.tup [V.int (-1), V.int 0])) t2 (.tup [V.int 1, V.int 0])) t3 (.tup [V.int 0, V.int (-1)])) (a := t4) (o := .tup [V.int 0, V.int 1])
      have hd4 := a4 _ _ (a3 _ _ (a2 _ _ (a1 _ _ hd0)))
      have s6 : Same H5 (upd (upd (upd (upd (upd H5 d (.dK [])) t1 (.tup [V.int (-1), V.int 0])) t2 (.tup [V.int 1, V.int 0])) t3 (.tup [V.int 0, V.int (-1)])) t4 (.tup [V.int 0, V.int 1])) := (((a0.trans a1).trans a2).trans a3).trans a4
      refine ⟨hd4, [(Sum.inr "u", .ref t1), (Sum.inr "d", .ref t2), (Sum.inr "l", .ref t3), (Sum.inr "r", .ref t4)], rfl, (by show 4 ≤ 15; decide), ?_⟩
      rw [show mergeK [] [((Sum.inr "u" : Key), V.ref t1), (Sum.inr "d", .ref t2), (Sum.inr "l", .ref t3), (Sum.inr "r", .ref t4)] = [((Sum.inr "u" : Key), V.ref t1), (Sum.inr "d", .ref t2), (Sum.inr "l", .ref t3), (Sum.inr "r", .ref t4)] from rfl]
      revert e1 e2 e3 e4 hd4 s6
      generalize hH6 : upd (upd (upd (upd (upd H5 d (.dK [])) t1 (.tup [V.int (-1), V.int 0])) t2 (.tup [V.int 1, V.int 0])) t3 (.tup [V.int 0, V.int (-1)])) t4 (.tup [V.int 0, V.int 1]) = H6
      intro e1 e2 e3 e4 hd4 s6
      have nt : ∀ t xs, H6 t = some (.tup xs) → t ≠ d := fun t xs e z => by
        rw [z, hd4] at e
        cases e
      have s7 : Same H5 (upd H6 d (.dK [(Sum.inr "u", V.ref t1), (Sum.inr "d", .ref t2), (Sum.inr "l", .ref t3), (Sum.inr "r", .ref t4)])) := fun b o e => by
        rw [upd_ne (ne_of_none e nd)]
        exact s6 _ _ e
      have f1 : (upd H6 d (.dK [(Sum.inr "u", V.ref t1), (Sum.inr "d", .ref t2), (Sum.inr "l", .ref t3), (Sum.inr "r", .ref t4)])) t1 = _ := (upd_ne (nt _ _ e1)).trans e1
      have f2 : (upd H6 d (.dK [(Sum.inr "u", V.ref t1), (Sum.inr "d", .ref t2), (Sum.inr "l", .ref t3), (Sum.inr "r", .ref t4)])) t2 = _ := (upd_ne (nt _ _ e2)).trans e2
      have f3 : (upd H6 d (.dK [(Sum.inr "u", V.ref t1), (Sum.inr "d", .ref t2), (Sum.inr "l", .ref t3), (Sum.inr "r", .ref t4)])) t3 = _ := (upd_ne (nt _ _ e3)).trans e3
      have f4 : (upd H6 d (.dK [(Sum.inr "u", V.ref t1), (Sum.inr "d", .ref t2), (Sum.inr "l", .ref t3), (Sum.inr "r", .ref t4)])) t4 = _ := (upd_ne (nt _ _ e4)).trans e4
      have fd7 : (upd H6 d (.dK [(Sum.inr "u", V.ref t1), (Sum.inr "d", .ref t2), (Sum.inr "l", .ref t3), (Sum.inr "r", .ref t4)])) d = _ := upd_same
      show ∃ a, V.ref d = V.ref a ∧ IsD (upd H6 d (.dK [(Sum.inr "u", V.ref t1), (Sum.inr "d", .ref t2), (Sum.inr "l", .ref t3), (Sum.inr "r", .ref t4)])) a ∧ _
      generalize upd H6 d (.dK [(Sum.inr "u", V.ref t1), (Sum.inr "d", .ref t2), (Sum.inr "l", .ref t3), (Sum.inr "r", .ref t4)]) = H7 at f1 f2 f3 f4 fd7 s7 ⊢
      refine ⟨d, rfl, .inl ⟨_, .inl fd7⟩, _, rfl, (by show 2 ≤ sizeLine; decide), fun t9 n9 => ?_⟩
      have a9 := same_upd (o := .tup [V.int 9, V.int 9]) n9
      have e9 := upd_same (H := H7) (a := t9) (o := .tup [V.int 9, V.int 9])
      have h1 := a9 _ _ f1
      have h2 := a9 _ _ f2
      have h3 := a9 _ _ f3
      have h4 := a9 _ _ f4
      have hd := a9 _ _ fd7
      have s8 := s7.trans a9
      generalize upd H7 t9 (.tup [V.int 9, V.int 9]) = H8 at a9 e9 h1 h2 h3 h4 hd s8 ⊢
      refine ⟨_, DGet.k (k := Sum.inr (txt [l])) hd, ?_⟩
      have got : ∃ tt, ((valV [((Sum.inr "u" : Key), V.ref t1), (Sum.inr "d", .ref t2), (Sum.inr "l", .ref t3), (Sum.inr "r", .ref t4)] (Sum.inr (txt [l]))).getD (.ref t9)) = .ref tt ∧ H8 tt = some (.tup [.int (stp l).1, .int (stp l).2]) := by
        rw [val4]
        unfold stp
        by_cases z1 : l = 117
        · rw [if_pos z1, if_pos z1]
          exact ⟨t1, rfl, h1⟩
        rw [if_neg z1, if_neg z1]
        by_cases z2 : l = 100
        · rw [if_pos z2, if_pos z2]
          exact ⟨t2, rfl, h2⟩
        rw [if_neg z2, if_neg z2]
        by_cases z3 : l = 108
        · rw [if_pos z3, if_pos z3]
          exact ⟨t3, rfl, h3⟩
        rw [if_neg z3, if_neg z3]
        by_cases z4 : l = 114
        · rw [if_pos z4, if_pos z4]
          exact ⟨t4, rfl, h4⟩
        rw [if_neg z4, if_neg z4]
        exact ⟨t9, rfl, e9⟩
      obtain ⟨tt, ht1, ht2⟩ := got
      refine ⟨tt, _, ht1, SqT.of ht2, rfl, _, _, rfl, _, _, rfl, rfl, ?_⟩
      refine ⟨_, rfl, _, rfl, (r' : Int), (stp l).1, rfl, rfl, _, rfl, _, rfl, (c' : Int), (stp l).2, rfl, rfl, _, _, rfl, ?_⟩
      have T8 := T4.mono s8
      have Ta8 := Ta.mono (s4.trans s8)
      have s48 := s4.trans s8
      obtain ⟨r0, g1, g2, g3⟩ := Ta8.get (i := 0) hR0
      have hlen : ((rs.map V.ref).length : Int) = R := by rw [List.length_map, Ta.len]
      have nn : ¬ (0 ≤ (r' : Int) + (stp l).1 ∧ (r' : Int) + (stp l).1 < R ∧ 0 ≤ (c' : Int) + (stp l).2 ∧ (c' : Int) + (stp l).2 < C) → Q V.non H8 := fun z => qn (goAll_stop hg hl (go1_of_none (nxt_none z))) _ s48
      refine ⟨_, rfl, 0, (r' : Int) + (stp l).1, rfl, rfl, _, rfl, decI (fun z1 => ?_) (fun z1 => ⟨_, rfl, iteT (iteT (nn fun z => z1 z.1))⟩)⟩
      refine ⟨.ref a, rfl, a, _, rfl, .inl (SqL.of Ta8.top), _, _, rfl, rfl, _, rfl, ?_⟩
      rw [hlen]
      by_cases z2 : (r' : Int) + (stp l).1 < R
      case neg =>
        rw [decide_eq_false z2]
        exact iteT (iteT (nn fun z => z2 z.2.1))
      rw [decide_eq_true z2]
      refine iteF ?_
      refine ⟨_, rfl, 0, (c' : Int) + (stp l).2, rfl, rfl, _, rfl, decI (fun z3 => ?_) (fun z3 => ⟨_, rfl, iteT (nn fun z => z3 z.2.2.1)⟩)⟩
      refine ⟨.ref a, rfl, a, _, 0, _, rfl, rfl, SqL.of Ta8.top, atI_nat (j := 0) g2, r0, _, rfl, .inl (SqL.of g3), _, _, rfl, rfl, _, rfl, ?_⟩
      rw [rowV_len]
      by_cases z4 : (c' : Int) + (stp l).2 < C
      case neg =>
        rw [decide_eq_false z4]
        exact iteT (nn fun z => z4 z.2.2.2)
      rw [decide_eq_true z4]
      refine iteF ?_
      obtain ⟨r2, hr2⟩ := Int.eq_ofNat_of_zero_le z1
      obtain ⟨c2, hc2⟩ := Int.eq_ofNat_of_zero_le z3
      have hn : nxt R C r' c' l = some (r2, c2) := by
        rw [nxt_some ⟨z1, z2, z3, z4⟩, hr2, hc2, Int.toNat_natCast, Int.toNat_natCast]
      obtain ⟨_, _, hr2', hc2'⟩ := nxt_eq hn
      have hc' : c' < C := g'.z.c
      obtain ⟨ra, a1', a2', a3'⟩ := T8.get g'.z.r
      obtain ⟨rb, b1, b2, b3⟩ := T8.get hr2'
      refine ⟨.ref D, rfl, _, rfl, D, _, (r2 : Int), _, rfl, congrArg V.int hr2, SqL.of T8.top, atI_nat b2, _, rfl, rb, _, (c2 : Int), _, rfl, congrArg V.int hc2, SqL.of b3, atI_nat (rowV_get hc2'), ?_⟩
      refine ⟨.ref D, rfl, _, rfl, D, _, (r' : Int), _, rfl, rfl, SqL.of T8.top, atI_nat a2', _, rfl, ra, _, (c' : Int), c', rfl, rfl, a3', by rw [rowV_len]; exact ixN_nat hc', ?_⟩
      have T9 := T8.put (v := f' (r2 * C + c2)) a1' hc'
      obtain ⟨rb', b1', b2', b3'⟩ := T9.get hr2'
      rw [b1] at b1'
      cases b1'
      refine ⟨.ref D, rfl, _, rfl, D, _, (r2 : Int), _, rfl, congrArg V.int hr2, SqL.of T9.top, atI_nat b2', _, rfl, rb, _, (c2 : Int), c2, rfl, congrArg V.int hc2, b3', by rw [rowV_len]; exact ixN_nat hc2', ?_⟩
      have T10 := T9.put (v := 0) b1 hc2'
      refine ⟨_, rfl, _, rfl, _, _, rfl, put2 f' (r' * C + c') (r2 * C + c2), r2, c2, some (.str (txt [l])), some (.int (stp l).1), some (.int (stp l).2), some (.int ((r' : Int) + (stp l).1)), some (.int ((c' : Int) + (stp l).2)), ?_, ?_, ?_, T10⟩
      · rw [goAll_take hg hl, go1_of_nxt hn]
      · rw [← hr2, ← hc2]
        rfl
      · intro b o e
        have nb : ∀ y ∈ rs1, b ≠ y := fun y hy z => by
          have h1 := nrs y hy
          rw [← z, e] at h1
          cases h1
        rw [upd_ne (nb _ (List.mem_of_getElem? b1)), upd_ne (nb _ (List.mem_of_getElem? a1'))]
        exact s48 _ _ e
    · rintro σ H4 ⟨f', r', c', v5, v6, v7, v8, v9, hg, rfl, s4, T4⟩
      have e : ws.take (txt ws).cps.size = ws := by
        show ws.take ws.toArray.size = ws
        rw [List.size_toArray, List.take_length]
      rw [e] at hg
      exact ⟨_, rfl, q _ hg H4 D rs1 s4 nD nrs T4⟩
end
end Tr
namespace Tr
open PySem PySem.Spec PyProof.Rows L2
theorem ud_eq : ("ud" : Str) = txt [117, 100] := by decide +kernel
theorem lr_eq : ("lr" : Str) = txt [108, 114] := by decide +kernel
theorem scWalk : FnScope ["_law_tray_here", "_law_cells", "_law_row", "_law_column", "_law_found", "_law_cell", "_law_letter"] ["_law_tray_here", "_law_cells"] (defScope sWalk) := ⟨rfl, rfl, rfl, by decide +kernel, rfl, by decide +kernel, by decide +kernel⟩
def spWalk (K : PySem.W.Frag) : Sp := fun vs H Q _ => ∃ (a b : Addr) (rs : List Addr) (R C : Nat) (s : Sl) (ns : List Int), vs = [.ref a, .ref b] ∧ TrayAt H a rs R C s.1 ∧ Good R C s ∧ SqL K H b (ns.map V.int) ∧ ns.length ≤ 500 ∧
  ∀ (ws : List Nat) (s' : Sl) H', Same H H' → goAll R C s ws = some s' → (∀ l ∈ ws, okL l) → ws.length ≤ ns.length → Q (.str (txt ws)) H'
theorem go_more {R C r c w r2 c2 : Nat} {f : Fld} {s : Sl} {ws : List Nat} (h : goAll R C s ws = some (f, r, c)) (hn : nxt R C r c w = some (r2, c2)) : ∃ f2, goAll R C s (ws ++ [w]) = some (f2, r2, c2) := by
  refine ⟨put2 f (r * C + c) (r2 * C + c2), ?_⟩
  rw [goAll_append, h]
  show goAll R C (f, r, c) [w] = _
  rw [goAll_one, go1_of_nxt hn]
theorem nxt_at {R C r c w r2 c2 : Nat} (h1 : (r2 : Int) = r + (stp w).1) (h2 : (c2 : Int) = c + (stp w).2) (h3 : r2 < R) (h4 : c2 < C) : nxt R C r c w = some (r2, c2) := by
  rw [nxt_some (by omega)]
  rw [← h1, ← h2, Int.toNat_natCast, Int.toNat_natCast]
theorem ok_more {ws : List Nat} {w : Nat} (h : ∀ l ∈ ws, okL l) (hw : okL w) : ∀ l ∈ ws ++ [w], okL l := by
  intro l m
  rcases List.mem_append.mp m with m | m
  · exact h l m
  · rw [List.mem_singleton.mp m]
    exact hw
theorem udlr_at {n : Int} (h0 : 0 ≤ n) (h4 : n < 4) : ∃ l, okL l ∧ atI udlr n = some l := by
  obtain ⟨k, rfl⟩ := Int.eq_ofNat_of_zero_le h0
  have hk : k < udlr.length := by
    show k < 4
    omega
  refine ⟨udlr[k], ?_, atI_nat (List.getElem?_eq_getElem hk)⟩
  have m : udlr[k] ∈ udlr := List.getElem_mem hk
  revert m
  generalize udlr[k] = l
  unfold udlr okL
  simp
section
variable {P : Program} {w : World} {K : PySem.W.Frag} {mg : Str → Option Value} {base : Heap}
theorem ok_walk {fa fP : Addr} {fd fdP : FuncData} {k : Nat} (F : Fun K "_law_walk" "_law_walk" sWalk fa fd) (mL : mg "len" = none)
    (GP : FnOk P w K mg base CX0 (k + 1) fP fdP ["_law_tray_here", "_law_piece"] spPlace) (gP : mg "_law_place" = some (.ref fP)) (kP : PySem.W.keepIn K (.ref fP) = true) (bP : Binds K fdP ["_law_tray_here", "_law_piece"] []) :
    FnOk P w K mg base CX0 (k + 2) fa fd ["_law_tray_here", "_law_cells"] (spWalk K) := by
  refine F.ok scWalk (fun vs H Q E h => ?_) (fun cdv A outer s H vs Q E hr h => ?_)
  · obtain ⟨a, b, rs, R, C, s, ns, rfl, _⟩ := h
    rfl
  · obtain ⟨a, b, rs, R, C, ⟨f, r, c⟩, ns, rfl, Ta, g, hS, hns, q⟩ := h
    have hR := g.r6
    have hR0 := g.r0
    have hC := g.c6
    refine ⟨_, pss_cons (ps_asg (pe_call GP hr (by rfl) gP kP bP .nil pass0 (pa_cons (pv 0) (pa_cons pe_int pa_nil))) (pg_tup rfl (pgs_cons (pg_name (i := 2) scWalk.nd rfl (.inl rfl)) (pgs_cons (pg_name (i := 3) scWalk.nd rfl (.inl rfl)) pgs_nil))))
      (pss_cons (ps_set (i := 4) scWalk.nd rfl (.inl rfl) pe_str)
      (pss_cons (ps_for PassesOwn.never rfl (pi_list (pv 1)) (pg_name (i := 5) scWalk.nd rfl (.inl rfl))
        (pss_cons (ps_set (i := 6) scWalk.nd rfl (.inl rfl) (pe_ix ix_str pe_str (pe_op op_mod (pv 5) pe_int) (fun _ _ => rfl)))
        (pss_one (ps_if (PW.pt (pw_and (pt_cmpR op_in_sign (pv 6) pe_str rfl) (pw_and1 (pt_cmpR op_gt (pe_callB call_len_seq (by rfl) mL PySem.boot_len (pa_cons (pv 0) pa_nil)) pe_int (nomark _)))))
          (C8.pss_cut (ps_set (i := 6) scWalk.nd rfl (.inl rfl) (pe_ifExp (pt_cmpR op_eq (pv 2) pe_int (nomark _)) pe_str (pe_ifExp (pt_cmpR op_eq (pv 2) (pe_op op_sub (pe_callB call_len_seq (by rfl) mL PySem.boot_len (pa_cons (pv 0) pa_nil)) pe_int) (nomark _)) pe_str (pv 6))))
          (C8.pss_cut (ps_set (i := 2) scWalk.nd rfl (.inl rfl) (pe_ifExp (pt_cmpR op_eq (pv 6) pe_str (nomark _)) (pe_op op_add (pv 2) pe_int) (pe_op op_sub (pv 2) pe_int)))
          (pss_one (ps_set (i := 4) scWalk.nd rfl (.inl rfl) (pe_op op_add_str (pv 4) (pv 6))))))
          (pss_one (ps_if (PW.pt (pw_and (pt_cmpR op_in_sign (pv 6) pe_str rfl) (pw_and1 (pt_cmpR op_gt (pe_callB call_len_seq (by rfl) mL PySem.boot_len (pa_cons (pe_ix ix_list (pv 0) pe_int (fun _ _ => rfl)) pa_nil)) pe_int (nomark _)))))
            (C8.pss_cut (ps_set (i := 6) scWalk.nd rfl (.inl rfl) (pe_ifExp (pt_cmpR op_eq (pv 3) pe_int (nomark _)) pe_str (pe_ifExp (pt_cmpR op_eq (pv 3) (pe_op op_sub (pe_callB call_len_seq (by rfl) mL PySem.boot_len (pa_cons (pe_ix ix_list (pv 0) pe_int (fun _ _ => rfl)) pa_nil)) pe_int) (nomark _)) pe_str (pv 6))))
            (C8.pss_cut (ps_set (i := 3) scWalk.nd rfl (.inl rfl) (pe_ifExp (pt_cmpR op_eq (pv 6) pe_str (nomark _)) (pe_op op_add (pv 3) pe_int) (pe_op op_sub (pv 3) pe_int)))
            (pss_one (ps_set (i := 4) scWalk.nd rfl (.inl rfl) (pe_op op_add_str (pv 4) (pv 6))))))
            pss_nil))))))
      (pss_one (ps_ret (pv 4))))), ?_⟩
    refine ⟨_, rfl, a, rs, R, C, f, r, c, rfl, Ta, g.z, g.uniq, by omega, by omega, fun H1 p s1 np hp => ?_⟩
    refine ⟨p, _, rfl, SqT.of hp, rfl, _, _, rfl, _, _, rfl, rfl, ?_⟩
    have T1 := Ta.mono s1
    have hS1 := s1.seq hS
    obtain ⟨r0, g1, g2, g3⟩ := T1.get (i := 0) hR0
    have hlen : ((rs.map V.ref).length : Int) = R := by rw [List.length_map, Ta.len]
    refine ⟨_, rfl, b, rfl, ⟨_, hS1⟩, for_list (K := K) (a := b) (xs := ns.map V.int) (fun i σ H' => H' = H1 ∧ ∃ (ws : List Nat) (f' : Fld) (r' c' : Nat) (v5 v6 : Option V), goAll R C (f, r, c) ws = some (f', r', c') ∧ (∀ l ∈ ws, okL l) ∧ ws.length ≤ i ∧ σ = [some (.ref a), some (.ref b), some (.int (r' : Nat)), some (.int (c' : Nat)), some (.str (txt ws)), v5, v6])
      ⟨rfl, [], f, r, c, none, none, rfl, (fun l h => by cases h), Nat.le_refl _, ?_⟩ (fun i σ H' _ p => p.1 ▸ hS1) ?_ ?_⟩
    · rw [empty_eq]
      rfl
    · rintro i x σ H2 hx ⟨rfl, ws, f', r', c', v5, v6, hg, hok, hwl, rfl⟩
      have hil : i < ns.length := by
        have := (List.getElem?_eq_some_iff.mp hx).1
        rwa [List.length_map] at this
      obtain ⟨z, rfl⟩ : ∃ z, x = V.int z := by
        rw [List.getElem?_map] at hx
        cases e : ns[i]? with
        | none => rw [e] at hx; cases hx
        | some z => rw [e] at hx; exact ⟨z, (Option.some.inj hx).symm⟩
      have g' : Good R C (f', r', c') := g.go hg
      have hr' : r' < R := g'.z.r
      have hc' : c' < C := g'.z.c
      have hws : ∀ l : Nat, (txt ws).length + (txt [l]).length ≤ sizeLine := fun l => by
        rw [txt_len, txt_len]
        exact Nat.le_of_lt (small1000 (by show ws.length + 1 ≤ 1000; omega))
      obtain ⟨l, hl, hat⟩ := udlr_at (Int.emod_nonneg z (b := 4) (by decide)) (Int.emod_lt_of_pos z (b := 4) (by decide))
      refine ⟨_, rfl, z, 4, rfl, rfl, (by show (0 : Int) < 4; decide), "udlr", _, l, rfl, rfl, (by show 4 ≤ sizeLine; decide), by rw [udlr_eq]; exact hat, ?_⟩
      refine ⟨_, rfl, l, "ud", rfl, rfl, _, rfl, ?_⟩
      rw [ud_eq]
      have stay : ∀ σ : L2.St, σ = [some (.ref a), some (.ref b), some (.int (r' : Nat)), some (.int (c' : Nat)), some (.str (txt ws)), some (.int z), some (.str (txt [l]))] → H2 = H2 ∧ ∃ (ws : List Nat) (f' : Fld) (r' c' : Nat) (v5 v6 : Option V), goAll R C (f, r, c) ws = some (f', r', c') ∧ (∀ l ∈ ws, okL l) ∧ ws.length ≤ i + 1 ∧ σ = [some (.ref a), some (.ref b), some (.int (r' : Nat)), some (.int (c' : Nat)), some (.str (txt ws)), v5, v6] := by
        rintro σ rfl
        exact ⟨rfl, ws, f', r', c', _, _, hg, hok, by omega, rfl⟩
      have step : ∀ (w r2 c2 : Nat) (σ : L2.St), okL w → nxt R C r' c' w = some (r2, c2) → σ = [some (.ref a), some (.ref b), some (.int (r2 : Nat)), some (.int (c2 : Nat)), some (.str (txt (ws ++ [w]))), some (.int z), some (.str (txt [w]))] → H2 = H2 ∧ ∃ (ws : List Nat) (f' : Fld) (r' c' : Nat) (v5 v6 : Option V), goAll R C (f, r, c) ws = some (f', r', c') ∧ (∀ l ∈ ws, okL l) ∧ ws.length ≤ i + 1 ∧ σ = [some (.ref a), some (.ref b), some (.int (r' : Nat)), some (.int (c' : Nat)), some (.str (txt ws)), v5, v6] := by
        rintro w r2 c2 σ hw hn rfl
        obtain ⟨f2, h2⟩ := go_more hg hn
        exact ⟨rfl, ws ++ [w], f2, r2, c2, _, _, h2, ok_more hok hw, by rw [List.length_append]; show ws.length + 1 ≤ i + 1; omega, rfl⟩
      -- the second test, asked where the first falls
      have second : ∀ (σ : L2.St), σ = [some (.ref a), some (.ref b), some (.int (r' : Nat)), some (.int (c' : Nat)), some (.str (txt ws)), some (.int z), some (.str (txt [l]))] → True := fun _ _ => True.intro
      refine decI (fun m => ?_) (fun m => ?_)
      · refine ⟨.ref a, rfl, a, _, rfl, .inl (SqL.of T1.top), _, 1, rfl, rfl, _, rfl, ?_⟩
        rw [hlen]
        refine decI (fun hb => ?_) (fun hb => ?_)
        · -- up and down
          refine ⟨fun σ H' => H2 = H' ∧ ∃ w, ((w = 100 ∧ r' + 1 < R) ∨ (w = 117 ∧ 0 < r')) ∧ σ = [some (.ref a), some (.ref b), some (.int (r' : Nat)), some (.int (c' : Nat)), some (.str (txt ws)), some (.int z), some (.str (txt [w]))], ?_, ?_⟩
          · refine ⟨_, rfl, rfl, _, rfl, decI (fun e => ?_) (fun e => ?_)⟩
            · have e : (r' : Int) = 0 := V.int.inj e
              refine ⟨rfl, 100, .inl ⟨rfl, by omega⟩, ?_⟩
              rw [d_eq]
              rfl
            · have e : ¬ (r' : Int) = 0 := fun z => e (congrArg V.int z)
              refine ⟨_, rfl, .ref a, rfl, a, _, rfl, .inl (SqL.of T1.top), _, 1, rfl, rfl, rfl, _, rfl, ?_⟩
              rw [hlen]
              refine decI (fun e2 => ?_) (fun e2 => ?_)
              · refine ⟨rfl, 117, .inr ⟨rfl, by omega⟩, ?_⟩
                rw [u_eq]
                rfl
              · have e2 : ¬ (r' : Int) = (R : Int) - 1 := fun z => e2 (congrArg V.int z)
                refine ⟨_, rfl, rfl, l, ?_, rfl⟩
                have m : l ∈ [117, 100] := m
                rcases List.mem_cons.mp m with m | m
                · exact .inr ⟨m, by omega⟩
                · exact .inl ⟨List.mem_singleton.mp m, by omega⟩
          · rintro σ' H' ⟨rfl, w, hw, rfl⟩
            refine ⟨fun σ H' => H2 = H' ∧ ∃ r2 : Nat, okL w ∧ nxt R C r' c' w = some (r2, c') ∧ σ = [some (.ref a), some (.ref b), some (.int (r2 : Nat)), some (.int (c' : Nat)), some (.str (txt ws)), some (.int z), some (.str (txt [w]))], ?_, ?_⟩
            · refine ⟨_, rfl, rfl, _, rfl, ?_⟩
              rw [d_eq]
              rcases hw with ⟨rfl, hlt⟩ | ⟨rfl, hgt⟩
              · rw [decide_eq_true rfl]
                refine iteT ?_
                refine ⟨_, rfl, _, 1, rfl, rfl, rfl, r' + 1, .inr (.inl rfl), nxt_at (by show ((r' + 1 : Nat) : Int) = (r' : Int) + 1; omega) (by show (c' : Int) = (c' : Int) + 0; omega) hlt hc', ?_⟩
                rw [Int.natCast_add]
                rfl
              · rw [decide_eq_false (by intro e; exact absurd (List.head_eq_of_cons_eq (txt_inj (V.str.inj e))) (by decide))]
                refine iteF ?_
                obtain ⟨r2, rfl⟩ : ∃ r2, r' = r2 + 1 := ⟨r' - 1, by omega⟩
                refine ⟨_, rfl, _, 1, rfl, rfl, rfl, r2, .inl rfl, nxt_at (by show (r2 : Int) = ((r2 + 1 : Nat) : Int) + -1; omega) (by show (c' : Int) = (c' : Int) + 0; omega) (by omega) hc', ?_⟩
                have e3 : ((r2 + 1 : Nat) : Int) - 1 = (r2 : Int) := by omega
                show [_, _, some (V.int (((r2 + 1 : Nat) : Int) - 1)), _, _, _, _] = _
                rw [e3]
            · rintro σ' H' ⟨rfl, r2, hwo, hn, rfl⟩
              refine ⟨_, rfl, _, rfl, _, _, rfl, rfl, hws w, step w r2 c' _ hwo hn ?_⟩
              rw [txt_add]
              rfl
        · skip
          refine ⟨_, rfl, l, "lr", rfl, rfl, _, rfl, ?_⟩
          rw [lr_eq]
          refine decI (fun m2 => ?_) (fun m2 => iteF (stay _ rfl))
          refine ⟨.ref a, rfl, a, _, 0, _, rfl, rfl, SqL.of T1.top, atI_nat (j := 0) g2, r0, _, rfl, .inl (SqL.of g3), _, 1, rfl, rfl, _, rfl, ?_⟩
          rw [rowV_len]
          refine decI (fun hb2 => ?_) (fun hb2 => stay _ rfl)
          refine ⟨fun σ H' => H2 = H' ∧ ∃ w, ((w = 114 ∧ c' + 1 < C) ∨ (w = 108 ∧ 0 < c')) ∧ σ = [some (.ref a), some (.ref b), some (.int (r' : Nat)), some (.int (c' : Nat)), some (.str (txt ws)), some (.int z), some (.str (txt [w]))], ?_, ?_⟩
          · refine ⟨_, rfl, rfl, _, rfl, decI (fun e => ?_) (fun e => ?_)⟩
            · have e : (c' : Int) = 0 := V.int.inj e
              refine ⟨rfl, 114, .inl ⟨rfl, by omega⟩, ?_⟩
              rw [r_eq]
              rfl
            · have e : ¬ (c' : Int) = 0 := fun z => e (congrArg V.int z)
              refine ⟨_, rfl, .ref a, rfl, a, _, 0, _, rfl, rfl, SqL.of T1.top, atI_nat (j := 0) g2, r0, _, rfl, .inl (SqL.of g3), _, 1, rfl, rfl, rfl, _, rfl, ?_⟩
              rw [rowV_len]
              refine decI (fun e2 => ?_) (fun e2 => ?_)
              · refine ⟨rfl, 108, .inr ⟨rfl, by omega⟩, ?_⟩
                rw [l_eq]
                rfl
              · have e2 : ¬ (c' : Int) = (C : Int) - 1 := fun z => e2 (congrArg V.int z)
                refine ⟨_, rfl, rfl, l, ?_, rfl⟩
                have m : l ∈ [108, 114] := m2
                rcases List.mem_cons.mp m with m | m
                · exact .inr ⟨m, by omega⟩
                · exact .inl ⟨List.mem_singleton.mp m, by omega⟩
          · rintro σ' H' ⟨rfl, w, hw, rfl⟩
            refine ⟨fun σ H' => H2 = H' ∧ ∃ c2 : Nat, okL w ∧ nxt R C r' c' w = some (r', c2) ∧ σ = [some (.ref a), some (.ref b), some (.int (r' : Nat)), some (.int (c2 : Nat)), some (.str (txt ws)), some (.int z), some (.str (txt [w]))], ?_, ?_⟩
            · refine ⟨_, rfl, rfl, _, rfl, ?_⟩
              rw [r_eq]
              rcases hw with ⟨rfl, hlt⟩ | ⟨rfl, hgt⟩
              · rw [decide_eq_true rfl]
                refine iteT ?_
                refine ⟨_, rfl, _, 1, rfl, rfl, rfl, c' + 1, .inr (.inr (.inr rfl)), nxt_at (by show (r' : Int) = (r' : Int) + 0; omega) (by show ((c' + 1 : Nat) : Int) = (c' : Int) + 1; omega) hr' hlt, ?_⟩
                rw [Int.natCast_add]
                rfl
              · rw [decide_eq_false (by intro e; exact absurd (List.head_eq_of_cons_eq (txt_inj (V.str.inj e))) (by decide))]
                refine iteF ?_
                obtain ⟨c2, rfl⟩ : ∃ c2, c' = c2 + 1 := ⟨c' - 1, by omega⟩
                refine ⟨_, rfl, _, 1, rfl, rfl, rfl, c2, .inr (.inr (.inl rfl)), nxt_at (by show (r' : Int) = (r' : Int) + 0; omega) (by show (c2 : Int) = ((c2 + 1 : Nat) : Int) + -1; omega) hr' (by omega), ?_⟩
                have e3 : ((c2 + 1 : Nat) : Int) - 1 = (c2 : Int) := by omega
                show [_, _, _, some (V.int (((c2 + 1 : Nat) : Int) - 1)), _, _, _] = _
                rw [e3]
            · rintro σ' H' ⟨rfl, c2, hwo, hn, rfl⟩
              refine ⟨_, rfl, _, rfl, _, _, rfl, rfl, hws w, step w r' c2 _ hwo hn ?_⟩
              rw [txt_add]
              rfl
      · refine iteF ?_
        refine ⟨_, rfl, l, "lr", rfl, rfl, _, rfl, ?_⟩
        rw [lr_eq]
        refine decI (fun m2 => ?_) (fun m2 => iteF (stay _ rfl))
        refine ⟨.ref a, rfl, a, _, 0, _, rfl, rfl, SqL.of T1.top, atI_nat (j := 0) g2, r0, _, rfl, .inl (SqL.of g3), _, 1, rfl, rfl, _, rfl, ?_⟩
        rw [rowV_len]
        refine decI (fun hb2 => ?_) (fun hb2 => stay _ rfl)
        refine ⟨fun σ H' => H2 = H' ∧ ∃ w, ((w = 114 ∧ c' + 1 < C) ∨ (w = 108 ∧ 0 < c')) ∧ σ = [some (.ref a), some (.ref b), some (.int (r' : Nat)), some (.int (c' : Nat)), some (.str (txt ws)), some (.int z), some (.str (txt [w]))], ?_, ?_⟩
        · refine ⟨_, rfl, rfl, _, rfl, decI (fun e => ?_) (fun e => ?_)⟩
          · have e : (c' : Int) = 0 := V.int.inj e
            refine ⟨rfl, 114, .inl ⟨rfl, by omega⟩, ?_⟩
            rw [r_eq]
            rfl
          · have e : ¬ (c' : Int) = 0 := fun z => e (congrArg V.int z)
            refine ⟨_, rfl, .ref a, rfl, a, _, 0, _, rfl, rfl, SqL.of T1.top, atI_nat (j := 0) g2, r0, _, rfl, .inl (SqL.of g3), _, 1, rfl, rfl, rfl, _, rfl, ?_⟩
            rw [rowV_len]
            refine decI (fun e2 => ?_) (fun e2 => ?_)
            · refine ⟨rfl, 108, .inr ⟨rfl, by omega⟩, ?_⟩
              rw [l_eq]
              rfl
            · have e2 : ¬ (c' : Int) = (C : Int) - 1 := fun z => e2 (congrArg V.int z)
              refine ⟨_, rfl, rfl, l, ?_, rfl⟩
              have m : l ∈ [108, 114] := m2
              rcases List.mem_cons.mp m with m | m
              · exact .inr ⟨m, by omega⟩
              · exact .inl ⟨List.mem_singleton.mp m, by omega⟩
        · rintro σ' H' ⟨rfl, w, hw, rfl⟩
          refine ⟨fun σ H' => H2 = H' ∧ ∃ c2 : Nat, okL w ∧ nxt R C r' c' w = some (r', c2) ∧ σ = [some (.ref a), some (.ref b), some (.int (r' : Nat)), some (.int (c2 : Nat)), some (.str (txt ws)), some (.int z), some (.str (txt [w]))], ?_, ?_⟩
          · refine ⟨_, rfl, rfl, _, rfl, ?_⟩
            rw [r_eq]
            rcases hw with ⟨rfl, hlt⟩ | ⟨rfl, hgt⟩
            · rw [decide_eq_true rfl]
              refine iteT ?_
              refine ⟨_, rfl, _, 1, rfl, rfl, rfl, c' + 1, .inr (.inr (.inr rfl)), nxt_at (by show (r' : Int) = (r' : Int) + 0; omega) (by show ((c' + 1 : Nat) : Int) = (c' : Int) + 1; omega) hr' hlt, ?_⟩
              rw [Int.natCast_add]
              rfl
            · rw [decide_eq_false (by intro e; exact absurd (List.head_eq_of_cons_eq (txt_inj (V.str.inj e))) (by decide))]
              refine iteF ?_
              obtain ⟨c2, rfl⟩ : ∃ c2, c' = c2 + 1 := ⟨c' - 1, by omega⟩
              refine ⟨_, rfl, _, 1, rfl, rfl, rfl, c2, .inr (.inr (.inl rfl)), nxt_at (by show (r' : Int) = (r' : Int) + 0; omega) (by show (c2 : Int) = ((c2 + 1 : Nat) : Int) + -1; omega) hr' (by omega), ?_⟩
              have e3 : ((c2 + 1 : Nat) : Int) - 1 = (c2 : Int) := by omega
              show [_, _, _, some (V.int (((c2 + 1 : Nat) : Int) - 1)), _, _, _] = _
              rw [e3]
          · rintro σ' H' ⟨rfl, c2, hwo, hn, rfl⟩
            refine ⟨_, rfl, _, rfl, _, _, rfl, rfl, hws w, step w r' c2 _ hwo hn ?_⟩
            rw [txt_add]
            rfl
    · rintro σ H2 ⟨rfl, ws, f', r', c', v5, v6, hg, hok, hwl, rfl⟩
      rw [List.length_map] at hwl
      exact ⟨_, rfl, q ws _ _ s1 hg hok hwl⟩
end
end Tr
namespace Tr
open PySem PySem.Spec PyProof.Rows L2
theorem PSs_given {X : Cx} {st : List Stmt} {T : TS} {p : Prop} (h : p → PSs X st T) : PSs X st (fun D σ H => p ∧ T D σ H) := ⟨fun pins s σ H D I q => (h q.1).run pins s σ H D I q.2⟩
/-- isinstance(e, (c1, ..)), e the exception that the suite holds -/
def rIsET (K : PySem.W.Frag) (D a : Addr) : List V → Hp → VK → Prop := fun xs H Q => ∃ (tp : Addr) (cs : List V) (us : List Value) (b : Bool), xs = [.ref a, .ref tp] ∧ H tp = some (.tup cs) ∧ Paired ClsV cs us ∧ PySem.W.kitAny K (.ref D) us = some b ∧ Q (.bl b) H
theorem call_isET {X : Cx} {a D : Addr} {oe : Obj} {pn : List (Addr × Obj)} (C : ExcC X.K D) (hz : Zc (.ref D) none oe) (hf : ∃ vs, oe.data = .fields vs) : CallR (X.suite a ((a, oe) :: pn)) (.builtin "isinstance") (rIsET X.K D a) := by
  intro pins s σ H xs us Q I r h
  obtain ⟨tp, cs, ws, b, rfl, hT, k, e, q⟩ := h
  cases r with
  | cons rx rr =>
    cases rr with
    | cons rt rr =>
      cases rr
      cases rx
      cases rt
      obtain ⟨hget, _⟩ := I.pin (a, oe) (List.mem_append.mpr (.inl List.mem_cons_self))
      obtain ⟨vs, hv⟩ := hf
      have J : PySem.W.InstAt s.heap a oe D none := by
        obtain ⟨oc, od, oda, osl⟩ := oe
        obtain ⟨h1, h2⟩ := hz
        dsimp only at h1 h2 hv
        subst h1 h2 hv
        exact ⟨hget, rfl, rfl, trivial⟩
      obtain ⟨_, its, rv, o, h1, h2, n, h3⟩ := (show ObjOk X.prog X.w H s.heap tp (.tup cs) from I.hok tp _ hT)
      have e3 := ClsV.all k rv
      subst e3
      obtain ⟨oc, od, dt, sl⟩ := o
      simp only at h2 h3
      subst h2 h3
      exact PySem.W.kia_tup (PySem.W.handS_kitx_exc C.hg C.hk C.hs C.hd C.ha C.hn C.ht C.hm) I.kIn J h1 e (fun z => nomatch z) fun tk => ⟨.bl b, H, I.kept (t' := tk) fun _ _ z => z, rfl, q⟩
theorem scNone : FnScope ["_law_tray_here", "_law_slides", "error"] ["_law_tray_here", "_law_slides"] (defScope sNone) := ⟨rfl, rfl, rfl, by decide +kernel, rfl, by decide +kernel, by decide +kernel⟩
def spNone : Sp := fun vs H Q _ => ∃ (a : Addr) (rs : List Addr) (R C : Nat) (s : Sl) (ws : List Nat), vs = [.ref a, .str (txt ws)] ∧ TrayAt H a rs R C s.1 ∧ Good R C s ∧ ∀ H', Same H H' → Q (.bl (decide (goAll R C s ws = none))) H'
/-- the classes of the errors, as _law_none asks them -/
structure ErrT (K : PySem.W.Frag) (mg : Str → Option Value) (CE CS CT CU : Addr) : Prop where
  gE : mg "TrayError" = some (.ref CE)
  gS : mg "BadSlides" = some (.ref CS)
  gT : mg "BadTray" = some (.ref CT)
  gU : mg "Unlike" = some (.ref CU)
  ex : PySem.W.exmOne K (.ref CS) (.ref CE) = some true
  c : ExcC K CS
  s : PySem.W.kitOne K (.ref CS) (.ref CS) = some true
  t : PySem.W.kitOne K (.ref CS) (.ref CT) = some false
  u : PySem.W.kitOne K (.ref CS) (.ref CU) = some false
section
variable {P : Program} {w : World} {K : PySem.W.Frag} {mg : Str → Option Value} {base : Heap}
def tSuiteNone (K : PySem.W.Frag) (CS CT CU : Addr) : Addr → Value → Option Addr → TS := fun a cls d D σ H => (cls = .ref CS ∧ d = none) ∧
  tRet (tAndV (tCB (rIsE K CS a) (tCons (tVar 2) (tCons (tC (.ref CS)) tNil))) (tNotV (tCB (rIsET K CS a) (tCons (tVar 2) (tCons (tTup (tCons (tC (.ref CT)) (tCons (tC (.ref CU)) tNil))) tNil))))) D σ H
theorem ok_none {fa fM CE CS CT CU : Addr} {fd fdM : FuncData} {k : Nat} (F : Fun K "_law_none" "_law_none" sNone fa fd) (mI : mg "isinstance" = none) (T : ErrT K mg CE CS CT CU)
    (GM : FnOk P w K mg base (L2.CX P w) (k + 1) fM fdM ["tray", "slides"] (spMoved CS)) (gM : mg "moved" = some (.ref fM)) (kM : PySem.W.keepIn K (.ref fM) = true) (bM : Binds K fdM ["tray", "slides"] []) :
    FnOk P w K mg base CX0 (k + 2) fa fd ["_law_tray_here", "_law_slides"] spNone := by
  refine F.ok scNone (fun vs H Q E h => ?_) (fun cdv A outer s H vs Q E hr h => ?_)
  · obtain ⟨a, rs, R, C, s, ws, rfl, _⟩ := h
    rfl
  · obtain ⟨a, rs, R, C, s', ws, rfl, Ta, g, q⟩ := h
    refine ⟨_, pss_cons (ps_try_as (i := 2) (tb := fun W => tDrop (tCallS (spMoved CS) (WE W) (tCons (tVar 0) (tCons (tVar 1) tNil)))) (ts := tSuiteNone K CS CT CU) (Wout := fun _ _ _ _ => False) rfl rfl scNone.nd rfl rfl ⟨rfl, by decide, Or.inl T.gE⟩ takes0
        (fun W pn xe tk _ => pss_one (ps_expr (by exact (pe_callS GM hr (by rfl) gM kM bM (fun σ => passAt tk σ) (by exact (pa_cons (pv 0) (pa_cons (pv 1) pa_nil)))))))
        (fun a oe cls d pn hz hf => PSs_given fun e => by
          obtain ⟨rfl, rfl⟩ := e
          exact pss_one (ps_ret (pe_and (pe_callB (r := rIsE K CS a) (call_isE T.c hz hf) (by rfl) mI (by decide +kernel) (pa_cons (pv 2) (pa_cons (pe_glob (v := .ref CS) rfl T.gS rfl) pa_nil)))
            (pe_one (pe_not (pe_callB (r := rIsET K CS a) (call_isET T.c hz hf) (by rfl) mI (by decide +kernel) (pa_cons (pv 2) (pa_cons (pe_tup (pa_cons (pe_glob (v := .ref CT) rfl T.gT rfl) (pa_cons (pe_glob (v := .ref CU) rfl T.gU rfl) pa_nil))) pa_nil)))))))))
      (pss_one (ps_ret pe_bl)), ?_⟩
    refine ⟨_, rfl, _, rfl, a, rs, R, C, s', ws, rfl, Ta, g, fun s2 hg H' p rs' sm np hrs T' => ?_, fun hg H' sm => ?_⟩
    · have e : decide (goAll R C s' ws = none) = false := decide_eq_false (by rw [hg]; exact fun z => by cases z)
      rw [e] at q
      exact q _ sm
    · have e : decide (goAll R C s' ws = none) = true := decide_eq_true hg
      rw [e] at q
      refine ⟨true, T.ex, fun _ x hx => ?_, fun z => Bool.noConfusion z⟩
      refine ⟨⟨rfl, rfl⟩, ?_⟩
      refine ⟨.ref x, rfl, .ref CS, .ref CS, true, rfl, fun u r => r, T.s, true, rfl, ?_⟩
      refine iteT ?_
      refine ⟨.ref x, rfl, (by show 2 ≤ sizeLine; decide), fun tp ntp => ?_⟩
      refine ⟨tp, _, [.ref CT, .ref CU], false, rfl, upd_same, .cons (.own CT) (.cons (.own CU) .nil), kitAny_cons T.t (fun _ => kitAny_cons T.u (fun _ => kitAny_nil) (fun z => Bool.noConfusion z)) (fun z => Bool.noConfusion z), false, rfl, ?_⟩
      exact q _ (sm.trans (same_upd ntp))
end
end Tr
namespace Tr
open PySem PySem.Spec PyProof.Rows L2
theorem cut_first (f : List Nat) : cutS (txt f) none (some 1) = txt (f.take 1) := by
  have hl : (txt f).length = f.length := txt_len f
  unfold cutS
  rw [HT.sIx_none, show HT.sIx (txt f).length (txt f).length (some 1) = min 1 (txt f).length from HT.sIx_nat _ _ 1, hl]
  refine congrArg (fun l : List Nat => (⟨l.toArray⟩ : Str)) ?_
  show (List.drop 0 f).take (min 1 f.length - 0) = f.take 1
  rw [List.drop_zero, Nat.sub_zero]
  cases f with
  | nil => rfl
  | cons a r =>
    rw [List.length_cons, Nat.min_eq_left (by omega)]
theorem cut_rest (f : List Nat) : cutS (txt f) (some 1) none = txt (f.drop 1) := by
  have hl : (txt f).length = f.length := txt_len f
  unfold cutS
  rw [HT.sIx_none, show HT.sIx (txt f).length 0 (some 1) = min 1 (txt f).length from HT.sIx_nat _ _ 1, hl]
  refine congrArg (fun l : List Nat => (⟨l.toArray⟩ : Str)) ?_
  show (List.drop (min 1 f.length) f).take (f.length - min 1 f.length) = f.drop 1
  cases f with
  | nil => rfl
  | cons a r =>
    rw [List.length_cons, Nat.min_eq_left (by omega)]
    show List.take (r.length + 1 - 1) r = r
    rw [Nat.add_sub_cancel, List.take_length]
theorem take1 {f : List Nat} {x : Nat} : f.take 1 = [x] ↔ f.head? = some x := by
  cases f with
  | nil => simp
  | cons a r => simp
def runR (l : List Nat) : List Nat := l.foldl (fun f l => push l f) []
theorem runR_rev (ws : List Nat) : runR ws.reverse = thinR ws := by
  unfold runR thinR
  rw [List.foldl_reverse]
theorem runR_take {l : List Nat} {i x : Nat} (h : l[i]? = some x) : runR (l.take (i + 1)) = push x (runR (l.take i)) := by
  unfold runR
  rw [take_more h, List.foldl_append]
  rfl
theorem push_len (w : Nat) (f : List Nat) : (push w f).length ≤ f.length + 1 := by
  unfold push
  split
  · rw [List.length_tail]; omega
  · exact Nat.le_refl _
theorem runR_len : ∀ (l f : List Nat), (l.foldl (fun f l => push l f) f).length ≤ f.length + l.length
  | [], f => Nat.le_refl _
  | x :: r, f => by
    have h := runR_len r (push x f)
    have h2 := push_len x f
    show (r.foldl (fun f l => push l f) (push x f)).length ≤ f.length + (r.length + 1)
    omega
theorem scThin : FnScope ["_law_slides", "_law_found", "_law_letter"] ["_law_slides"] (defScope sThin) := ⟨rfl, rfl, rfl, by decide +kernel, rfl, by decide +kernel, by decide +kernel⟩
def spThin : Sp := fun vs H Q _ => ∃ (ws : List Nat), vs = [.str (txt ws)] ∧ ws.length ≤ 1000 ∧ (∀ l ∈ ws, okL l) ∧ ∀ H', Same H H' → Q (.str (txt (thinR ws))) H'
section
variable {P : Program} {w : World} {K : PySem.W.Frag} {mg : Str → Option Value} {base : Heap}
theorem ok_thin {fa : Addr} {fd : FuncData} {k : Nat} (F : Fun K "_law_thin" "_law_thin" sThin fa fd) :
    FnOk P w K mg base CX0 (k + 1) fa fd ["_law_slides"] spThin := by
  refine F.ok scThin (fun vs H Q E h => ?_) (fun cdv A outer s H vs Q E hr h => ?_)
  · obtain ⟨ws, rfl, _⟩ := h
    rfl
  · obtain ⟨ws, rfl, hl, hok, q⟩ := h
    have hu := hu_of hr
    refine ⟨_, pss_cons (ps_set (i := 1) scThin.nd rfl (.inl rfl) pe_str)
      (pss_cons (ps_for PassesOwn.never rfl (pi_str (pe_revS (pv 0))) (pg_name (i := 2) scThin.nd rfl (.inl rfl))
        (pss_one (ps_if (pt_cmpR op_eq (pe_slice sl_str (pv 1) po_none (po_some pe_int)) (pe_dget hu (pe_disp (pps_cons pe_str pe_str (pps_cons pe_str pe_str (pps_cons pe_str pe_str (pps_cons pe_str pe_str pps_nil)))) (by rfl) (by rfl) (fun z => by cases z) (by decide)) (pv 2) (fun _ _ => rfl)) (nomark _))
          (pss_one (ps_set (i := 1) scThin.nd rfl (.inl rfl) (pe_slice sl_str (pv 1) (po_some pe_int) po_none)))
          (pss_one (ps_set (i := 1) scThin.nd rfl (.inl rfl) (pe_op op_add_str (pv 2) (pv 1)))))))
      (pss_one (ps_ret (pv 1)))), ?_⟩
    have hsz : (txt ws).length ≤ sizeLine := by
      rw [txt_len]
      exact Nat.le_of_lt (small1000 hl)
    refine ⟨_, rfl, txt ws, rfl, hsz, _, rfl, for_it (walk_str (z := txt ws.reverse)) (fun i σ H' => Same H H' ∧ ∃ v, σ = [some (.str (txt ws)), some (.str (txt (runR (ws.reverse.take i)))), v]) ⟨Same.refl H, none, ?_⟩ (fun _ _ _ _ _ => True.intro) ?_ ?_⟩
    · rw [empty_eq]
      rfl
    · rintro i x σ H1 H2 hi ⟨s1, v, rfl⟩ ⟨rfl, l, hx, rfl⟩
      have hx : ws.reverse[i]? = some l := by simpa using hx
      have hlo : okL l := hok l (List.mem_reverse.mp (List.mem_of_getElem? hx))
      have hrun := runR_take hx
      have hil : i < ws.length := by
        have := (List.getElem?_eq_some_iff.mp hx).1
        rwa [List.length_reverse] at this
      have hrl : (runR (ws.reverse.take i)).length ≤ i := by
        have := runR_len (ws.reverse.take i) []
        rw [List.length_take, List.length_reverse] at this
        unfold runR
        have h0 : ([] : List Nat).length = 0 := rfl
        omega
      generalize runR (ws.reverse.take i) = f at hrun hrl
      have hf : (txt f).length ≤ sizeLine := by
        rw [txt_len]
        exact Nat.le_of_lt (small1000 (by omega))
      refine ⟨_, rfl, 1, rfl, txt f, rfl, hf, fun d nd => ?_⟩
      rw [cut_first]
      have s2 : Same H2 (upd H2 d (.dK [])) := same_upd nd
      refine ⟨upd_same, [(Sum.inr "u", .str "d"), (Sum.inr "d", .str "u"), (Sum.inr "l", .str "r"), (Sum.inr "r", .str "l")], rfl, (by show 4 ≤ 15; decide), ?_⟩
      rw [show mergeK [] [((Sum.inr "u" : Key), V.str "d"), (Sum.inr "d", .str "u"), (Sum.inr "l", .str "r"), (Sum.inr "r", .str "l")] = [((Sum.inr "u" : Key), V.str "d"), (Sum.inr "d", .str "u"), (Sum.inr "l", .str "r"), (Sum.inr "r", .str "l")] from rfl]
      have e : valV [((Sum.inr "u" : Key), V.str "d"), (Sum.inr "d", .str "u"), (Sum.inr "l", .str "r"), (Sum.inr "r", .str "l")] (Sum.inr (txt [l])) = some (V.str (txt [bk l])) := by
        rw [val4]
        rcases hlo with rfl | rfl | rfl | rfl
        · rw [if_pos rfl, d_eq]; rfl
        · rw [if_neg (by decide), if_pos rfl, u_eq]; rfl
        · rw [if_neg (by decide), if_neg (by decide), if_pos rfl, r_eq]; rfl
        · rw [if_neg (by decide), if_neg (by decide), if_neg (by decide), if_pos rfl, l_eq]; rfl
      have s3 : Same H (upd (upd H2 d (.dK [])) d (.dK [((Sum.inr "u" : Key), V.str "d"), (Sum.inr "d", .str "u"), (Sum.inr "l", .str "r"), (Sum.inr "r", .str "l")])) := fun b o z => by
        have z2 := s1 _ _ z
        rw [upd_ne (ne_of_none z2 nd), upd_ne (ne_of_none z2 nd)]
        exact z2
      refine ⟨_, rfl, d, _, rfl, e ▸ DGet.k (k := Sum.inr (txt [l])) upd_same, rfl, _, rfl, decI (fun z => ?_) (fun z => ?_)⟩
      · have z := take1.mp (txt_inj (V.str.inj z))
        refine ⟨_, rfl, 1, rfl, txt f, rfl, hf, s3, some (.str (txt [l])), ?_⟩
        rw [hrun, cut_rest]
        unfold push
        rw [if_pos z, List.drop_one]
        rfl
      · have z : ¬ f.head? = some (bk l) := fun y => z (congrArg (fun x => V.str (txt x)) (take1.mpr y))
        refine ⟨_, rfl, _, rfl, txt [l], txt f, rfl, rfl, ?_, s3, some (.str (txt [l])), ?_⟩
        · rw [txt_len, txt_len]
          exact Nat.le_of_lt (small1000 (by show 1 + f.length ≤ 1000; omega))
        · rw [hrun, txt_add]
          unfold push
          rw [if_neg z]
          rfl
    · rintro σ H1 ⟨s1, v, rfl⟩
      have e : ws.reverse.take (txt ws.reverse).cps.size = ws.reverse := by
        show ws.reverse.take ws.reverse.toArray.size = ws.reverse
        rw [List.size_toArray, List.take_length]
      refine ⟨_, rfl, ?_⟩
      rw [e, runR_rev]
      exact q _ s1
end
end Tr
namespace Tr
open PySem PySem.Spec PyProof.Rows L2
theorem scLaw : FnScope ["_law_script", "_law_cells", "_law_mixed", "_law_tray_here", "_law_handed", "_law_at", "_law_cell", "_law_slides", "_law_due", "_law_found", "_law_back", "_law_free", "_law_some", "_law_bent", "_law_wanted", "_law_row", "_law_letter"] ["_law_script"] (defScope sLaw) := ⟨rfl, rfl, rfl, by decide +kernel, rfl, by decide +kernel, by decide +kernel⟩
def spLaw (K : PySem.W.Frag) : Sp := fun vs H Q _ => ∃ (a : Addr) (ns : List Int), vs = [.ref a] ∧ SqL K H a (ns.map V.int) ∧ ns.length ≤ 63 ∧ (∀ z ∈ ns, Builtin.Int.intBits z ≤ 1048576) ∧ ∀ H', Q (.bl true) H'
theorem cut_most {xs : List V} (h : xs.length ≤ 63) : cutV xs none (some 63) = xs := by
  unfold cutV
  rw [HT.sIx_none, show HT.sIx xs.length xs.length (some 63) = min 63 xs.length from HT.sIx_nat _ _ 63]
  rw [List.drop_zero, Nat.sub_zero, Nat.min_eq_right h, List.take_length]
theorem good_of {R C : Nat} {f : Fld} (hR0 : 0 < R) (hR : R ≤ 6) (hC0 : 0 < C) (hC : C ≤ 6) (h : Full (R * C) f) : ∃ r c, Good R C (f, r, c) := by
  obtain ⟨p, hp, hz⟩ := full_zero (Nat.mul_pos hR0 hC0) h
  have e : p / C * C + p % C = p := by rw [Nat.mul_comm]; exact Nat.div_add_mod p C
  refine ⟨p / C, p % C, hR0, hR, hC0, hC, h, ?_, Nat.mod_lt p hC0, ?_⟩
  · exact (Nat.div_lt_iff_lt_mul hC0).mpr hp
  · show f (p / C * C + p % C) = 0
    rw [e]
    exact hz
theorem cut1 (xs : List V) : cutV xs (some 1) none = xs.drop 1 := by
  unfold cutV
  rw [show HT.sIx xs.length 0 (some 1) = min 1 xs.length from HT.sIx_nat xs.length 0 1, HT.sIx_none]
  cases xs with
  | nil => rfl
  | cons x r =>
    rw [show min 1 (x :: r).length = 1 by
      rw [List.length_cons]
      omega]
    show (List.take ((x :: r).length - 1) r) = r
    rw [List.length_cons, Nat.add_sub_cancel]
    exact List.take_length
theorem drop_get {α : Type} (l : List α) (i : Nat) : (l.drop 1)[i]? = l[i + 1]? := by
  rw [List.getElem?_drop, Nat.add_comm]
/-- a tray of one row -/
theorem tray1 {H : Hp} {i o : Addr} {C : Nat} {f : Fld} {xs : List V} (hi : H i = some (.lst xs)) (ho : H o = some (.lst [.ref i])) (hx : xs = rowV C f 0) (hne : o ≠ i) : TrayAt H o [i] 1 C f := by
  refine ⟨ho, rfl, fun j r e => ?_, by simp, fun m => hne (List.mem_singleton.mp m)⟩
  cases j with
  | zero =>
    cases e
    rw [hi, hx]
  | succ j => simp at e
def f10 : Fld := fun k => if k = 0 then 1 else 0
theorem good10 : Good 1 2 (f10, 0, 1) := ⟨by decide, by decide, by decide, by decide, List.Perm.swap 0 1 [], by decide, by decide, rfl⟩
theorem good0 : Good 1 1 ((fun _ => 0 : Fld), 0, 0) := ⟨by decide, by decide, by decide, by decide, List.Perm.refl _, by decide, by decide, rfl⟩
theorem mids (n : Int) (h0 : 0 ≤ n) (h5 : n < 5) : ∃ mid : List Nat, mid.length ≤ 1 ∧ atI [V.str "u", V.str "l", V.str "x", V.str (txt []), V.str "d"] n = some (V.str (txt mid)) := by
  obtain ⟨k, rfl⟩ := Int.eq_ofNat_of_zero_le h0
  have hk : k < 5 := by omega
  have x_eq : ("x" : Str) = txt [120] := by decide +kernel
  match k, hk with
  | 0, _ => exact ⟨[117], by decide, by rw [u_eq]; rfl⟩
  | 1, _ => exact ⟨[108], by decide, by rw [l_eq]; rfl⟩
  | 2, _ => exact ⟨[120], by decide, by rw [x_eq]; rfl⟩
  | 3, _ => exact ⟨[], by decide, rfl⟩
  | 4, _ => exact ⟨[100], by decide, by rw [d_eq]; rfl⟩
theorem cut_some (ws : List Nat) (lo hi : Option Int) : ∃ x : List Nat, cutS (txt ws) lo hi = txt x ∧ x.length ≤ ws.length := by
  refine ⟨(cutS (txt ws) lo hi).cps.toList, txt_of _, ?_⟩
  have h := cutS_length (txt ws) lo hi
  rw [txt_len] at h
  rw [Array.length_toList]
  exact h
/-- what the law's defs are -/
structure Defs (P : Program) (w : World) (K : PySem.W.Frag) (mg : Str → Option Value) (base : Heap) where
  CS : Addr
  fD : Addr
  fdD : FuncData
  GD : FnOk P w K mg base CX0 1 fD fdD ["_law_cell", "_law_by"] spDigits
  gD : mg "_law_digits" = some (.ref fD)
  kD : PySem.W.keepIn K (.ref fD) = true
  bD : Binds K fdD ["_law_cell", "_law_by"] []
  fT : Addr
  fdT : FuncData
  GT : FnOk P w K mg base CX0 2 fT fdT ["_law_number", "_law_rows", "_law_columns"] spTrayL
  gT : mg "_law_tray" = some (.ref fT)
  kT : PySem.W.keepIn K (.ref fT) = true
  bT : Binds K fdT ["_law_number", "_law_rows", "_law_columns"] []
  fW : Addr
  fdW : FuncData
  GW : FnOk P w K mg base CX0 2 fW fdW ["_law_tray_here", "_law_cells"] (spWalk K)
  gW : mg "_law_walk" = some (.ref fW)
  kW : PySem.W.keepIn K (.ref fW) = true
  bW : Binds K fdW ["_law_tray_here", "_law_cells"] []
  fS : Addr
  fdS : FuncData
  GS : FnOk P w K mg base CX0 2 fS fdS ["_law_tray_here", "_law_slides"] spSlid
  gS : mg "_law_slid" = some (.ref fS)
  kS : PySem.W.keepIn K (.ref fS) = true
  bS : Binds K fdS ["_law_tray_here", "_law_slides"] []
  fM : Addr
  fdM : FuncData
  GM : FnOk P w K mg base (L2.CX P w) 2 fM fdM ["tray", "slides"] (spMoved CS)
  gM : mg "moved" = some (.ref fM)
  kM : PySem.W.keepIn K (.ref fM) = true
  bM : Binds K fdM ["tray", "slides"] []
  fU : Addr
  fdU : FuncData
  GU : FnOk P w K mg base (L2.CX P w) 2 fU fdU ["slides"] (spSlides CS undo)
  gU : mg "undone" = some (.ref fU)
  kU : PySem.W.keepIn K (.ref fU) = true
  bU : Binds K fdU ["slides"] []
  fY : Addr
  fdY : FuncData
  GY : FnOk P w K mg base CX0 2 fY fdY ["tray"] spWays
  gY : mg "ways" = some (.ref fY)
  kY : PySem.W.keepIn K (.ref fY) = true
  bY : Binds K fdY ["tray"] []
  fH : Addr
  fdH : FuncData
  GH : FnOk P w K mg base (L2.CX P w) 2 fH fdH ["slides"] (spSlides CS thinL)
  gH : mg "thinned" = some (.ref fH)
  kH : PySem.W.keepIn K (.ref fH) = true
  bH : Binds K fdH ["slides"] []
  fR : Addr
  fdR : FuncData
  GR : FnOk P w K mg base CX0 1 fR fdR ["_law_slides"] spThin
  gR : mg "_law_thin" = some (.ref fR)
  kR : PySem.W.keepIn K (.ref fR) = true
  bR : Binds K fdR ["_law_slides"] []
  fN : Addr
  fdN : FuncData
  GN : FnOk P w K mg base CX0 3 fN fdN ["_law_tray_here", "_law_slides"] spNone
  gN : mg "_law_none" = some (.ref fN)
  kN : PySem.W.keepIn K (.ref fN) = true
  bN : Binds K fdN ["_law_tray_here", "_law_slides"] []
section
variable {P : Program} {w : World} {K : PySem.W.Frag} {mg : Str → Option Value} {base : Heap}
theorem ok_law {fa : Addr} {fd : FuncData} (F : Fun K "law" "law" sLaw fa fd) (B : Defs P w K mg base) (mSum : mg "sum" = none) (mEn : mg "enumerate" = none) (mI : mg "isinstance" = none) (mLi : mg "list" = none) (mSt : mg "str" = none) (mL : mg "len" = none) :
    FnOk P w K mg base CX0 4 fa fd ["_law_script"] (spLaw K) := by
  refine F.ok scLaw (fun vs H Q E h => ?_) (fun cdv A outer s H vs Q E hr h => ?_)
  · obtain ⟨a, ns, rfl, _⟩ := h
    rfl
  · obtain ⟨a, ns, rfl, hS, hlen, hbits, q⟩ := h
    have hr1 : Room 1 _ := hr.mono (by decide)
    have hr2 : Room 2 _ := hr.mono (by decide)
    have hr3 : Room 3 _ := hr
    refine ⟨_, pss_cons (ps_set (i := 1) scLaw.nd rfl (.inl rfl) (pe_op op_cat (pe_slice sl_list (pv 0) po_none (po_some pe_int)) (pe_lst (pa_cons pe_int pa_nil))))
      (pss_cons (ps_set (i := 2) scLaw.nd rfl (.inl rfl) (pe_callB (cr_sum rfl) (by rfl) mSum (by decide +kernel) (pa_cons (pv 1) pa_nil)))
      (pss_cons (ps_set (i := 3) scLaw.nd rfl (.inr rfl) (pe_call B.GT hr2 (by rfl) B.gT B.kT B.bT .nil pass0 (pa_cons (pe_call B.GD hr1 (by rfl) B.gD B.kD B.bD .nil pass0 (pa_cons (pe_ix ix_list (pv 1) pe_int (fun _ _ => rfl)) (pa_cons pe_int pa_nil)))
          (pa_cons (pe_op op_add pe_int (pe_op op_mod (pv 2) pe_int)) (pa_cons (pe_op op_add pe_int (pe_op op_mod (pe_op op_fdiv (pv 2) pe_int) pe_int)) pa_nil)))))
      (pss_cons (ps_setLc (i := 4) (own := [("_law_row", 15)]) (g := gName 15) (tt := tYes) rfl scLaw.nd rfl rfl (sw_true rfl rfl rfl (by decide +kernel)) (pi_list (pv 3))
          (blkOk_by (own := [("_law_row", 15)]) (N := ["_law_script", "_law_cells", "_law_mixed", "_law_tray_here", "_law_handed", "_law_at", "_law_cell", "_law_slides", "_law_due", "_law_found", "_law_back", "_law_free", "_law_some", "_law_bent", "_law_wanted", "_law_row", "_law_letter"]) (sc := defScope sLaw) (by decide +kernel))
          (fun _ _ _ _ _ => pg_name (i := 15) scLaw.nd rfl (.inl rfl)) (fun _ _ _ _ _ => pts_nil) (fun _ _ _ _ _ => pe_callTy (r := rListOf K) cr_listOf (by rfl) mLi (by decide +kernel) (pa_cons (pv 15) pa_nil)))
      (pss_cons (ps_set (i := 7) scLaw.nd rfl (.inl rfl) (pe_call B.GW hr2 (by rfl) B.gW B.kW B.bW .nil pass0 (pa_cons (pv 3) (pa_cons
          (pe_lc (own := [("_law_at", 5), ("_law_cell", 6)]) (g := gTup K 2 (gCons (gName 5) (gCons (gName 6) gNil))) (tt := tYes) rfl scLaw.nd (pi_enum rfl mEn (pa_cons (pv 1) pa_nil))
            (blkOk_by (own := [("_law_at", 5), ("_law_cell", 6)]) (N := ["_law_script", "_law_cells", "_law_mixed", "_law_tray_here", "_law_handed", "_law_at", "_law_cell", "_law_slides", "_law_due", "_law_found", "_law_back", "_law_free", "_law_some", "_law_bent", "_law_wanted", "_law_row", "_law_letter"]) (sc := defScope sLaw) (by decide +kernel))
            (fun _ _ _ _ _ => pg_tup rfl (pgs_cons (pg_name (i := 5) scLaw.nd rfl (.inl rfl)) (pgs_cons (pg_name (i := 6) scLaw.nd rfl (.inl rfl)) pgs_nil))) (fun _ _ _ _ _ => pts_nil)
            (fun _ _ _ _ _ => pe_call B.GD hr1 (by rfl) B.gD B.kD B.bD .nil pass0 (pa_cons (pv 6) (pa_cons (pv 5) pa_nil)))) pa_nil))))
      (pss_cons (ps_set (i := 8) scLaw.nd rfl (.inl rfl) (pe_call B.GS hr2 (by rfl) B.gS B.kS B.bS .nil pass0 (pa_cons (pv 3) (pa_cons (pv 7) pa_nil))))
      (pss_cons (ps_set (i := 9) scLaw.nd rfl (.inl rfl) (pe_call B.GM hr2 (by rfl) B.gM B.kM B.bM .nil passL (pa_cons (pv 4) (pa_cons (pv 7) pa_nil))))
      (pss_cons (ps_if (PW.pt (pw_or (pt_not (pt_val (pe_callB call_isi (by rfl) mI (by decide +kernel) (pa_cons (pv 9) (pa_cons (pe_bltn (v := .ty "list") (by rfl) mLi (by decide +kernel) rfl) pa_nil))))) (pw_or (pt_cmpR (op_neD hr.units) (pv 9) (pv 8) (nomark _)) (pw_or1 (pt_cmpR (op_neD hr.units) (pv 4) (pv 3) (nomark _)))))) pss_never pss_nil)
      (pss_cons (ps_set (i := 10) scLaw.nd rfl (.inl rfl) (pe_call B.GU hr2 (by rfl) B.gU B.kU B.bU .nil passL (pa_cons (pv 7) pa_nil)))
      (pss_cons (ps_if (PW.pt (pw_or (pt_not (pt_val (pe_callB call_isi (by rfl) mI (by decide +kernel) (pa_cons (pv 10) (pa_cons (pe_bltn (v := .ty "str") (by rfl) mSt (by decide +kernel) rfl) pa_nil))))) (pw_or (pt_cmpR op_ne (pe_callB call_len_str (by rfl) mL PySem.boot_len (pa_cons (pv 10) pa_nil)) (pe_callB call_len_str (by rfl) mL PySem.boot_len (pa_cons (pv 7) pa_nil)) (nomark _)) (pw_or1 (pt_cmpR (op_neD hr.units) (pe_call B.GM hr2 (by rfl) B.gM B.kM B.bM .nil passL (pa_cons (pv 9) (pa_cons (pv 10) pa_nil))) (pv 3) (nomark _)))))) pss_never pss_nil)
      (pss_cons (ps_expr (pe_bm PySem.F.plainAttrs_list PySem.F.slot_list_append PySem.F.type_list_append mt_append (pe_ix ix_list (pv 9) pe_int (fun _ _ => rfl)) (pa_cons (pe_un un_neg pe_int) pa_nil)))
      (pss_cons (ps_if (pt_cmpR (op_neD hr.units) (pe_slice sl_list (pv 9) (po_some pe_int) po_none) (pe_slice sl_list (pv 8) (po_some pe_int) po_none) (nomark _)) pss_never pss_nil)
      (pss_cons (ps_expr (pe_bm PySem.F.plainAttrs_list PySem.F.slot_list_append PySem.F.type_list_append mt_append (pv 9) (pa_cons (pe_lst pa_nil) pa_nil)))
      (pss_cons (ps_if (PW.pt (pw_or (pt_cmpR (op_neD hr.units) (pv 4) (pv 3) (nomark _)) (pw_or (pt_cmpR (op_neD hr.units) (pe_call B.GM hr2 (by rfl) B.gM B.kM B.bM .nil passL (pa_cons (pv 4) (pa_cons (pv 7) pa_nil))) (pv 8) (nomark _)) (pw_or1 (pt_cmpR (op_neD hr.units) (pe_call B.GM hr2 (by rfl) B.gM B.kM B.bM .nil passL (pa_cons (pv 4) (pa_cons pe_str pa_nil))) (pv 3) (nomark _)))))) pss_never pss_nil)
      (pss_cons (ps_if (pt_cmpR op_ne (pe_call B.GY hr2 (by rfl) B.gY B.kY B.bY .nil pass0 (pa_cons (pv 4) pa_nil)) (pe_join pe_str (pe_lc (own := [("_law_letter", 16)]) (g := gName 16) (tt := tB (tNotN (tCall spSlid [] E0 (tCons (tVar 3) (tCons (tVar 16) tNil))))) rfl scLaw.nd (pi_str pe_str)
          (blkOk_by (own := [("_law_letter", 16)]) (N := ["_law_script", "_law_cells", "_law_mixed", "_law_tray_here", "_law_handed", "_law_at", "_law_cell", "_law_slides", "_law_due", "_law_found", "_law_back", "_law_free", "_law_some", "_law_bent", "_law_wanted", "_law_row", "_law_letter"]) (sc := defScope sLaw) (by decide +kernel))
          (fun _ _ _ _ _ => pg_name (i := 16) scLaw.nd rfl (.inl rfl)) (fun _ _ _ _ _ => pts_one (pt_cmp (pc_notN (pe_call B.GS hr2 (by rfl) B.gS B.kS B.bS .nil pass0 (pa_cons (pv 3) (pa_cons (pv 16) pa_nil)))))) (fun _ _ _ _ _ => pv 16))) (nomark _)) pss_never pss_nil)
      (pss_cons (ps_set (i := 11) scLaw.nd rfl (.inl rfl) (pe_join pe_str (pe_lc (own := [("_law_cell", 6)]) (g := gName 6) (tt := tYes) rfl scLaw.nd (pi_list (pv 1))
          (blkOk_by (own := [("_law_cell", 6)]) (N := ["_law_script", "_law_cells", "_law_mixed", "_law_tray_here", "_law_handed", "_law_at", "_law_cell", "_law_slides", "_law_due", "_law_found", "_law_back", "_law_free", "_law_some", "_law_bent", "_law_wanted", "_law_row", "_law_letter"]) (sc := defScope sLaw) (by decide +kernel))
          (fun _ _ _ _ _ => pg_name (i := 6) scLaw.nd rfl (.inl rfl)) (fun _ _ _ _ _ => pts_nil) (fun _ _ _ _ _ => pe_ix (r := rIxS) ix_str pe_str (pe_op op_mod (pe_call B.GD hr1 (by rfl) B.gD B.kD B.bD .nil pass0 (pa_cons (pv 6) (pa_cons pe_int pa_nil))) pe_int) (fun _ _ => rfl)))))
      (pss_cons (ps_for PassesOwn.never rfl (pi_list (pe_lst (pa_cons (pv 7) (pa_cons (pv 11) (pa_cons (pe_op op_add_str (pv 11) (pe_call B.GU hr2 (by rfl) B.gU B.kU B.bU .nil passL (pa_cons (pv 11) pa_nil))) (pa_cons (pe_op op_add_str (pe_op op_add_str (pv 7) pe_str) (pv 10)) pa_nil)))))) (pg_name (i := 12) scLaw.nd rfl (.inl rfl))
        (pss_one (ps_if (PW.pt (pw_or (pt_cmpR op_ne (pe_call B.GH hr2 (by rfl) B.gH B.kH B.bH .nil passL (pa_cons (pv 12) pa_nil)) (pe_call B.GR hr1 (by rfl) B.gR B.kR B.bR .nil pass0 (pa_cons (pv 12) pa_nil)) (nomark _)) (pw_or1 (pt_cmpR op_ne (pe_call B.GU hr2 (by rfl) B.gU B.kU B.bU .nil passL (pa_cons (pe_call B.GU hr2 (by rfl) B.gU B.kU B.bU .nil passL (pa_cons (pv 12) pa_nil)) pa_nil)) (pv 12) (nomark _))))) pss_never pss_nil)))
      (pss_cons (ps_for PassesOwn.never rfl (pi_list (pe_slice sl_list (pv 1) po_none (po_some pe_int))) (pg_name (i := 6) scLaw.nd rfl (.inl rfl))
        (pss_cons (ps_set (i := 5) scLaw.nd rfl (.inl rfl) (pe_op op_modN (pe_op op_fdiv (pv 6) pe_int) (pe_op op_add (pe_callB call_len_str (by rfl) mL PySem.boot_len (pa_cons (pv 7) pa_nil)) pe_int)))
        (pss_cons (ps_set (i := 13) scLaw.nd rfl (.inl rfl) (pe_op op_add_str (pe_op op_add_str (pe_slice sl_str (pv 7) po_none (po_some (pv 5))) (pe_ix ix_tup (pe_tup (pa_cons pe_str (pa_cons pe_str (pa_cons pe_str (pa_cons pe_str (pa_cons pe_str pa_nil)))))) (pe_op op_mod (pv 6) pe_int) (fun _ _ => rfl))) (pe_slice sl_str (pv 7) (po_some (pe_op op_add (pv 5) (pe_op op_mod (pe_op op_fdiv (pv 6) pe_int) pe_int))) po_none)))
        (pss_cons (ps_set (i := 14) scLaw.nd rfl (.inl rfl) (pe_call B.GS hr2 (by rfl) B.gS B.kS B.bS .nil pass0 (pa_cons (pv 3) (pa_cons (pv 13) pa_nil))))
        (pss_one (ps_if (PW.pt (pw_or (PW.pt (pw_and (pt_cmp (pc_isN (pv 14))) (pw_and1 (pt_not (pt_val (pe_call B.GN hr3 (by rfl) B.gN B.kN B.bN .nil pass0 (pa_cons (pv 4) (pa_cons (pv 13) pa_nil)))))))) (pw_or1 (PW.pt (pw_and (pt_cmp (pc_notN (pv 14))) (pw_and1 (pt_cmpR (op_neD hr.units) (pe_call B.GM hr2 (by rfl) B.gM B.kM B.bM .nil passL (pa_cons (pv 4) (pa_cons (pv 13) pa_nil))) (pv 14) (nomark _)))))))) pss_never pss_nil))))))
      (pss_one (ps_ret (pe_and (pe_cmpR (op_eqD hr.units) (pe_call B.GM hr2 (by rfl) B.gM B.kM B.bM .nil passL (pa_cons (pe_lst (pa_cons (pe_lst (pa_cons pe_int (pa_cons pe_int pa_nil))) pa_nil)) (pa_cons pe_str pa_nil))) (pe_lst (pa_cons (pe_lst (pa_cons pe_int (pa_cons pe_int pa_nil))) pa_nil)) (nomark _)) (pe_and (pe_cmpR op_eq (pe_call B.GY hr2 (by rfl) B.gY B.kY B.bY .nil pass0 (pa_cons (pe_lst (pa_cons (pe_lst (pa_cons pe_int pa_nil)) pa_nil)) pa_nil)) pe_str (nomark _)) (pe_one (pe_cmpR op_eq (pe_call B.GH hr2 (by rfl) B.gH B.kH B.bH .nil passL (pa_cons pe_str pa_nil)) pe_str (nomark _)))))))))))))))))))))))), ?_⟩
    -- cells = script[:63] + [7]
    refine ⟨.ref a, rfl, 63, rfl, a, _, rfl, hS, fun p1 n1 => ?_⟩
    rw [cut_most (by rw [List.length_map]; exact hlen)]
    have s1 := same_upd (o := .lst (ns.map V.int)) n1
    refine ⟨(by show 1 ≤ sizeLine; decide), fun p2 n2 => ?_⟩
    have s2 := same_upd (o := .lst [V.int 7]) n2
    refine ⟨p1, p2, _, _, rfl, rfl, s2 _ _ upd_same, upd_same, ?_, fun p n3 => ?_⟩
    · rw [List.length_map]
      exact Nat.le_of_lt (small1000 (by show ns.length + 1 ≤ 1000; omega))
    have s3 := same_upd (o := .lst (ns.map V.int ++ [V.int 7])) n3
    have hcells : (upd (upd (upd H p1 (.lst (ns.map V.int))) p2 (.lst [V.int 7])) p (.lst (ns.map V.int ++ [V.int 7]))) p = some (.lst ((ns ++ [7]).map V.int)) := by
      rw [upd_same, List.map_append]
      rfl
    generalize upd (upd (upd H p1 (.lst (ns.map V.int))) p2 (.lst [V.int 7])) p (.lst (ns.map V.int ++ [V.int 7])) = H1 at hcells ⊢
    have hcl : (ns ++ [7]).length ≤ 64 := by rw [List.length_append]; show ns.length + 1 ≤ 64; omega
    have hcb : ∀ z ∈ ns ++ [7], Builtin.Int.intBits z ≤ 1048576 := by
      intro z hz
      rcases List.mem_append.mp hz with h | h
      · exact hbits z h
      · rw [List.mem_singleton.mp h]
        decide
    have hc0 : ∃ z, (ns ++ [7])[0]? = some z := by
      cases ns with
      | nil => exact ⟨7, rfl⟩
      | cons z r => exact ⟨z, rfl⟩
    clear s1 s2 s3 n1 n2 n3
    generalize ns ++ [7] = cs at hcells hcl hcb hc0
    -- mixed = sum(cells)
    refine ⟨.ref p, rfl, p, cs, rfl, SqL.of hcells, ?_⟩
    generalize cs.sum = m
    -- tray_here
    obtain ⟨z0, hz0⟩ := hc0
    have hz0v : (cs.map V.int)[0]? = some (V.int z0) := by rw [List.getElem?_map, hz0]; rfl
    refine ⟨.ref p, rfl, p, _, 0, _, rfl, rfl, SqL.of hcells, atI_nat (j := 0) hz0v, z0, 1, rfl, by decide, hcb z0 (List.mem_of_getElem? hz0), fun z => ?_⟩
    have r1 := Int.emod_nonneg m (b := 6) (by decide)
    have r2 := Int.emod_lt_of_pos m (b := 6) (by decide)
    have c1 := Int.emod_nonneg (m / 6) (b := 6) (by decide)
    have c2 := Int.emod_lt_of_pos (m / 6) (b := 6) (by decide)
    obtain ⟨R, hR⟩ := Int.eq_ofNat_of_zero_le (show 0 ≤ 1 + m % 6 by omega)
    obtain ⟨C, hC⟩ := Int.eq_ofNat_of_zero_le (show 0 ≤ 1 + m / 6 % 6 by omega)
    refine ⟨_, rfl, m, 6, rfl, rfl, (by show (0 : Int) < 6; decide), 1, _, rfl, rfl, _, rfl, m, 6, rfl, rfl, ⟨by decide, by decide⟩, _, 6, rfl, rfl, (by show (0 : Int) < 6; decide), 1, _, rfl, rfl, z, R, C, ?_, by omega, by omega, fun H2 t rsT f s2 nt nrT T hF => ?_⟩
    · show [V.int z, V.int (1 + m % 6), V.int (1 + m / 6 % 6)] = _
      rw [hR, hC]
    obtain ⟨r, c, g⟩ := good_of (R := R) (C := C) (f := f) (by omega) (by omega) (by omega) (by omega) hF
    have hcells2 := s2 _ _ hcells
    -- handed
    refine ⟨_, rfl, t, rfl, ⟨_, SqL.of T.top⟩, fun hd nhd => lc_copy (i := 15) T (by omega) nhd (by show 15 < 17; decide) fun rsH H3 s3 nrH TH => ?_⟩
    have T3 := T.mono s3
    have hcells3 := s3 _ _ hcells2
    -- slides
    refine ⟨_, rfl, .ref p, rfl, p, _, rfl, SqL.of hcells3, fun D nD => ?_⟩
    refine lc_gen (walk_enum (K := K) (a := p) (xs := cs.map V.int)) (fun i H4 => ∃ acc : List Int, H4 D = some (.lst (acc.map V.int)) ∧ acc.length = i ∧ Same H3 H4) ⟨[], upd_same, rfl, same_upd nD⟩ (fun i H4 _ ⟨_, _, _, sm⟩ => sm.seq (SqL.of hcells3)) ?_ ?_
    · rintro i x H4 H5 hi ⟨acc, hD, hacc, sm⟩ ⟨T1, x1, y1, rfl, nT1, rfl, e1, e2⟩
      cases e1
      rw [List.length_map] at hi
      have e2 : (cs.map V.int)[i]? = some y1 := e2
      rw [List.getElem?_map, List.getElem?_eq_getElem hi] at e2
      cases e2
      have smT : Same H4 (upd H4 T1 (.tup [V.int (i : Nat), V.int cs[i]])) := same_upd nT1
      refine ⟨T1, _, rfl, SqT.of upd_same, rfl, _, _, rfl, _, _, rfl, rfl, rfl, ?_⟩
      refine ⟨_, rfl, _, rfl, cs[i], i, rfl, by omega, hcb _ (List.getElem_mem hi), fun n => ?_⟩
      refine ⟨_, smT _ _ hD, ?_, acc ++ [n], ?_, ?_, ?_⟩
      · rw [List.length_map]
        exact small1000 (by omega)
      · rw [upd_same, List.map_append]
        rfl
      · rw [List.length_append, hacc]
        rfl
      · intro b o e
        rw [upd_ne (ne_of_none e nD)]
        exact smT _ _ (sm _ _ e)
    rintro H4 ⟨acc, hD, hacc, s4⟩
    rw [List.length_map] at hacc
    have T4 := T3.mono s4
    refine ⟨t, D, rsT, R, C, (f, r, c), acc, rfl, T4, g, SqL.of hD, by omega, fun ws s' H5 s5 hgo hok hwl => ?_⟩
    have hwl : ws.length ≤ 64 := by omega
    obtain ⟨f', r', c'⟩ := s'
    have g' := g.go hgo
    have T5 := T4.mono s5
    have TH5 := (TH.mono s4).mono s5
    have hcells5 := s5 _ _ (s4 _ _ hcells3)
    -- due
    refine ⟨_, rfl, _, rfl, t, rsT, R, C, (f, r, c), ws, rfl, T5, g, fun s2' hg2 H6 dd rsD s6 ndd nrD TD => ?_, fun hn => by rw [hgo] at hn; cases hn⟩
    rw [hgo] at hg2
    cases hg2
    have T6 := T5.mono s6
    have TH6 := TH5.mono s6
    have hcells6 := s6 _ _ hcells5
    -- found
    refine ⟨_, rfl, _, rfl, hd, rsH, R, C, (f, r, c), ws, rfl, TH6, g, fun s2' hg2 H7 ff rsF s7 nff nrF TF => ?_, fun hn => by rw [hgo] at hn; cases hn⟩
    rw [hgo] at hg2
    cases hg2
    have T7 := T6.mono s7
    have TH7 := TH6.mono s7
    have TD7 := TD.mono s7
    have nbad : ∀ ws : List Nat, (∀ l ∈ ws, okL l) → ¬ ∃ l ∈ ws, ¬ okL l := fun ws h ⟨l, hl, hb⟩ => hb (h l hl)
    have hsz : ∀ ws : List Nat, ws.length ≤ 1000 → (txt ws).length ≤ sizeLine := fun ws h => by rw [txt_len]; exact Nat.le_of_lt (small1000 h)
    -- found is a list, it is due; handed is as it was
    refine ⟨_, rfl, .ref ff, .ty "list", .type "list", .type "list", true, rfl, .ty "list", .base (.lst TF.top), kit_ty (by decide +kernel), _, rfl, iteF ?_⟩
    refine ⟨_, rfl, _, rfl, rowsD C f' (List.range R), rowsD C f' (List.range R), TF.dp, TD7.dp, shaped_rows _, shaped_rows _, _, rfl, ?_⟩
    rw [eqv_rows]
    refine iteF ?_
    refine ⟨_, rfl, _, rfl, rowsD C f (List.range R), rowsD C f (List.range R), TH7.dp, T7.dp, shaped_rows _, shaped_rows _, _, rfl, ?_⟩
    rw [eqv_rows]
    refine iteF ?_
    -- back
    refine ⟨_, rfl, ws, rfl, by omega, fun _ H8 s8 => ?_, fun hb => nbad ws hok hb⟩
    have TF8 := TF.mono s8
    have T8 := T7.mono s8
    refine ⟨_, rfl, .str _, .ty "str", .type "str", .type "str", true, rfl, .ty "str", .base (.str _), kit_ty (by decide +kernel), _, rfl, iteF ?_⟩
    refine ⟨_, rfl, txt (undo ws), rfl, hsz _ (by rw [undo_len]; omega), _, rfl, txt ws, rfl, hsz _ (by omega), rfl, _, rfl, ?_⟩
    refine iteNS (by rw [txt_len, txt_len, undo_len]) ?_
    have hback := goAll_undo g.z hok hgo
    refine ⟨_, rfl, _, rfl, ff, rsF, R, C, (f', r', c'), undo ws, rfl, TF8, g', fun s2' hg2 H9 p9 rs9 s9 n9 nr9 T9 => ?_, fun hn => by rw [hback] at hn; cases hn⟩
    rw [hback] at hg2
    cases hg2
    have TF9 := TF8.mono s9
    refine ⟨_, rfl, rowsD C f (List.range R), rowsD C f (List.range R), T9.dp, (T8.mono s9).dp, shaped_rows _, shaped_rows _, _, rfl, ?_⟩
    rw [eqv_rows]
    refine iteF ?_
    -- found[0].append(-1)
    have hR0 : 0 < R := g.r0
    obtain ⟨rf, k1, k2, k3⟩ := TF9.get hR0
    have nrf : H6 rf = none := nrF rf (List.mem_of_getElem? k1)
    have ffrf : ff ≠ rf := fun e => TF9.na (e ▸ List.mem_of_getElem? k1)
    refine ⟨.ref ff, rfl, ff, _, 0, _, rfl, rfl, SqL.of TF9.top, atI_nat (j := 0) k2, .inl ⟨rfl, _, SqL.of k3⟩, 1, rfl, rf, _, _, rfl, rfl, k3, ?_, ?_⟩
    · rw [rowV_len]
      exact small1000 (by omega)
    have s69 : Same H6 H9 := (s7.trans s8).trans s9
    have s610 : Same H6 (upd H9 rf (.lst (rowV C f' 0 ++ [V.int (-1)]))) := fun b o e => by
      rw [upd_ne (ne_of_none e nrf)]
      exact s69 _ _ e
    have top10 : (upd H9 rf (.lst (rowV C f' 0 ++ [V.int (-1)]))) ff = some (.lst (rsF.map V.ref)) := (upd_ne ffrf).trans TF9.top
    have rows10 : ∀ i x, rsF[i + 1]? = some x → (upd H9 rf (.lst (rowV C f' 0 ++ [V.int (-1)]))) x = some (.lst (rowV C f' (i + 1))) := fun i x e => by
      rw [upd_ne fun z => by
        rw [z] at e
        exact absurd (nd_ix TF9.nd e k1) (Nat.succ_ne_zero i)]
      exact TF9.row _ _ e
    show tSeq _ _ _ _ (upd H9 rf (.lst (rowV C f' 0 ++ [V.int (-1)])))
    generalize upd H9 rf (.lst (rowV C f' 0 ++ [V.int (-1)])) = H10 at s610 top10 rows10 ⊢
    -- found[1:] != due[1:]
    have TD10 := TD.mono s610
    refine ⟨.ref ff, rfl, 1, rfl, ff, _, rfl, SqL.of top10, fun q1 nq1 => ?_⟩
    rw [cut1, ← List.map_drop]
    have a1 := same_upd (o := .lst ((rsF.drop 1).map V.ref)) nq1
    refine ⟨.ref dd, rfl, 1, rfl, dd, _, rfl, SqL.of (a1 _ _ TD10.top), fun q2 nq2 => ?_⟩
    rw [cut1, ← List.map_drop]
    have a2 := same_upd (o := .lst ((rsD.drop 1).map V.ref)) nq2
    have hq1 := a2 _ _ (upd_same (H := H10) (a := q1) (o := .lst ((rsF.drop 1).map V.ref)))
    have hq2 := upd_same (H := upd H10 q1 (.lst ((rsF.drop 1).map V.ref))) (a := q2) (o := .lst ((rsD.drop 1).map V.ref))
    have a12 := a1.trans a2
    show ∃ d, _
    generalize upd (upd H10 q1 (.lst ((rsF.drop 1).map V.ref))) q2 (.lst ((rsD.drop 1).map V.ref)) = H12 at hq1 hq2 a12 ⊢
    have hks : ∀ i k, ((List.range R).drop 1)[i]? = some k → k = i + 1 := fun i k e => by
      rw [drop_get] at e
      have hi := (List.getElem?_eq_some_iff.mp e).1
      rw [List.length_range] at hi
      rw [List.getElem?_range hi] at e
      exact (Option.some.inj e).symm
    refine ⟨rowsD C f' ((List.range R).drop 1), rowsD C f' ((List.range R).drop 1), dp_rows hq1 ?_ ?_, dp_rows hq2 ?_ ?_, shaped_rows _, shaped_rows _, _, rfl, ?_⟩
    · rw [List.length_drop, List.length_drop, TF.len, List.length_range]
    · intro i x k e1 e2
      rw [hks i k e2]
      rw [drop_get] at e1
      exact a12 _ _ (rows10 i x e1)
    · rw [List.length_drop, List.length_drop, TD.len, List.length_range]
    · intro i x k e1 e2
      rw [hks i k e2]
      rw [drop_get] at e1
      exact a12 _ _ (TD10.row _ _ e1)
    rw [eqv_rows]
    refine iteF ?_
    have top12 := a12 _ _ top10
    have s612 := s610.trans a12
    -- found.append([])
    refine ⟨_, rfl, .inl ⟨rfl, _, SqL.of top12⟩, Nat.zero_le _, fun l nl => ?_⟩
    have b1 := same_upd (o := .lst []) nl
    refine ⟨ff, _, _, rfl, rfl, b1 _ _ top12, ?_, ?_⟩
    · rw [List.length_map, TF.len]
      exact small1000 (by omega)
    have s613 : Same H6 (upd (upd H12 l (.lst [])) ff (.lst (rsF.map V.ref ++ [V.ref l]))) := fun b o e => by
      rw [upd_ne (ne_of_none e nff)]
      exact b1 _ _ (s612 _ _ e)
    show tSeq _ _ _ _ (upd (upd H12 l (.lst [])) ff (.lst (rsF.map V.ref ++ [V.ref l])))
    generalize upd (upd H12 l (.lst [])) ff (.lst (rsF.map V.ref ++ [V.ref l])) = H13 at s613 ⊢
    have T13 := T6.mono s613
    have TH13 := TH6.mono s613
    have TD13 := TD.mono s613
    have hcells13 := s613 _ _ hcells6
    -- handed stays; moved once more; no slides
    refine ⟨_, rfl, _, rfl, rowsD C f (List.range R), rowsD C f (List.range R), TH13.dp, T13.dp, shaped_rows _, shaped_rows _, _, rfl, ?_⟩
    rw [eqv_rows]
    refine iteF ?_
    refine ⟨_, rfl, _, rfl, hd, rsH, R, C, (f, r, c), ws, rfl, TH13, g, fun s2' hg2 H14 p14 rs14 s14 n14 nr14 T14 => ?_, fun hn => by rw [hgo] at hn; cases hn⟩
    rw [hgo] at hg2
    cases hg2
    refine ⟨_, rfl, rowsD C f' (List.range R), rowsD C f' (List.range R), T14.dp, (TD13.mono s14).dp, shaped_rows _, shaped_rows _, _, rfl, ?_⟩
    rw [eqv_rows]
    refine iteF ?_
    refine ⟨_, rfl, hd, rsH, R, C, (f, r, c), [], (by rw [empty_eq]; rfl), TH13.mono s14, g, fun s2' hg2 H15 p15 rs15 s15 n15 nr15 T15 => ?_, fun hn => by cases hn⟩
    cases hg2
    have s1315 := s14.trans s15
    refine ⟨_, rfl, rowsD C f (List.range R), rowsD C f (List.range R), T15.dp, (T13.mono s1315).dp, shaped_rows _, shaped_rows _, _, rfl, ?_⟩
    rw [eqv_rows]
    refine iteF ?_
    -- ways
    refine ⟨_, rfl, hd, rsH, R, C, (f, r, c), rfl, TH13.mono s1315, g, fun H16 s16 => ?_⟩
    have T16 := (T13.mono s1315).mono s16
    have TH16 := (TH13.mono s1315).mono s16
    have hcells16 := s16 _ _ (s1315 _ _ hcells13)
    refine ⟨⟨_, rfl⟩, "udlr", rfl, fun D2 nD2 => ?_⟩
    rw [udlr_eq]
    refine lc_gen (walk_str (z := txt udlr)) (fun i H3 => Same H16 H3 ∧ H3 D2 = some (.lst (((udlr.take i).filter fun l => (nxt R C r c l).isSome).map fun l => V.str (txt [l])))) ⟨same_upd nD2, by rw [upd_same]; rfl⟩ (fun _ _ _ _ => True.intro) ?_ ?_
    · rintro i x H3 H4' hi ⟨s3', hD2⟩ ⟨rfl, l', hl, rfl⟩
      have hl : udlr[i]? = some l' := by simpa using hl
      have fm := filter_more (p := fun l => (nxt R C r c l).isSome) hl
      refine ⟨rfl, ?_⟩
      refine ⟨_, rfl, _, rfl, t, rsT, R, C, (f, r, c), [l'], rfl, T16.mono s3', g, fun s2' hg2 H5' p5 rs5 s5' n5 nr5 T5' => ?_, fun hn H5' s5' => ?_⟩
      · rw [goAll_one] at hg2
        have hn : (nxt R C r c l').isSome = true := by rw [(go1_eq hg2).1]; rfl
        refine ⟨_, rfl, ?_⟩
        refine ⟨_, rfl, _, s5' _ _ hD2, ?_, ?_, ?_⟩
        · rw [List.length_map]
          refine small1000 (Nat.le_trans (List.length_filter_le _ _) (Nat.le_trans (List.length_take_le _ _) ?_))
          have : i < 4 := hi
          omega
        · intro b o e
          rw [upd_ne (ne_of_none e nD2)]
          exact s5' _ _ (s3' _ _ e)
        · rw [upd_same, fm, hn, List.map_append]
          rfl
      · rw [goAll_one] at hn
        have hn : (nxt R C r c l').isSome = false := by
          cases e : nxt R C r c l' with
          | none => rfl
          | some n => rw [go1_of_nxt e] at hn; cases hn
        refine ⟨_, rfl, ?_⟩
        refine ⟨s3'.trans s5', ?_⟩
        rw [fm, hn, s5' _ _ hD2]
        simp
    rintro H17 ⟨s17, hD2⟩
    have eud : (udlr.take (txt udlr).cps.size) = udlr := rfl
    rw [eud, txts_map] at hD2
    refine ⟨"", D2, _, rfl, rfl, .inl (SqL.of hD2), ?_, ?_⟩
    · rw [empty_eq, ones_sum]
      exact Nat.le_trans (List.length_filter_le _ _) (by decide)
    rw [empty_eq, join_txt]
    refine ⟨rfl, _, rfl, iteNS rfl ?_⟩
    have T17 := T16.mono s17
    have TH17 := TH16.mono s17
    have hcells17 := s17 _ _ hcells16
    -- free
    refine ⟨⟨_, rfl⟩, _, rfl, p, rfl, ⟨_, SqL.of hcells17⟩, fun D3 nD3 => ?_⟩
    refine lc_gen (walk_list (K := K) (a := p) (xs := cs.map V.int)) (fun i H3 => ∃ fr : List Nat, Same H17 H3 ∧ H3 D3 = some (.lst (lets fr)) ∧ fr.length = i ∧ ∀ l ∈ fr, okL l) ⟨[], same_upd nD3, upd_same, rfl, (fun l h => by cases h)⟩ (fun i H3 _ ⟨_, sm, _⟩ => sm.seq (SqL.of hcells17)) ?_ ?_
    · rintro i x H18 H19 hi ⟨fr, sm, hD3, hfl, hfo⟩ ⟨rfl, hx⟩
      rw [List.length_map] at hi
      rw [List.getElem?_map, List.getElem?_eq_getElem hi] at hx
      cases hx
      refine ⟨rfl, ?_⟩
      refine ⟨_, rfl, cs[i], 3, rfl, by decide, hcb _ (List.getElem_mem hi), fun n => ?_⟩
      obtain ⟨l', hl', hat⟩ := udlr_at (Int.emod_nonneg n (b := 4) (by decide)) (Int.emod_lt_of_pos n (b := 4) (by decide))
      refine ⟨n, 4, rfl, rfl, (by show (0 : Int) < 4; decide), "udlr", _, l', rfl, rfl, (by show 4 ≤ sizeLine; decide), by rw [udlr_eq]; exact hat, ?_⟩
      refine ⟨_, hD3, ?_, fr ++ [l'], ?_, ?_, ?_, ok_more hfo hl'⟩
      · rw [List.length_map]
        exact small1000 (by omega)
      · intro b o e
        rw [upd_ne (ne_of_none e nD3)]
        exact sm _ _ e
      · rw [upd_same]
        show _ = some (HO.lst ((fr ++ [l']).map _))
        rw [List.map_append]
        rfl
      · rw [List.length_append, hfl]
        rfl
    rintro H18 ⟨fr, s18, hD3, hfl, hfo⟩
    rw [List.length_map] at hfl
    have hD3 : H18 D3 = some (.lst ((fr.map fun l => txt [l]).map V.str)) := by rw [hD3, ← txts_map]
    refine ⟨"", D3, _, rfl, rfl, .inl (SqL.of hD3), ?_, ?_⟩
    · rw [empty_eq, ones_sum]
      omega
    rw [empty_eq, join_txt]
    have T18 := T17.mono s18
    have TH18 := TH17.mono s18
    have hcells18 := s18 _ _ hcells17
    -- some of these
    refine ⟨_, rfl, _, rfl, _, rfl, _, rfl, fr, rfl, by omega, fun _ H19 s19 => ?_, fun hb => nbad fr hfo hb⟩
    refine ⟨_, _, rfl, rfl, ?_, _, rfl, _, "ud", rfl, rfl, ?_, _, rfl, _, _, rfl, rfl, ?_, ?_⟩
    · rw [txt_len, txt_len, undo_len]
      exact Nat.le_of_lt (small1000 (by omega))
    · rw [ud_eq, txt_len, txt_len]
      exact Nat.le_of_lt (small1000 (by show ws.length + 2 ≤ 1000; omega))
    · rw [ud_eq, txt_add, txt_len, txt_len, undo_len, List.length_append]
      exact Nat.le_of_lt (small1000 (by show ws.length + 2 + ws.length ≤ 1000; omega))
    rw [ud_eq, txt_add, txt_add, txt_add]
    refine ⟨(by show 4 ≤ sizeLine; decide), fun L nL => ?_⟩
    have hall : ∀ x ∈ [V.str (txt ws), V.str (txt fr), V.str (txt (fr ++ undo fr)), V.str (txt (ws ++ [117, 100] ++ undo ws))], ∃ us, x = V.str (txt us) ∧ us.length ≤ 1000 ∧ ∀ l ∈ us, okL l := by
      intro x hx
      have app : ∀ {a b : List Nat}, (∀ l ∈ a, okL l) → (∀ l ∈ b, okL l) → ∀ l ∈ a ++ b, okL l := fun ha hb l hl => by
        rcases List.mem_append.mp hl with h | h
        · exact ha l h
        · exact hb l h
      rcases List.mem_cons.mp hx with h | hx
      · exact ⟨ws, h, by omega, hok⟩
      rcases List.mem_cons.mp hx with h | hx
      · exact ⟨fr, h, by omega, hfo⟩
      rcases List.mem_cons.mp hx with h | hx
      · exact ⟨fr ++ undo fr, h, by rw [List.length_append, undo_len]; omega, app hfo (undo_ok hfo)⟩
      · refine ⟨ws ++ [117, 100] ++ undo ws, List.mem_singleton.mp hx, ?_, app (app hok ?_) (undo_ok hok)⟩
        · rw [List.length_append, List.length_append, undo_len]
          show ws.length + 2 + ws.length ≤ 1000
          omega
        · intro l hl
          rcases List.mem_cons.mp hl with h | hl
          · rw [h]; exact .inl rfl
          · rw [List.mem_singleton.mp hl]; exact .inr (.inl rfl)
    have s1920 := same_upd (o := .lst [V.str (txt ws), V.str (txt fr), V.str (txt (fr ++ undo fr)), V.str (txt (ws ++ [117, 100] ++ undo ws))]) nL
    have hL := upd_same (H := H19) (a := L) (o := .lst [V.str (txt ws), V.str (txt fr), V.str (txt (fr ++ undo fr)), V.str (txt (ws ++ [117, 100] ++ undo ws))])
    have T20 := (T18.mono s19).mono s1920
    have TH20 := (TH18.mono s19).mono s1920
    have hcells20 := s1920 _ _ (s19 _ _ hcells18)
    refine ⟨L, rfl, ⟨_, SqL.of hL⟩, ?_⟩
    generalize upd H19 L (.lst [V.str (txt ws), V.str (txt fr), V.str (txt (fr ++ undo fr)), V.str (txt (ws ++ [117, 100] ++ undo ws))]) = H20 at hL T20 TH20 hcells20 s1920 ⊢
    generalize [V.str (txt ws), V.str (txt fr), V.str (txt (fr ++ undo fr)), V.str (txt (ws ++ [117, 100] ++ undo ws))] = xs at hL hall
    refine for_list (K := K) (a := L) (xs := xs) (fun i σ H' => Same H20 H' ∧ ∃ v, σ = [some (.ref a), some (.ref p), some (.int m), some (.ref t), some (.ref hd), none, none, some (.str (txt ws)), some (.ref dd), some (.ref ff), some (.str (txt (undo ws))), some (.str (txt fr)), v, none, none, none, none])
      ⟨Same.refl _, none, rfl⟩ (fun i σ H' _ p => p.1.seq (SqL.of hL)) ?_ ?_
    · rintro i x σ H' hx ⟨sm, v, rfl⟩
      obtain ⟨us, rfl, hul, huo⟩ := hall x (List.mem_of_getElem? hx)
      refine ⟨_, rfl, us, rfl, hul, fun _ H21 s21 => ?_, fun hb => nbad us huo hb⟩
      refine ⟨_, rfl, us, rfl, hul, huo, fun H22 s22 => ?_⟩
      refine ⟨rfl, _, rfl, ?_⟩
      rw [thin_same]
      refine iteNS rfl ?_
      refine ⟨_, rfl, us, rfl, hul, fun _ H23 s23 => ?_, fun hb => nbad us huo hb⟩
      refine ⟨undo us, rfl, by rw [undo_len]; exact hul, fun _ H24 s24 => ?_, fun hb => nbad _ (undo_ok huo) hb⟩
      rw [undo_undo]
      refine ⟨_, rfl, rfl, _, rfl, iteNS rfl ?_⟩
      exact ⟨(((sm.trans s21).trans s22).trans s23).trans s24, _, rfl⟩
    rintro σ H21 ⟨s21, v, rfl⟩
    have T21 := T20.mono s21
    have TH21 := TH20.mono s21
    have hcells21 := s21 _ _ hcells20
    -- bent
    refine ⟨.ref p, rfl, 5, rfl, p, _, rfl, SqL.of hcells21, fun L2' nL2 => ?_⟩
    have s22 := same_upd (o := .lst (cutV (cs.map V.int) none (some 5))) nL2
    have hL2 := upd_same (H := H21) (a := L2') (o := .lst (cutV (cs.map V.int) none (some 5)))
    have T22 := T21.mono s22
    have TH22 := TH21.mono s22
    have hints : ∀ x ∈ cutV (cs.map V.int) none (some 5), ∃ z, x = V.int z := by
      intro x hx
      unfold cutV at hx
      obtain ⟨z, _, e⟩ := List.mem_map.mp (List.mem_of_mem_drop (List.mem_of_mem_take hx))
      exact ⟨z, e.symm⟩
    refine ⟨L2', rfl, ⟨_, SqL.of hL2⟩, ?_⟩
    generalize upd H21 L2' (.lst (cutV (cs.map V.int) none (some 5))) = H22 at hL2 T22 TH22 s22 ⊢
    generalize cutV (cs.map V.int) none (some 5) = ys at hL2 hints
    refine for_list (K := K) (a := L2') (xs := ys) (fun i σ H' => Same H22 H' ∧ ∃ v5 v6 v12 v13 v14, σ = [some (.ref a), some (.ref p), some (.int m), some (.ref t), some (.ref hd), v5, v6, some (.str (txt ws)), some (.ref dd), some (.ref ff), some (.str (txt (undo ws))), some (.str (txt fr)), v12, v13, v14, none, none])
      ⟨Same.refl _, none, none, v, none, none, rfl⟩ (fun i σ H' _ p => p.1.seq (SqL.of hL2)) ?_ ?_
    · rintro i x σ H' hx ⟨sm, v5, v6, v12, v13, v14, rfl⟩
      obtain ⟨y, rfl⟩ := hints x (List.mem_of_getElem? hx)
      have T23 := T22.mono sm
      have TH23 := TH22.mono sm
      have hwz := hsz ws (by omega)
      refine ⟨_, rfl, y, 3, rfl, rfl, ⟨by decide, by decide⟩, _, rfl, txt ws, rfl, hwz, _, 1, rfl, rfl, y / 3, ((txt ws).length : Int) + 1, rfl, rfl, by omega, ?_⟩
      obtain ⟨at', hat⟩ : ∃ at', (y / 3).fmod (((txt ws).length : Int) + 1) = at' := ⟨_, rfl⟩
      have m1 := Int.emod_nonneg y (b := 5) (by decide)
      have m2 := Int.emod_lt_of_pos y (b := 5) (by decide)
      obtain ⟨mid, hm1, hm2⟩ := mids (y % 5) m1 m2
      obtain ⟨x1, hx1, hl1⟩ := cut_some ws none (some at')
      obtain ⟨x2, hx2, hl2⟩ := cut_some ws (some (at' + y / 7 % 2)) none
      have sizes : ∀ a b : List Nat, a.length ≤ 400 → b.length ≤ 400 → (txt a).length + (txt b).length ≤ sizeLine := fun a b ha hb => by
        rw [txt_len, txt_len]
        exact Nat.le_of_lt (small1000 (by omega))
      refine ⟨_, rfl, _, rfl, at', congrArg V.int hat, txt ws, rfl, hwz, (by show 5 ≤ sizeLine; decide), fun tp ntp => ?_⟩
      have s24 := same_upd (o := .tup [V.str "u", V.str "l", V.str "x", V.str (txt []), V.str "d"]) ntp
      refine ⟨_, rfl, y, 5, rfl, rfl, (by show (0 : Int) < 5; decide), tp, _, _, _, rfl, rfl, SqT.of upd_same, hm2, _, txt mid, rfl, rfl, ?_, ?_⟩
      · rw [hx1]
        exact sizes _ _ (by omega) (by omega)
      refine ⟨_, rfl, _, rfl, _, rfl, y, 7, rfl, rfl, ⟨by decide, by decide⟩, y / 7, 2, rfl, rfl, (by show (0 : Int) < 2; decide), at', y / 7 % 2, congrArg V.int hat, rfl, at' + y / 7 % 2, rfl, txt ws, rfl, hwz, _, _, rfl, rfl, ?_, ?_⟩
      · rw [hx1, txt_add]
        show _ + (cutS (txt ws) (some (at' + y / 7 % 2)) none).length ≤ sizeLine
        rw [hx2]
        exact sizes _ _ (by rw [List.length_append]; omega) (by omega)
      have hbent : cutS (txt ws) none (some at') ++ txt mid ++ cutS (txt ws) (some (at' + y / 7 % 2)) none = txt (x1 ++ mid ++ x2) := by
        rw [hx1, hx2, txt_add, txt_add]
      generalize x1 ++ mid ++ x2 = bs at hbent
      have T24 := T23.mono s24
      have TH24 := TH23.mono s24
      have sm24 := sm.trans s24
      generalize upd H' tp (.tup [V.str "u", V.str "l", V.str "x", V.str (txt []), V.str "d"]) = H24 at s24 T24 TH24 sm24 ⊢
      refine ⟨_, rfl, _, rfl, t, rsT, R, C, (f, r, c), bs, ?_, T24, g, fun s2' hg2 H25 p25 rs25 s25 n25 nr25 T25 => ?_, fun hn H25 s25 => ?_⟩
      · show [V.ref t, V.str (cutS (txt ws) none (some at') ++ txt mid ++ cutS (txt ws) (some (at' + y / 7 % 2)) none)] = _
        rw [hbent]
      · refine ⟨_, rfl, _, rfl, iteF (iteF ?_)⟩
        refine ⟨_, rfl, _, rfl, iteT ?_⟩
        refine ⟨_, rfl, _, rfl, hd, rsH, R, C, (f, r, c), bs, ?_, TH24.mono s25, g, fun s3' hg3 H26 p26 rs26 s26 n26 nr26 T26 => ?_, fun hn => by rw [hg2] at hn; cases hn⟩
        · show [V.ref hd, V.str (cutS (txt ws) none (some at') ++ txt mid ++ cutS (txt ws) (some (at' + y / 7 % 2)) none)] = _
          rw [hbent]
        rw [hg2] at hg3
        cases hg3
        refine ⟨_, rfl, rowsD C s2'.1 (List.range R), rowsD C s2'.1 (List.range R), T26.dp, (T25.mono s26).dp, shaped_rows _, shaped_rows _, _, rfl, ?_⟩
        rw [eqv_rows]
        refine iteF ?_
        exact ⟨(sm24.trans s25).trans s26, _, _, _, _, _, rfl⟩
      · refine ⟨_, rfl, _, rfl, iteT ?_⟩
        refine ⟨_, rfl, _, rfl, hd, rsH, R, C, (f, r, c), bs, ?_, TH24.mono s25, g, fun H26 s26 => ?_⟩
        · show [V.ref hd, V.str (cutS (txt ws) none (some at') ++ txt mid ++ cutS (txt ws) (some (at' + y / 7 % 2)) none)] = _
          rw [hbent]
        rw [decide_eq_true hn]
        refine ⟨_, rfl, iteF ?_⟩
        refine ⟨_, rfl, _, rfl, iteF (iteF ?_)⟩
        exact ⟨(sm24.trans s25).trans s26, _, _, _, _, _, rfl⟩
    rintro σ H23 ⟨s23, v5, v6, v12, v13, v14, rfl⟩
    -- by hand
    refine ⟨(by show 2 ≤ sizeLine; decide), fun i1 ni1 => ⟨(by show 1 ≤ sizeLine; decide), fun o1 no1 => ?_⟩⟩
    have w1 := same_upd (o := .lst [V.int 1, V.int 0]) ni1
    have w2 := same_upd (o := .lst [V.ref i1]) no1
    have hi1 := w2 _ _ (upd_same (H := H23) (a := i1) (o := .lst [V.int 1, V.int 0]))
    have ho1 := upd_same (H := upd H23 i1 (.lst [V.int 1, V.int 0])) (a := o1) (o := .lst [V.ref i1])
    have ne1 : o1 ≠ i1 := fun e => by
      rw [e, upd_same] at no1
      cases no1
    refine ⟨o1, [i1], 1, 2, (f10, 0, 1), [108], (by rw [l_eq]; rfl), tray1 hi1 ho1 rfl ne1, good10, fun s2' hg2 H24 p24 rs24 s24 n24 nr24 T24 => ?_, fun hn => by cases hn⟩
    cases hg2
    refine ⟨(by show 2 ≤ sizeLine; decide), fun i2 ni2 => ⟨(by show 1 ≤ sizeLine; decide), fun o2 no2 => ?_⟩⟩
    have w3 := same_upd (o := .lst [V.int 0, V.int 1]) ni2
    have w4 := same_upd (o := .lst [V.ref i2]) no2
    have hi2 := w4 _ _ (upd_same (H := H24) (a := i2) (o := .lst [V.int 0, V.int 1]))
    have ho2 := upd_same (H := upd H24 i2 (.lst [V.int 0, V.int 1])) (a := o2) (o := .lst [V.ref i2])
    have ne2 : o2 ≠ i2 := fun e => by
      rw [e, upd_same] at no2
      cases no2
    have T25 := tray1 (C := 2) (f := put2 f10 (0 * 2 + 1) (0 * 2 + 0)) hi2 ho2 rfl ne2
    refine ⟨rowsD 2 (put2 f10 (0 * 2 + 1) (0 * 2 + 0)) (List.range 1), rowsD 2 (put2 f10 (0 * 2 + 1) (0 * 2 + 0)) (List.range 1), (T24.mono (w3.trans w4)).dp, T25.dp, shaped_rows _, shaped_rows _, ?_⟩
    rw [eqv_rows]
    refine ⟨true, rfl, iteT ?_⟩
    refine ⟨(by show 1 ≤ sizeLine; decide), fun i3 ni3 => ⟨(by show 1 ≤ sizeLine; decide), fun o3 no3 => ?_⟩⟩
    have w6 := same_upd (o := .lst [V.ref i3]) no3
    have hi3 := w6 _ _ (upd_same (a := i3) (o := .lst [V.int 0]))
    have ne3 : o3 ≠ i3 := fun e => by
      rw [e, upd_same] at no3
      cases no3
    refine ⟨o3, [i3], 1, 1, ((fun _ => 0 : Fld), 0, 0), rfl, tray1 hi3 upd_same rfl ne3, good0, fun H26 s26 => ?_⟩
    refine ⟨rfl, ?_⟩
    rw [decide_eq_true (show V.str (txt (waysL 1 1 ((fun _ => 0 : Fld), 0, 0))) = V.str (txt []) from rfl)]
    refine ⟨true, rfl, iteT ?_⟩
    have ht : ("udlrl" : Str) = txt [117, 100, 108, 114, 108] := by decide +kernel
    refine ⟨[117, 100, 108, 114, 108], (by rw [ht]; rfl), by decide, fun _ H27 s27 => ?_, fun hb => nbad [117, 100, 108, 114, 108] (by decide) hb⟩
    refine ⟨rfl, ?_⟩
    rw [decide_eq_true (show V.str (txt (thinL [117, 100, 108, 114, 108])) = V.str "l" by rw [l_eq]; rfl)]
    exact q _
end
end Tr
namespace Tr
open PySem PySem.Spec PyProof.Rows L2
theorem kit_own {K : PySem.W.Frag} {D C : Addr} {b : Bool} (h2 : PySem.W.isClsIn K C = true) (h3 : PySem.W.typeIn K (.ref C) = some (.type "type")) (h4 : PySem.W.subIn K (.ref D) (.ref C) = some b) (h5 : PySem.W.subIn K (.ref D) (.ref D) = some true) : PySem.W.kitOne K (.ref D) (.ref C) = some b := by
  unfold PySem.W.kitOne
  by_cases e : ((Value.ref D == Value.ref C) = true)
  · rw [if_pos e]
    have e2 : D = C := Value.ref.inj (beq_iff_eq.mp e)
    subst e2
    rw [h5] at h4
    exact h4
  · rw [if_neg e]
    have e2 : ((PySem.W.clsIn K C).isSome && PySem.W.typeIn K (.ref C) == some (.type "type")) = true := by
      have h2' : (PySem.W.clsIn K C).isSome = true := h2
      rw [h2', h3] <;> rfl
    show (if ((PySem.W.clsIn K C).isSome && PySem.W.typeIn K (.ref C) == some (.type "type")) = true then PySem.W.subIn K (.ref D) (.ref C) else none) = some b
    rw [if_pos e2]
    exact h4
theorem sgn_eq (a c : Nat) : ((txt [a] : Str) == txt [c]) = decide (a = c) := by
  by_cases h : a = c
  · subst h
    rw [decide_eq_true rfl]
    exact beq_self_eq_true _
  · rw [decide_eq_false h]
    exact beq_eq_false_iff_ne.mpr fun e => h (List.head_eq_of_cons_eq (txt_inj e))
theorem ns4 {K : PySem.W.Frag} {d : Addr} {n : Nat} {h1 h2 h3 h4 : Int} {t1 t2 t3 t4 : Tok} {v1 v2 v3 v4 : Value}
    (l : K.lookup d = some ⟨.type "dict", none, .dict #[⟨h1, .str "u" t1, v1⟩, ⟨h2, .str "d" t2, v2⟩, ⟨h3, .str "l" t3, v3⟩, ⟨h4, .str "r" t4, v4⟩] n, #[]⟩) (c : Nat) :
    PySem.W.nsIn K d (txt [c]) = some (if c = 117 then some v1 else if c = 100 then some v2 else if c = 108 then some v3 else if c = 114 then some v4 else none) := by
  unfold PySem.W.nsIn
  rw [l]
  have f : (#[⟨h1, .str "u" t1, v1⟩, ⟨h2, .str "d" t2, v2⟩, ⟨h3, .str "l" t3, v3⟩, ⟨h4, .str "r" t4, v4⟩] : Array DictEntry).toList.find? (fun e => e.key.isStr (txt [c])) =
      if c = 117 then some ⟨h1, .str "u" t1, v1⟩ else if c = 100 then some ⟨h2, .str "d" t2, v2⟩ else if c = 108 then some ⟨h3, .str "l" t3, v3⟩ else if c = 114 then some ⟨h4, .str "r" t4, v4⟩ else none := by
    show List.find? (fun e : DictEntry => e.key.isStr (txt [c])) [⟨h1, .str "u" t1, v1⟩, ⟨h2, .str "d" t2, v2⟩, ⟨h3, .str "l" t3, v3⟩, ⟨h4, .str "r" t4, v4⟩] = _
    rw [u_eq, d_eq, l_eq, r_eq]
    have g : ∀ (h : Int) (a : Nat) (t : Tok) (v : Value), Value.isStr (DictEntry.key ⟨h, .str (txt [a]) t, v⟩) (txt [c]) = decide (a = c) := fun h a t v => sgn_eq a c
    by_cases z1 : c = 117
    · rw [if_pos z1, List.find?_cons_of_pos (by rw [g]; exact decide_eq_true z1.symm)]
    rw [if_neg z1, List.find?_cons_of_neg (by rw [g, decide_eq_true_eq]; exact fun e => z1 e.symm)]
    by_cases z2 : c = 100
    · rw [if_pos z2, List.find?_cons_of_pos (by rw [g]; exact decide_eq_true z2.symm)]
    rw [if_neg z2, List.find?_cons_of_neg (by rw [g, decide_eq_true_eq]; exact fun e => z2 e.symm)]
    by_cases z3 : c = 108
    · rw [if_pos z3, List.find?_cons_of_pos (by rw [g]; exact decide_eq_true z3.symm)]
    rw [if_neg z3, List.find?_cons_of_neg (by rw [g, decide_eq_true_eq]; exact fun e => z3 e.symm)]
    by_cases z4 : c = 114
    · rw [if_pos z4, List.find?_cons_of_pos (by rw [g]; exact decide_eq_true z4.symm)]
    rw [if_neg z4, List.find?_cons_of_neg (by rw [g, decide_eq_true_eq]; exact fun e => z4 e.symm)]
    rfl
  dsimp only
  rw [f]
  by_cases z1 : c = 117
  · rw [if_pos z1, if_pos z1]
  rw [if_neg z1, if_neg z1]
  by_cases z2 : c = 100
  · rw [if_pos z2, if_pos z2]
  rw [if_neg z2, if_neg z2]
  by_cases z3 : c = 108
  · rw [if_pos z3, if_pos z3]
  rw [if_neg z3, if_neg z3]
  by_cases z4 : c = 114
  · rw [if_pos z4, if_pos z4]
  rw [if_neg z4, if_neg z4]
  rfl
theorem sqT_two {K : PySem.W.Frag} {p : Addr} {a b : Int} {ta tb : Tok} {od : Option Addr} {n : Nat} {sl : Array (Option Value)} (l : K.lookup p = some ⟨.type "tuple", od, .seq #[.int a ta, .int b tb] n, sl⟩) : ∀ H, SqT K H p [.int a, .int b] := fun H =>
  .inr ⟨_, #[.int a ta, .int b tb], n, l, rfl, rfl, (by show 2 ≤ sizeLine; decide), .cons ⟨_, rfl⟩ (.cons ⟨_, rfl⟩ .nil)⟩
theorem all_mk {l : PySem.W.OpenLaw} {w : World} {K : PySem.W.Frag} {h : Heap} {mg : Str → Option Value} {fa CE CT CS CU dS dB p1 p2 p3 p4 f0 f1 f2 f3 f4 f5 f6 f7 f8 f9 f10 f11 f12 f13 f14 f15 f16 : Addr} (X : K.In h) (G : h.Ns mainGlobals mg) (hfa : mg "law" = some (.ref fa))
    {od0 an0 od1 an1 od2 an2 od3 an3 od4 an4 od5 an5 od6 an6 od7 an7 od8 an8 od9 an9 od10 an10 od11 an11 od12 an12 od13 an13 od14 an14 od15 an15 od16 an16 qd1 qd2 qd3 qd4 : Option Addr} {sl0 sl1 sl2 sl3 sl4 sl5 sl6 sl7 sl8 sl9 sl10 sl11 sl12 sl13 sl14 sl15 sl16 qs1 qs2 qs3 qs4 : Array (Option Value)} {oc0 kV0 dc0 pm0 cd0 ct0 oc1 kV1 dc1 pm1 cd1 ct1 oc2 kV2 dc2 pm2 cd2 ct2 oc3 kV3 dc3 pm3 cd3 ct3 oc4 kV4 dc4 pm4 cd4 ct4 oc5 kV5 dc5 pm5 cd5 ct5 oc6 kV6 dc6 pm6 cd6 ct6 oc7 kV7 dc7 pm7 cd7 ct7 oc8 kV8 dc8 pm8 cd8 ct8 oc9 kV9 dc9 pm9 cd9 ct9 oc10 kV10 dc10 pm10 cd10 ct10 oc11 kV11 dc11 pm11 cd11 ct11 oc12 kV12 dc12 pm12 cd12 ct12 oc13 kV13 dc13 pm13 cd13 ct13 oc14 kV14 dc14 pm14 cd14 ct14 oc15 kV15 dc15 pm15 cd15 ct15 oc16 kV16 dc16 pm16 cd16 ct16 : Value} {tM tL ks1 ks2 ks3 ks4 kb1 kb2 kb3 kb4 vb1 vb2 vb3 vb4 qa1 qa2 qa3 qa4 qb1 qb2 qb3 qb4 : Tok} {hs1 hs2 hs3 hs4 hb1 hb2 hb3 hb4 : Int} {nS nB qn1 qn2 qn3 qn4 : Nat}
    (a0 : PySem.W.nsIn K mainGlobals "moved" = some (some (.ref f0)))
    (l0 : K.lookup f0 = some ⟨oc0, od0, .func (PySem.W.fnOf "moved" "moved" (defArgs sMoved) (defBody sMoved) (defScope sMoved) .none kV0 dc0 pm0 an0 cd0 ct0), sl0⟩)
    (c0 : PySem.W.codeIn K cd0 "moved" = true)
    (k0 : PySem.W.keepIn K (.ref f0) = true)
    (a1 : PySem.W.nsIn K mainGlobals "ways" = some (some (.ref f1)))
    (l1 : K.lookup f1 = some ⟨oc1, od1, .func (PySem.W.fnOf "ways" "ways" (defArgs sWays) (defBody sWays) (defScope sWays) .none kV1 dc1 pm1 an1 cd1 ct1), sl1⟩)
    (c1 : PySem.W.codeIn K cd1 "ways" = true)
    (k1 : PySem.W.keepIn K (.ref f1) = true)
    (a2 : PySem.W.nsIn K mainGlobals "undone" = some (some (.ref f2)))
    (l2 : K.lookup f2 = some ⟨oc2, od2, .func (PySem.W.fnOf "undone" "undone" (defArgs sUndone) (defBody sUndone) (defScope sUndone) .none kV2 dc2 pm2 an2 cd2 ct2), sl2⟩)
    (c2 : PySem.W.codeIn K cd2 "undone" = true)
    (k2 : PySem.W.keepIn K (.ref f2) = true)
    (a3 : PySem.W.nsIn K mainGlobals "thinned" = some (some (.ref f3)))
    (l3 : K.lookup f3 = some ⟨oc3, od3, .func (PySem.W.fnOf "thinned" "thinned" (defArgs sThinned) (defBody sThinned) (defScope sThinned) .none kV3 dc3 pm3 an3 cd3 ct3), sl3⟩)
    (c3 : PySem.W.codeIn K cd3 "thinned" = true)
    (k3 : PySem.W.keepIn K (.ref f3) = true)
    (a4 : PySem.W.nsIn K mainGlobals "check_tray" = some (some (.ref f4)))
    (l4 : K.lookup f4 = some ⟨oc4, od4, .func (PySem.W.fnOf "check_tray" "check_tray" (defArgs sCheckT) (defBody sCheckT) (defScope sCheckT) .none kV4 dc4 pm4 an4 cd4 ct4), sl4⟩)
    (c4 : PySem.W.codeIn K cd4 "check_tray" = true)
    (k4 : PySem.W.keepIn K (.ref f4) = true)
    (a5 : PySem.W.nsIn K mainGlobals "check_slides" = some (some (.ref f5)))
    (l5 : K.lookup f5 = some ⟨oc5, od5, .func (PySem.W.fnOf "check_slides" "check_slides" (defArgs sCheckS) (defBody sCheckS) (defScope sCheckS) .none kV5 dc5 pm5 an5 cd5 ct5), sl5⟩)
    (c5 : PySem.W.codeIn K cd5 "check_slides" = true)
    (k5 : PySem.W.keepIn K (.ref f5) = true)
    (a6 : PySem.W.nsIn K mainGlobals "empty_place" = some (some (.ref f6)))
    (l6 : K.lookup f6 = some ⟨oc6, od6, .func (PySem.W.fnOf "empty_place" "empty_place" (defArgs sEmpty) (defBody sEmpty) (defScope sEmpty) .none kV6 dc6 pm6 an6 cd6 ct6), sl6⟩)
    (c6 : PySem.W.codeIn K cd6 "empty_place" = true)
    (k6 : PySem.W.keepIn K (.ref f6) = true)
    (a7 : PySem.W.nsIn K mainGlobals "place_beside" = some (some (.ref f7)))
    (l7 : K.lookup f7 = some ⟨oc7, od7, .func (PySem.W.fnOf "place_beside" "place_beside" (defArgs sBeside) (defBody sBeside) (defScope sBeside) .none kV7 dc7 pm7 an7 cd7 ct7), sl7⟩)
    (c7 : PySem.W.codeIn K cd7 "place_beside" = true)
    (k7 : PySem.W.keepIn K (.ref f7) = true)
    (a8 : PySem.W.nsIn K mainGlobals "_law_order" = some (some (.ref f8)))
    (l8 : K.lookup f8 = some ⟨oc8, od8, .func (PySem.W.fnOf "_law_order" "_law_order" (defArgs sOrder) (defBody sOrder) (defScope sOrder) .none kV8 dc8 pm8 an8 cd8 ct8), sl8⟩)
    (c8 : PySem.W.codeIn K cd8 "_law_order" = true)
    (k8 : PySem.W.keepIn K (.ref f8) = true)
    (a9 : PySem.W.nsIn K mainGlobals "_law_digits" = some (some (.ref f9)))
    (l9 : K.lookup f9 = some ⟨oc9, od9, .func (PySem.W.fnOf "_law_digits" "_law_digits" (defArgs sDigits) (defBody sDigits) (defScope sDigits) .none kV9 dc9 pm9 an9 cd9 ct9), sl9⟩)
    (c9 : PySem.W.codeIn K cd9 "_law_digits" = true)
    (k9 : PySem.W.keepIn K (.ref f9) = true)
    (a10 : PySem.W.nsIn K mainGlobals "_law_tray" = some (some (.ref f10)))
    (l10 : K.lookup f10 = some ⟨oc10, od10, .func (PySem.W.fnOf "_law_tray" "_law_tray" (defArgs sTrayL) (defBody sTrayL) (defScope sTrayL) .none kV10 dc10 pm10 an10 cd10 ct10), sl10⟩)
    (c10 : PySem.W.codeIn K cd10 "_law_tray" = true)
    (k10 : PySem.W.keepIn K (.ref f10) = true)
    (a11 : PySem.W.nsIn K mainGlobals "_law_place" = some (some (.ref f11)))
    (l11 : K.lookup f11 = some ⟨oc11, od11, .func (PySem.W.fnOf "_law_place" "_law_place" (defArgs sPlace) (defBody sPlace) (defScope sPlace) .none kV11 dc11 pm11 an11 cd11 ct11), sl11⟩)
    (c11 : PySem.W.codeIn K cd11 "_law_place" = true)
    (k11 : PySem.W.keepIn K (.ref f11) = true)
    (a12 : PySem.W.nsIn K mainGlobals "_law_slid" = some (some (.ref f12)))
    (l12 : K.lookup f12 = some ⟨oc12, od12, .func (PySem.W.fnOf "_law_slid" "_law_slid" (defArgs sSlid) (defBody sSlid) (defScope sSlid) .none kV12 dc12 pm12 an12 cd12 ct12), sl12⟩)
    (c12 : PySem.W.codeIn K cd12 "_law_slid" = true)
    (k12 : PySem.W.keepIn K (.ref f12) = true)
    (a13 : PySem.W.nsIn K mainGlobals "_law_walk" = some (some (.ref f13)))
    (l13 : K.lookup f13 = some ⟨oc13, od13, .func (PySem.W.fnOf "_law_walk" "_law_walk" (defArgs sWalk) (defBody sWalk) (defScope sWalk) .none kV13 dc13 pm13 an13 cd13 ct13), sl13⟩)
    (c13 : PySem.W.codeIn K cd13 "_law_walk" = true)
    (k13 : PySem.W.keepIn K (.ref f13) = true)
    (a14 : PySem.W.nsIn K mainGlobals "_law_none" = some (some (.ref f14)))
    (l14 : K.lookup f14 = some ⟨oc14, od14, .func (PySem.W.fnOf "_law_none" "_law_none" (defArgs sNone) (defBody sNone) (defScope sNone) .none kV14 dc14 pm14 an14 cd14 ct14), sl14⟩)
    (c14 : PySem.W.codeIn K cd14 "_law_none" = true)
    (k14 : PySem.W.keepIn K (.ref f14) = true)
    (a15 : PySem.W.nsIn K mainGlobals "_law_thin" = some (some (.ref f15)))
    (l15 : K.lookup f15 = some ⟨oc15, od15, .func (PySem.W.fnOf "_law_thin" "_law_thin" (defArgs sThin) (defBody sThin) (defScope sThin) .none kV15 dc15 pm15 an15 cd15 ct15), sl15⟩)
    (c15 : PySem.W.codeIn K cd15 "_law_thin" = true)
    (k15 : PySem.W.keepIn K (.ref f15) = true)
    (a16 : PySem.W.nsIn K mainGlobals "law" = some (some (.ref f16)))
    (l16 : K.lookup f16 = some ⟨oc16, od16, .func (PySem.W.fnOf "law" "law" (defArgs sLaw) (defBody sLaw) (defScope sLaw) .none kV16 dc16 pm16 an16 cd16 ct16), sl16⟩)
    (c16 : PySem.W.codeIn K cd16 "law" = true)
    (k16 : PySem.W.keepIn K (.ref f16) = true)
    (z_list : PySem.W.nsIn K mainGlobals "list" = some none)
    (z_len : PySem.W.nsIn K mainGlobals "len" = some none)
    (z_isinstance : PySem.W.nsIn K mainGlobals "isinstance" = some none)
    (z_int : PySem.W.nsIn K mainGlobals "int" = some none)
    (z_bool : PySem.W.nsIn K mainGlobals "bool" = some none)
    (z_sorted : PySem.W.nsIn K mainGlobals "sorted" = some none)
    (z_range : PySem.W.nsIn K mainGlobals "range" = some none)
    (z_str : PySem.W.nsIn K mainGlobals "str" = some none)
    (z_sum : PySem.W.nsIn K mainGlobals "sum" = some none)
    (z_enumerate : PySem.W.nsIn K mainGlobals "enumerate" = some none)
    (gCE : PySem.W.nsIn K mainGlobals "TrayError" = some (some (.ref CE)))
    (iCE : PySem.W.isClsIn K CE = true)
    (tCE : PySem.W.typeIn K (.ref CE) = some (.type "type"))
    (gCT : PySem.W.nsIn K mainGlobals "BadTray" = some (some (.ref CT)))
    (iCT : PySem.W.isClsIn K CT = true)
    (tCT : PySem.W.typeIn K (.ref CT) = some (.type "type"))
    (gCS : PySem.W.nsIn K mainGlobals "BadSlides" = some (some (.ref CS)))
    (iCS : PySem.W.isClsIn K CS = true)
    (tCS : PySem.W.typeIn K (.ref CS) = some (.type "type"))
    (gCU : PySem.W.nsIn K mainGlobals "Unlike" = some (some (.ref CU)))
    (iCU : PySem.W.isClsIn K CU = true)
    (tCU : PySem.W.typeIn K (.ref CU) = some (.type "type"))
    (xS : PySem.W.excIn K CS [.type "ValueError", .type "Exception", .type "BaseException", .type "object"] "ValueError.__new__" = true)
    (kS : PySem.W.keepIn K (.ref CS) = true)
    (bS : PySem.W.subIn K (.ref CS) (.type "BaseException") = some true)
    (bE : PySem.W.subIn K (.ref CE) (.type "BaseException") = some true)
    (hE : PySem.W.hasDictIn K CE = true)
    (sE : PySem.W.subIn K (.ref CS) (.ref CE) = some true)
    (sS : PySem.W.subIn K (.ref CS) (.ref CS) = some true)
    (sT : PySem.W.subIn K (.ref CS) (.ref CT) = some false)
    (sU : PySem.W.subIn K (.ref CS) (.ref CU) = some false)
    (eg : PySem.W.findIn K (.ref CS) "__getattribute__" = some (some (.builtin "BaseException.__getattribute__")))
    (ek : PySem.W.findIn K (.ref CS) "__getattr__" = some none)
    (ed : PySem.W.hasDictIn K CS = true)
    (ea : PySem.W.findIn K (.ref CS) "__class__" = some (some (.builtin "object.__class__")))
    (en : PySem.W.specialIn K (.builtin "object.__class__") "__get__" = some (some (.builtin "getset_descriptor.__get__")))
    (et : PySem.W.takesIn K (.builtin "object.__class__") = some true)
    (em : PySem.W.mroIn K CS (.type "object") = some true)
    (vM : PySem.W.nsIn K mainGlobals "MOST" = some (some (.int 6 tM)))
    (vL : PySem.W.nsIn K mainGlobals "LETTERS" = some (some (.str "udlr" tL)))
    (vS : PySem.W.nsIn K mainGlobals "STEPS" = some (some (.ref dS)))
    (lS : K.lookup dS = some ⟨.type "dict", none, .dict #[⟨hs1, .str "u" ks1, .ref p1⟩, ⟨hs2, .str "d" ks2, .ref p2⟩, ⟨hs3, .str "l" ks3, .ref p3⟩, ⟨hs4, .str "r" ks4, .ref p4⟩] nS, #[]⟩)
    (yS : PySem.W.KeysLit w.params (#[⟨hs1, .str "u" ks1, .ref p1⟩, ⟨hs2, .str "d" ks2, .ref p2⟩, ⟨hs3, .str "l" ks3, .ref p3⟩, ⟨hs4, .str "r" ks4, .ref p4⟩] : Array DictEntry).toList)
    (wS : (dS == sysModules) = false)
    (q1 : K.lookup p1 = some ⟨.type "tuple", qd1, .seq #[.int (-1) qa1, .int (0) qb1] qn1, qs1⟩)
    (q2 : K.lookup p2 = some ⟨.type "tuple", qd2, .seq #[.int (1) qa2, .int (0) qb2] qn2, qs2⟩)
    (q3 : K.lookup p3 = some ⟨.type "tuple", qd3, .seq #[.int (0) qa3, .int (-1) qb3] qn3, qs3⟩)
    (q4 : K.lookup p4 = some ⟨.type "tuple", qd4, .seq #[.int (0) qa4, .int (1) qb4] qn4, qs4⟩)
    (vB : PySem.W.nsIn K mainGlobals "BACK" = some (some (.ref dB)))
    (lB : K.lookup dB = some ⟨.type "dict", none, .dict #[⟨hb1, .str "u" kb1, .str "d" vb1⟩, ⟨hb2, .str "d" kb2, .str "u" vb2⟩, ⟨hb3, .str "l" kb3, .str "r" vb3⟩, ⟨hb4, .str "r" kb4, .str "l" vb4⟩] nB, #[]⟩)
    (yB : PySem.W.KeysLit w.params (#[⟨hb1, .str "u" kb1, .str "d" vb1⟩, ⟨hb2, .str "d" kb2, .str "u" vb2⟩, ⟨hb3, .str "l" kb3, .str "r" vb3⟩, ⟨hb4, .str "r" kb4, .str "l" vb4⟩] : Array DictEntry).toList)
    : ∃ fd : FuncData, (∀ (s : Shared) (v : Value), BindsTo s fd ⟨[v], []⟩ [("_law_script", v)]) ∧ ∀ base : Heap, K.In base → base.Ns mainGlobals mg → FnOk l.prog w K mg base CX0 4 fa fd ["_law_script"] (spLaw K) := by
  have e := hfa.symm.trans (PySem.W.mg_of X G a16)
  cases e
  have F0 := fun_mk (st := sMoved) l0 c0 k0
  have b0 := F0.binds (ps := ["tray", "slides"]) fun _ _ _ _ _ _ us hl => match us, hl with | [_, _], _ => rfl
  have g0 := PySem.W.mg_of X G a0
  have F1 := fun_mk (st := sWays) l1 c1 k1
  have b1 := F1.binds (ps := ["tray"]) fun _ _ _ _ _ _ us hl => match us, hl with | [_], _ => rfl
  have g1 := PySem.W.mg_of X G a1
  have F2 := fun_mk (st := sUndone) l2 c2 k2
  have b2 := F2.binds (ps := ["slides"]) fun _ _ _ _ _ _ us hl => match us, hl with | [_], _ => rfl
  have g2 := PySem.W.mg_of X G a2
  have F3 := fun_mk (st := sThinned) l3 c3 k3
  have b3 := F3.binds (ps := ["slides"]) fun _ _ _ _ _ _ us hl => match us, hl with | [_], _ => rfl
  have g3 := PySem.W.mg_of X G a3
  have F4 := fun_mk (st := sCheckT) l4 c4 k4
  have b4 := F4.binds (ps := ["tray"]) fun _ _ _ _ _ _ us hl => match us, hl with | [_], _ => rfl
  have g4 := PySem.W.mg_of X G a4
  have F5 := fun_mk (st := sCheckS) l5 c5 k5
  have b5 := F5.binds (ps := ["slides"]) fun _ _ _ _ _ _ us hl => match us, hl with | [_], _ => rfl
  have g5 := PySem.W.mg_of X G a5
  have F6 := fun_mk (st := sEmpty) l6 c6 k6
  have b6 := F6.binds (ps := ["tray"]) fun _ _ _ _ _ _ us hl => match us, hl with | [_], _ => rfl
  have g6 := PySem.W.mg_of X G a6
  have F7 := fun_mk (st := sBeside) l7 c7 k7
  have b7 := F7.binds (ps := ["tray", "row", "column", "letter"]) fun _ _ _ _ _ _ us hl => match us, hl with | [_, _, _, _], _ => rfl
  have g7 := PySem.W.mg_of X G a7
  have F8 := fun_mk (st := sOrder) l8 c8 k8
  have b8 := F8.binds (ps := ["_law_number", "_law_many"]) fun _ _ _ _ _ _ us hl => match us, hl with | [_, _], _ => rfl
  have g8 := PySem.W.mg_of X G a8
  have F9 := fun_mk (st := sDigits) l9 c9 k9
  have b9 := F9.binds (ps := ["_law_cell", "_law_by"]) fun _ _ _ _ _ _ us hl => match us, hl with | [_, _], _ => rfl
  have g9 := PySem.W.mg_of X G a9
  have F10 := fun_mk (st := sTrayL) l10 c10 k10
  have b10 := F10.binds (ps := ["_law_number", "_law_rows", "_law_columns"]) fun _ _ _ _ _ _ us hl => match us, hl with | [_, _, _], _ => rfl
  have g10 := PySem.W.mg_of X G a10
  have F11 := fun_mk (st := sPlace) l11 c11 k11
  have b11 := F11.binds (ps := ["_law_tray_here", "_law_piece"]) fun _ _ _ _ _ _ us hl => match us, hl with | [_, _], _ => rfl
  have g11 := PySem.W.mg_of X G a11
  have F12 := fun_mk (st := sSlid) l12 c12 k12
  have b12 := F12.binds (ps := ["_law_tray_here", "_law_slides"]) fun _ _ _ _ _ _ us hl => match us, hl with | [_, _], _ => rfl
  have g12 := PySem.W.mg_of X G a12
  have F13 := fun_mk (st := sWalk) l13 c13 k13
  have b13 := F13.binds (ps := ["_law_tray_here", "_law_cells"]) fun _ _ _ _ _ _ us hl => match us, hl with | [_, _], _ => rfl
  have g13 := PySem.W.mg_of X G a13
  have F14 := fun_mk (st := sNone) l14 c14 k14
  have b14 := F14.binds (ps := ["_law_tray_here", "_law_slides"]) fun _ _ _ _ _ _ us hl => match us, hl with | [_, _], _ => rfl
  have g14 := PySem.W.mg_of X G a14
  have F15 := fun_mk (st := sThin) l15 c15 k15
  have b15 := F15.binds (ps := ["_law_slides"]) fun _ _ _ _ _ _ us hl => match us, hl with | [_], _ => rfl
  have g15 := PySem.W.mg_of X G a15
  have F16 := fun_mk (st := sLaw) l16 c16 k16
  have m_list := PySem.W.mg_none_of X G z_list
  have m_len := PySem.W.mg_none_of X G z_len
  have m_isinstance := PySem.W.mg_none_of X G z_isinstance
  have m_int := PySem.W.mg_none_of X G z_int
  have m_bool := PySem.W.mg_none_of X G z_bool
  have m_sorted := PySem.W.mg_none_of X G z_sorted
  have m_range := PySem.W.mg_none_of X G z_range
  have m_str := PySem.W.mg_none_of X G z_str
  have m_sum := PySem.W.mg_none_of X G z_sum
  have m_enumerate := PySem.W.mg_none_of X G z_enumerate
  have TS : ExcT K mg "BadSlides" CS := ⟨PySem.W.mg_of X G gCS, xS, kS, bS, tCS⟩
  have TE : ErrT K mg CE CS CT CU := ⟨PySem.W.mg_of X G gCE, PySem.W.mg_of X G gCS, PySem.W.mg_of X G gCT, PySem.W.mg_of X G gCU, PySem.W.exm_ref bE hE tCE sE, ⟨eg, ek, bS, ed, ea, en, et, em⟩, kit_own iCS tCS sS sS, kit_own iCT tCT sT sS, kit_own iCU tCU sU sS⟩
  have SD : StepsD K w dS := by
    refine ⟨⟨_, _, lS, yS, wS⟩, fun c hc => ?_, fun c hc => ?_, fun c hc => ?_⟩
    · rcases hc with rfl | rfl | rfl | rfl
      · exact ⟨p1, ⟨_, _, _, lS, yS, ns4 lS 117, rfl⟩, sqT_two q1⟩
      · exact ⟨p2, ⟨_, _, _, lS, yS, ns4 lS 100, rfl⟩, sqT_two q2⟩
      · exact ⟨p3, ⟨_, _, _, lS, yS, ns4 lS 108, rfl⟩, sqT_two q3⟩
      · exact ⟨p4, ⟨_, _, _, lS, yS, ns4 lS 114, rfl⟩, sqT_two q4⟩
    · rcases hc with rfl | rfl | rfl | rfl
      · exact ⟨_, ns4 lS 117⟩
      · exact ⟨_, ns4 lS 100⟩
      · exact ⟨_, ns4 lS 108⟩
      · exact ⟨_, ns4 lS 114⟩
    · rw [ns4 lS c]
      unfold okL at hc
      rw [if_neg (by omega), if_neg (by omega), if_neg (by omega), if_neg (by omega)]
  have BD : BackD K w dB := by
    refine ⟨fun c hc => ?_⟩
    rcases hc with rfl | rfl | rfl | rfl
    · exact ⟨_, _, _, lB, yB, ns4 lB 117, ⟨_, by rw [d_eq]; rfl⟩⟩
    · exact ⟨_, _, _, lB, yB, ns4 lB 100, ⟨_, by rw [u_eq]; rfl⟩⟩
    · exact ⟨_, _, _, lB, yB, ns4 lB 108, ⟨_, by rw [r_eq]; rfl⟩⟩
    · exact ⟨_, _, _, lB, yB, ns4 lB 114, ⟨_, by rw [l_eq]; rfl⟩⟩
  have gSt := PySem.W.mg_of X G vS
  have gBk := PySem.W.mg_of X G vB
  have gMo := PySem.W.mg_of X G vM
  have gLe := PySem.W.mg_of X G vL
  refine ⟨PySem.W.fnOf "law" "law" (defArgs sLaw) (defBody sLaw) (defScope sLaw) .none kV16 dc16 pm16 an16 cd16 ct16, fun s v => .of_eq rfl, fun base _ _ => ?_⟩
  have OT := ok_checkT (P := l.prog) (w := w) (base := base) (k := 0) F4 gMo m_isinstance m_list m_len m_int m_bool m_sorted m_range
  have OS := ok_checkS (P := l.prog) (w := w) (base := base) (k := 0) F5 gSt SD m_isinstance m_str TS
  have OE := ok_empty (P := l.prog) (w := w) (mg := mg) (base := base) (k := 0) F6
  have OB := ok_beside (P := l.prog) (w := w) (base := base) (k := 0) F7 gSt SD m_len
  have OM := ok_moved (k := 0) F0 TS m_list OT g4 k4 b4 OS g5 k5 b5 OE g6 k6 b6 OB g7 k7 b7
  have OY := ok_ways (k := 0) F1 gLe OT g4 k4 b4 OE g6 k6 b6 OB g7 k7 b7
  have OU := ok_undone (k := 0) F2 gBk BD OS g5 k5 b5
  have OH := ok_thinned (k := 0) F3 gBk BD OS g5 k5 b5
  have OO := ok_order (P := l.prog) (w := w) (base := base) (k := 0) F8 m_list m_range m_len
  have OD := ok_digits (P := l.prog) (w := w) (mg := mg) (base := base) (k := 0) F9
  have OTr := ok_trayL (k := 0) F10 m_range OO g8 k8 b8
  have OP := ok_place (P := l.prog) (w := w) (base := base) (k := 0) F11 m_range m_len
  have OSl := ok_slid (k := 0) F12 m_list m_len OP g11 k11 b11
  have OW := ok_walk (k := 0) F13 m_len OP g11 k11 b11
  have ON := ok_none (k := 1) F14 m_isinstance TE OM g0 k0 b0
  have OR := ok_thin (P := l.prog) (w := w) (mg := mg) (base := base) (k := 0) F15
  exact ok_law F16 { CS := CS, fD := f9, fdD := _, GD := OD, gD := g9, kD := k9, bD := b9, fT := f10, fdT := _, GT := OTr, gT := g10, kT := k10, bT := b10, fW := f13, fdW := _, GW := OW, gW := g13, kW := k13, bW := b13, fS := f12, fdS := _, GS := OSl, gS := g12, kS := k12, bS := b12, fM := f0, fdM := _, GM := OM, gM := g0, kM := k0, bM := b0, fU := f2, fdU := _, GU := OU, gU := g2, kU := k2, bU := b2, fY := f1, fdY := _, GY := OY, gY := g1, kY := k1, bY := b1, fH := f3, fdH := _, GH := OH, gH := g3, kH := k3, bH := b3, fR := f15, fdR := _, GR := OR, gR := g15, kR := k15, bR := b15, fN := f14, fdN := _, GN := ON, gN := g14, kN := k14, bN := b14 } m_sum m_enumerate m_isinstance m_list m_str m_len
end Tr
open PySem PySem.W PyProof.Rows
set_option maxHeartbeats 0 in
theorem PySem.Challenge.cw_slidetray_k01_whole_moved_holds : PySem.Challenge.rw_slidetray_k01_whole_moved.Holds := by
  w_on; o_law; k_head; (case hw => w_witness2)
  k_fill
  refine L2.walk_ofB (l := PySem.Challenge.rw_slidetray_k01_whole_moved) (n := 63) (k := 4) (x := "_law_script") (CX := fun _ => L2.CX0) (sp := fun w => Tr.spLaw _) rfl (by decide) rfl ⟨rfl, by decide, by decide⟩ (fun w h Y => PySem.W.kIn_of Y) ?F (fun _ _ a ns hl hb _ hS => ⟨a, ns, rfl, hS, hl, hb, fun _ => rfl⟩) (fun _ _ _ _ _ h => h)
  case F =>
    intro w mg fa h KX G hmg
    refine' Tr.all_mk KX G hmg ?a0 ?l0 ?c0 ?k0 ?a1 ?l1 ?c1 ?k1 ?a2 ?l2 ?c2 ?k2 ?a3 ?l3 ?c3 ?k3 ?a4 ?l4 ?c4 ?k4 ?a5 ?l5 ?c5 ?k5 ?a6 ?l6 ?c6 ?k6 ?a7 ?l7 ?c7 ?k7 ?a8 ?l8 ?c8 ?k8 ?a9 ?l9 ?c9 ?k9 ?a10 ?l10 ?c10 ?k10 ?a11 ?l11 ?c11 ?k11 ?a12 ?l12 ?c12 ?k12 ?a13 ?l13 ?c13 ?k13 ?a14 ?l14 ?c14 ?k14 ?a15 ?l15 ?c15 ?k15 ?a16 ?l16 ?c16 ?k16 ?z_list ?z_len ?z_isinstance ?z_int ?z_bool ?z_sorted ?z_range ?z_str ?z_sum ?z_enumerate ?gCE ?iCE ?tCE ?gCT ?iCT ?tCT ?gCS ?iCS ?tCS ?gCU ?iCU ?tCU ?xS ?kS ?bS ?bE ?hE ?sE ?sS ?sT ?sU ?eg ?ek ?ed ?ea ?en ?et ?em ?vM ?vL ?vS ?lS ?yS ?wS ?q1 ?q2 ?q3 ?q4 ?vB ?lB ?yB
    (case a0 => k_is); (case l0 => k_is); (case c0 => k_is); (case k0 => k_is)
    (case a1 => k_is); (case l1 => k_is); (case c1 => k_is); (case k1 => k_is)
    (case a2 => k_is); (case l2 => k_is); (case c2 => k_is); (case k2 => k_is)
    (case a3 => k_is); (case l3 => k_is); (case c3 => k_is); (case k3 => k_is)
    (case a4 => k_is); (case l4 => k_is); (case c4 => k_is); (case k4 => k_is)
    (case a5 => k_is); (case l5 => k_is); (case c5 => k_is); (case k5 => k_is)
    (case a6 => k_is); (case l6 => k_is); (case c6 => k_is); (case k6 => k_is)
    (case a7 => k_is); (case l7 => k_is); (case c7 => k_is); (case k7 => k_is)
    (case a8 => k_is); (case l8 => k_is); (case c8 => k_is); (case k8 => k_is)
    (case a9 => k_is); (case l9 => k_is); (case c9 => k_is); (case k9 => k_is)
    (case a10 => k_is); (case l10 => k_is); (case c10 => k_is); (case k10 => k_is)
    (case a11 => k_is); (case l11 => k_is); (case c11 => k_is); (case k11 => k_is)
    (case a12 => k_is); (case l12 => k_is); (case c12 => k_is); (case k12 => k_is)
    (case a13 => k_is); (case l13 => k_is); (case c13 => k_is); (case k13 => k_is)
    (case a14 => k_is); (case l14 => k_is); (case c14 => k_is); (case k14 => k_is)
    (case a15 => k_is); (case l15 => k_is); (case c15 => k_is); (case k15 => k_is)
    (case a16 => k_is); (case l16 => k_is); (case c16 => k_is); (case k16 => k_is)
    (case z_list => k_is); (case z_len => k_is); (case z_isinstance => k_is); (case z_int => k_is)
    (case z_bool => k_is); (case z_sorted => k_is); (case z_range => k_is); (case z_str => k_is)
    (case z_sum => k_is); (case z_enumerate => k_is); (case gCE => k_is); (case iCE => k_is)
    (case tCE => k_is); (case gCT => k_is); (case iCT => k_is); (case tCT => k_is)
    (case gCS => k_is); (case iCS => k_is); (case tCS => k_is); (case gCU => k_is)
    (case iCU => k_is); (case tCU => k_is); (case xS => k_exc); (case kS => k_is)
    (case bS => k_is); (case bE => k_is); (case hE => k_is); (case sE => k_is)
    (case sS => k_is); (case sT => k_is); (case sU => k_is); (case eg => k_is)
    (case ek => k_is); (case ed => k_is); (case ea => k_is); (case en => k_is)
    (case et => k_is); (case em => k_is); (case vM => k_is); (case vL => k_is)
    (case vS => k_is); (case lS => k_is); (case yS => k_keys); (case wS => exact (by decide))
    (case q1 => k_is); (case q2 => k_is); (case q3 => k_is); (case q4 => k_is)
    (case vB => k_is); (case lB => k_is); (case yB => k_keys)
#print axioms PySem.Challenge.cw_slidetray_k01_whole_moved_holds
