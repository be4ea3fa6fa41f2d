/-
  Plain mathematics of programs as tokens: blanks and comments, strings in both brackets, names and numbers, over lists of bytes. It names nothing of the program.
-/
import Derived.Test.YtaebpjcigajolaaFixMath
namespace Go.Proofs.Ytaebpjcigajolaa.Sc

def blnk (c : UInt8) : Bool := c == 0 || c == 9 || c == 10 || c == 12 || c == 13 || c == 32
def delim (c : UInt8) : Bool := c == 40 || c == 41 || c == 60 || c == 62 || c == 91 || c == 93 || c == 123 || c == 125 || c == 47 || c == 37
def regular (c : UInt8) : Bool := !blnk c && !delim c
/-- a comment goes on at c -/
def inCom (c : UInt8) : Bool := !(c == 10 || c == 13 || c == 12)
/-- behind blanks and comments; true: within a comment -/
def skp : Bool → List UInt8 → List UInt8
  | _, [] => []
  | true, c :: s => if inCom c then skp true s else skp false s
  | false, c :: s => if blnk c then skp false s else if c = 37 then skp true s else c :: s
theorem skp_blank (s : List UInt8) : skp false s = skp false (s.dropWhile blnk) := by
  induction s with
  | nil => rfl
  | cons c s ih =>
    rw [List.dropWhile_cons]
    split
    · rename_i h; rw [skp, if_pos h]; exact ih
    · rfl
theorem skp_com (s : List UInt8) : skp true s = skp false (s.dropWhile inCom) := by
  induction s with
  | nil => rfl
  | cons c s ih =>
    rw [List.dropWhile_cons]
    split
    · rename_i h; rw [skp, if_pos h]; exact ih
    · rename_i h
      have hb : blnk c = true := by
        simp only [inCom, Bool.not_eq_true', Bool.not_eq_false] at h
        simp only [blnk]
        revert h; cases (c == 10) <;> cases (c == 13) <;> cases (c == 12) <;> simp
      rw [skp, if_neg h]; conv => rhs; rw [skp, if_pos hb]
theorem skp_stop {c : UInt8} {s : List UInt8} (hb : blnk c = false) (hc : c ≠ 37) : skp false (c :: s) = c :: s := by
  rw [skp, if_neg (by simp [hb]), if_neg hc]
theorem skp_percent (s : List UInt8) : skp false (37 :: s) = skp false ((s.dropWhile inCom).dropWhile blnk) := by
  rw [skp, if_neg (by decide), if_pos rfl, skp_com, ← skp_blank]
theorem skp_len (m : Bool) (s : List UInt8) : (skp m s).length ≤ s.length := by
  induction s generalizing m with
  | nil => cases m <;> simp [skp]
  | cons c s ih =>
    cases m
    · rw [skp]; split
      · have := ih false; simp; omega
      · split
        · have := ih true; simp; omega
        · exact Nat.le_refl _
    · rw [skp]; split
      · have := ih true; simp; omega
      · have := ih false; simp; omega
theorem dw_nil_or {p : UInt8 → Bool} (s : List UInt8) : s.dropWhile p = [] ∨ ∃ c t, s.dropWhile p = c :: t ∧ p c = false := by
  induction s with
  | nil => left; rfl
  | cons c s ih =>
    rw [List.dropWhile_cons]
    split
    · exact ih
    · rename_i h; right; exact ⟨c, s, rfl, by simpa using h⟩
theorem dw_len (p : UInt8 → Bool) (s : List UInt8) : (s.takeWhile p).length + (s.dropWhile p).length = s.length := by
  rw [← List.length_append, List.takeWhile_append_dropWhile]

/-- behind a line's end's second byte -/
def lf : List UInt8 → List UInt8
  | [] => []
  | c :: s => if c = 10 then s else c :: s
theorem lf_len (s : List UInt8) : (lf s).length ≤ s.length := by
  cases s with
  | nil => simp [lf]
  | cons c s => rw [lf]; split <;> simp
def isOct (c : UInt8) : Bool := decide (48 ≤ c.toNat) && decide (c.toNat ≤ 55)
/-- digits, k at the most, behind the number n -/
def oct : Nat → UInt8 → List UInt8 → UInt8 × List UInt8
  | 0, n, s => (n, s)
  | _ + 1, n, [] => (n, [])
  | k + 1, n, c :: s => if isOct c then oct k (n * 8 + (c - 48)) s else (n, c :: s)
theorem oct_len (k : Nat) (n : UInt8) (s : List UInt8) : (oct k n s).2.length ≤ s.length := by
  induction k generalizing n s with
  | zero => simp [oct]
  | succ k ih =>
    cases s with
    | nil => simp [oct]
    | cons c s =>
      rw [oct]; split
      · have := ih (n * 8 + (c - 48)) s; simp; omega
      · simp
/-- behind a backslash: what is put, and the rest -/
def esc : List UInt8 → Option (List UInt8 × List UInt8)
  | [] => none
  | c :: s =>
    if c = 110 then some ([10], s) else if c = 114 then some ([13], s) else if c = 116 then some ([9], s) else if c = 98 then some ([8], s) else if c = 102 then some ([12], s)
    else if c = 10 then some ([], s) else if c = 13 then some ([], lf s)
    else if isOct c then some ([(oct 2 (c - 48) s).1], (oct 2 (c - 48) s).2)
    else some ([c], s)
theorem esc_len {s p r : List UInt8} (h : esc s = some (p, r)) : r.length < s.length ∧ p.length ≤ 1 := by
  cases s with
  | nil => cases h
  | cons c s =>
    have h1 := lf_len s
    have h2 := oct_len 2 (c - 48) s
    rw [esc] at h
    split at h; · cases h; simp
    split at h; · cases h; simp
    split at h; · cases h; simp
    split at h; · cases h; simp
    split at h; · cases h; simp
    split at h; · cases h; simp
    split at h; · cases h; simp; omega
    split at h; · cases h; simp; omega
    cases h; simp
/-- one step within round brackets, d deep -/
inductive Stp where
  | fail
  | done (r : List UInt8)
  | go (d : Nat) (p r : List UInt8)
def stp (d : Nat) : List UInt8 → Stp
  | [] => .fail
  | c :: s =>
    if c = 40 then .go (d + 1) [40] s
    else if c = 41 then (if d = 1 then .done s else .go (d - 1) [41] s)
    else if c = 13 then .go d [10] (lf s)
    else if c = 92 then (match esc s with | none => .fail | some (p, r) => .go d p r)
    else .go d [c] s
theorem stp_len {d d' : Nat} {s p r : List UInt8} (h : stp d s = .go d' p r) : r.length < s.length ∧ p.length + r.length ≤ s.length ∧ (1 ≤ d → 1 ≤ d') ∧ d' ≤ d + 1 ∧ p.length ≤ 1 := by
  cases s with
  | nil => cases h
  | cons c s =>
    have h1 := lf_len s
    rw [stp] at h
    split at h
    · cases h; simp; omega
    split at h
    · split at h
      · cases h
      · cases h; simp; omega
    split at h
    · cases h; simp; omega
    split at h
    · split at h
      · cases h
      · rename_i p' r' he
        cases h
        have := esc_len he
        simp; omega
    · cases h; simp; omega
theorem stp_done {d : Nat} {s r : List UInt8} (h : stp d s = .done r) : s = 41 :: r ∧ d = 1 := by
  cases s with
  | nil => cases h
  | cons c s =>
    rw [stp] at h
    split at h
    · cases h
    split at h
    · split at h
      · cases h; rename_i h1 h2; exact ⟨by rw [h1], h2⟩
      · cases h
    split at h
    · cases h
    split at h
    · split at h <;> cases h
    · cases h
/-- a string in round brackets, d deep: its bytes, and the rest -/
def rnd (d : Nat) (s : List UInt8) : Option (List UInt8 × List UInt8) :=
  match _h : stp d s with
  | .fail => none
  | .done r => some ([], r)
  | .go d' p r => (rnd d' r).map fun x => (p ++ x.1, x.2)
termination_by s.length
decreasing_by exact (stp_len _h).1
theorem rnd_fail {d : Nat} {s : List UInt8} (h : stp d s = .fail) : rnd d s = none := by
  rw [rnd]; split <;> simp_all
theorem rnd_done {d : Nat} {s r : List UInt8} (h : stp d s = .done r) : rnd d s = some ([], r) := by
  rw [rnd]; split <;> simp_all
theorem rnd_go {d d' : Nat} {s p r : List UInt8} (h : stp d s = .go d' p r) : rnd d s = (rnd d' r).map fun x => (p ++ x.1, x.2) := by
  rw [rnd]; split <;> simp_all
theorem rnd_len (k : Nat) : ∀ (d : Nat) (s o r : List UInt8), s.length ≤ k → rnd d s = some (o, r) → o.length + r.length < s.length := by
  induction k with
  | zero =>
    intro d s o r hk h
    have : s = [] := List.eq_nil_of_length_eq_zero (by omega)
    subst this
    rw [rnd_fail (by rfl)] at h; cases h
  | succ k ih =>
    intro d s o r hk h
    cases hs : stp d s with
    | fail => rw [rnd_fail hs] at h; cases h
    | done t => rw [rnd_done hs] at h; cases h; rw [(stp_done hs).1]; simp
    | go d' p t =>
      rw [rnd_go hs] at h
      have hl := stp_len hs
      cases hr : rnd d' t with
      | none => rw [hr] at h; cases h
      | some x =>
        rw [hr] at h
        obtain ⟨o', r'⟩ := x
        cases h
        have := ih d' t o' r' (by omega) hr
        simp; omega
/-- the way so far: from s0 by bytes tx to s, d deep -/
def RndAt (s0 : List UInt8) (tx : List UInt8) (d : Nat) (s : List UInt8) : Prop := rnd 1 s0 = (rnd d s).map fun x => (tx ++ x.1, x.2)
theorem RndAt.start (s : List UInt8) : RndAt s [] 1 s := by unfold RndAt; cases rnd 1 s <;> simp
theorem RndAt.step {s0 tx s p r : List UInt8} {d d' : Nat} (h : RndAt s0 tx d s) (hs : stp d s = .go d' p r) : RndAt s0 (tx ++ p) d' r := by
  unfold RndAt at *; rw [h, rnd_go hs]; cases rnd d' r <;> simp
theorem RndAt.done {s0 tx s r : List UInt8} {d : Nat} (h : RndAt s0 tx d s) (hs : stp d s = .done r) : rnd 1 s0 = some (tx, r) := by
  unfold RndAt at h; rw [h, rnd_done hs]; simp
theorem RndAt.fail {s0 tx s : List UInt8} {d : Nat} (h : RndAt s0 tx d s) (hs : stp d s = .fail) : rnd 1 s0 = none := by
  unfold RndAt at h; rw [h, rnd_fail hs]; rfl

/-- what a byte counts as a hexadecimal digit -/
def hexd (c : UInt8) : Option UInt8 :=
  if 48 ≤ c.toNat ∧ c.toNat ≤ 57 then some (c - 48) else if 97 ≤ c.toNat ∧ c.toNat ≤ 102 then some (c - 87) else if 65 ≤ c.toNat ∧ c.toNat ≤ 70 then some (c - 55) else none
def hlast (h : Option UInt8) : List UInt8 := match h with | some x => [x * 16] | none => []
/-- a string in pointed brackets -/
def hx (h : Option UInt8) : List UInt8 → Option (List UInt8 × List UInt8)
  | [] => none
  | c :: s =>
    if c = 62 then some (hlast h, s)
    else if blnk c then hx h s
    else if (hexd c).isNone then none
    else if h.isNone then hx (hexd c) s
    else (hx none s).map fun y => ((h.getD 0 * 16 + (hexd c).getD 0) :: y.1, y.2)
theorem hx_len (h : Option UInt8) (s o r : List UInt8) (e : hx h s = some (o, r)) : r.length < s.length := by
  induction s generalizing h o r with
  | nil => cases e
  | cons c s ih =>
    rw [hx] at e
    split at e
    · cases e; simp
    split at e
    · have := ih _ _ _ e; simp; omega
    split at e
    · cases e
    split at e
    · have := ih _ _ _ e; simp; omega
    · cases hq : hx none s with
      | none => rw [hq] at e; cases e
      | some y => rw [hq] at e; obtain ⟨y1, y2⟩ := y; cases e; have := ih _ _ _ hq; simp; omega

inductive Out where
  | tok (k n : Int) (t r : List UInt8)
  | err (e : Int)
def nam (k : Int) (s : List UInt8) : Out :=
  if 127 < (s.takeWhile regular).length then .err 9 else .tok k 0 (s.takeWhile regular) (s.dropWhile regular)
/-- which number regular bytes are is told by tk -/
def wrd (tk : List UInt8 → Int × Int × Bool × Int) (s : List UInt8) : Out :=
  if 127 < (s.takeWhile regular).length then .err 9
  else if (tk (s.takeWhile regular)).2.2.2 ≠ 0 then .err (tk (s.takeWhile regular)).2.2.2
  else if (tk (s.takeWhile regular)).2.2.1 = false then .tok 3 0 (s.takeWhile regular) (s.dropWhile regular)
  else .tok (tk (s.takeWhile regular)).1 (tk (s.takeWhile regular)).2.1 [] (s.dropWhile regular)
def str (o : Option (List UInt8 × List UInt8)) : Out := match o with | none => .err 14 | some x => .tok 6 0 x.1 x.2
def twice (c : UInt8) (r : List UInt8) (o : Out) : Out :=
  match r with
  | [] => o
  | x :: t => if x = c then .tok 3 0 [c, c] t else o
def sla (r : List UInt8) : Out :=
  match r with
  | [] => nam 4 []
  | x :: t => if x = 47 then nam 5 t else nam 4 (x :: t)
/-- a token that begins here -/
def beg (tk : List UInt8 → Int × Int × Bool × Int) : List UInt8 → Out
  | [] => .tok 0 0 [] []
  | c :: r =>
    if regular c then wrd tk (c :: r)
    else if c = 40 then str (rnd 1 r)
    else if c = 60 then twice 60 r (str (hx none r))
    else if c = 62 then twice 62 r (.err 14)
    else if c = 123 then .tok 7 0 [] r
    else if c = 125 then .tok 8 0 [] r
    else if c = 91 then .tok 3 0 [91] r
    else if c = 93 then .tok 3 0 [93] r
    else if c = 47 then sla r
    else .err 14
def nxt (tk : List UInt8 → Int × Int × Bool × Int) (s : List UInt8) : Out := beg tk (skp false s)
end Go.Proofs.Ytaebpjcigajolaa.Sc
