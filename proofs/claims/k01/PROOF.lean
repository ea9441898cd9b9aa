import PyProof.Rows.All
import HandS.Codes
import Wide.All
import OpenK.AllK
import Wide.FinOn
import HandS.StrMore
import HandS.Words
import PySem.Challenge.RW_stablepapers_k01_tokens
import HandS.Comp
import HandS.IsInst
import HandS.Ends
set_option maxRecDepth 100000
set_option maxHeartbeats 4000000
namespace K1
open PySem SX
def isLower (c : Nat) : Bool := decide (97 ≤ c) && decide (c ≤ 122)
def isUpper (c : Nat) : Bool := decide (65 ≤ c) && decide (c ≤ 90)
def isDigit (c : Nat) : Bool := decide (48 ≤ c) && decide (c ≤ 57)
def isWord (c : Nat) : Bool := isLower c || isUpper c || isDigit c || decide (c = 95)
theorem isLower_iff {c : Nat} : isLower c = true ↔ 97 ≤ c ∧ c ≤ 122 := by simp [isLower]
theorem isUpper_iff {c : Nat} : isUpper c = true ↔ 65 ≤ c ∧ c ≤ 90 := by simp [isUpper]
theorem isDigit_iff {c : Nat} : isDigit c = true ↔ 48 ≤ c ∧ c ≤ 57 := by simp [isDigit]
theorem isWord_iff {c : Nat} : isWord c = true ↔ (97 ≤ c ∧ c ≤ 122) ∨ (65 ≤ c ∧ c ≤ 90) ∨ (48 ≤ c ∧ c ≤ 57) ∨ c = 95 := by
  simp only [isWord, Bool.or_eq_true, isLower_iff, isUpper_iff, isDigit_iff, decide_eq_true_eq, or_assoc]
def run (f : Nat → Bool) : Nat → List Nat → Nat
  | 0, _ => 0
  | _ + 1, [] => 0
  | k + 1, c :: r => if f c = true then run f k r + 1 else 0
theorem run_le (f : Nat → Bool) : ∀ (k : Nat) (l : List Nat), run f k l ≤ k ∧ run f k l ≤ l.length
  | 0, l => by simp [run]
  | k + 1, [] => by simp [run]
  | k + 1, c :: r => by
    have h := run_le f k r
    unfold run
    split
    · simp only [List.length_cons]; omega
    · omega
theorem run_at (f : Nat → Bool) : ∀ (k : Nat) (l : List Nat) (j : Nat), j ≤ run f k l → (j < run f k l ↔ j < k ∧ ∃ c, l[j]? = some c ∧ f c = true)
  | 0, l, j, h => by simp [run] at h ⊢
  | k + 1, [], j, h => by simp [run] at h ⊢
  | k + 1, c :: r, j, h => by
    unfold run at h ⊢
    by_cases hc : f c = true
    · rw [if_pos hc] at h ⊢
      cases j with
      | zero => simp [hc]
      | succ j =>
        have ih := run_at f k r j (by omega)
        simp only [List.getElem?_cons_succ, Nat.add_lt_add_iff_right]
        exact ih
    · rw [if_neg hc] at h ⊢
      have : j = 0 := by omega
      subst this
      simp [hc]
/-- a run that is exactly w: all of w fits, and it ends behind w -/
theorem run_eq (f : Nat → Bool) : ∀ (k : Nat) (w rest : List Nat), (∀ c ∈ w, f c = true) → w.length ≤ k → (w.length = k ∨ ∀ c r, rest = c :: r → f c = false) → run f k (w ++ rest) = w.length
  | 0, w, rest, _, hk, _ => by
    have : w = [] := List.length_eq_zero_iff.mp (by omega)
    subst this; simp [run]
  | k + 1, [], rest, _, _, h => by
    cases rest with
    | nil => simp [run]
    | cons c r =>
      have hc : f c = false := by
        rcases h with h | h
        · simp at h
        · exact h c r rfl
      simp [run, hc]
  | k + 1, c :: w, rest, ha, hk, h => by
    have ih := run_eq f k w rest (fun c hc => ha c (List.mem_cons_of_mem _ hc)) (by simp only [List.length_cons] at hk; omega) (by
      rcases h with h | h
      · left; simp only [List.length_cons] at h; omega
      · exact .inr h)
    simp only [List.cons_append, run, ha c List.mem_cons_self, if_true, ih, List.length_cons]
/-- the signs, in the program's order -/
def sigs : List (List Nat) := [[58, 45], [33, 61], [60, 61], [62, 61], [61], [60], [62], [40], [41], [123], [125], [44], [59], [58], [46], [43], [45], [42]]
inductive Kind where
  | name | var | int | sign | fin
  deriving DecidableEq
def kStr : Kind → Str
  | .name => "name" | .var => "var" | .int => "int" | .sign => "sign" | .fin => "end"
def sigAt (l : List Nat) : Option (List Nat) := sigs.find? fun g => TL.pre g l
/-- the token that stands ahead -/
def wordLen (r : List Nat) : Nat := 1 + run isWord 19 r
def intLen (c : Nat) (r : List Nat) : Nat := if c = 48 then 1 else 1 + run isDigit 3 r
def tok1 : List Nat → Option (Kind × List Nat)
  | [] => none
  | c :: r =>
    if isLower c = true then some (.name, (c :: r).take (wordLen r))
    else if isUpper c = true then some (.var, (c :: r).take (wordLen r))
    else if isDigit c = true then some (.int, (c :: r).take (intLen c r))
    else (sigAt (c :: r)).map fun g => (.sign, g)
abbrev Tk := Kind × List Nat × Nat
inductive Lex : Nat → List Nat → List Tk → Prop
  | nil (n : Nat) : Lex n [] [(.fin, [], n)]
  | ws {n c : Nat} {r : List Nat} {ts : List Tk} : (c = 32 ∨ c = 10) → Lex (n + 1) r ts → Lex n (c :: r) ts
  | tok {n c : Nat} {r t : List Nat} {k : Kind} {ts : List Tk} : (c ≠ 32 ∧ c ≠ 10) → tok1 (c :: r) = some (k, t) → t ≠ [] → t.length ≤ r.length + 1 → Lex (n + t.length) ((c :: r).drop t.length) ts → Lex n (c :: r) ((k, t, n) :: ts)
/-- what a drawn token is -/
inductive Good : Kind → List Nat → Prop
  | name {c : Nat} {w : List Nat} : isLower c = true → (∀ x ∈ w, isWord x = true) → w.length ≤ 19 → Good .name (c :: w)
  | var {c : Nat} {w : List Nat} : isUpper c = true → (∀ x ∈ w, isWord x = true) → w.length ≤ 19 → Good .var (c :: w)
  | zero : Good .int [48]
  | int {c : Nat} {w : List Nat} : isDigit c = true → c ≠ 48 → (∀ x ∈ w, isDigit x = true) → w.length ≤ 3 → Good .int (c :: w)
  | sign {t : List Nat} : t ∈ sigs → Good .sign t
theorem Good.num {n : Nat} (h : n < 10000) : Good .int (TL.numL n) := by
  by_cases h1 : n < 10
  · rw [TL.numL_lt h1]
    by_cases h0 : n = 0
    · subst h0; exact .zero
    · exact .int (by simp [isDigit]; omega) (by omega) (by simp) (by simp)
  · rw [TL.numL_step (by omega)]
    by_cases h2 : n / 10 < 10
    · rw [TL.numL_lt h2]
      exact .int (by simp [isDigit]; omega) (by omega) (by simp [isDigit]; omega) (by simp)
    · rw [TL.numL_step (by omega)]
      by_cases h3 : n / 10 / 10 < 10
      · rw [TL.numL_lt h3]
        exact .int (by simp [isDigit]; omega) (by omega) (by simp [isDigit]; omega) (by simp)
      · rw [TL.numL_step (by omega), TL.numL_lt (by omega)]
        exact .int (by simp [isDigit]; omega) (by omega) (by simp [isDigit]; omega) (by simp)
theorem sig_heads : ∀ t ∈ sigs, ∃ c r, t = c :: r ∧ c ≠ 32 ∧ c ≠ 10 ∧ isWord c = false ∧ isLower c = false ∧ isUpper c = false ∧ isDigit c = false ∧ t.length ≤ 2 := by
  intro t ht
  simp only [sigs, List.mem_cons, List.not_mem_nil, or_false] at ht
  rcases ht with rfl | rfl | rfl | rfl | rfl | rfl | rfl | rfl | rfl | rfl | rfl | rfl | rfl | rfl | rfl | rfl | rfl | rfl <;> exact ⟨_, _, rfl, by decide, by decide, by decide, by decide, by decide, by decide, by decide⟩
theorem Good.head {k : Kind} {t : List Nat} (g : Good k t) : ∃ c r, t = c :: r ∧ c ≠ 32 ∧ c ≠ 10 := by
  cases g with
  | name h => exact ⟨_, _, rfl, by rw [isLower_iff] at h; omega, by rw [isLower_iff] at h; omega⟩
  | var h => exact ⟨_, _, rfl, by rw [isUpper_iff] at h; omega, by rw [isUpper_iff] at h; omega⟩
  | zero => exact ⟨_, _, rfl, by omega, by omega⟩
  | int h => exact ⟨_, _, rfl, by rw [isDigit_iff] at h; omega, by rw [isDigit_iff] at h; omega⟩
  | sign h => obtain ⟨c, r, e, h1, h2, _⟩ := sig_heads _ h; exact ⟨c, r, e, h1, h2⟩
theorem Good.len {k : Kind} {t : List Nat} (g : Good k t) : t.length ≤ 20 := by
  cases g with
  | name _ _ h => simp only [List.length_cons]; omega
  | var _ _ h => simp only [List.length_cons]; omega
  | zero => simp
  | int _ _ _ h => simp only [List.length_cons]; omega
  | sign h => obtain ⟨c, r, e, _, _, _, _, _, _, h2⟩ := sig_heads _ h; omega
/-- what may stand behind a token, so that it is read whole -/
def Stop (k : Kind) (t : List Nat) (c : Nat) : Prop := match k with
  | .name | .var => t.length = 20 ∨ isWord c = false
  | .int => t = [48] ∨ t.length = 4 ∨ isDigit c = false
  | .sign => c ≠ 45 ∧ c ≠ 61
  | .fin => True
def Follow (k : Kind) (t rest : List Nat) : Prop := ∀ c r, rest = c :: r → Stop k t c
theorem sig_follow : ∀ t ∈ sigs, ∀ rest, (∀ c r, rest = c :: r → c ≠ 45 ∧ c ≠ 61) → sigAt (t ++ rest) = some t := by
  intro t ht rest h
  simp only [sigs, List.mem_cons, List.not_mem_nil, or_false] at ht
  cases rest with
  | nil => rcases ht with rfl | rfl | rfl | rfl | rfl | rfl | rfl | rfl | rfl | rfl | rfl | rfl | rfl | rfl | rfl | rfl | rfl | rfl <;> rfl
  | cons c r =>
    obtain ⟨h1, h2⟩ := h c r rfl
    rcases ht with rfl | rfl | rfl | rfl | rfl | rfl | rfl | rfl | rfl | rfl | rfl | rfl | rfl | rfl | rfl | rfl | rfl | rfl <;> simp [sigAt, sigs, TL.pre, h1, h2]
theorem Good.read {k : Kind} {t rest : List Nat} (g : Good k t) (f : Follow k t rest) : tok1 (t ++ rest) = some (k, t) := by
  cases g with
  | @name c w h1 h2 h3 =>
    have e := run_eq isWord 19 w rest h2 h3 (by
      by_cases q : w.length = 19
      · exact .inl q
      · refine .inr fun d r er => ?_
        rcases f d r er with z | z
        · simp only [List.length_cons] at z; omega
        · exact z)
    simp only [List.cons_append, tok1, h1, if_true, wordLen, e]
    have : (c :: (w ++ rest)).take (1 + w.length) = c :: w := by rw [Nat.add_comm]; simp
    rw [this]
  | @var c w h1 h2 h3 =>
    have e := run_eq isWord 19 w rest h2 h3 (by
      by_cases q : w.length = 19
      · exact .inl q
      · refine .inr fun d r er => ?_
        rcases f d r er with z | z
        · simp only [List.length_cons] at z; omega
        · exact z)
    have nl : isLower c = false := by
      rw [isUpper_iff] at h1
      cases q : isLower c with
      | false => rfl
      | true => rw [isLower_iff] at q; omega
    simp only [List.cons_append, tok1, nl, h1, if_true, wordLen, e, Bool.false_eq_true, if_false]
    have : (c :: (w ++ rest)).take (1 + w.length) = c :: w := by rw [Nat.add_comm]; simp
    rw [this]
  | zero => simp [tok1, isLower, isUpper, isDigit, intLen]
  | @int c w h1 h0 h2 h3 =>
    have e := run_eq isDigit 3 w rest h2 h3 (by
      by_cases q : w.length = 3
      · exact .inl q
      · refine .inr fun d r er => ?_
        rcases f d r er with z | z | z
        · cases z; exact absurd rfl h0
        · simp only [List.length_cons] at z; omega
        · exact z)
    have nl : isLower c = false := by
      rw [isDigit_iff] at h1
      cases q : isLower c with
      | false => rfl
      | true => rw [isLower_iff] at q; omega
    have nu : isUpper c = false := by
      rw [isDigit_iff] at h1
      cases q : isUpper c with
      | false => rfl
      | true => rw [isUpper_iff] at q; omega
    simp only [List.cons_append, tok1, nl, nu, h1, if_true, intLen, h0, e, Bool.false_eq_true, if_false]
    have : (c :: (w ++ rest)).take (1 + w.length) = c :: w := by rw [Nat.add_comm]; simp
    rw [this]
  | sign h =>
    have e := sig_follow t h rest f
    obtain ⟨c, r, rfl, _, _, _, h1, h2, h3, _⟩ := sig_heads _ h
    rw [List.cons_append] at e ⊢
    simp only [tok1, h1, h2, h3, e, Bool.false_eq_true, if_false, Option.map_some]
/-- the law's own word for neighbours -/
def apart (k1 : Kind) (t1 : List Nat) (k2 : Kind) : Bool :=
  if k1 = .sign ∧ k2 = .sign then false
  else if k1 = .int ∧ k2 = .int then decide (t1 = [48]) || decide (t1.length = 4)
  else if (k1 = .name ∨ k1 = .var) ∧ k2 ≠ .sign then decide (t1.length = 20)
  else true
theorem stop_ws {k : Kind} {t : List Nat} {c : Nat} (h : c = 32 ∨ c = 10) : Stop k t c := by
  cases k
  · right; rcases h with rfl | rfl <;> decide
  · right; rcases h with rfl | rfl <;> decide
  · right; right; rcases h with rfl | rfl <;> decide
  · rcases h with rfl | rfl <;> exact ⟨by decide, by decide⟩
  · trivial
theorem apart_stop {k1 k2 : Kind} {t1 t2 : List Nat} (g1 : Good k1 t1) (g2 : Good k2 t2) (h : apart k1 t1 k2 = true) (rest : List Nat) : Follow k1 t1 (t2 ++ rest) := by
  intro c r e
  have hd : ∀ d v, t2 = d :: v → d = c := fun d v q => by rw [q, List.cons_append] at e; exact (List.cons.inj e).1
  have hw : ∀ x, (isLower x = true ∨ isUpper x = true ∨ isDigit x = true) → x ≠ 45 ∧ x ≠ 61 := fun x q => by
    simp only [isLower_iff, isUpper_iff, isDigit_iff] at q
    omega
  have lu : ∀ x, (isLower x = true ∨ isUpper x = true) → isDigit x = false := fun x q => by
    simp only [isLower_iff, isUpper_iff] at q
    cases z : isDigit x with
    | false => rfl
    | true => rw [isDigit_iff] at z; omega
  cases g1 with
  | name _ _ _ =>
    cases g2 with
    | sign h2 =>
      obtain ⟨d, v, q, _, _, hq, _⟩ := sig_heads _ h2
      right; rw [← hd d v q]; exact hq
    | name _ _ _ => left; simpa [apart] using h
    | var _ _ _ => left; simpa [apart] using h
    | zero => left; simpa [apart] using h
    | int _ _ _ _ => left; simpa [apart] using h
  | var _ _ _ =>
    cases g2 with
    | sign h2 =>
      obtain ⟨d, v, q, _, _, hq, _⟩ := sig_heads _ h2
      right; rw [← hd d v q]; exact hq
    | name _ _ _ => left; simpa [apart] using h
    | var _ _ _ => left; simpa [apart] using h
    | zero => left; simpa [apart] using h
    | int _ _ _ _ => left; simpa [apart] using h
  | zero => exact .inl rfl
  | int _ _ _ _ =>
    cases g2 with
    | sign h2 =>
      obtain ⟨d, v, q, _, _, _, _, _, hq, _⟩ := sig_heads _ h2
      right; right; rw [← hd d v q]; exact hq
    | name h2 _ _ => right; right; rw [← hd _ _ rfl]; exact lu _ (.inl h2)
    | var h2 _ _ => right; right; rw [← hd _ _ rfl]; exact lu _ (.inr h2)
    | zero => simp only [apart] at h; rcases (by simpa using h : _ ∨ _) with z | z; exact .inl (by simp [z]); exact .inr (.inl (by simpa using z))
    | int _ _ _ _ => simp only [apart] at h; rcases (by simpa using h : _ ∨ _) with z | z; exact .inl (by simp [z]); exact .inr (.inl (by simpa using z))
  | sign _ =>
    cases g2 with
    | sign h2 => simp [apart] at h
    | name h2 _ _ => rw [← hd _ _ rfl]; exact hw _ (.inl h2)
    | var h2 _ _ => rw [← hd _ _ rfl]; exact hw _ (.inr (.inl h2))
    | zero => rw [← hd _ _ rfl]; exact hw _ (.inr (.inr (by decide)))
    | int h2 _ _ _ => rw [← hd _ _ rfl]; exact hw _ (.inr (.inr h2))
theorem Lex.gap {ts : List Tk} {rest : List Nat} : ∀ (g : List Nat) (n : Nat), (∀ c ∈ g, c = 32 ∨ c = 10) → Lex (n + g.length) rest ts → Lex n (g ++ rest) ts
  | [], n, _, h => h
  | c :: g, n, hg, h => .ws (hg c List.mem_cons_self) (Lex.gap g (n + 1) (fun d hd => hg d (List.mem_cons_of_mem _ hd)) (by rw [List.length_cons] at h; rw [show n + 1 + g.length = n + (g.length + 1) by omega]; exact h))
/-- a text made so far, its tokens, and the last one -/
def Made (text : List Nat) (due : List Tk) (last : Option (Kind × List Nat)) : Prop :=
  (∀ k t, last = some (k, t) → Good k t) ∧ ∀ rest ts, (∀ k t, last = some (k, t) → Follow k t rest) → Lex text.length rest ts → Lex 0 (text ++ rest) (due ++ ts)
theorem Made.nil : Made [] [] none := ⟨fun _ _ h => (nomatch h), fun _ _ _ h => h⟩
theorem Made.step {text g t : List Nat} {due : List Tk} {last : Option (Kind × List Nat)} {k : Kind} (m : Made text due last) (hg : ∀ c ∈ g, c = 32 ∨ c = 10) (gd : Good k t)
    (h : g ≠ [] ∨ ∀ k1 t1, last = some (k1, t1) → apart k1 t1 k = true) : Made (text ++ g ++ t) (due ++ [(k, t, (text ++ g).length)]) (some (k, t)) := by
  refine ⟨fun _ _ e => by cases e; exact gd, fun rest ts hf hl => ?_⟩
  obtain ⟨c, r, e, hc1, hc2⟩ := gd.head
  have h1 : Lex (text ++ g).length (t ++ rest) ((k, t, (text ++ g).length) :: ts) := by
    have hr := gd.read (hf k t rfl)
    subst e
    rw [List.cons_append] at hr ⊢
    refine .tok ⟨hc1, hc2⟩ hr (by simp) (by simp) ?_
    have ed : (c :: (r ++ rest)).drop (c :: r).length = rest := by
      rw [← List.cons_append, List.drop_left]
    rw [ed]
    rw [List.length_append] at hl
    exact hl
  have h2 : Lex text.length (g ++ (t ++ rest)) ((k, t, (text ++ g).length) :: ts) := Lex.gap g _ hg (by rw [← List.length_append]; exact h1)
  have h3 := m.2 (g ++ (t ++ rest)) _ (fun k1 t1 e1 => by
    cases g with
    | nil =>
      rcases h with h | h
      · exact absurd rfl h
      · exact apart_stop (m.1 k1 t1 e1) gd (h k1 t1 e1) rest
    | cons d g' =>
      intro x y exy
      rw [List.cons_append] at exy
      have exd := (List.cons.inj exy).1
      exact stop_ws (by rw [← exd]; exact hg _ List.mem_cons_self)) h2
  rw [List.append_assoc, List.append_assoc, List.append_assoc, List.singleton_append]
  exact h3
theorem Made.done {text g : List Nat} {due : List Tk} {last : Option (Kind × List Nat)} (m : Made text due last) (hg : ∀ c ∈ g, c = 32 ∨ c = 10) : Lex 0 (text ++ g) (due ++ [(.fin, [], (text ++ g).length)]) := by
  refine m.2 g _ (fun k t _ => fun c r e => stop_ws (hg c (by rw [e]; exact List.mem_cons_self))) ?_
  have h := Lex.gap (rest := []) g text.length hg (.nil _)
  rw [List.append_nil] at h
  rw [List.length_append]
  exact h
end K1
set_option Elab.async false
set_option maxRecDepth 100000
set_option maxHeartbeats 4000000
namespace K1
open PySem L2 C8 SX
def top (i : Nat) : Stmt := PySem.Challenge.pw_stablepapers_k01_tokens.main.body.getD i (.Pass ⟨0, 0, 0, 0⟩)
abbrev s_is_lower : Stmt := top 8
abbrev s_is_upper : Stmt := top 9
abbrev s_is_digit : Stmt := top 10
abbrev s_is_word : Stmt := top 11
abbrev s_word_at : Stmt := top 12
abbrev s_integer_at : Stmt := top 13
abbrev s_sign_at : Stmt := top 14
abbrev s_token_at : Stmt := top 15
abbrev s_tokens : Stmt := top 16
abbrev N_is_lower : List Str := ["char"]
abbrev N_word_at : List Str := ["text", "at", "end"]
abbrev N_sign_at : List Str := ["text", "at", "sign"]
abbrev N_token_at : List Str := ["text", "at", "char"]
abbrev N_tokens : List Str := ["text", "found", "at", "token"]
theorem sc_is_lower : FnScope N_is_lower ["char"] (fnScope s_is_lower) := fnScope_by (by decide +kernel)
theorem sc_is_upper : FnScope N_is_lower ["char"] (fnScope s_is_upper) := fnScope_by (by decide +kernel)
theorem sc_is_digit : FnScope N_is_lower ["char"] (fnScope s_is_digit) := fnScope_by (by decide +kernel)
theorem sc_is_word : FnScope N_is_lower ["char"] (fnScope s_is_word) := fnScope_by (by decide +kernel)
theorem sc_word_at : FnScope N_word_at ["text", "at"] (fnScope s_word_at) := fnScope_by (by decide +kernel)
theorem sc_integer_at : FnScope N_word_at ["text", "at"] (fnScope s_integer_at) := fnScope_by (by decide +kernel)
theorem sc_sign_at : FnScope N_sign_at ["text", "at"] (fnScope s_sign_at) := fnScope_by (by decide +kernel)
theorem sc_token_at : FnScope N_token_at ["text", "at"] (fnScope s_token_at) := fnScope_by (by decide +kernel)
theorem sc_tokens : FnScope N_tokens ["text"] (fnScope s_tokens) := fnScope_by (by decide +kernel)
/-- a def of the top without defaults -/
def Has (K : PySem.W.Frag) (mg : Str → Option Value) (x : Str) (st : Stmt) : Prop := ∃ f fd, Def K mg x st f fd ∧ fd.defaults = .none
structure Txt (K : PySem.W.Frag) (mg : Str → Option Value) (aS : Addr) : Prop where
  is_lower : Has K mg "is_lower" s_is_lower
  is_upper : Has K mg "is_upper" s_is_upper
  is_digit : Has K mg "is_digit" s_is_digit
  is_word : Has K mg "is_word" s_is_word
  word_at : Has K mg "word_at" s_word_at
  integer_at : Has K mg "integer_at" s_integer_at
  sign_at : Has K mg "sign_at" s_sign_at
  token_at : Has K mg "token_at" s_token_at
  tokens : Has K mg "tokens" s_tokens
  b_len : mg "len" = none
  g_LONGEST_TEXT : ∃ u, mg "LONGEST_TEXT" = some u ∧ RelV (.int 4000) u
  g_LONGEST_WORD : ∃ u, mg "LONGEST_WORD" = some u ∧ RelV (.int 20) u
  g_LONGEST_INTEGER : ∃ u, mg "LONGEST_INTEGER" = some u ∧ RelV (.int 4) u
  g_SIGNS : ∃ u, mg "SIGNS" = some u ∧ RelV (.ref aS) u
  t_SIGNS : ∀ H, SqT K H aS (sigs.map fun g => V.str (S g))
theorem sz {n : Nat} (h : n ≤ 4000) : n ≤ sizeLine := Nat.le_trans h (by decide)
theorem S_len4 {l : List Nat} (h : l.length ≤ 4000) : (S l).length ≤ sizeLine := by rw [S_len]; exact sz h
theorem le_sign {a c : Nat} {x : Str} (hx : x.cps.toList = [a]) : (!decide ((S [c]).cps.toList < x.cps.toList)) = decide (a ≤ c) := by
  have : (S [c]).cps.toList = [c] := rfl
  rw [this, hx]
  simp [List.cons_lt_cons_iff]
  rw [← decide_not]
  exact decide_eq_decide.mpr (by omega)
theorem sign_le {a c : Nat} {x : Str} (hx : x.cps.toList = [a]) : (!decide (x.cps.toList < (S [c]).cps.toList)) = decide (c ≤ a) := by
  have : (S [c]).cps.toList = [c] := rfl
  rw [this, hx]
  simp [List.cons_lt_cons_iff]
  rw [← decide_not]
  exact decide_eq_decide.mpr (by omega)
theorem eq_sign {a c : Nat} {x : Str} (hx : x = S [a]) : decide (V.str (S [c]) = V.str x) = decide (c = a) := by
  subst hx
  by_cases h : c = a
  · subst h; simp
  · rw [decide_eq_false h, decide_eq_false]
    intro z
    exact h (List.cons.inj (S_inj (V.str.inj z))).1
theorem at_nat {l : List Nat} {p c : Nat} (h : l[p]? = some c) : atI (S l).cps.toList (p : Int) = some c := atI_nat h
theorem cut_nat (l : List Nat) {a b : Nat} (ha : a ≤ l.length) (hb : b ≤ l.length) : cutS (S l) (some (a : Int)) (some (b : Int)) = S ((l.drop a).take (b - a)) := by
  unfold cutS
  rw [S_len, HT.sIx_nat, HT.sIx_nat, Nat.min_eq_left ha, Nat.min_eq_left hb]
def spChar (f : Nat → Bool) : Sp := fun vs H Q _ => ∃ c, vs = [.str (S [c])] ∧ Q (.bl (f c)) H
section
variable {P : Program} {w : World} {K : PySem.W.Frag} {mg : Str → Option Value} {base : Heap} {aS : Addr}
theorem ok_is_lower (T : Txt K mg aS) : Cal P w K mg base 1 "is_lower" (spChar isLower) [] := by
  obtain ⟨f, fd, F, df⟩ := T.is_lower
  refine cal0 (ps := ["char"]) F (F.fn.binds df fun _ _ _ _ _ _ us hl => match us, hl with | [_], _ => rfl) .nil sc_is_lower (fun vs H Q E h => ?_) (fun cdv A outer s H vs Q E hr h => ?_)
  · obtain ⟨c, rfl, _⟩ := h; rfl
  · obtain ⟨c, rfl, k⟩ := h
    refine ⟨_, (pss_one (ps_ret (pe_chain op_le_str op_le_str pe_str (pv 0) pe_str))), ?_⟩
    refine ⟨_, rfl, _, _, rfl, rfl, _, rfl, ?_⟩
    rw [le_sign (a := 97) (by decide +kernel)]
    refine ite2 (fun h => ?_) (fun h => ?_)
    · refine ⟨_, _, rfl, rfl, ?_⟩
      rw [sign_le (a := 122) (by decide +kernel)]
      unfold isLower at k; rw [h, Bool.true_and] at k; exact k
    · rw [Bool.not_eq_true] at h; unfold isLower at k; rw [h, Bool.false_and] at k; exact k
theorem ok_is_upper (T : Txt K mg aS) : Cal P w K mg base 1 "is_upper" (spChar isUpper) [] := by
  obtain ⟨f, fd, F, df⟩ := T.is_upper
  refine cal0 (ps := ["char"]) F (F.fn.binds df fun _ _ _ _ _ _ us hl => match us, hl with | [_], _ => rfl) .nil sc_is_upper (fun vs H Q E h => ?_) (fun cdv A outer s H vs Q E hr h => ?_)
  · obtain ⟨c, rfl, _⟩ := h; rfl
  · obtain ⟨c, rfl, k⟩ := h
    refine ⟨_, (pss_one (ps_ret (pe_chain op_le_str op_le_str pe_str (pv 0) pe_str))), ?_⟩
    refine ⟨_, rfl, _, _, rfl, rfl, _, rfl, ?_⟩
    rw [le_sign (a := 65) (by decide +kernel)]
    refine ite2 (fun h => ?_) (fun h => ?_)
    · refine ⟨_, _, rfl, rfl, ?_⟩
      rw [sign_le (a := 90) (by decide +kernel)]
      unfold isUpper at k; rw [h, Bool.true_and] at k; exact k
    · rw [Bool.not_eq_true] at h; unfold isUpper at k; rw [h, Bool.false_and] at k; exact k
theorem ok_is_digit (T : Txt K mg aS) : Cal P w K mg base 1 "is_digit" (spChar isDigit) [] := by
  obtain ⟨f, fd, F, df⟩ := T.is_digit
  refine cal0 (ps := ["char"]) F (F.fn.binds df fun _ _ _ _ _ _ us hl => match us, hl with | [_], _ => rfl) .nil sc_is_digit (fun vs H Q E h => ?_) (fun cdv A outer s H vs Q E hr h => ?_)
  · obtain ⟨c, rfl, _⟩ := h; rfl
  · obtain ⟨c, rfl, k⟩ := h
    refine ⟨_, (pss_one (ps_ret (pe_chain op_le_str op_le_str pe_str (pv 0) pe_str))), ?_⟩
    refine ⟨_, rfl, _, _, rfl, rfl, _, rfl, ?_⟩
    rw [le_sign (a := 48) (by decide +kernel)]
    refine ite2 (fun h => ?_) (fun h => ?_)
    · refine ⟨_, _, rfl, rfl, ?_⟩
      rw [sign_le (a := 57) (by decide +kernel)]
      unfold isDigit at k; rw [h, Bool.true_and] at k; exact k
    · rw [Bool.not_eq_true] at h; unfold isDigit at k; rw [h, Bool.false_and] at k; exact k
theorem ok_is_word (T : Txt K mg aS) (c_is_lower : Cal P w K mg base 1 "is_lower" (spChar isLower) []) (c_is_upper : Cal P w K mg base 1 "is_upper" (spChar isUpper) []) (c_is_digit : Cal P w K mg base 1 "is_digit" (spChar isDigit) []) :
    Cal P w K mg base 2 "is_word" (spChar isWord) [] := by
  obtain ⟨f, fd, F, df⟩ := T.is_word
  refine cal0 (ps := ["char"]) F (F.fn.binds df fun _ _ _ _ _ _ us hl => match us, hl with | [_], _ => rfl) .nil sc_is_word (fun vs H Q E h => ?_) (fun cdv A outer s H vs Q E hr h => ?_)
  · obtain ⟨c, rfl, _⟩ := h; rfl
  · obtain ⟨c, rfl, k⟩ := h
    refine ⟨_, (pss_one (ps_ret (pe_or (pe_c c_is_lower hr (by decide) rfl (pa_cons (pv 0) pa_nil)) (pe_or (pe_c c_is_upper hr (by decide) rfl (pa_cons (pv 0) pa_nil)) (pe_or (pe_c c_is_digit hr (by decide) rfl (pa_cons (pv 0) pa_nil)) (pe_one (pe_cmpR op_eq (pv 0) pe_str (nomark _)))))))), ?_⟩
    refine ⟨_, rfl, _, rfl, _, rfl, ite2 (fun h1 => ?_) (fun h1 => ?_)⟩
    · unfold isWord at k; rw [h1, Bool.true_or, Bool.true_or, Bool.true_or] at k; exact k
    refine ⟨_, rfl, _, rfl, _, rfl, ite2 (fun h2 => ?_) (fun h2 => ?_)⟩
    · unfold isWord at k; rw [h2, Bool.or_true, Bool.true_or, Bool.true_or] at k; exact k
    refine ⟨_, rfl, _, rfl, _, rfl, ite2 (fun h3 => ?_) (fun h3 => ?_)⟩
    · unfold isWord at k; rw [h3, Bool.or_true, Bool.true_or] at k; exact k
    refine ⟨_, rfl, rfl, ?_⟩
    rw [Bool.not_eq_true] at h1 h2 h3
    unfold isWord at k; rw [h1, h2, h3, Bool.false_or, Bool.false_or, Bool.false_or] at k
    have e : decide (V.str (S [c]) = V.str (Str.ofString "_")) = decide (c = 95) := by
      have e0 : Str.ofString "_" = S [95] := by decide +kernel
      rw [e0]
      by_cases h : c = 95
      · subst h; simp
      · rw [decide_eq_false h, decide_eq_false]
        intro z
        have z1 := V.str.inj z
        have z2 := S_inj z1
        exact h (List.cons.inj z2).1
    rw [e]; exact k
def spRun (g : List Nat → Nat → List Nat) : Sp := fun vs H Q _ => ∃ (l : List Nat) (p : Nat), vs = [.str (S l), .int p] ∧ l.length ≤ 4000 ∧ p < l.length ∧ Q (.str (S (g l p))) H
theorem ok_word_at (T : Txt K mg aS) (c_is_word : Cal P w K mg base 2 "is_word" (spChar isWord) []) :
    Cal P w K mg base 3 "word_at" (spRun fun l p => (l.drop p).take (wordLen (l.drop (p + 1)))) [] := by
  obtain ⟨f, fd, F, df⟩ := T.word_at
  refine cal0 (ps := ["text", "at"]) F (F.fn.binds df fun _ _ _ _ _ _ us hl => match us, hl with | [_, _], _ => rfl) .nil sc_word_at (fun vs H Q E h => ?_) (fun cdv A outer s H vs Q E hr h => ?_)
  · obtain ⟨l, p, rfl, _⟩ := h; rfl
  · obtain ⟨l, p, rfl, hl, hp, k⟩ := h
    refine ⟨_, (pss_cons (ps_set (i := 2) sc_word_at.nd rfl (Or.inl rfl) (pe_op op_add (pv 1) pe_int))
      (pss_cons (ps_while PassesOwn.never (PW.pt (pw_and (pt_cmpR op_lt (pv 2) (pe_callB call_len_str (by rfl) T.b_len PySem.boot_len (pa_cons (pv 0) pa_nil)) (nomark _)) (pw_and (pt_cmpR op_lt (pe_op op_sub (pv 2) (pv 1)) (pe_gc rfl T.g_LONGEST_WORD) (nomark _)) (pw_and1 (pt_val (pe_c c_is_word hr (by decide) rfl (pa_cons (pe_ix ix_str (pv 0) (pv 2) (fun _ _ => rfl)) pa_nil)))))))
        (pss_one (ps_aug (i := 2) sc_word_at.nd rfl (Or.inl rfl) pe_int ip_add)))
      (pss_one (ps_ret (pe_slice sl_str (pv 0) (po_some (pv 1)) (po_some (pv 2))))))), ?_⟩
    refine ⟨_, rfl, _, _, rfl, rfl, ?_⟩
    have hR := run_le isWord 19 (l.drop (p + 1))
    have hD : (l.drop (p + 1)).length = l.length - (p + 1) := List.length_drop
    refine ⟨fun m σ H' => ∃ j : Nat, H' = H ∧ σ = [some (.str (S l)), some (.int p), some (.int (p + 1 + j : Nat))] ∧ j ≤ run isWord 19 (l.drop (p + 1)) ∧ m = run isWord 19 (l.drop (p + 1)) - j,
      ⟨_, 0, rfl, rfl, Nat.zero_le _, rfl⟩, ?_⟩
    rintro m σ H' ⟨j, rfl, rfl, hj, rfl⟩
    have hat := run_at isWord 19 (l.drop (p + 1)) j hj
    rw [List.getElem?_drop] at hat
    have out : ∀ (hx : ¬ j < run isWord 19 (l.drop (p + 1))), Q (V.str (cutS (S l) (some (p : Int)) (some ((p + 1 + j : Nat) : Int)))) H' := fun hx => by
      have ej : j = run isWord 19 (l.drop (p + 1)) := by omega
      rw [cut_nat l (by omega) (by omega), show p + 1 + j - p = wordLen (l.drop (p + 1)) by unfold wordLen; omega]
      exact k
    refine ⟨_, rfl, _, rfl, _, rfl, S_len4 hl, _, _, rfl, rfl, _, rfl, ite2 (fun h1 => ?_) (fun h1 => ?_)⟩
    · rw [decide_eq_true_eq, S_len] at h1
      have h1' : p + 1 + j < l.length := by omega
      refine ⟨_, rfl, _, rfl, _, _, rfl, rfl, _, _, rfl, rfl, _, rfl, ite2 (fun h2 => ?_) (fun h2 => ?_)⟩
      · rw [decide_eq_true_eq] at h2
        have hc : l[p + 1 + j]? = some l[p + 1 + j] := List.getElem?_eq_getElem h1'
        refine ⟨_, rfl, _, rfl, _, _, _, rfl, rfl, S_len4 hl, at_nat hc, _, rfl, _, rfl, ?_⟩
        refine ite2 (fun h3 => ?_) (fun h3 => ?_)
        · have hlt : j < run isWord 19 (l.drop (p + 1)) := hat.mpr ⟨by omega, _, hc, h3⟩
          refine ⟨_, fun _ _ h => h, ?_⟩
          refine ⟨_, rfl, _, _, rfl, rfl, ?_⟩
          exact ⟨run isWord 19 (l.drop (p + 1)) - (j + 1), by omega, j + 1, rfl, rfl, hlt, rfl⟩
        · refine ⟨_, rfl, _, rfl, _, rfl, _, rfl, _, rfl, _, rfl, S_len4 hl, ?_⟩
          refine out fun hx => ?_
          obtain ⟨_, c, hc', hf⟩ := hat.mp hx
          rw [hc] at hc'; cases hc'; exact h3 hf
      · rw [decide_eq_true_eq] at h2
        refine iteF ⟨_, rfl, _, rfl, _, rfl, _, rfl, _, rfl, _, rfl, S_len4 hl, ?_⟩
        exact out fun hx => by omega
    · rw [decide_eq_true_eq, S_len] at h1
      refine iteF ⟨_, rfl, _, rfl, _, rfl, _, rfl, _, rfl, _, rfl, S_len4 hl, ?_⟩
      exact out fun hx => by omega
theorem ok_integer_at (T : Txt K mg aS) (c_is_digit : Cal P w K mg base 1 "is_digit" (spChar isDigit) []) :
    Cal P w K mg base 3 "integer_at" (spRun fun l p => (l.drop p).take (intLen (l.getD p 0) (l.drop (p + 1)))) [] := by
  obtain ⟨f, fd, F, df⟩ := T.integer_at
  refine cal0 (ps := ["text", "at"]) F (F.fn.binds df fun _ _ _ _ _ _ us hl => match us, hl with | [_, _], _ => rfl) .nil sc_integer_at (fun vs H Q E h => ?_) (fun cdv A outer s H vs Q E hr h => ?_)
  · obtain ⟨l, p, rfl, _⟩ := h; rfl
  · obtain ⟨l, p, rfl, hl, hp, k⟩ := h
    refine ⟨_, (pss_cons (ps_if (pt_cmpR op_eq (pe_ix ix_str (pv 0) (pv 1) (fun _ _ => rfl)) pe_str (nomark _))
        (pss_one (ps_ret pe_str))
        pss_nil)
      (pss_cons (ps_set (i := 2) sc_integer_at.nd rfl (Or.inl rfl) (pe_op op_add (pv 1) pe_int))
      (pss_cons (ps_while PassesOwn.never (PW.pt (pw_and (pt_cmpR op_lt (pv 2) (pe_callB call_len_str (by rfl) T.b_len PySem.boot_len (pa_cons (pv 0) pa_nil)) (nomark _)) (pw_and (pt_cmpR op_lt (pe_op op_sub (pv 2) (pv 1)) (pe_gc rfl T.g_LONGEST_INTEGER) (nomark _)) (pw_and1 (pt_val (pe_c c_is_digit hr (by decide) rfl (pa_cons (pe_ix ix_str (pv 0) (pv 2) (fun _ _ => rfl)) pa_nil)))))))
        (pss_one (ps_aug (i := 2) sc_integer_at.nd rfl (Or.inl rfl) pe_int ip_add)))
      (pss_one (ps_ret (pe_slice sl_str (pv 0) (po_some (pv 1)) (po_some (pv 2)))))))), ?_⟩
    have hc0 : l[p]? = some l[p] := List.getElem?_eq_getElem hp
    have hg : l.getD p 0 = l[p] := by rw [List.getD_eq_getElem?_getD, hc0, Option.getD_some]
    dsimp only at k
    rw [hg] at k
    refine ⟨_, rfl, _, rfl, _, _, _, rfl, rfl, S_len4 hl, at_nat hc0, rfl, _, rfl, ?_⟩
    rw [eq_sign (a := 48) (by decide +kernel)]
    refine ite2 (fun h0 => ?_) (fun h0 => ?_)
    · rw [decide_eq_true_eq] at h0
      unfold intLen at k
      rw [if_pos h0, List.drop_eq_getElem_cons hp, h0] at k
      exact k
    rw [decide_eq_true_eq] at h0
    unfold intLen at k
    rw [if_neg h0] at k
    refine ⟨_, rfl, _, _, rfl, rfl, ?_⟩
    have hR := run_le isDigit 3 (l.drop (p + 1))
    have hD : (l.drop (p + 1)).length = l.length - (p + 1) := List.length_drop
    refine ⟨fun m σ H' => ∃ j : Nat, H' = H ∧ σ = [some (.str (S l)), some (.int p), some (.int (p + 1 + j : Nat))] ∧ j ≤ run isDigit 3 (l.drop (p + 1)) ∧ m = run isDigit 3 (l.drop (p + 1)) - j,
      ⟨_, 0, rfl, rfl, Nat.zero_le _, rfl⟩, ?_⟩
    rintro m σ H' ⟨j, rfl, rfl, hj, rfl⟩
    have hat := run_at isDigit 3 (l.drop (p + 1)) j hj
    rw [List.getElem?_drop] at hat
    have out : ∀ (hx : ¬ j < run isDigit 3 (l.drop (p + 1))), Q (V.str (cutS (S l) (some (p : Int)) (some ((p + 1 + j : Nat) : Int)))) H' := fun hx => by
      have ej : j = run isDigit 3 (l.drop (p + 1)) := by omega
      rw [cut_nat l (by omega) (by omega), show p + 1 + j - p = 1 + run isDigit 3 (l.drop (p + 1)) by omega]
      exact k
    refine ⟨_, rfl, _, rfl, _, rfl, S_len4 hl, _, _, rfl, rfl, _, rfl, ite2 (fun h1 => ?_) (fun h1 => ?_)⟩
    · rw [decide_eq_true_eq, S_len] at h1
      have h1' : p + 1 + j < l.length := by omega
      refine ⟨_, rfl, _, rfl, _, _, rfl, rfl, _, _, rfl, rfl, _, rfl, ite2 (fun h2 => ?_) (fun h2 => ?_)⟩
      · rw [decide_eq_true_eq] at h2
        have hc : l[p + 1 + j]? = some l[p + 1 + j] := List.getElem?_eq_getElem h1'
        refine ⟨_, rfl, _, rfl, _, _, _, rfl, rfl, S_len4 hl, at_nat hc, _, rfl, _, rfl, ?_⟩
        refine ite2 (fun h3 => ?_) (fun h3 => ?_)
        · have hlt : j < run isDigit 3 (l.drop (p + 1)) := hat.mpr ⟨by omega, _, hc, h3⟩
          refine ⟨_, fun _ _ h => h, ?_⟩
          refine ⟨_, rfl, _, _, rfl, rfl, ?_⟩
          exact ⟨run isDigit 3 (l.drop (p + 1)) - (j + 1), by omega, j + 1, rfl, rfl, hlt, rfl⟩
        · refine ⟨_, rfl, _, rfl, _, rfl, _, rfl, _, rfl, _, rfl, S_len4 hl, ?_⟩
          refine out fun hx => ?_
          obtain ⟨_, c, hc', hf⟩ := hat.mp hx
          rw [hc] at hc'; cases hc'; exact h3 hf
      · rw [decide_eq_true_eq] at h2
        refine iteF ⟨_, rfl, _, rfl, _, rfl, _, rfl, _, rfl, _, rfl, S_len4 hl, ?_⟩
        exact out fun hx => by omega
    · rw [decide_eq_true_eq, S_len] at h1
      refine iteF ⟨_, rfl, _, rfl, _, rfl, _, rfl, _, rfl, _, rfl, S_len4 hl, ?_⟩
      exact out fun hx => by omega
def spSign : Sp := fun vs H Q _ => ∃ (l : List Nat) (p : Nat) (g : List Nat), vs = [.str (S l), .int p] ∧ l.length ≤ 4000 ∧ p < l.length ∧ sigAt (l.drop p) = some g ∧ Q (.str (S g)) H
theorem starts_at (l g : List Nat) {p : Nat} (hp : p < l.length) (hg : g.length ≤ 2) : Txt.startswith3 (S l) (S g) (p : Int) = TL.pre g (l.drop p) := by
  unfold Txt.startswith3 Builtin.Str.subAt TL.pre
  have e : fromIndex (S l).length (p : Int) = p := by
    unfold fromIndex; rw [if_neg (by omega)]; omega
  rw [e, S_len, S_len]
  have e2 : (S l).cps.extract p (p + g.length) = ((l.drop p).take g.length).toArray := by
    show l.toArray.extract p (p + g.length) = _
    rw [List.extract_toArray, List.extract_eq_drop_take]
    congr 2; omega
  rw [e2]
  have e3 : (((l.drop p).take g.length).toArray == (S g).cps) = ((l.drop p).take g.length == g) := by
    show (((l.drop p).take g.length).toArray == g.toArray) = _
    simp
  rw [e3]
  by_cases h : p + g.length ≤ l.length
  · rw [decide_eq_true h, Bool.true_and]
  · rw [decide_eq_false h, Bool.false_and]
    symm
    rw [beq_eq_false_iff_ne]
    intro z
    have := congrArg List.length z
    rw [List.length_take, List.length_drop] at this
    omega
theorem ok_sign_at (T : Txt K mg aS) : Cal P w K mg base 1 "sign_at" spSign [] := by
  obtain ⟨f, fd, F, df⟩ := T.sign_at
  refine cal0 (ps := ["text", "at"]) F (F.fn.binds df fun _ _ _ _ _ _ us hl => match us, hl with | [_, _], _ => rfl) .nil sc_sign_at (fun vs H Q E h => ?_) (fun cdv A outer s H vs Q E hr h => ?_)
  · obtain ⟨l, p, g, rfl, _⟩ := h; rfl
  · obtain ⟨l, p, g, rfl, hl, hp, hg, k⟩ := h
    refine ⟨_, (pss_cons (ps_for PassesOwn.never rfl (pi_tup (pe_gc rfl T.g_SIGNS)) (pg_name (i := 2) sc_sign_at.nd rfl (Or.inl rfl))
      (pss_one (ps_if (pt_val (pe_bm PySem.F.plainAttrs_str PySem.F.slot_str_startswith PySem.F.type_str_startswith mt_startswith3 (pv 0) (pa_cons (pv 2) (pa_cons (pv 1) pa_nil))))
        (pss_one (ps_ret (pv 2)))
        pss_nil)))
    (pss_one ps_never)), ?_⟩
    refine ⟨_, rfl, ⟨_, T.t_SIGNS _⟩, for_tup (K := K) (a := aS) (xs := sigs.map fun g => V.str (S g)) (fun i σ H' => H' = H ∧ (∃ v, σ = [some (.str (S l)), some (.int p), v]) ∧ (sigs.drop i).find? (fun g => TL.pre g (l.drop p)) = some g)
      ⟨rfl, ⟨_, rfl⟩, hg⟩ (fun i σ H' _ _ => T.t_SIGNS _) ?_ ?_⟩
    · rintro i x σ H' hx ⟨rfl, ⟨v, rfl⟩, hf⟩
      rw [List.getElem?_map] at hx
      obtain ⟨s, hs, rfl⟩ := Option.map_eq_some_iff.mp hx
      have hs2 : s.length ≤ 2 := by
        obtain ⟨_, _, _, _, _, _, _, _, _, h⟩ := sig_heads s (List.mem_of_getElem? hs)
        exact h
      refine ⟨_, rfl, rfl, _, rfl, _, rfl, _, _, _, rfl, rfl, _, rfl, ?_⟩
      rw [starts_at l s hp hs2]
      obtain ⟨hi, e⟩ := List.getElem?_eq_some_iff.mp hs
      rw [List.drop_eq_getElem_cons hi, e] at hf
      refine ite2 (fun h => ?_) (fun h => ?_)
      · simp only [List.find?_cons, h] at hf
        cases hf
        exact ⟨_, rfl, k⟩
      · simp only [List.find?_cons, h] at hf
        exact ⟨rfl, ⟨_, rfl⟩, hf⟩
    · rintro σ H' ⟨_, _, hf⟩
      rw [List.length_map, List.drop_length] at hf
      exact (nomatch hf)
end
end K1
set_option Elab.async false
set_option maxRecDepth 100000
set_option maxHeartbeats 4000000
namespace K1
open PySem L2 C8 SX
def spTokenAt : Sp := fun vs H Q _ => ∃ (l : List Nat) (p : Nat) (k : Kind) (t : List Nat), vs = [.str (S l), .int p] ∧ l.length ≤ 4000 ∧ p < l.length ∧ tok1 (l.drop p) = some (k, t) ∧
  ∀ a, H a = none → Q (.ref a) (upd H a (.tup [.str (kStr k), .str (S t), .int p]))
def TokAt (H : Hp) (v : V) (t : Tk) : Prop := ∃ a, v = .ref a ∧ H a = some (.tup [.str (kStr t.1), .str (S t.2.1), .int (t.2.2 : Nat)])
abbrev ToksAt (H : Hp) : List V → List Tk → Prop := Paired (TokAt H)
/-- tuples stay -/
def KeepT (H H' : Hp) : Prop := ∀ b xs, H b = some (.tup xs) → H' b = some (.tup xs)
theorem KeepT.refl (H : Hp) : KeepT H H := fun _ _ h => h
theorem KeepT.trans {A B C : Hp} (h : KeepT A B) (h' : KeepT B C) : KeepT A C := fun b xs z => h' b xs (h b xs z)
theorem keepT_of {H H' : Hp} (s : Same H H') : KeepT H H' := fun b _ h => s b _ h
theorem KeepT.toks {H H' : Hp} (s : KeepT H H') {xs : List V} {ts : List Tk} (h : ToksAt H xs ts) : ToksAt H' xs ts := Paired.mapP h fun _ _ ⟨a, e, z⟩ => ⟨a, e, s _ _ z⟩
theorem toks_snoc {H : Hp} {v : V} {t : Tk} (hv : TokAt H v t) : ∀ {xs : List V} {ts : List Tk}, ToksAt H xs ts → ToksAt H (xs ++ [v]) (ts ++ [t])
  | _, _, .nil => .cons hv .nil
  | _, _, .cons h r => .cons h (toks_snoc hv r)
theorem Same.new {H : Hp} {a : Addr} {o : HO} (h : H a = none) : Same H (upd H a o) := fun b u e => by
  rw [upd_ne (ne_of_none e h)]; exact e
theorem Same.put {H0 H : Hp} {a : Addr} {o : HO} (s : Same H0 H) (h : H0 a = none) : Same H0 (upd H a o) := fun b u e => by
  rw [upd_ne (ne_of_none e h)]; exact s b u e
theorem KeepT.put {H0 H : Hp} {a : Addr} {o : HO} {xs : List V} (s : KeepT H0 H) (h : H a = some (.lst xs)) : KeepT H0 (upd H a o) := fun b u e => by
  have := s b u e
  rw [upd_ne (by intro z; subst z; rw [h] at this; cases this)]
  exact this
def spTokens : Sp := fun vs H Q _ => ∃ (l : List Nat) (ts : List Tk), vs = [.str (S l)] ∧ l.length ≤ 4000 ∧ Lex 0 l ts ∧ ∀ a xs H', Same H H' → H' a = some (.lst xs) → ToksAt H' xs ts → Q (.ref a) H'
theorem inV_ws (c : Nat) : inV (.str (S [c])) [.str (Str.ofString " "), .str (Str.ofString "\n")] = decide (c = 32 ∨ c = 10) := by
  have e1 : Str.ofString " " = S [32] := by decide +kernel
  have e2 : Str.ofString "\n" = S [10] := by decide +kernel
  rw [e1, e2]
  show ((S [32] == S [c]) || ((S [10] == S [c]) || false)) = _
  rw [S_beq, S_beq]
  by_cases h1 : c = 32
  · subst h1; rfl
  · by_cases h2 : c = 10
    · subst h2; rfl
    · rw [decide_eq_false (by omega : ¬ (c = 32 ∨ c = 10))]
      have n1 : ([32] == [c]) = false := by
        rw [beq_eq_false_iff_ne]; intro z; exact h1 (List.cons.inj z).1.symm
      have n2 : ([10] == [c]) = false := by
        rw [beq_eq_false_iff_ne]; intro z; exact h2 (List.cons.inj z).1.symm
      rw [n1, n2]; rfl
section
variable {P : Program} {w : World} {K : PySem.W.Frag} {mg : Str → Option Value} {base : Heap} {aS : Addr}
theorem three : 3 ≤ sizeLine := by decide
theorem ok_token_at (T : Txt K mg aS) (c_is_lower : Cal P w K mg base 1 "is_lower" (spChar isLower) []) (c_is_upper : Cal P w K mg base 1 "is_upper" (spChar isUpper) []) (c_is_digit : Cal P w K mg base 1 "is_digit" (spChar isDigit) [])
    (c_word_at : Cal P w K mg base 3 "word_at" (spRun fun l p => (l.drop p).take (wordLen (l.drop (p + 1)))) [])
    (c_integer_at : Cal P w K mg base 3 "integer_at" (spRun fun l p => (l.drop p).take (intLen (l.getD p 0) (l.drop (p + 1)))) []) (c_sign_at : Cal P w K mg base 1 "sign_at" spSign []) :
    Cal P w K mg base 4 "token_at" spTokenAt [] := by
  obtain ⟨f, fd, F, df⟩ := T.token_at
  refine cal0 (ps := ["text", "at"]) F (F.fn.binds df fun _ _ _ _ _ _ us hl => match us, hl with | [_, _], _ => rfl) .nil sc_token_at (fun vs H Q E h => ?_) (fun cdv A outer s H vs Q E hr h => ?_)
  · obtain ⟨l, p, k, t, rfl, _⟩ := h; rfl
  · obtain ⟨l, p, k, t, rfl, hl, hp, ht, kk⟩ := h
    refine ⟨_, (pss_cons (ps_set (i := 2) sc_token_at.nd rfl (Or.inl rfl) (pe_ix ix_str (pv 0) (pv 1) (fun _ _ => rfl)))
    (pss_cons (ps_if (pt_val (pe_c c_is_lower hr (by decide) rfl (pa_cons (pv 2) pa_nil)))
      (pss_one (ps_ret (pe_tup (pa_cons pe_str (pa_cons (pe_c c_word_at hr (by decide) rfl (pa_cons (pv 0) (pa_cons (pv 1) pa_nil))) (pa_cons (pv 1) pa_nil))))))
      pss_nil)
    (pss_cons (ps_if (pt_val (pe_c c_is_upper hr (by decide) rfl (pa_cons (pv 2) pa_nil)))
      (pss_one (ps_ret (pe_tup (pa_cons pe_str (pa_cons (pe_c c_word_at hr (by decide) rfl (pa_cons (pv 0) (pa_cons (pv 1) pa_nil))) (pa_cons (pv 1) pa_nil))))))
      pss_nil)
    (pss_cons (ps_if (pt_val (pe_c c_is_digit hr (by decide) rfl (pa_cons (pv 2) pa_nil)))
      (pss_one (ps_ret (pe_tup (pa_cons pe_str (pa_cons (pe_c c_integer_at hr (by decide) rfl (pa_cons (pv 0) (pa_cons (pv 1) pa_nil))) (pa_cons (pv 1) pa_nil))))))
      pss_nil)
    (pss_one (ps_ret (pe_tup (pa_cons pe_str (pa_cons (pe_c c_sign_at hr (by decide) rfl (pa_cons (pv 0) (pa_cons (pv 1) pa_nil))) (pa_cons (pv 1) pa_nil)))))))))), ?_⟩
    have hc : l[p]? = some l[p] := List.getElem?_eq_getElem hp
    have ed := List.drop_eq_getElem_cons hp
    rw [ed] at ht
    refine ⟨_, rfl, _, rfl, _, _, _, rfl, rfl, S_len4 hl, at_nat hc, ?_⟩
    unfold tok1 at ht
    dsimp only at ht
    refine ⟨_, rfl, _, rfl, _, rfl, ite2 (fun h1 => ?_) (fun h1 => ?_)⟩
    · rw [if_pos h1] at ht
      cases ht
      refine ⟨_, rfl, _, rfl, l, p, rfl, hl, hp, _, rfl, three, fun a ha => ?_⟩
      have := kk a ha
      rw [← ed] at this
      exact this
    rw [if_neg h1] at ht
    refine ⟨_, rfl, _, rfl, _, rfl, ite2 (fun h2 => ?_) (fun h2 => ?_)⟩
    · rw [if_pos h2] at ht
      cases ht
      refine ⟨_, rfl, _, rfl, l, p, rfl, hl, hp, _, rfl, three, fun a ha => ?_⟩
      have := kk a ha
      rw [← ed] at this
      exact this
    rw [if_neg h2] at ht
    refine ⟨_, rfl, _, rfl, _, rfl, ite2 (fun h3 => ?_) (fun h3 => ?_)⟩
    · rw [if_pos h3] at ht
      cases ht
      refine ⟨_, rfl, _, rfl, l, p, rfl, hl, hp, _, rfl, three, fun a ha => ?_⟩
      have := kk a ha
      rw [← ed] at this
      dsimp only
      rw [show l.getD p 0 = l[p] by rw [List.getD_eq_getElem?_getD, hc, Option.getD_some]]
      exact this
    rw [if_neg h3] at ht
    obtain ⟨g, hg, e⟩ := Option.map_eq_some_iff.mp ht
    cases e
    refine ⟨_, rfl, _, rfl, l, p, t, rfl, hl, hp, by rw [ed]; exact hg, _, rfl, three, fun a ha => kk a ha⟩
theorem ok_tokens (T : Txt K mg aS) (c_token_at : Cal P w K mg base 4 "token_at" spTokenAt []) : Cal P w K mg base 5 "tokens" spTokens [] := by
  obtain ⟨f, fd, F, df⟩ := T.tokens
  refine cal0 (ps := ["text"]) F (F.fn.binds df fun _ _ _ _ _ _ us hl => match us, hl with | [_], _ => rfl) .nil sc_tokens (fun vs H Q E h => ?_) (fun cdv A outer s H vs Q E hr h => ?_)
  · obtain ⟨l, ts, rfl, _⟩ := h; rfl
  · obtain ⟨l, ts, rfl, hl, hlex, kk⟩ := h
    refine ⟨_, (pss_cons (ps_if (pt_cmpR op_gt (pe_callB call_len_str (by rfl) T.b_len PySem.boot_len (pa_cons (pv 0) pa_nil)) (pe_gc rfl T.g_LONGEST_TEXT) (nomark _))
      (pss_one ps_never)
      pss_nil)
    (pss_cons (ps_set (i := 1) sc_tokens.nd rfl (Or.inl rfl) (pe_lst pa_nil))
    (pss_cons (ps_set (i := 2) sc_tokens.nd rfl (Or.inl rfl) pe_int)
    (pss_cons (ps_while PassesOwn.never (pt_cmpR op_lt (pv 2) (pe_callB call_len_str (by rfl) T.b_len PySem.boot_len (pa_cons (pv 0) pa_nil)) (nomark _))
      (pss_one (ps_if (pt_cmpR op_in_seq (pe_ix ix_str (pv 0) (pv 2) (fun _ _ => rfl)) (pe_tup (pa_cons pe_str (pa_cons pe_str pa_nil))) rfl)
        (pss_one (ps_aug (i := 2) sc_tokens.nd rfl (Or.inl rfl) pe_int ip_add))
        (pss_cons (ps_set (i := 3) sc_tokens.nd rfl (Or.inl rfl) (pe_c c_token_at hr (by decide) rfl (pa_cons (pv 0) (pa_cons (pv 2) pa_nil))))
        (pss_cons (ps_expr (pe_bm PySem.F.plainAttrs_list PySem.F.slot_list_append PySem.F.type_list_append mt_append (pv 1) (pa_cons (pv 3) pa_nil)))
        (pss_one (ps_aug (i := 2) sc_tokens.nd rfl (Or.inl rfl) (pe_callB call_len_str (by rfl) T.b_len PySem.boot_len (pa_cons (pe_ix ix_tup (pv 3) pe_int (fun _ _ => rfl)) pa_nil)) ip_add)))))))
    (pss_cons (ps_expr (pe_bm PySem.F.plainAttrs_list PySem.F.slot_list_append PySem.F.type_list_append mt_append (pv 1) (pa_cons (pe_tup (pa_cons pe_str (pa_cons pe_str (pa_cons (pe_callB call_len_str (by rfl) T.b_len PySem.boot_len (pa_cons (pv 0) pa_nil)) pa_nil)))) pa_nil)))
    (pss_one (ps_ret (pv 1)))))))), ?_⟩
    refine ⟨_, rfl, _, rfl, S_len4 hl, _, _, rfl, rfl, _, rfl, ?_⟩
    refine ite2 (fun h1 => ?_) (fun _ => ?_)
    · rw [decide_eq_true_eq, S_len] at h1; omega
    refine ⟨Nat.zero_le _, fun a ha => ?_⟩
    refine ⟨fun m σ H' => ∃ (n : Nat) (xs : List V) (done rest : List Tk) (v : Option V), σ = [some (.str (S l)), some (.ref a), some (.int n), v] ∧ H' a = some (.lst xs) ∧ Same H H' ∧ ToksAt H' xs done ∧ done ++ rest = ts ∧ Lex n (l.drop n) rest ∧
      n ≤ l.length ∧ xs.length ≤ n ∧ m = l.length - n, ⟨_, 0, [], [], ts, none, rfl, upd_same, Same.new ha, .nil, rfl, hlex, Nat.zero_le _, Nat.zero_le _, rfl⟩, ?_⟩
    rintro m σ H' ⟨n, xs, done, rest, v, rfl, hA, hS, hT, rfl, hx, hn, hxs, rfl⟩
    refine ⟨_, rfl, _, rfl, _, rfl, S_len4 hl, _, _, rfl, rfl, _, rfl, ite2 (fun h1 => ?_) (fun h1 => ?_)⟩
    · rw [decide_eq_true_eq, S_len] at h1
      have h1' : n < l.length := by omega
      have hc : l[n]? = some l[n] := List.getElem?_eq_getElem h1'
      have ed := List.drop_eq_getElem_cons h1'
      refine ⟨_, fun _ _ h => h, ?_⟩
      refine ⟨_, rfl, _, rfl, _, _, _, rfl, rfl, S_len4 hl, at_nat hc, (by show 2 ≤ sizeLine; decide), fun q hq => ?_⟩
      refine ⟨q, _, rfl, .inr (SqT.of upd_same), rfl, rfl, _, rfl, ?_⟩
      have eI : (if false = true then !inV (V.str (S [l[n]])) [.str (Str.ofString " "), .str (Str.ofString "\n")] else inV (V.str (S [l[n]])) [.str (Str.ofString " "), .str (Str.ofString "\n")]) = decide (l[n] = 32 ∨ l[n] = 10) := by
        rw [if_neg Bool.false_ne_true]; exact inV_ws _
      have nqa : a ≠ q := ne_of_none hA hq
      have hSq : Same H' (upd H' q (.tup [.str (Str.ofString " "), .str (Str.ofString "\n")])) := Same.new hq
      refine ite2 (fun h2 => ?_) (fun h2 => ?_)
      · rw [show ((if false = true then !inV (V.str ⟨#[l[n]]⟩) [.str (Str.ofString " "), .str (Str.ofString "\n")] else inV (V.str ⟨#[l[n]]⟩) [.str (Str.ofString " "), .str (Str.ofString "\n")]) = true) = (decide (l[n] = 32 ∨ l[n] = 10) = true) from congrArg (· = true) eI] at h2
        rw [decide_eq_true_eq] at h2
        refine ⟨_, rfl, _, _, rfl, rfl, ?_⟩
        rw [ed] at hx
        cases hx with
        | ws _ hr' => exact ⟨_, Nat.lt_of_lt_of_le (by omega : l.length - (n + 1) < l.length - n) (Nat.le_refl _), n + 1, xs, done, rest, v, rfl, by rw [upd_ne nqa]; exact hA, hS.trans hSq, (keepT_of hSq).toks hT, rfl, hr', h1', by omega, rfl⟩
        | tok hw _ _ _ _ => exact absurd h2 (by omega)
      · rw [show ((if false = true then !inV (V.str ⟨#[l[n]]⟩) [.str (Str.ofString " "), .str (Str.ofString "\n")] else inV (V.str ⟨#[l[n]]⟩) [.str (Str.ofString " "), .str (Str.ofString "\n")]) = true) = (decide (l[n] = 32 ∨ l[n] = 10) = true) from congrArg (· = true) eI] at h2
        rw [decide_eq_true_eq] at h2
        have hx' := hx
        rw [ed] at hx'
        generalize er : l.drop (n + 1) = r at hx'
        cases hx' with
        | ws hw _ => exact absurd hw h2
        | @tok _ _ _ t k ts' hw htok hne hle hr' =>
          refine ⟨_, rfl, _, rfl, l, n, k, t, rfl, hl, h1', by rw [ed, er]; exact htok, fun b hb => ?_⟩
          have hb' : H' b = none := hSq.free hb
          have nab : a ≠ b := ne_of_none hA hb'
          have hSb := hSq.trans (Same.new (o := .tup [.str (kStr k), .str (S t), .int n]) hb)
          have hA2 := hSb _ _ hA
          have hlen : l.drop n = l[n] :: r := by rw [ed, er]
          have hrl : r.length + 1 = l.length - n := by
            have := congrArg List.length hlen
            rw [List.length_drop, List.length_cons] at this; omega
          have ht0 : 0 < t.length := List.length_pos_iff.mpr hne
          refine ⟨_, rfl, .inl ⟨rfl, _, SqL.of hA2⟩, _, rfl, a, xs, _, rfl, rfl, hA2, Nat.lt_of_le_of_lt (by omega : xs.length ≤ 4000) (by decide), ?_⟩
          refine ⟨_, rfl, _, rfl, _, _, _, _, rfl, rfl, SqT.of (by rw [upd_ne nab.symm]; exact upd_same), (show atI _ ((1 : Nat) : Int) = _ from atI_nat rfl), _, rfl, by rw [S_len]; exact sz (by omega), ?_⟩
          refine ⟨_, _, rfl, rfl, ?_⟩
          have e1 : (n : Int) + ((S t).length : Nat) = ((n + t.length : Nat) : Int) := by rw [S_len]; omega
          have kT : KeepT H' (upd (upd (upd H' q (.tup [.str (Str.ofString " "), .str (Str.ofString "\n")])) b (.tup [.str (kStr k), .str (S t), .int n])) a (.lst (xs ++ [.ref b]))) := (keepT_of hSb).put hA2
          refine ⟨_, (by omega : l.length - (n + t.length) < l.length - n), n + t.length, xs ++ [.ref b], done ++ [(k, t, n)], ts', some (.ref b), ?_, upd_same, ?_, ?_, ?_, ?_, by omega, by rw [List.length_append, List.length_singleton]; omega, rfl⟩
          · show [some (V.str (S l)), some (V.ref a), some (V.int ((n : Int) + ((S t).length : Nat))), some (V.ref b)] = _
            rw [e1]
          · exact Same.put (hS.trans hSb) ha
          · exact toks_snoc ⟨b, rfl, by rw [upd_ne nab.symm]; exact upd_same⟩ (kT.toks hT)
          · rw [List.append_assoc]; rfl
          · rw [← hlen, List.drop_drop] at hr'
            exact hr'
    · rw [decide_eq_true_eq, S_len] at h1
      have en : n = l.length := by omega
      subst en
      rw [List.drop_length] at hx
      cases hx
      refine ⟨_, rfl, .inl ⟨rfl, _, SqL.of hA⟩, _, rfl, _, rfl, S_len4 hl, three, fun b hb => ?_⟩
      have nab : a ≠ b := ne_of_none hA hb
      refine ⟨a, xs, _, rfl, rfl, by rw [upd_ne nab]; exact hA, Nat.lt_of_le_of_lt (by omega : xs.length ≤ 4000) (by decide), ?_⟩
      refine ⟨_, rfl, ?_⟩
      have hSb := Same.new (o := .tup [.str (Str.ofString "end"), .str (Str.ofString ""), .int ((S l).length : Nat)]) hb
      refine kk a (xs ++ [.ref b]) _ (Same.put (hS.trans hSb) ha) upd_same (toks_snoc ⟨b, rfl, ?_⟩ (((keepT_of hSb).put (o := .lst (xs ++ [.ref b])) (by rw [upd_ne nab]; exact hA)).toks hT))
      rw [upd_ne nab.symm, S_len]
      exact upd_same
end
end K1
set_option Elab.async false
set_option maxRecDepth 100000
set_option maxHeartbeats 4000000
namespace K1
open PySem L2 C8 SX
abbrev s_state : Stmt := top 18
abbrev s_draw : Stmt := top 19
abbrev s_word : Stmt := top 20
abbrev s_token : Stmt := top 21
abbrev s_apart : Stmt := top 22
abbrev s_law : Stmt := top 23
abbrev N_state : List Str := ["script", "seed", "cell"]
abbrev N_draw : List Str := ["state", "many", "cells", "k", "amount", "mixed"]
abbrev N_word : List Str := ["state", "first", "letters", "word", "k"]
abbrev N_token : List Str := ["state", "kind", "signs"]
abbrev N_apart : List Str := ["left", "right"]
abbrev N_law : List Str := ["script", "state", "text", "due", "before", "k", "token", "gap", "j", "told"]
theorem sc_state : FnScope N_state ["script"] (fnScope s_state) := fnScope_by (by decide +kernel)
theorem sc_draw : FnScope N_draw ["state", "many"] (fnScope s_draw) := fnScope_by (by decide +kernel)
theorem sc_word : FnScope N_word ["state", "first"] (fnScope s_word) := fnScope_by (by decide +kernel)
theorem sc_token : FnScope N_token ["state"] (fnScope s_token) := fnScope_by (by decide +kernel)
theorem sc_apart : FnScope N_apart ["left", "right"] (fnScope s_apart) := fnScope_by (by decide +kernel)
theorem sc_law : FnScope N_law ["script"] (fnScope s_law) := fnScope_by (by decide +kernel)
structure TxtL (K : PySem.W.Frag) (mg : Str → Option Value) : Prop where
  state : Has K mg "_law_state" s_state
  draw : Has K mg "_law_draw" s_draw
  word : Has K mg "_law_word" s_word
  token : Has K mg "_law_token" s_token
  apart : Has K mg "_law_apart" s_apart
  b_len : mg "len" = none
  b_int : mg "int" = none
  b_abs : mg "abs" = none
  b_range : mg "range" = none
  b_str : mg "str" = none
  b_list : mg "list" = none
  b_isinstance : mg "isinstance" = none
/-- the state of the draws: a list at st whose first item is the list of cells at c -/
def StAt (H : Hp) (st c : Addr) : Prop := ∃ (sd kd : Int) (ns : List Int), H st = some (.lst [.ref c, .int sd, .int kd]) ∧ H c = some (.lst (ns.map V.int)) ∧ ns.length ≤ 63
theorem StAt.ne {H : Hp} {st c : Addr} (h : StAt H st c) : st ≠ c := by
  obtain ⟨sd, kd, ns, h1, h2, _⟩ := h
  refine ne_of h1 h2 fun z => ?_
  have z' := HO.lst.inj z
  cases ns with
  | nil => cases z'
  | cons n r => cases (List.cons.inj z').1
/-- all but the state stays -/
def Keep2 (st c : Addr) (H H' : Hp) : Prop := ∀ b o, H b = some o → b ≠ st → b ≠ c → H' b = some o
theorem Keep2.refl {st c : Addr} (H : Hp) : Keep2 st c H H := fun _ _ h _ _ => h
theorem Keep2.trans {st c : Addr} {A B C : Hp} (h : Keep2 st c A B) (h' : Keep2 st c B C) : Keep2 st c A C := fun b o e n1 n2 => h' b o (h b o e n1 n2) n1 n2
theorem Keep2.of {st c : Addr} {A B : Hp} (h : Same A B) : Keep2 st c A B := fun b o e _ _ => h b o e
theorem Keep2.keepT {st c : Addr} {H H' : Hp} (h : Keep2 st c H H') (s : StAt H st c) : KeepT H H' := fun b xs e => by
  obtain ⟨sd, kd, ns, h1, h2, _⟩ := s
  exact h b _ e (ne_of e h1 (by intro z; cases z)) (ne_of e h2 (by intro z; cases z))
theorem Keep2.put_st {st c : Addr} {H0 H : Hp} {o : HO} (h : Keep2 st c H0 H) : Keep2 st c H0 (upd H st o) := fun b u e n1 n2 => by rw [upd_ne n1]; exact h b u e n1 n2
theorem Keep2.put_c {st c : Addr} {H0 H : Hp} {o : HO} (h : Keep2 st c H0 H) : Keep2 st c H0 (upd H c o) := fun b u e n1 n2 => by rw [upd_ne n2]; exact h b u e n1 n2
theorem StAt.same {H H' : Hp} {st c : Addr} (s : StAt H st c) (h : Same H H') : StAt H' st c := by
  obtain ⟨sd, kd, ns, h1, h2, h3⟩ := s
  exact ⟨sd, kd, ns, h _ _ h1, h _ _ h2, h3⟩
theorem StAt.put {H : Hp} {st c a : Addr} {o : HO} (s : StAt H st c) (h1 : a ≠ st) (h2 : a ≠ c) : StAt (upd H a o) st c := by
  obtain ⟨sd, kd, ns, e1, e2, h3⟩ := s
  exact ⟨sd, kd, ns, by rw [upd_ne h1.symm]; exact e1, by rw [upd_ne h2.symm]; exact e2, h3⟩
theorem StAt.free {H : Hp} {st c a : Addr} (s : StAt H st c) (h : H a = none) : a ≠ st ∧ a ≠ c := by
  obtain ⟨sd, kd, ns, e1, e2, h3⟩ := s
  exact ⟨(ne_of_none e1 h).symm, (ne_of_none e2 h).symm⟩
def spState (K : PySem.W.Frag) : Sp := fun vs H Q _ => ∃ (a : Addr) (ns : List Int), vs = [.ref a] ∧ SqL K H a (ns.map V.int) ∧ ns.length ≤ 63 ∧ ∀ st c H', Same H H' → H st = none → H c = none → StAt H' st c → Q (.ref st) H'
def spDraw : Sp := fun vs H Q _ => ∃ (st c : Addr) (many : Int), vs = [.ref st, .int many] ∧ 0 < many ∧ many < 1073741824 ∧ StAt H st c ∧ ∀ (d : Int) H', 0 ≤ d → d < many → StAt H' st c → Keep2 st c H H' → Q (.int d) H'
theorem at0 {α : Type} {x : α} {r : List α} : atI (x :: r) 0 = some x := atI_nat (j := 0) rfl
theorem ixN0 {n : Nat} (h : 0 < n) : ixN n 0 = some 0 := by
  unfold ixN; rw [if_pos (by decide), if_pos (by omega)]; rfl
theorem map_int_at {ns : List Int} {i : Nat} {x : V} (h : (ns.map V.int)[i]? = some x) : ∃ z, x = .int z := by
  rw [List.getElem?_map] at h
  obtain ⟨z, _, e⟩ := Option.map_eq_some_iff.mp h
  exact ⟨z, e.symm⟩
section
variable {P : Program} {w : World} {K : PySem.W.Frag} {mg : Str → Option Value} {base : Heap}
theorem ok_state (T : TxtL K mg) : Cal P w K mg base 1 "_law_state" (spState K) [] := by
  obtain ⟨f, fd, F, df⟩ := T.state
  refine cal0 (ps := ["script"]) F (F.fn.binds df fun _ _ _ _ _ _ us hl => match us, hl with | [_], _ => rfl) .nil sc_state (fun vs H Q E h => ?_) (fun cdv A outer s H vs Q E hr h => ?_)
  · obtain ⟨a, ns, rfl, _⟩ := h; rfl
  · obtain ⟨a, ns, rfl, hS, hn, kk⟩ := h
    refine ⟨_, (pss_cons (ps_set (i := 1) sc_state.nd rfl (Or.inl rfl) pe_int)
    (pss_cons (ps_for PassesOwn.never rfl (pi_list (pv 0)) (pg_name (i := 2) sc_state.nd rfl (Or.inl rfl))
      (pss_one (ps_set (i := 1) sc_state.nd rfl (Or.inl rfl) (pe_op op_mod (pe_callTy call_int1 (by rfl) T.b_int (by decide +kernel) (pa_cons (pe_op op_add (pe_op op_mul (pv 1) pe_int) (pv 2)) pa_nil)) pe_int))))
    (pss_one (ps_ret (pe_lst (pa_cons (pe_lc (own := [("cell", 2)]) rfl sc_state.nd (pi_list (pv 0)) (blkOk_by (N := N_state) (sc := fnScope s_state) (by decide +kernel)) (fun _ _ _ _ _ => (pg_name (i := 2) sc_state.nd rfl (Or.inl rfl))) (fun _ _ _ _ _ => pts_nil) (fun _ _ _ _ _ => (pe_callB call_abs (by rfl) T.b_abs (by decide +kernel) (pa_cons (pv 2) pa_nil)))) (pa_cons (pe_op op_add (pv 1) pe_int) (pa_cons (pe_op op_mod (pe_callTy call_int1 (by rfl) T.b_int (by decide +kernel) (pa_cons (pv 1) pa_nil)) pe_int) pa_nil)))))))), ?_⟩
    refine ⟨_, rfl, a, rfl, ⟨_, hS⟩, for_list (K := K) (a := a) (xs := ns.map V.int) (fun i σ H' => H' = H ∧ ∃ sd v, σ = [some (.ref a), some (.int sd), v]) ⟨rfl, _, none, rfl⟩ (fun _ _ _ _ ⟨e, _⟩ => e ▸ hS) ?_ ?_⟩
    · rintro i x σ H' hx ⟨rfl, sd, v, rfl⟩
      obtain ⟨z, rfl⟩ := map_int_at hx
      refine ⟨_, rfl, _, _, rfl, rfl, .inr ⟨by decide, by decide⟩, _, rfl, _, _, rfl, rfl, .inl ⟨_, rfl, _, _, rfl, rfl, (by show (0 : Int) < 1000003; decide), rfl, _, _, rfl⟩⟩
    · rintro σ H' ⟨rfl, sd, v, rfl⟩
      refine ⟨_, rfl, a, rfl, ⟨_, hS⟩, fun D hD => lc_list (K := K) (a := a) (xs := ns.map V.int) (fun i H2 => Same H' H2 ∧ ∃ ms : List Int, H2 D = some (.lst (ms.map V.int)) ∧ ms.length = i) ⟨Same.new hD, [], upd_same, rfl⟩ (fun i H2 _ h => h.1.seq hS) ?_ ?_⟩
      · rintro i x H2 hx ⟨hs, ms, hD2, hm⟩
        have hi : i < ns.length := by
          have := (List.getElem?_eq_some_iff.mp hx).1; rwa [List.length_map] at this
        obtain ⟨z, rfl⟩ := map_int_at hx
        refine ⟨rfl, ?_⟩
        refine ⟨_, rfl, _, rfl, ms.map V.int, hD2, by rw [List.length_map]; exact Nat.lt_of_le_of_lt (by omega : ms.length ≤ 63) (by decide), Same.put hs hD, ms ++ [if z < 0 then -z else z], ?_, by rw [List.length_append, List.length_singleton, hm]⟩
        rw [List.map_append]; exact upd_same
      · rintro H2 ⟨hs, ms, hD2, hm⟩
        rw [List.length_map] at hm
        refine ⟨_, rfl, _, _, rfl, rfl, _, rfl, .inl ⟨_, rfl, _, _, rfl, rfl, (by show (0 : Int) < 4; decide), three, fun st hst => ?_⟩⟩
        have hst' := hs.free hst
        exact kk st D _ (Same.put hs hst') hst' hD ⟨_, _, ms, upd_same, by rw [upd_ne (ne_of_none hD2 hst)]; exact hD2, by omega⟩
theorem ok_draw (T : TxtL K mg) : Cal P w K mg base 1 "_law_draw" spDraw [] := by
  obtain ⟨f, fd, F, df⟩ := T.draw
  refine cal0 (ps := ["state", "many"]) F (F.fn.binds df fun _ _ _ _ _ _ us hl => match us, hl with | [_, _], _ => rfl) .nil sc_draw (fun vs H Q E h => ?_) (fun cdv A outer s H vs Q E hr h => ?_)
  · obtain ⟨st, c, many, rfl, _⟩ := h; rfl
  · obtain ⟨st, c, many, rfl, hm0, hm1, hst, kk⟩ := h
    refine ⟨_, (pss_cons (ps_set (i := 2) sc_draw.nd rfl (Or.inl rfl) (pe_ix ix_list (pv 0) pe_int (fun _ _ => rfl)))
    (pss_cons (ps_for PassesOwn.never rfl (pi_range1 rfl T.b_range (pa_cons (pe_callB call_len_seq (by rfl) T.b_len PySem.boot_len (pa_cons (pv 2) pa_nil)) pa_nil)) (pg_name (i := 3) sc_draw.nd rfl (Or.inl rfl))
      (pss_one (ps_if (PW.pt (pw_and (pt_cmpR op_eq (pe_ix ix_list (pv 2) pe_int (fun _ _ => rfl)) pe_int (nomark _)) (pw_and1 (pt_cmpR op_gt (pe_callB call_len_seq (by rfl) T.b_len PySem.boot_len (pa_cons (pv 2) pa_nil)) pe_int (nomark _)))))
        (pss_one (ps_expr (pe_bm PySem.F.plainAttrs_list PySem.F.slot_list_pop PySem.F.type_list_pop mt_popAt (pv 2) (pa_cons pe_int pa_nil))))
        pss_nil)))
    (pss_cons (ps_if (PW.pt (pw_and (pt_cmpR op_gt (pe_callB call_len_seq (by rfl) T.b_len PySem.boot_len (pa_cons (pv 2) pa_nil)) pe_int (nomark _)) (pw_and1 (pt_cmpR op_gt (pe_ix ix_list (pv 2) pe_int (fun _ _ => rfl)) pe_int (nomark _)))))
      (pss_cons (ps_set (i := 4) sc_draw.nd rfl (Or.inl rfl) (pe_ix ix_list (pv 2) pe_int (fun _ _ => rfl)))
      (pss_cons (ps_asg (pe_op op_fdiv (pv 4) (pv 1)) (pg_sub (pv 2) pe_int set_list))
      (pss_one (ps_ret (pe_op op_mod (pe_callTy call_int1 (by rfl) T.b_int (by decide +kernel) (pa_cons (pv 4) pa_nil)) (pv 1))))))
      pss_nil)
    (pss_cons (ps_set (i := 5) sc_draw.nd rfl (Or.inl rfl) (pe_op op_mod (pe_callTy call_int1 (by rfl) T.b_int (by decide +kernel) (pa_cons (pe_op op_add (pe_op op_mul (pe_ix ix_list (pv 0) pe_int (fun _ _ => rfl)) pe_int) pe_int) pa_nil)) pe_int))
    (pss_cons (ps_asg (pv 5) (pg_sub (pv 0) pe_int set_list))
    (pss_one (ps_ret (pe_op op_mod (pe_callTy call_int1 (by rfl) T.b_int (by decide +kernel) (pa_cons (pe_op op_fdiv (pv 5) pe_int) pa_nil)) (pv 1))))))))), ?_⟩
    have hne := hst.ne
    obtain ⟨sd, kd, ns, h1, h2, hn⟩ := hst
    refine ⟨_, rfl, st, _, 0, _, rfl, rfl, SqL.of h1, rfl, ?_⟩
    refine ⟨_, rfl, c, _, rfl, .inl (SqL.of h2), _, rfl, by omega, by rw [List.length_map]; omega, ?_⟩
    rw [Int.toNat_natCast, List.length_map]
    refine for_range (lo := 0) (n := ns.length) (fun i σ H' => ∃ (v : Option V) (ms : List Int), σ = [some (.ref st), some (.int many), some (.ref c), v, none, none] ∧ H' st = some (.lst [.ref c, .int sd, .int kd]) ∧ H' c = some (.lst (ms.map V.int)) ∧ ms.length ≤ 63 ∧ (ns.length ≠ 0 → ms ≠ []) ∧ Keep2 st c H H')
      ⟨none, ns, rfl, h1, h2, hn, fun h z => h (by rw [z]; rfl), Keep2.refl H⟩ ?_ ?_
    · rintro i σ H' hi ⟨v, ms, rfl, g1, g2, gm, gne, gk⟩
      have hms := gne (by omega)
      obtain ⟨m0, mr, rfl⟩ : ∃ m0 mr, ms = m0 :: mr := by
        cases ms with
        | nil => exact absurd rfl hms
        | cons a b => exact ⟨a, b, rfl⟩
      refine ⟨_, rfl, c, _, 0, _, rfl, rfl, SqL.of g2, at0, rfl, _, rfl, ite2 (fun _ => ?_) (fun _ => ?_)⟩
      · refine ⟨_, rfl, c, _, rfl, .inl (SqL.of g2), _, _, rfl, rfl, _, rfl, ite2 (fun h4 => ?_) (fun _ => ?_)⟩
        · rw [decide_eq_true_eq, List.length_map, List.length_cons] at h4
          refine ⟨_, rfl, .inl ⟨rfl, _, SqL.of g2⟩, c, _, 0, 0, _, rfl, rfl, g2, by decide, by decide, ?_, rfl, ?_⟩
          · unfold seqIndex?; simp
          · refine ⟨_, mr, rfl, by rw [upd_ne hne]; exact g1, upd_same, by simp only [List.length_cons] at gm; omega, fun _ z => ?_, gk.put_c⟩
            rw [z] at h4; simp at h4
        · exact ⟨_, m0 :: mr, rfl, g1, g2, gm, fun _ => hms, gk⟩
      · exact iteF ⟨_, m0 :: mr, rfl, g1, g2, gm, fun _ => hms, gk⟩
    · rintro σ H' ⟨v, ms, rfl, g1, g2, gm, gne, gk⟩
      have last : ∀ (σ : List (Option V)), σ = [some (.ref st), some (.int many), some (.ref c), v, none, none] →
        (tSeq (tAsg (tOp (rI (fun _ j => 0 < j) fun i j => .int (i % j)) (tCB (fun xs H Q => (∃ i, xs = [.int i] ∧ Q (.int i) H) ∨ ∃ k, xs = [.bl k] ∧ Q (.int (if k then 1 else 0)) H) (tCons (tOp (rI0 fun i j => .int (i + j)) (tOp (rI CMul fun i j => .int (i * j)) (tOp (rIxL K) (tVar 0) (tC (.int 1))) (tC (.int 48271))) (tC (.int 12345))) tNil)) (tC (.int 2147483647))) (gName 5))
          (tSeq (tAsg (tVar 5) (gSub (tVar 0) (tC (.int 1)) rSetL)) (tRet (tOp (rI (fun _ j => 0 < j) fun i j => .int (i % j)) (tCB (fun xs H Q => (∃ i, xs = [.int i] ∧ Q (.int i) H) ∨ ∃ k, xs = [.bl k] ∧ Q (.int (if k then 1 else 0)) H) (tCons (tOp (rI CDiv fun i j => .int (i / j)) (tVar 5) (tC (.int 64))) tNil)) (tVar 1)))))
          { nx := fun _ H' => Q .non H', rt := Q } σ H' := by
        rintro _ rfl
        refine ⟨_, rfl, st, _, 1, _, rfl, rfl, SqL.of g1, rfl, _, _, rfl, rfl, .inr ⟨by decide, by decide⟩, _, _, rfl, rfl, .inl ⟨_, rfl, _, _, rfl, rfl, (by show (0 : Int) < 2147483647; decide), ?_⟩⟩
        refine ⟨_, rfl, _, rfl, st, _, 1, 1, rfl, rfl, g1, rfl, ?_⟩
        refine ⟨_, rfl, _, _, rfl, rfl, ⟨by decide, by decide⟩, .inl ⟨_, rfl, _, rfl, _, _, rfl, rfl, hm0, ?_⟩⟩
        exact kk _ _ (Int.emod_nonneg _ (by omega)) (Int.emod_lt_of_pos _ hm0) ⟨_, _, ms, upd_same, by rw [upd_ne hne.symm]; exact g2, gm⟩ gk.put_st
      refine ⟨_, rfl, c, _, rfl, .inl (SqL.of g2), _, _, rfl, rfl, _, rfl, ite2 (fun h4 => ?_) (fun _ => ?_)⟩
      · rw [decide_eq_true_eq, List.length_map] at h4
        obtain ⟨m0, mr, rfl⟩ : ∃ m0 mr, ms = m0 :: mr := by
          cases ms with
          | nil => simp at h4
          | cons a b => exact ⟨a, b, rfl⟩
        refine ⟨_, rfl, c, _, 0, _, rfl, rfl, SqL.of g2, at0, _, _, rfl, rfl, _, rfl, ite2 (fun h5 => ?_) (fun _ => ?_)⟩
        · refine ⟨_, rfl, c, _, 0, _, rfl, rfl, SqL.of g2, at0, ?_⟩
          refine ⟨_, rfl, _, rfl, _, _, rfl, rfl, ⟨hm0, hm1⟩, _, rfl, c, _, 0, 0, rfl, rfl, g2, ixN0 (by simp), ?_⟩
          refine ⟨_, rfl, .inl ⟨_, rfl, _, rfl, _, _, rfl, rfl, hm0, ?_⟩⟩
          exact kk _ _ (Int.emod_nonneg _ (by omega)) (Int.emod_lt_of_pos _ hm0) ⟨sd, kd, (m0 / many) :: mr, by rw [upd_ne hne]; exact g1, upd_same, gm⟩ gk.put_c
        · exact last _ rfl
      · exact iteF (last _ rfl)
end
end K1
set_option Elab.async false
set_option maxRecDepth 100000
set_option maxHeartbeats 4000000
namespace K1
open PySem L2 C8 SX
theorem atI_get? {α : Type} {xs : List α} {d : Int} (h0 : 0 ≤ d) (h1 : d < xs.length) : ∃ v, v ∈ xs ∧ atI xs d = some v := by
  obtain ⟨n, rfl⟩ := Int.eq_ofNat_of_zero_le h0
  have hn : n < xs.length := by omega
  exact ⟨xs[n], List.getElem_mem hn, atI_nat (List.getElem?_eq_getElem hn)⟩
theorem ix_pick {K : PySem.W.Frag} {H : Hp} {p : Addr} {xs : List V} {d : Int} {Q : VK} (h : SqL K H p xs) (h0 : 0 ≤ d) (h1 : d < xs.length) (k : ∀ v ∈ xs, Q v H) : rIxL K (.ref p) (.int d) H Q := by
  obtain ⟨v, hv, e⟩ := atI_get? h0 h1
  exact ⟨p, xs, d, v, rfl, rfl, h, e, k v hv⟩
theorem sx_pick {H : Hp} {x : Str} {f : Nat → Bool} {d : Int} {Q : VK} (hx : x.cps.toList.all f = true) (hl : x.length ≤ 4000) (h0 : 0 ≤ d) (h1 : d < x.cps.toList.length) (k : ∀ ch, f ch = true → Q (.str (S [ch])) H) : rIxS (.str x) (.int d) H Q := by
  obtain ⟨v, hv, e⟩ := atI_get? h0 h1
  exact ⟨x, d, v, rfl, rfl, sz hl, e, k v (List.all_eq_true.mp hx v hv)⟩
theorem Keep2.free {st c a : Addr} {H H' : Hp} (k : Keep2 st c H H') (s : StAt H' st c) (h : H' a = none) : H a = none := by
  obtain ⟨n1, n2⟩ := s.free h
  cases q : H a with
  | none => rfl
  | some o => rw [k a o q n1 n2] at h; cases h
theorem Keep2.new {st c p : Addr} {H0 H : Hp} {o : HO} (k : Keep2 st c H0 H) (h : H p = none) : Keep2 st c H0 (upd H p o) := k.trans (Keep2.of (Same.new h))
def spWord : Sp := fun vs H Q _ => ∃ (st c : Addr) (fst : List Nat), vs = [.ref st, .str (S fst)] ∧ fst.length ≤ 1 ∧ StAt H st c ∧
  ∀ w H', (∀ x ∈ w, isWord x = true) → w.length ≤ 19 → StAt H' st c → Keep2 st c H H' → Q (.str (S (fst ++ w))) H'
def spToken : Sp := fun vs H Q _ => ∃ (st c : Addr), vs = [.ref st] ∧ StAt H st c ∧
  ∀ k t a H', Good k t → StAt H' st c → Keep2 st c H H' → H a = none → H' a = some (.tup [.str (kStr k), .str (S t)]) → Q (.ref a) H'
def spApart : Sp := fun vs H Q _ => ∃ (a b : Addr) (k1 k2 : Kind) (t1 t2 : List Nat), vs = [.ref a, .ref b] ∧ H a = some (.tup [.str (kStr k1), .str (S t1)]) ∧ H b = some (.tup [.str (kStr k2), .str (S t2)]) ∧ t1.length ≤ 20 ∧
  ∀ H', Same H H' → Q (.bl (apart k1 t1 k2)) H'
theorem two : 2 ≤ sizeLine := by decide
theorem k_sign (k : Kind) : decide (V.str (kStr k) = V.str (Str.ofString "sign")) = decide (k = .sign) := by cases k <;> decide +kernel
theorem k_int (k : Kind) : decide (V.str (kStr k) = V.str (Str.ofString "int")) = decide (k = .int) := by cases k <;> decide +kernel
theorem k_nv (k : Kind) : inV (V.str (kStr k)) [.str (Str.ofString "name"), .str (Str.ofString "var")] = decide (k = .name ∨ k = .var) := by cases k <;> decide +kernel
theorem t_zero (t : List Nat) : decide (V.str (S t) = V.str (Str.ofString "0")) = decide (t = [48]) := by
  have e : Str.ofString "0" = S [48] := by decide +kernel
  rw [e]
  exact decide_eq_decide.mpr ⟨fun z => S_inj (V.str.inj z), fun z => by rw [z]⟩
theorem len_is (t : List Nat) (n : Nat) : decide (V.int ((S t).length : Nat) = V.int (n : Int)) = decide (t.length = n) := by
  rw [S_len]
  exact decide_eq_decide.mpr ⟨fun z => by have := V.int.inj z; omega, fun z => by rw [z]⟩
section
variable {P : Program} {w : World} {K : PySem.W.Frag} {mg : Str → Option Value} {base : Heap}
theorem ok_word (T : TxtL K mg) (c_draw : Cal P w K mg base 1 "_law_draw" spDraw []) : Cal P w K mg base 2 "_law_word" spWord [] := by
  obtain ⟨f, fd, F, df⟩ := T.word
  refine cal0 (ps := ["state", "first"]) F (F.fn.binds df fun _ _ _ _ _ _ us hl => match us, hl with | [_, _], _ => rfl) .nil sc_word (fun vs H Q E h => ?_) (fun cdv A outer s H vs Q E hr h => ?_)
  · obtain ⟨st, c, fst, rfl, _⟩ := h; rfl
  · obtain ⟨st, c, fst, rfl, hf, hst, kk⟩ := h
    refine ⟨_, (pss_cons (ps_set (i := 2) sc_word.nd rfl (Or.inl rfl) pe_str)
    (pss_cons (ps_set (i := 3) sc_word.nd rfl (Or.inl rfl) (pv 1))
    (pss_cons (ps_for PassesOwn.never rfl (pi_range1 rfl T.b_range (pa_cons (pe_ix ix_list (pe_lst (pa_cons (pe_c c_draw hr (by decide) rfl (pa_cons (pv 0) (pa_cons pe_int pa_nil))) (pa_cons (pe_c c_draw hr (by decide) rfl (pa_cons (pv 0) (pa_cons pe_int pa_nil))) pa_nil))) (pe_c c_draw hr (by decide) rfl (pa_cons (pv 0) (pa_cons pe_int pa_nil))) (fun _ _ => rfl)) pa_nil)) (pg_name (i := 4) sc_word.nd rfl (Or.inl rfl))
      (pss_one (ps_set (i := 3) sc_word.nd rfl (Or.inl rfl) (pe_op op_add_str (pv 3) (pe_ix ix_str (pv 2) (pe_c c_draw hr (by decide) rfl (pa_cons (pv 0) (pa_cons pe_int pa_nil))) (fun _ _ => rfl))))))
    (pss_one (ps_ret (pv 3)))))), ?_⟩
    refine ⟨_, rfl, ?_⟩
    refine ⟨_, rfl, st, c, 4, rfl, by decide, by decide, hst, fun d1 H1 a1 b1 s1 k1 => ?_⟩
    refine ⟨_, rfl, st, c, 20, rfl, by decide, by decide, s1, fun d2 H2 a2 b2 s2 k2 => ?_⟩
    refine ⟨two, fun p hp => ?_⟩
    obtain ⟨n1, n2⟩ := s2.free hp
    refine ⟨_, rfl, st, c, 2, rfl, by decide, by decide, s2.put n1 n2, fun d3 H3 a3 b3 s3 k3 => ?_⟩
    refine ix_pick (SqL.of (k3 p _ upd_same n1 n2)) a3 b3 fun v hv => ?_
    obtain ⟨m, rfl, m0, m1⟩ : ∃ m : Int, v = .int m ∧ 0 ≤ m ∧ m < 20 := by
      simp only [List.mem_cons, List.not_mem_nil, or_false] at hv
      rcases hv with rfl | rfl
      · exact ⟨_, rfl, a1, by omega⟩
      · exact ⟨_, rfl, a2, b2⟩
    have k13 : Keep2 st c H H3 := ((k1.trans k2).new hp).trans k3
    refine ⟨_, rfl, by omega, by omega, ?_⟩
    refine for_range (lo := 0) (n := m.toNat) (fun i σ H' => ∃ (L : Str) (w : List Nat) (v : Option V), σ = [some (.ref st), some (.str (S fst)), some (.str L), some (.str (S (fst ++ w))), v] ∧ (L.cps.toList.all isWord && decide (L.cps.toList.length = 63)) = true ∧
        w.length = i ∧ (∀ x ∈ w, isWord x = true) ∧ StAt H' st c ∧ Keep2 st c H H') ⟨_, [], none, by rw [List.append_nil]; rfl, by decide +kernel, rfl, by simp, s3, k13⟩ ?_ ?_
    · rintro i σ H' hi ⟨L, w, v, rfl, hL, hw, hall, s4, k4⟩
      rw [Bool.and_eq_true, decide_eq_true_eq] at hL
      refine ⟨_, rfl, _, rfl, ?_⟩
      refine ⟨_, rfl, st, c, 63, rfl, by decide, by decide, s4, fun d5 H5 a5 b5 s5 k5 => ?_⟩
      refine sx_pick hL.1 (by rw [TL.len_tl]; show L.cps.toList.length ≤ 4000; omega) a5 (by rw [hL.2]; exact b5) fun ch hch => ?_
      refine ⟨_, _, rfl, rfl, ?_, ?_⟩
      · rw [S_len, S_len, List.length_append, List.length_singleton]; exact sz (by omega)
      · refine ⟨L, w ++ [ch], some (.int (0 + (i : Nat))), ?_, by rw [hL.1, hL.2]; rfl, by rw [List.length_append, List.length_singleton, hw], fun x hx => ?_, s5, k4.trans k5⟩
        · rw [S_cat, List.append_assoc]; rfl
        · rcases List.mem_append.mp hx with h | h
          · exact hall x h
          · rw [List.mem_singleton.mp h]; exact hch
    · rintro σ H' ⟨L, w, v, rfl, hL, hw, hall, s4, k4⟩
      exact ⟨_, rfl, kk w H' hall (by omega) s4 k4⟩
theorem ok_token (T : TxtL K mg) (c_draw : Cal P w K mg base 1 "_law_draw" spDraw []) (c_word : Cal P w K mg base 2 "_law_word" spWord []) : Cal P w K mg base 3 "_law_token" spToken [] := by
  obtain ⟨f, fd, F, df⟩ := T.token
  refine cal0 (ps := ["state"]) F (F.fn.binds df fun _ _ _ _ _ _ us hl => match us, hl with | [_], _ => rfl) .nil sc_token (fun vs H Q E h => ?_) (fun cdv A outer s H vs Q E hr h => ?_)
  · obtain ⟨st, c, rfl, _⟩ := h; rfl
  · obtain ⟨st, c, rfl, hst, kk⟩ := h
    refine ⟨_, (pss_cons (ps_set (i := 1) sc_token.nd rfl (Or.inl rfl) (pe_c c_draw hr (by decide) rfl (pa_cons (pv 0) (pa_cons pe_int pa_nil))))
    (pss_cons (ps_if (pt_cmpR op_lt (pv 1) pe_int (nomark _))
      (pss_one (ps_ret (pe_tup (pa_cons pe_str (pa_cons (pe_c c_word hr (by decide) rfl (pa_cons (pv 0) (pa_cons (pe_ix ix_str pe_str (pe_c c_draw hr (by decide) rfl (pa_cons (pv 0) (pa_cons pe_int pa_nil))) (fun _ _ => rfl)) pa_nil))) pa_nil)))))
      pss_nil)
    (pss_cons (ps_if (pt_cmpR op_eq (pv 1) pe_int (nomark _))
      (pss_one (ps_ret (pe_tup (pa_cons pe_str (pa_cons (pe_ix ix_list (pe_lst (pa_cons pe_str (pa_cons pe_str (pa_cons pe_str (pa_cons pe_str pa_nil))))) (pe_c c_draw hr (by decide) rfl (pa_cons (pv 0) (pa_cons pe_int pa_nil))) (fun _ _ => rfl)) pa_nil)))))
      pss_nil)
    (pss_cons (ps_if (pt_cmpR op_eq (pv 1) pe_int (nomark _))
      (pss_one (ps_ret (pe_tup (pa_cons pe_str (pa_cons (pe_c c_word hr (by decide) rfl (pa_cons (pv 0) (pa_cons (pe_ix ix_str pe_str (pe_c c_draw hr (by decide) rfl (pa_cons (pv 0) (pa_cons pe_int pa_nil))) (fun _ _ => rfl)) pa_nil))) pa_nil)))))
      pss_nil)
    (pss_cons (ps_if (pt_cmpR op_eq (pv 1) pe_int (nomark _))
      (pss_one (ps_ret (pe_tup (pa_cons pe_str (pa_cons (pe_callTy call_str_int (by rfl) T.b_str (by decide +kernel) (pa_cons (pe_c c_draw hr (by decide) rfl (pa_cons (pv 0) (pa_cons (pe_ix ix_list (pe_lst (pa_cons pe_int (pa_cons pe_int pa_nil))) (pe_c c_draw hr (by decide) rfl (pa_cons (pv 0) (pa_cons pe_int pa_nil))) (fun _ _ => rfl)) pa_nil))) pa_nil)) pa_nil)))))
      pss_nil)
    (pss_cons (ps_set (i := 2) sc_token.nd rfl (Or.inl rfl) (pe_lst (pa_cons pe_str (pa_cons pe_str (pa_cons pe_str (pa_cons pe_str (pa_cons pe_str (pa_cons pe_str (pa_cons pe_str (pa_cons pe_str (pa_cons pe_str (pa_cons pe_str (pa_cons pe_str (pa_cons pe_str (pa_cons pe_str (pa_cons pe_str (pa_cons pe_str (pa_cons pe_str (pa_cons pe_str (pa_cons pe_str pa_nil))))))))))))))))))))
    (pss_one (ps_ret (pe_tup (pa_cons pe_str (pa_cons (pe_ix ix_list (pv 2) (pe_c c_draw hr (by decide) rfl (pa_cons (pv 0) (pa_cons pe_int pa_nil))) (fun _ _ => rfl)) pa_nil))))))))))), ?_⟩
    refine ⟨_, rfl, st, c, 8, rfl, by decide, by decide, hst, fun d1 H1 a1 b1 s1 k1 => ?_⟩
    refine ⟨_, rfl, _, _, rfl, rfl, _, rfl, ite2 (fun _ => ?_) (fun _ => ?_)⟩
    · refine ⟨_, rfl, ?_⟩
      refine ⟨_, rfl, st, c, 26, rfl, by decide, by decide, s1, fun d2 H2 a2 b2 s2 k2 => ?_⟩
      refine sx_pick (f := isLower) (by decide +kernel) (by decide +kernel) a2 (Int.lt_of_lt_of_le b2 (by decide +kernel)) fun ch hch => ?_
      refine ⟨st, c, [ch], rfl, Nat.le_refl _, s2, fun w H3 hw hl s3 k3 => ?_⟩
      refine ⟨two, fun a ha => ?_⟩
      have k03 := (k1.trans k2).trans k3
      obtain ⟨n1, n2⟩ := s3.free ha
      exact kk .name (ch :: w) a _ (.name hch hw hl) (s3.put n1 n2) (k03.new ha) (k03.free s3 ha) upd_same
    refine ⟨_, rfl, rfl, _, rfl, ite2 (fun _ => ?_) (fun _ => ?_)⟩
    · refine ⟨(by show 4 ≤ sizeLine; decide), fun p hp => ?_⟩
      obtain ⟨n1, n2⟩ := s1.free hp
      refine ⟨_, rfl, st, c, 4, rfl, by decide, by decide, s1.put n1 n2, fun d2 H2 a2 b2 s2 k2 => ?_⟩
      refine ix_pick (SqL.of (k2 p _ upd_same n1 n2)) a2 b2 fun v hv => ?_
      obtain ⟨ch, w, rfl, g1, g2, g3⟩ : ∃ ch w, v = .str (S (ch :: w)) ∧ isLower ch = true ∧ (∀ x ∈ w, isWord x = true) ∧ w.length ≤ 19 := by
        simp only [List.mem_cons, List.not_mem_nil, or_false] at hv
        rcases hv with rfl | rfl | rfl | rfl
        · exact ⟨110, [111, 116], by decide +kernel, by decide, by decide, by decide⟩
        · exact ⟨115, [117, 109], by decide +kernel, by decide, by decide, by decide⟩
        · exact ⟨109, [105, 110, 105, 109, 105, 122, 101], by decide +kernel, by decide, by decide, by decide⟩
        · exact ⟨114, [97, 110, 103, 101], by decide +kernel, by decide, by decide, by decide⟩
      refine ⟨two, fun a ha => ?_⟩
      have k02 := (k1.new hp).trans k2
      obtain ⟨m1, m2⟩ := s2.free ha
      exact kk .name (ch :: w) a _ (.name g1 g2 g3) (s2.put m1 m2) (k02.new ha) (k02.free s2 ha) upd_same
    refine ⟨_, rfl, rfl, _, rfl, ite2 (fun _ => ?_) (fun _ => ?_)⟩
    · refine ⟨_, rfl, ?_⟩
      refine ⟨_, rfl, st, c, 26, rfl, by decide, by decide, s1, fun d2 H2 a2 b2 s2 k2 => ?_⟩
      refine sx_pick (f := isUpper) (by decide +kernel) (by decide +kernel) a2 (Int.lt_of_lt_of_le b2 (by decide +kernel)) fun ch hch => ?_
      refine ⟨st, c, [ch], rfl, Nat.le_refl _, s2, fun w H3 hw hl s3 k3 => ?_⟩
      refine ⟨two, fun a ha => ?_⟩
      have k03 := (k1.trans k2).trans k3
      obtain ⟨n1, n2⟩ := s3.free ha
      exact kk .var (ch :: w) a _ (.var hch hw hl) (s3.put n1 n2) (k03.new ha) (k03.free s3 ha) upd_same
    refine ⟨_, rfl, rfl, _, rfl, ite2 (fun _ => ?_) (fun _ => ?_)⟩
    · refine ⟨_, rfl, two, fun p hp => ?_⟩
      obtain ⟨n1, n2⟩ := s1.free hp
      refine ⟨_, rfl, st, c, 2, rfl, by decide, by decide, s1.put n1 n2, fun d2 H2 a2 b2 s2 k2 => ?_⟩
      refine ix_pick (SqL.of (k2 p _ upd_same n1 n2)) a2 b2 fun v hv => ?_
      obtain ⟨m, rfl, m0, m1⟩ : ∃ m : Int, v = .int m ∧ 0 < m ∧ m ≤ 10000 := by
        simp only [List.mem_cons, List.not_mem_nil, or_false] at hv
        rcases hv with rfl | rfl
        · exact ⟨_, rfl, by decide, by decide⟩
        · exact ⟨_, rfl, by decide, by decide⟩
      refine ⟨st, c, m, rfl, m0, by omega, s2, fun d3 H3 a3 b3 s3 k3 => ?_⟩
      obtain ⟨n, rfl⟩ := Int.eq_ofNat_of_zero_le a3
      refine ⟨_, rfl, ?_, ?_⟩
      · rw [Int.natAbs_natCast]
        by_cases n0 : n = 0
        · subst n0; decide +kernel
        · exact (Nat.log2_lt n0).mpr (Nat.lt_of_lt_of_le (by omega : n < 10000) (by decide +kernel))
      rw [num_S]
      refine ⟨two, fun a ha => ?_⟩
      have k03 := ((k1.new hp).trans k2).trans k3
      obtain ⟨m1, m2⟩ := s3.free ha
      exact kk .int _ a _ (Good.num (by omega)) (s3.put m1 m2) (k03.new ha) (k03.free s3 ha) upd_same
    refine ⟨(by show 18 ≤ sizeLine; decide), fun p hp => ?_⟩
    obtain ⟨n1, n2⟩ := s1.free hp
    refine ⟨_, rfl, _, rfl, st, c, 18, rfl, by decide, by decide, s1.put n1 n2, fun d2 H2 a2 b2 s2 k2 => ?_⟩
    refine ix_pick (SqL.of (k2 p _ upd_same n1 n2)) a2 b2 fun v hv => ?_
    obtain ⟨t, rfl, ht⟩ : ∃ t, v = .str (S t) ∧ t ∈ sigs := by
      have e : ([.str (Str.ofString ":-"), .str (Str.ofString "!="), .str (Str.ofString "<="), .str (Str.ofString ">="), .str (Str.ofString "="), .str (Str.ofString "<"), .str (Str.ofString ">"), .str (Str.ofString "("), .str (Str.ofString ")"), .str (Str.ofString "{"), .str (Str.ofString "}"), .str (Str.ofString ","), .str (Str.ofString ";"), .str (Str.ofString ":"), .str (Str.ofString "."), .str (Str.ofString "+"), .str (Str.ofString "-"), .str (Str.ofString "*")] : List V) = sigs.map fun g => V.str (S g) := by decide +kernel
      rw [e] at hv
      obtain ⟨t, h1, h2⟩ := List.mem_map.mp hv
      exact ⟨t, h2.symm, h1⟩
    refine ⟨two, fun a ha => ?_⟩
    have k02 := (k1.new hp).trans k2
    obtain ⟨m1, m2⟩ := s2.free ha
    exact kk .sign t a _ (.sign ht) (s2.put m1 m2) (k02.new ha) (k02.free s2 ha) upd_same
theorem ok_apart (T : TxtL K mg) : Cal P w K mg base 1 "_law_apart" spApart [] := by
  obtain ⟨f, fd, F, df⟩ := T.apart
  refine cal0 (ps := ["left", "right"]) F (F.fn.binds df fun _ _ _ _ _ _ us hl => match us, hl with | [_, _], _ => rfl) .nil sc_apart (fun vs H Q E h => ?_) (fun cdv A outer s H vs Q E hr h => ?_)
  · obtain ⟨a, b, k1, k2, t1, t2, rfl, _⟩ := h; rfl
  · obtain ⟨a, b, k1, k2, t1, t2, rfl, ha, hb, hl, kk⟩ := h
    refine ⟨_, (pss_cut (ps_if (PW.pt (pw_and (pt_cmpR op_eq (pe_ix ix_tup (pv 0) pe_int (fun _ _ => rfl)) pe_str (nomark _)) (pw_and1 (pt_cmpR op_eq (pe_ix ix_tup (pv 1) pe_int (fun _ _ => rfl)) pe_str (nomark _)))))
      (pss_one (ps_ret pe_bl))
      pss_nil)
    (pss_cut (ps_if (PW.pt (pw_and (pt_cmpR op_eq (pe_ix ix_tup (pv 0) pe_int (fun _ _ => rfl)) pe_str (nomark _)) (pw_and1 (pt_cmpR op_eq (pe_ix ix_tup (pv 1) pe_int (fun _ _ => rfl)) pe_str (nomark _)))))
      (pss_one (ps_ret (pe_or (pe_cmpR op_eq (pe_ix ix_tup (pv 0) pe_int (fun _ _ => rfl)) pe_str (nomark _)) (pe_one (pe_cmpR op_eq (pe_callB call_len_str (by rfl) T.b_len PySem.boot_len (pa_cons (pe_ix ix_tup (pv 0) pe_int (fun _ _ => rfl)) pa_nil)) pe_int (nomark _))))))
      pss_nil)
    (pss_cut (ps_if (PW.pt (pw_and (pt_cmpR op_in_seq (pe_ix ix_tup (pv 0) pe_int (fun _ _ => rfl)) (pe_tup (pa_cons pe_str (pa_cons pe_str pa_nil))) rfl) (pw_and1 (pt_cmpR op_ne (pe_ix ix_tup (pv 1) pe_int (fun _ _ => rfl)) pe_str (nomark _)))))
      (pss_one (ps_ret (pe_cmpR op_eq (pe_callB call_len_str (by rfl) T.b_len PySem.boot_len (pa_cons (pe_ix ix_tup (pv 0) pe_int (fun _ _ => rfl)) pa_nil)) pe_int (nomark _))))
      pss_nil)
    (pss_one (ps_ret pe_bl))))), ?_⟩
    have a0 : ∀ {x y : V}, atI [x, y] 0 = some x := fun {x y} => at0
    have a1 : ∀ {x y : V}, atI [x, y] 1 = some y := fun {x y} => atI_nat (j := 1) rfl
    have hsl : (S t1).length ≤ sizeLine := by rw [S_len]; exact sz (by omega)
    have kH := kk H (Same.refl H)
    refine ⟨fun σ' H' => σ' = [some (.ref a), some (.ref b)] ∧ H' = H ∧ ¬ (k1 = .sign ∧ k2 = .sign), ?_, ?_⟩
    · refine ⟨_, rfl, a, _, 0, _, rfl, rfl, SqT.of ha, a0, rfl, _, rfl, ?_⟩
      rw [k_sign]
      refine ite2 (fun h1 => ?_) (fun h1 => ?_)
      · refine ⟨_, rfl, b, _, 0, _, rfl, rfl, SqT.of hb, a0, rfl, _, rfl, ?_⟩
        rw [k_sign]
        rw [decide_eq_true_eq] at h1
        refine ite2 (fun h2 => ?_) (fun h2 => ?_)
        · rw [decide_eq_true_eq] at h2
          rw [show apart k1 t1 k2 = false by unfold apart; rw [if_pos ⟨h1, h2⟩]] at kH
          exact kH
        · rw [decide_eq_true_eq] at h2
          exact ⟨rfl, rfl, fun z => h2 z.2⟩
      · rw [decide_eq_true_eq] at h1
        exact iteF ⟨rfl, rfl, fun z => h1 z.1⟩
    rintro σ' H' ⟨rfl, rfl, n1⟩
    refine ⟨fun σ' H'' => σ' = [some (.ref a), some (.ref b)] ∧ H'' = H' ∧ ¬ (k1 = .int ∧ k2 = .int), ?_, ?_⟩
    · refine ⟨_, rfl, a, _, 0, _, rfl, rfl, SqT.of ha, a0, rfl, _, rfl, ?_⟩
      rw [k_int]
      refine ite2 (fun h1 => ?_) (fun h1 => ?_)
      · refine ⟨_, rfl, b, _, 0, _, rfl, rfl, SqT.of hb, a0, rfl, _, rfl, ?_⟩
        rw [k_int]
        rw [decide_eq_true_eq] at h1
        refine ite2 (fun h2 => ?_) (fun h2 => ?_)
        · rw [decide_eq_true_eq] at h2
          rw [show apart k1 t1 k2 = (decide (t1 = [48]) || decide (t1.length = 4)) by unfold apart; rw [if_neg n1, if_pos ⟨h1, h2⟩]] at kH
          refine ⟨_, rfl, a, _, 1, _, rfl, rfl, SqT.of ha, a1, rfl, _, rfl, ?_⟩
          rw [t_zero]
          refine ite2 (fun h3 => ?_) (fun h3 => ?_)
          · rw [h3, Bool.true_or] at kH; exact kH
          · refine ⟨_, rfl, a, _, 1, _, rfl, rfl, SqT.of ha, a1, _, rfl, hsl, rfl, ?_⟩
            rw [Bool.not_eq_true] at h3
            rw [h3, Bool.false_or] at kH
            rw [show decide (V.int ((S t1).length : Nat) = V.int 4) = decide (t1.length = 4) from len_is t1 4]
            exact kH
        · rw [decide_eq_true_eq] at h2
          exact ⟨rfl, rfl, fun z => h2 z.2⟩
      · rw [decide_eq_true_eq] at h1
        exact iteF ⟨rfl, rfl, fun z => h1 z.1⟩
    rintro σ' H' ⟨rfl, rfl, n2⟩
    refine ⟨fun σ' H'' => Same H' H'' ∧ ¬ ((k1 = .name ∨ k1 = .var) ∧ k2 ≠ .sign), ?_, ?_⟩
    · refine ⟨_, rfl, a, _, 0, _, rfl, rfl, SqT.of ha, a0, two, fun q hq => ?_⟩
      refine ⟨q, _, rfl, .inr (SqT.of upd_same), rfl, rfl, _, rfl, ?_⟩
      have hq' := Same.new (o := .tup [V.str (Str.ofString "name"), V.str (Str.ofString "var")]) hq
      rw [show (if false = true then !inV (V.str (kStr k1)) [.str (Str.ofString "name"), .str (Str.ofString "var")] else inV (V.str (kStr k1)) [.str (Str.ofString "name"), .str (Str.ofString "var")]) = decide (k1 = .name ∨ k1 = .var) from k_nv k1]
      refine ite2 (fun h1 => ?_) (fun h1 => ?_)
      · rw [decide_eq_true_eq] at h1
        refine ⟨_, rfl, b, _, 0, _, rfl, rfl, SqT.of (hq' _ _ hb), a0, rfl, _, rfl, ?_⟩
        rw [k_sign]
        refine ite2 (fun h2 => ?_) (fun h2 => ?_)
        · have h2' : k2 ≠ .sign := by simpa using h2
          have kH' := kk _ hq'
          rw [show apart k1 t1 k2 = decide (t1.length = 20) by unfold apart; rw [if_neg n1, if_neg n2, if_pos ⟨h1, h2'⟩]] at kH'
          refine ⟨_, rfl, a, _, 1, _, rfl, rfl, SqT.of (hq' _ _ ha), a1, _, rfl, hsl, rfl, ?_⟩
          rw [show decide (V.int ((S t1).length : Nat) = V.int 20) = decide (t1.length = 20) from len_is t1 20]
          exact kH'
        · have h2' : k2 = .sign := by simpa using h2
          exact ⟨hq', fun z => z.2 h2'⟩
      · rw [decide_eq_true_eq] at h1
        exact iteF ⟨hq', fun z => h1 z.1⟩
    rintro σ' H'' ⟨hs, n3⟩
    have kH' := kk _ hs
    rw [show apart k1 t1 k2 = true by unfold apart; rw [if_neg n1, if_neg n2, if_neg n3]] at kH'
    exact kH'
end
end K1
set_option Elab.async false
set_option maxRecDepth 100000
set_option maxHeartbeats 4000000
namespace K1
open PySem L2 C8 SX
def tokD (t : Tk) : PyData := .tuple [.str (kStr t.1), .str (S t.2.1), .int (t.2.2 : Nat)]
def Low (ts : List Tk) : Prop := ∀ tk ∈ ts, ∀ x ∈ tk.2.1, x < 128
theorem toks_dp {K : PySem.W.Frag} {H : Hp} : ∀ {xs : List V} {ts : List Tk}, ToksAt H xs ts → DpAll K H xs (ts.map tokD)
  | _, _, .nil => .nil
  | _, _, .cons ⟨a, e, h⟩ r => by
    subst e
    exact .cons (.tup (SqT.of h) (.cons (.str _) (.cons (.str _) (.cons (.int _) .nil)))) (toks_dp r)
theorem strOk_S {l : List Nat} (h : ∀ x ∈ l, x < 128) : PyData.strOk (S l) = true := by
  unfold PyData.strOk
  show l.toArray.all (· < 0x110000) = true
  rw [List.all_toArray, List.all_eq_true]
  intro x hx
  have := h x hx
  simp only [decide_eq_true_eq]; omega
theorem strOk_k (k : Kind) : PyData.strOk (kStr k) = true := by cases k <;> decide +kernel
theorem lay_toks : ∀ {ts : List Tk}, Low ts → PyData.canLayAll0 (ts.map tokD) = true
  | [], _ => rfl
  | t :: ts, h => by
    have h1 := lay_toks (ts := ts) fun tk hk => h tk (List.mem_cons_of_mem _ hk)
    have h2 := strOk_S (h t List.mem_cons_self)
    have h3 := strOk_k t.1
    show (PyData.canLay0 (tokD t) && PyData.canLayAll0 (ts.map tokD)) = true
    rw [h1, Bool.and_true]
    show (PyData.strOk (kStr t.1) && (PyData.strOk (S t.2.1) && (true && true))) = true
    rw [h2, h3]; rfl
theorem depth_toks : ∀ (ts : List Tk), PyData.depthAll (ts.map tokD) ≤ 1
  | [] => Nat.zero_le _
  | t :: ts => by
    have h1 := depth_toks ts
    show max (PyData.depth (tokD t)) (PyData.depthAll (ts.map tokD)) ≤ 1
    exact Nat.max_le.mpr ⟨Nat.le_refl 1, h1⟩
theorem shaped_toks {ts : List Tk} (h : Low ts) : SeqAt.shaped (.list (ts.map tokD)) = true := by
  unfold SeqAt.shaped
  have h1 : PyData.canLay0 (.list (ts.map tokD)) = true := lay_toks h
  have h2 : PyData.depth (.list (ts.map tokD)) ≤ 64 := by
    show PyData.depthAll (ts.map tokD) + 1 ≤ 64
    have := depth_toks ts; omega
  rw [h1, decide_eq_true h2]; rfl
theorem Good.low {k : Kind} {t : List Nat} (g : Good k t) : ∀ x ∈ t, x < 128 := by
  have hw : ∀ x, isWord x = true → x < 128 := fun x h => by rw [isWord_iff] at h; omega
  have hd : ∀ x, isDigit x = true → x < 128 := fun x h => by rw [isDigit_iff] at h; omega
  cases g with
  | name h1 h2 _ =>
    intro x hx
    rcases List.mem_cons.mp hx with rfl | h
    · rw [isLower_iff] at h1; omega
    · exact hw x (h2 x h)
  | var h1 h2 _ =>
    intro x hx
    rcases List.mem_cons.mp hx with rfl | h
    · rw [isUpper_iff] at h1; omega
    · exact hw x (h2 x h)
  | zero => intro x hx; simp at hx; omega
  | int h1 _ h2 _ =>
    intro x hx
    rcases List.mem_cons.mp hx with rfl | h
    · exact hd _ h1
    · exact hd x (h2 x h)
  | sign h =>
    have : ∀ t ∈ sigs, ∀ x ∈ t, x < 128 := by decide
    exact this _ h
def isWs (c : Nat) : Bool := decide (c = 32) || decide (c = 10)
theorem isWs_iff {c : Nat} : isWs c = true ↔ c = 32 ∨ c = 10 := by simp [isWs]
theorem tail_cut {z : Str} (hz : (z.cps.toList.all isWs && decide (z.cps.toList.length ≤ 3)) = true) (lo hi : Option Int) : ∃ g : List Nat, cutS z lo hi = S g ∧ (∀ c ∈ g, c = 32 ∨ c = 10) ∧ g.length ≤ 3 := by
  rw [Bool.and_eq_true, decide_eq_true_eq] at hz
  refine ⟨_, rfl, fun c hc => ?_, ?_⟩
  · exact isWs_iff.mp (List.all_eq_true.mp hz.1 c (List.mem_of_mem_drop (List.mem_of_mem_take hc)))
  · rw [List.length_take, List.length_drop]; omega
def spLaw (K : PySem.W.Frag) : Sp := fun vs H Q _ => ∃ (a : Addr) (ns : List Int), vs = [.ref a] ∧ SqL K H a (ns.map V.int) ∧ ns.length ≤ 63 ∧ ∀ H', Q (.bl true) H'
section
variable {P : Program} {w : World} {K : PySem.W.Frag} {mg : Str → Option Value} {base : Heap} {fd : FuncData} {f : Addr}
theorem ok_law (F : Def K mg "law" s_law f fd) (T : TxtL K mg) (c_state : Cal P w K mg base 1 "_law_state" (spState K) []) (c_draw : Cal P w K mg base 1 "_law_draw" spDraw []) (c_token : Cal P w K mg base 3 "_law_token" spToken [])
    (c_apart : Cal P w K mg base 1 "_law_apart" spApart []) (c_tokens : Cal P w K mg base 5 "tokens" spTokens []) : FnOk P w K mg base C8.CX0 6 f fd ["script"] (spLaw K) := by
  refine fn0 F.fn sc_law (fun vs H Q E h => ?_) (fun cdv A outer s H vs Q E hr h => ?_)
  · obtain ⟨a, ns, rfl, _⟩ := h; rfl
  · obtain ⟨a, ns, rfl, hS, hn, kk⟩ := h
    have hu64 := Room.units hr
    refine ⟨_, (pss_cons (ps_set (i := 1) sc_law.nd rfl (Or.inl rfl) (pe_c c_state hr (by decide) rfl (pa_cons (pv 0) pa_nil)))
    (pss_cons (ps_set (i := 2) sc_law.nd rfl (Or.inl rfl) pe_str)
    (pss_cons (ps_set (i := 3) sc_law.nd rfl (Or.inl rfl) (pe_lst pa_nil))
    (pss_cons (ps_set (i := 4) sc_law.nd rfl (Or.inl rfl) (pe_tup (pa_cons pe_str (pa_cons pe_str pa_nil))))
    (pss_cons (ps_for PassesOwn.never rfl (pi_range1 rfl T.b_range (pa_cons (pe_c c_draw hr (by decide) rfl (pa_cons (pv 1) (pa_cons pe_int pa_nil))) pa_nil)) (pg_name (i := 5) sc_law.nd rfl (Or.inl rfl))
      (pss_cons (ps_set (i := 6) sc_law.nd rfl (Or.inl rfl) (pe_c c_token hr (by decide) rfl (pa_cons (pv 1) pa_nil)))
      (pss_cons (ps_set (i := 7) sc_law.nd rfl (Or.inl rfl) (pe_c c_draw hr (by decide) rfl (pa_cons (pv 1) (pa_cons pe_int pa_nil))))
      (pss_cut (ps_if (PW.pt (pw_and (pt_cmpR op_gt (pv 5) pe_int (nomark _)) (pw_and (pt_cmpR op_eq (pv 7) pe_int (nomark _)) (pw_and1 (pt_not (pt_val (pe_c c_apart hr (by decide) rfl (pa_cons (pv 4) (pa_cons (pv 6) pa_nil)))))))))
        (pss_one (ps_set (i := 7) sc_law.nd rfl (Or.inl rfl) pe_int))
        pss_nil)
      (pss_cons (ps_for PassesOwn.never rfl (pi_range1 rfl T.b_range (pa_cons (pv 7) pa_nil)) (pg_name (i := 8) sc_law.nd rfl (Or.inl rfl))
        (pss_one (ps_set (i := 2) sc_law.nd rfl (Or.inl rfl) (pe_op op_add_str (pv 2) (pe_ix ix_str pe_str (pe_c c_draw hr (by decide) rfl (pa_cons (pv 1) (pa_cons pe_int pa_nil))) (fun _ _ => rfl))))))
      (pss_cons (ps_expr (pe_bm PySem.F.plainAttrs_list PySem.F.slot_list_append PySem.F.type_list_append mt_append (pv 3) (pa_cons (pe_tup (pa_cons (pe_ix ix_tup (pv 6) pe_int (fun _ _ => rfl)) (pa_cons (pe_ix ix_tup (pv 6) pe_int (fun _ _ => rfl)) (pa_cons (pe_callB call_len_str (by rfl) T.b_len PySem.boot_len (pa_cons (pv 2) pa_nil)) pa_nil)))) pa_nil)))
      (pss_cons (ps_set (i := 2) sc_law.nd rfl (Or.inl rfl) (pe_op op_add_str (pv 2) (pe_ix ix_tup (pv 6) pe_int (fun _ _ => rfl))))
      (pss_one (ps_set (i := 4) sc_law.nd rfl (Or.inl rfl) (pv 6))))))))))
    (pss_cons (ps_set (i := 2) sc_law.nd rfl (Or.inl rfl) (pe_op op_add_str (pv 2) (pe_slice sl_str pe_str po_none (po_some (pe_c c_draw hr (by decide) rfl (pa_cons (pv 1) (pa_cons pe_int pa_nil)))))))
    (pss_cons (ps_expr (pe_bm PySem.F.plainAttrs_list PySem.F.slot_list_append PySem.F.type_list_append mt_append (pv 3) (pa_cons (pe_tup (pa_cons pe_str (pa_cons pe_str (pa_cons (pe_callB call_len_str (by rfl) T.b_len PySem.boot_len (pa_cons (pv 2) pa_nil)) pa_nil)))) pa_nil)))
    (pss_cons (ps_set (i := 9) sc_law.nd rfl (Or.inl rfl) (pe_c c_tokens hr (by decide) rfl (pa_cons (pv 2) pa_nil)))
    (pss_cons (ps_if (PW.pt (pw_or (pt_not (pt_val (pe_callB call_isi (by rfl) T.b_isinstance (by decide +kernel) (pa_cons (pv 9) (pa_cons (pe_bltn (v := .ty "list") (by rfl) T.b_list (by decide +kernel) rfl) pa_nil))))) (pw_or1 (pt_cmpR (op_neD hu64) (pv 9) (pv 3) (nomark _)))))
      (pss_one (ps_ret pe_bl))
      pss_nil)
    (pss_one (ps_ret (pe_cmpR (op_eqD hu64) (pe_c c_tokens hr (by decide) rfl (pa_cons (pv 2) pa_nil)) (pv 3) (nomark _))))))))))))), ?_⟩
    have a0 : ∀ {x y : V}, atI [x, y] 0 = some x := fun {x y} => at0
    have a1 : ∀ {x y : V}, atI [x, y] 1 = some y := fun {x y} => atI_nat (j := 1) rfl
    refine ⟨_, rfl, a, ns, rfl, hS, hn, fun st c H1 sm nst nc sA => ?_⟩
    refine ⟨Nat.zero_le _, fun du hdu => ?_⟩
    obtain ⟨d1, d2⟩ := sA.free hdu
    refine ⟨two, fun bf hbf => ?_⟩
    have sB := sA.put (o := .lst []) d1 d2
    obtain ⟨e1, e2⟩ := sB.free hbf
    have nbd : du ≠ bf := ne_of_none (H := upd H1 du (.lst [])) upd_same hbf
    refine ⟨_, rfl, st, c, 41, rfl, by decide, by decide, sB.put e1 e2, fun d H2 h0 h1 s2 k2 => ?_⟩
    refine ⟨_, rfl, by omega, by omega, ?_⟩
    refine for_range (lo := 0) (n := d.toNat) (fun i σ H' => ∃ (z : Str) (text : List Nat) (xs : List V) (dues : List Tk) (last : Option (Kind × List Nat)) (bf : Addr) (bk bt : Str) (v5 v6 v7 v8 : Option V),
      σ = [some (.ref a), some (.ref st), some (.str z), some (.ref du), some (.ref bf), v5, v6, v7, v8, none] ∧ z = S text ∧ StAt H' st c ∧ H' du = some (.lst xs) ∧ xs.length = i ∧ ToksAt H' xs dues ∧ H' bf = some (.tup [.str bk, .str bt]) ∧
      (∀ k t, last = some (k, t) → bk = kStr k ∧ bt = S t) ∧ (last = none ↔ i = 0) ∧ Made text dues last ∧ text.length ≤ 23 * i ∧ Low dues)
      ⟨_, [], [], [], none, bf, _, _, none, none, none, none, rfl, by decide +kernel, s2, k2 du _ (by rw [upd_ne nbd]; exact upd_same) d1 d2, rfl, .nil, k2 bf _ upd_same e1 e2, fun _ _ z => (nomatch z), ⟨fun _ => rfl, fun _ => rfl⟩, Made.nil, Nat.zero_le _, fun _ z => (nomatch z)⟩ ?_ ?_
    · rintro i σ H' hi ⟨z, text, xs, dues, last, bf, bk, bt, v5, v6, v7, v8, rfl, rfl, sI, hdu', hxl, hT, hbf', hlast, hiff, hM, htl, hlow⟩
      refine ⟨_, rfl, st, c, rfl, sI, fun k t ta H3 gd s3 k3 hta0 hta => ?_⟩
      refine ⟨_, rfl, st, c, 4, rfl, by decide, by decide, s3, fun g H4 g0 g1 s4 k4 => ?_⟩
      obtain ⟨gn, rfl⟩ := Int.eq_ofNat_of_zero_le g0
      have k34 := k3.trans k4
      have T34 := k34.keepT sI
      have hdu4 := k34 du _ hdu' d1 d2
      have hT4 := T34.toks hT
      have hbf4 := T34 _ _ hbf'
      have hta4 := k4.keepT s3 _ _ hta
      refine ⟨fun σ' H' => ∃ g' : Nat, σ' = [some (.ref a), some (.ref st), some (.str (S text)), some (.ref du), some (.ref bf), some (.int (0 + (i : Nat))), some (.ref ta), some (.int g'), v8, none] ∧ Same H4 H' ∧ g' ≤ 3 ∧
        (g' ≠ 0 ∨ ∀ k1 t1, last = some (k1, t1) → apart k1 t1 k = true), ?_, ?_⟩
      · refine ⟨_, rfl, _, _, rfl, rfl, _, rfl, ite2 (fun q1 => ?_) (fun q1 => ?_)⟩
        · rw [decide_eq_true_eq] at q1
          refine ⟨_, rfl, rfl, _, rfl, ite2 (fun q2 => ?_) (fun q2 => ?_)⟩
          · have hl : ∃ k1 t1, last = some (k1, t1) := by
              cases hq : last with
              | none => have := hiff.mp hq; omega
              | some p => exact ⟨p.1, p.2, rfl⟩
            obtain ⟨k1, t1, hl⟩ := hl
            obtain ⟨rfl, rfl⟩ := hlast k1 t1 hl
            refine ⟨_, rfl, _, rfl, bf, ta, k1, k, t1, t, rfl, hbf4, hta4, (hM.1 k1 t1 hl).len, fun H5 sm5 => ⟨_, rfl, ?_⟩⟩
            refine ite2 (fun q3 => ?_) (fun q3 => ?_)
            · exact ⟨1, rfl, sm5, by omega, .inl (by omega)⟩
            · refine ⟨gn, rfl, sm5, by omega, .inr fun k1' t1' e => ?_⟩
              rw [hl] at e
              cases e
              simpa using q3
          · refine iteF ⟨gn, rfl, Same.refl _, by omega, .inl fun z => q2 ?_⟩
            subst z; rfl
        · rw [decide_eq_true_eq] at q1
          refine iteF ⟨gn, rfl, Same.refl _, by omega, .inr fun k1 t1 e => ?_⟩
          have := hiff.mpr (by omega)
          rw [this] at e; cases e
      rintro σ' H5 ⟨g', rfl, sm5, hg3, hgap⟩
      have s5 := s4.same sm5
      refine ⟨_, rfl, _, rfl, by omega, by omega, ?_⟩
      rw [Int.toNat_natCast]
      refine for_range (lo := 0) (n := g') (fun j σ H'' => ∃ (gs : List Nat) (v8 : Option V), σ = [some (.ref a), some (.ref st), some (.str (S (text ++ gs))), some (.ref du), some (.ref bf), some (.int (0 + (i : Nat))), some (.ref ta), some (.int g'), v8, none] ∧
        gs.length = j ∧ (∀ x ∈ gs, x = 32 ∨ x = 10) ∧ StAt H'' st c ∧ Keep2 st c H5 H'') ⟨[], v8, by rw [List.append_nil], rfl, by simp, s5, Keep2.refl _⟩ ?_ ?_
      · rintro j σ H'' hj ⟨gs, v8, rfl, hgl, hws, s6, k6⟩
        refine ⟨_, rfl, ?_⟩
        refine ⟨_, rfl, st, c, 2, rfl, by decide, by decide, s6, fun d7 H7 a7 b7 s7 k7 => ?_⟩
        refine sx_pick (f := isWs) (by decide +kernel) (by decide +kernel) a7 (Int.lt_of_lt_of_le b7 (by decide +kernel)) fun ch hch => ?_
        refine ⟨_, _, rfl, rfl, ?_, ?_⟩
        · rw [S_len, S_len, List.length_append, List.length_singleton]; exact sz (by omega)
        · refine ⟨gs ++ [ch], some (.int (0 + (j : Nat))), ?_, by rw [List.length_append, List.length_singleton, hgl], fun x hx => ?_, s7, k6.trans k7⟩
          · rw [S_cat, List.append_assoc]; rfl
          · rcases List.mem_append.mp hx with h | h
            · exact hws x h
            · rw [List.mem_singleton.mp h]; exact isWs_iff.mp hch
      · rintro σ H6 ⟨gs, v8', rfl, hgl, hws, s6, k6⟩
        have T56 := k6.keepT s5
        have hta6 := T56 _ _ (sm5 _ _ hta4)
        have hdu6 := k6 du _ (sm5 _ _ hdu4) d1 d2
        have hT6 := T56.toks ((keepT_of sm5).toks hT4)
        refine ⟨_, rfl, .inl ⟨rfl, _, SqL.of hdu6⟩, ?_⟩
        refine ⟨_, rfl, ta, _, 0, _, rfl, rfl, SqT.of hta6, a0, _, rfl, ta, _, 1, _, rfl, rfl, SqT.of hta6, a1, _, rfl, _, rfl, by rw [S_len, List.length_append]; exact sz (by omega), three, fun q hq => ?_⟩
        have ndq : du ≠ q := ne_of_none hdu6 hq
        refine ⟨du, xs, _, rfl, rfl, by rw [upd_ne ndq]; exact hdu6, Nat.lt_of_le_of_lt (by omega : xs.length ≤ 4000) (by decide), ?_⟩
        have kq : KeepT H6 (upd (upd H6 q (.tup [.str (kStr k), .str (S t), .int ((S (text ++ gs)).length : Nat)])) du (.lst (xs ++ [.ref q]))) := (keepT_of (Same.new hq)).put (by rw [upd_ne ndq]; exact hdu6)
        refine ⟨_, rfl, _, rfl, ta, _, 1, _, rfl, rfl, SqT.of (kq _ _ hta6), a1, _, _, rfl, rfl, ?_, ?_⟩
        · rw [S_len, S_len, List.length_append]
          have := gd.len
          exact sz (by omega)
        obtain ⟨f1, f2⟩ := s6.free hq
        refine ⟨_, rfl, S (text ++ gs) ++ S t, text ++ gs ++ t, xs ++ [.ref q], dues ++ [(k, t, (text ++ gs).length)], some (k, t), ta, kStr k, S t, _, _, _, _, rfl, S_cat _ _, (s6.put f1 f2).put d1 d2, upd_same, by rw [List.length_append, List.length_singleton, hxl],
          toks_snoc ⟨q, rfl, by rw [upd_ne ndq.symm, ← S_len]; exact upd_same⟩ (kq.toks hT6), kq _ _ hta6, fun k' t' e => by cases e; exact ⟨rfl, rfl⟩, ⟨fun z => (nomatch z), fun z => by omega⟩, hM.step hws gd ?_, ?_, ?_⟩
        · rcases hgap with h | h
          · left; intro z; rw [z] at hgl; exact h hgl.symm
          · exact .inr h
        · rw [List.length_append, List.length_append]
          have := gd.len
          omega
        · intro tk htk x hx
          rcases List.mem_append.mp htk with h | h
          · exact hlow tk h x hx
          · rw [List.mem_singleton.mp h] at hx; exact gd.low x hx
    · rintro σ H' ⟨z, text, xs, dues, last, bf, bk, bt, v5, v6, v7, v8, rfl, rfl, sI, hdu', hxl, hT, hbf', hlast, hiff, hM, htl, hlow⟩
      have hd40 : d.toNat ≤ 40 := by omega
      refine ⟨_, rfl, _, rfl, st, c, 4, rfl, by decide, by decide, sI, fun d4 H4 a4 b4 s4 k4 => ?_⟩
      refine ⟨_, rfl, _, rfl, by decide +kernel, ?_⟩
      refine ⟨_, _, rfl, rfl, ?_⟩
      obtain ⟨g, eg, hg, hgl⟩ := tail_cut (z := Str.ofString "  \n") (by decide +kernel) none (some d4)
      rw [eg, S_cat]
      have hl4 : (text ++ g).length ≤ 4000 := by rw [List.length_append]; omega
      refine ⟨by rw [S_len, S_len]; exact sz (by rw [← List.length_append]; exact hl4), ?_⟩
      have hdu4 := k4 du _ hdu' d1 d2
      have hT4 := (k4.keepT sI).toks hT
      refine ⟨_, rfl, .inl ⟨rfl, _, SqL.of hdu4⟩, _, rfl, _, rfl, S_len4 hl4, three, fun q hq => ?_⟩
      have ndq : du ≠ q := ne_of_none hdu4 hq
      refine ⟨du, xs, _, rfl, rfl, by rw [upd_ne ndq]; exact hdu4, Nat.lt_of_le_of_lt (by omega : xs.length ≤ 4000) (by decide), ?_⟩
      have kq : KeepT H4 (upd (upd H4 q (.tup [.str (Str.ofString "end"), .str (Str.ofString ""), .int ((S (text ++ g)).length : Nat)])) du (.lst (xs ++ [.ref q]))) := (keepT_of (Same.new hq)).put (by rw [upd_ne ndq]; exact hdu4)
      have hlex := hM.done hg
      have hT5 : ToksAt (upd (upd H4 q (.tup [.str (Str.ofString "end"), .str (Str.ofString ""), .int ((S (text ++ g)).length : Nat)])) du (.lst (xs ++ [.ref q]))) (xs ++ [.ref q]) (dues ++ [(.fin, [], (text ++ g).length)]) :=
        toks_snoc ⟨q, rfl, by rw [upd_ne ndq.symm, ← S_len]; exact upd_same⟩ (kq.toks hT4)
      have hlow' : Low (dues ++ [(.fin, [], (text ++ g).length)]) := by
        intro tk htk x hx
        rcases List.mem_append.mp htk with h | h
        · exact hlow tk h x hx
        · rw [List.mem_singleton.mp h] at hx; cases hx
      have hsh := shaped_toks hlow'
      have hself := SeqAt.eqv_refl (.list ((dues ++ [(Kind.fin, [], (text ++ g).length)]).map tokD)) (show PyData.canLayAll0 _ = true from lay_toks hlow')
      refine ⟨_, rfl, text ++ g, _, rfl, hl4, hlex, fun b ys H6 sm6 hb6 ht6 => ?_⟩
      have hdu6 := sm6 du _ upd_same
      have hT6 := (keepT_of sm6).toks hT5
      refine ⟨_, rfl, .ref b, .ty "list", .type "list", .type "list", true, rfl, .ty "list", .base (.lst hb6), kit_ty (by decide +kernel), _, rfl, ?_⟩
      refine iteF ⟨_, rfl, _, rfl, .list _, .list _, .lst (SqL.of hb6) (toks_dp ht6), .lst (SqL.of hdu6) (toks_dp hT6), hsh, hsh, _, rfl, ?_⟩
      rw [hself]
      refine iteF ?_
      refine ⟨_, rfl, text ++ g, _, rfl, hl4, hlex, fun b2 ys2 H7 sm7 hb7 ht7 => ?_⟩
      refine ⟨_, rfl, .list _, .list _, .lst (SqL.of hb7) (toks_dp ht7), .lst (SqL.of (sm7 du _ hdu6)) (toks_dp ((keepT_of sm7).toks hT6)), hsh, hsh, ?_⟩
      rw [hself]
      exact kk _
end
end K1
set_option Elab.async false
set_option maxRecDepth 100000
set_option maxHeartbeats 4000000
namespace K1
open PySem L2 C8 SX
theorem has_mk {K : PySem.W.Frag} {h : Heap} {mg : Str → Option Value} {x : Str} {st : Stmt} {f : Addr} {oc : Value} {od an : Option Addr} {osl : Array (Option Value)} {kV doc pm cdv ct : Value} (X : K.In h) (G : h.Ns mainGlobals mg)
    (a : PySem.W.nsIn K mainGlobals x = some (some (.ref f))) (l : K.lookup f = some ⟨oc, od, .func (PySem.W.fnOf x x (fnArgs st) (fnBody st) (fnScope st) .none kV doc pm an cdv ct), osl⟩) (c : PySem.W.codeIn K cdv x = true) (k : PySem.W.keepIn K (.ref f) = true) :
    Has K mg x st := ⟨f, _, ⟨⟨⟨oc, od, .none, kV, doc, pm, an, cdv, ct, osl, rfl, l, c⟩⟩, PySem.W.mg_of X G a, k⟩, rfl⟩
theorem rel_str {z : Str} {g : List Nat} {t : Tok} (h : z = S g) : RelV (.str (S g)) (.str z t) := ⟨t, by rw [h]⟩
theorem signs_mk {K : PySem.W.Frag} {aS : Addr} {dd : Option Addr} {its : Array Value} {n : Nat} {sl : Array (Option Value)} (l : K.lookup aS = some ⟨.type "tuple", dd, .seq its n, sl⟩) (hs : its.size ≤ sizeLine) (hv : Vals (sigs.map fun g => V.str (S g)) its.toList) :
    ∀ H, SqT K H aS (sigs.map fun g => V.str (S g)) := fun _ => .inr ⟨_, its, n, l, rfl, rfl, hs, hv⟩
theorem all_mk {l : PySem.W.OpenLaw} {w : World} {K : PySem.W.Frag} {h : Heap} {mg : Str → Option Value} {fa : Addr} (X : K.In h) (G : h.Ns mainGlobals mg) (hfa : mg "law" = some (.ref fa)) {aS : Addr} {t1 t2 t3 : Tok}
    (h1 : Has K mg "is_lower" s_is_lower) (h2 : Has K mg "is_upper" s_is_upper) (h3 : Has K mg "is_digit" s_is_digit) (h4 : Has K mg "is_word" s_is_word) (h5 : Has K mg "word_at" s_word_at) (h6 : Has K mg "integer_at" s_integer_at)
    (h7 : Has K mg "sign_at" s_sign_at) (h8 : Has K mg "token_at" s_token_at) (h9 : Has K mg "tokens" s_tokens)
    (p1 : Has K mg "_law_state" s_state) (p2 : Has K mg "_law_draw" s_draw) (p3 : Has K mg "_law_word" s_word) (p4 : Has K mg "_law_token" s_token) (p5 : Has K mg "_law_apart" s_apart) (p6 : Has K mg "law" s_law)
    (g1 : PySem.W.nsIn K mainGlobals "LONGEST_TEXT" = some (some (.int 4000 t1))) (g2 : PySem.W.nsIn K mainGlobals "LONGEST_WORD" = some (some (.int 20 t2))) (g3 : PySem.W.nsIn K mainGlobals "LONGEST_INTEGER" = some (some (.int 4 t3)))
    (g4 : PySem.W.nsIn K mainGlobals "SIGNS" = some (some (.ref aS))) (g5 : ∀ H, SqT K H aS (sigs.map fun g => V.str (S g)))
    (z1 : PySem.W.nsIn K mainGlobals "len" = some none) (z2 : PySem.W.nsIn K mainGlobals "int" = some none) (z3 : PySem.W.nsIn K mainGlobals "abs" = some none) (z4 : PySem.W.nsIn K mainGlobals "range" = some none)
    (z5 : PySem.W.nsIn K mainGlobals "str" = some none) (z6 : PySem.W.nsIn K mainGlobals "list" = some none) (z7 : PySem.W.nsIn K mainGlobals "isinstance" = some none) :
    ∃ fd : FuncData, (∀ (s : Shared) (v : Value), BindsTo s fd ⟨[v], []⟩ [("script", v)]) ∧ ∀ base : Heap, K.In base → base.Ns mainGlobals mg → FnOk l.prog w K mg base C8.CX0 6 fa fd ["script"] (spLaw K) := by
  have T : Txt K mg aS := ⟨h1, h2, h3, h4, h5, h6, h7, h8, h9, PySem.W.mg_none_of X G z1, ⟨_, PySem.W.mg_of X G g1, _, rfl⟩, ⟨_, PySem.W.mg_of X G g2, _, rfl⟩, ⟨_, PySem.W.mg_of X G g3, _, rfl⟩, ⟨_, PySem.W.mg_of X G g4, rfl⟩, g5⟩
  have TL : TxtL K mg := ⟨p1, p2, p3, p4, p5, PySem.W.mg_none_of X G z1, PySem.W.mg_none_of X G z2, PySem.W.mg_none_of X G z3, PySem.W.mg_none_of X G z4, PySem.W.mg_none_of X G z5, PySem.W.mg_none_of X G z6, PySem.W.mg_none_of X G z7⟩
  obtain ⟨f, fd, D, df⟩ := p6
  have e := hfa.symm.trans D.mgf
  cases e
  obtain ⟨oc, od, dV, kV, doc, pm, an, cdv, ct, osl, rfl, lk, hcd⟩ := D.fn.ex
  have e : dV = .none := df
  subst e
  refine ⟨PySem.W.fnOf "law" "law" (fnArgs s_law) (fnBody s_law) (fnScope s_law) .none kV doc pm an cdv ct, fun s v => .of_eq rfl, fun base _ _ => ?_⟩
  have c1 := ok_is_lower (P := l.prog) (w := w) (base := base) T
  have c2 := ok_is_upper (P := l.prog) (w := w) (base := base) T
  have c3 := ok_is_digit (P := l.prog) (w := w) (base := base) T
  have c4 := ok_is_word T c1 c2 c3
  have c5 := ok_word_at T c4
  have c6 := ok_integer_at T c3
  have c7 := ok_sign_at (P := l.prog) (w := w) (base := base) T
  have c8 := ok_token_at T c1 c2 c3 c5 c6 c7
  have c9 := ok_tokens T c8
  have q1 := ok_state (P := l.prog) (w := w) (base := base) TL
  have q2 := ok_draw (P := l.prog) (w := w) (base := base) TL
  have q3 := ok_word TL q2
  have q4 := ok_token TL q2 q3
  have q5 := ok_apart (P := l.prog) (w := w) (base := base) TL
  exact ok_law D TL q1 q2 q4 q5 c9
theorem walk {l : PySem.W.OpenLaw} {q : Program} {loose : List Str} {XP : (Str → Option Value) → Heap → Prop} {YP : World → Heap → Prop} {d : DefRec} {K : Params → PySem.W.Frag} (hn : l.most = some 63) (hdf : d.params.defaults = [])
    (hY : ∀ (w : World) (h : Heap), YP w h → (K w.params).In h)
    (F : ∀ (w : World) (mg : Str → Option Value) (fa : Addr) (h : Heap), (K w.params).In h → h.Ns mainGlobals mg → mg d.name = some (.ref fa) →
      ∃ fd : FuncData, (∀ (s : Shared) (u : Value), BindsTo s fd ⟨[u], []⟩ [("script", u)]) ∧ ∀ base : Heap, (K w.params).In base → base.Ns mainGlobals mg → FnOk l.prog w (K w.params) mg base C8.CX0 6 fa fd ["script"] (spLaw (K w.params))) :
    PySem.W.WalkO q loose XP YP l.row.toRowW d [] (fun f vs => PySem.call f vs) :=
  L2.walk_of (n := 63) (k := 6) (x := "script") (CX := fun _ => C8.CX0) (sp := fun w => spLaw (K w.params)) hn (by decide) hdf ⟨rfl, by decide, by decide⟩ hY F (fun _ _ a ns hl _ hS => ⟨a, ns, rfl, hS, hl, fun _ => rfl⟩) fun _ _ _ _ _ z => z
end K1
open PySem PySem.W PyProof.Rows
local macro_rules | `(tactic| walk_at "has") => `(tactic| (refine' K1.has_mk (by assumption) (by assumption) ?a ?l ?c ?k; (case a => k_is); (case l => k_is); (case c => k_is); (case k => k_is)))
set_option maxRecDepth 100000 in
set_option maxHeartbeats 0 in
theorem PySem.Challenge.cw_stablepapers_k01_tokens_holds : PySem.Challenge.rw_stablepapers_k01_tokens.Holds := by
  w_on; o_law; k_head; (case hw => w_witness2)
  k_fill
  refine K1.walk (l := PySem.Challenge.rw_stablepapers_k01_tokens) rfl rfl (fun w h Y => PySem.W.kIn_of Y) ?F
  case F =>
    intro w mg fa h KX G hmg
    refine' K1.all_mk KX G hmg ?h1 ?h2 ?h3 ?h4 ?h5 ?h6 ?h7 ?h8 ?h9 ?p1 ?p2 ?p3 ?p4 ?p5 ?p6 ?g1 ?g2 ?g3 ?g4 ?g5 ?z1 ?z2 ?z3 ?z4 ?z5 ?z6 ?z7
    (case h1 => walk_at "has"); (case h2 => walk_at "has"); (case h3 => walk_at "has"); (case h4 => walk_at "has"); (case h5 => walk_at "has"); (case h6 => walk_at "has"); (case h7 => walk_at "has"); (case h8 => walk_at "has"); (case h9 => walk_at "has")
    (case p1 => walk_at "has"); (case p2 => walk_at "has"); (case p3 => walk_at "has"); (case p4 => walk_at "has"); (case p5 => walk_at "has"); (case p6 => walk_at "has")
    (case g1 => k_is); (case g2 => k_is); (case g3 => k_is); (case g4 => k_is)
    (case g5 =>
      refine' K1.signs_mk ?l ?hs ?hv
      (case l => k_is)
      (case hs => decide +kernel)
      (case hv => repeat first | exact Paired.nil | refine Paired.cons (K1.rel_str (by decide +kernel)) ?_))
    (case z1 => k_is); (case z2 => k_is); (case z3 => k_is); (case z4 => k_is); (case z5 => k_is); (case z6 => k_is); (case z7 => k_is)
#print axioms PySem.Challenge.cw_stablepapers_k01_tokens_holds
