import PyProof.Rows.All
import HandS.Codes
import HandS.ExcInit
import HandS.Nested
import KE.KExcSuper
import KE.KSuper
import HandS.ExcIs
import HandS.ExcField
import KE.KExcIs
import PyProof.StrOps2
import Wide.All
import OpenK.AllK
import Wide.FinOn
import HandS.StrMore
import HandS.Words
import PySem.Challenge.RW_stablepapers_k02_characters_that_belong
import HandS.FStr
import HandS.ExcOwn
import PyProof.FitsInt
import HandS.WordsExc
import HandS.TupLe
import HandS.Comp
import HandS.IsInst
import HandS.Ends
set_option maxRecDepth 100000
set_option maxHeartbeats 4000000
namespace K1
open PySem SX
def isLower (c : Nat) : Bool := decide (97 ≤ c) && decide (c ≤ 122)
def isUpper (c : Nat) : Bool := decide (65 ≤ c) && decide (c ≤ 90)
def isDigit (c : Nat) : Bool := decide (48 ≤ c) && decide (c ≤ 57)
def isWord (c : Nat) : Bool := isLower c || isUpper c || isDigit c || decide (c = 95)
theorem isLower_iff {c : Nat} : isLower c = true ↔ 97 ≤ c ∧ c ≤ 122 := by simp [isLower]
theorem isUpper_iff {c : Nat} : isUpper c = true ↔ 65 ≤ c ∧ c ≤ 90 := by simp [isUpper]
theorem isDigit_iff {c : Nat} : isDigit c = true ↔ 48 ≤ c ∧ c ≤ 57 := by simp [isDigit]
theorem isWord_iff {c : Nat} : isWord c = true ↔ (97 ≤ c ∧ c ≤ 122) ∨ (65 ≤ c ∧ c ≤ 90) ∨ (48 ≤ c ∧ c ≤ 57) ∨ c = 95 := by
  simp only [isWord, Bool.or_eq_true, isLower_iff, isUpper_iff, isDigit_iff, decide_eq_true_eq, or_assoc]
def run (f : Nat → Bool) : Nat → List Nat → Nat
  | 0, _ => 0
  | _ + 1, [] => 0
  | k + 1, c :: r => if f c = true then run f k r + 1 else 0
theorem run_le (f : Nat → Bool) : ∀ (k : Nat) (l : List Nat), run f k l ≤ k ∧ run f k l ≤ l.length
  | 0, l => by simp [run]
  | k + 1, [] => by simp [run]
  | k + 1, c :: r => by
    have h := run_le f k r
    unfold run
    split
    · simp only [List.length_cons]; omega
    · omega
theorem run_at (f : Nat → Bool) : ∀ (k : Nat) (l : List Nat) (j : Nat), j ≤ run f k l → (j < run f k l ↔ j < k ∧ ∃ c, l[j]? = some c ∧ f c = true)
  | 0, l, j, h => by simp [run] at h ⊢
  | k + 1, [], j, h => by simp [run] at h ⊢
  | k + 1, c :: r, j, h => by
    unfold run at h ⊢
    by_cases hc : f c = true
    · rw [if_pos hc] at h ⊢
      cases j with
      | zero => simp [hc]
      | succ j =>
        have ih := run_at f k r j (by omega)
        simp only [List.getElem?_cons_succ, Nat.add_lt_add_iff_right]
        exact ih
    · rw [if_neg hc] at h ⊢
      have : j = 0 := by omega
      subst this
      simp [hc]
/-- a run that is exactly w: all of w fits, and it ends behind w -/
theorem run_eq (f : Nat → Bool) : ∀ (k : Nat) (w rest : List Nat), (∀ c ∈ w, f c = true) → w.length ≤ k → (w.length = k ∨ ∀ c r, rest = c :: r → f c = false) → run f k (w ++ rest) = w.length
  | 0, w, rest, _, hk, _ => by
    have : w = [] := List.length_eq_zero_iff.mp (by omega)
    subst this; simp [run]
  | k + 1, [], rest, _, _, h => by
    cases rest with
    | nil => simp [run]
    | cons c r =>
      have hc : f c = false := by
        rcases h with h | h
        · simp at h
        · exact h c r rfl
      simp [run, hc]
  | k + 1, c :: w, rest, ha, hk, h => by
    have ih := run_eq f k w rest (fun c hc => ha c (List.mem_cons_of_mem _ hc)) (by simp only [List.length_cons] at hk; omega) (by
      rcases h with h | h
      · left; simp only [List.length_cons] at h; omega
      · exact .inr h)
    simp only [List.cons_append, run, ha c List.mem_cons_self, if_true, ih, List.length_cons]
/-- the signs, in the program's order -/
def sigs : List (List Nat) := [[58, 45], [33, 61], [60, 61], [62, 61], [61], [60], [62], [40], [41], [123], [125], [44], [59], [58], [46], [43], [45], [42]]
inductive Kind where
  | name | var | int | sign | fin
  deriving DecidableEq
def kStr : Kind → Str
  | .name => "name" | .var => "var" | .int => "int" | .sign => "sign" | .fin => "end"
def sigAt (l : List Nat) : Option (List Nat) := sigs.find? fun g => TL.pre g l
/-- the token that stands ahead -/
def wordLen (r : List Nat) : Nat := 1 + run isWord 19 r
def intLen (c : Nat) (r : List Nat) : Nat := if c = 48 then 1 else 1 + run isDigit 3 r
def tok1 : List Nat → Option (Kind × List Nat)
  | [] => none
  | c :: r =>
    if isLower c = true then some (.name, (c :: r).take (wordLen r))
    else if isUpper c = true then some (.var, (c :: r).take (wordLen r))
    else if isDigit c = true then some (.int, (c :: r).take (intLen c r))
    else (sigAt (c :: r)).map fun g => (.sign, g)
abbrev Tk := Kind × List Nat × Nat
inductive Lex : Nat → List Nat → List Tk → Prop
  | nil (n : Nat) : Lex n [] [(.fin, [], n)]
  | ws {n c : Nat} {r : List Nat} {ts : List Tk} : (c = 32 ∨ c = 10) → Lex (n + 1) r ts → Lex n (c :: r) ts
  | tok {n c : Nat} {r t : List Nat} {k : Kind} {ts : List Tk} : (c ≠ 32 ∧ c ≠ 10) → tok1 (c :: r) = some (k, t) → t ≠ [] → t.length ≤ r.length + 1 → Lex (n + t.length) ((c :: r).drop t.length) ts → Lex n (c :: r) ((k, t, n) :: ts)
/-- what a drawn token is -/
inductive Good : Kind → List Nat → Prop
  | name {c : Nat} {w : List Nat} : isLower c = true → (∀ x ∈ w, isWord x = true) → w.length ≤ 19 → Good .name (c :: w)
  | var {c : Nat} {w : List Nat} : isUpper c = true → (∀ x ∈ w, isWord x = true) → w.length ≤ 19 → Good .var (c :: w)
  | zero : Good .int [48]
  | int {c : Nat} {w : List Nat} : isDigit c = true → c ≠ 48 → (∀ x ∈ w, isDigit x = true) → w.length ≤ 3 → Good .int (c :: w)
  | sign {t : List Nat} : t ∈ sigs → Good .sign t
theorem Good.num {n : Nat} (h : n < 10000) : Good .int (TL.numL n) := by
  by_cases h1 : n < 10
  · rw [TL.numL_lt h1]
    by_cases h0 : n = 0
    · subst h0; exact .zero
    · exact .int (by simp [isDigit]; omega) (by omega) (by simp) (by simp)
  · rw [TL.numL_step (by omega)]
    by_cases h2 : n / 10 < 10
    · rw [TL.numL_lt h2]
      exact .int (by simp [isDigit]; omega) (by omega) (by simp [isDigit]; omega) (by simp)
    · rw [TL.numL_step (by omega)]
      by_cases h3 : n / 10 / 10 < 10
      · rw [TL.numL_lt h3]
        exact .int (by simp [isDigit]; omega) (by omega) (by simp [isDigit]; omega) (by simp)
      · rw [TL.numL_step (by omega), TL.numL_lt (by omega)]
        exact .int (by simp [isDigit]; omega) (by omega) (by simp [isDigit]; omega) (by simp)
theorem sig_heads : ∀ t ∈ sigs, ∃ c r, t = c :: r ∧ c ≠ 32 ∧ c ≠ 10 ∧ isWord c = false ∧ isLower c = false ∧ isUpper c = false ∧ isDigit c = false ∧ t.length ≤ 2 := by
  intro t ht
  simp only [sigs, List.mem_cons, List.not_mem_nil, or_false] at ht
  rcases ht with rfl | rfl | rfl | rfl | rfl | rfl | rfl | rfl | rfl | rfl | rfl | rfl | rfl | rfl | rfl | rfl | rfl | rfl <;> exact ⟨_, _, rfl, by decide, by decide, by decide, by decide, by decide, by decide, by decide⟩
theorem Good.head {k : Kind} {t : List Nat} (g : Good k t) : ∃ c r, t = c :: r ∧ c ≠ 32 ∧ c ≠ 10 := by
  cases g with
  | name h => exact ⟨_, _, rfl, by rw [isLower_iff] at h; omega, by rw [isLower_iff] at h; omega⟩
  | var h => exact ⟨_, _, rfl, by rw [isUpper_iff] at h; omega, by rw [isUpper_iff] at h; omega⟩
  | zero => exact ⟨_, _, rfl, by omega, by omega⟩
  | int h => exact ⟨_, _, rfl, by rw [isDigit_iff] at h; omega, by rw [isDigit_iff] at h; omega⟩
  | sign h => obtain ⟨c, r, e, h1, h2, _⟩ := sig_heads _ h; exact ⟨c, r, e, h1, h2⟩
theorem Good.len {k : Kind} {t : List Nat} (g : Good k t) : t.length ≤ 20 := by
  cases g with
  | name _ _ h => simp only [List.length_cons]; omega
  | var _ _ h => simp only [List.length_cons]; omega
  | zero => simp
  | int _ _ _ h => simp only [List.length_cons]; omega
  | sign h => obtain ⟨c, r, e, _, _, _, _, _, _, h2⟩ := sig_heads _ h; omega
/-- what may stand behind a token, so that it is read whole -/
def Stop (k : Kind) (t : List Nat) (c : Nat) : Prop := match k with
  | .name | .var => t.length = 20 ∨ isWord c = false
  | .int => t = [48] ∨ t.length = 4 ∨ isDigit c = false
  | .sign => c ≠ 45 ∧ c ≠ 61
  | .fin => True
def Follow (k : Kind) (t rest : List Nat) : Prop := ∀ c r, rest = c :: r → Stop k t c
theorem sig_follow : ∀ t ∈ sigs, ∀ rest, (∀ c r, rest = c :: r → c ≠ 45 ∧ c ≠ 61) → sigAt (t ++ rest) = some t := by
  intro t ht rest h
  simp only [sigs, List.mem_cons, List.not_mem_nil, or_false] at ht
  cases rest with
  | nil => rcases ht with rfl | rfl | rfl | rfl | rfl | rfl | rfl | rfl | rfl | rfl | rfl | rfl | rfl | rfl | rfl | rfl | rfl | rfl <;> rfl
  | cons c r =>
    obtain ⟨h1, h2⟩ := h c r rfl
    rcases ht with rfl | rfl | rfl | rfl | rfl | rfl | rfl | rfl | rfl | rfl | rfl | rfl | rfl | rfl | rfl | rfl | rfl | rfl <;> simp [sigAt, sigs, TL.pre, h1, h2]
theorem Good.read {k : Kind} {t rest : List Nat} (g : Good k t) (f : Follow k t rest) : tok1 (t ++ rest) = some (k, t) := by
  cases g with
  | @name c w h1 h2 h3 =>
    have e := run_eq isWord 19 w rest h2 h3 (by
      by_cases q : w.length = 19
      · exact .inl q
      · refine .inr fun d r er => ?_
        rcases f d r er with z | z
        · simp only [List.length_cons] at z; omega
        · exact z)
    simp only [List.cons_append, tok1, h1, if_true, wordLen, e]
    have : (c :: (w ++ rest)).take (1 + w.length) = c :: w := by rw [Nat.add_comm]; simp
    rw [this]
  | @var c w h1 h2 h3 =>
    have e := run_eq isWord 19 w rest h2 h3 (by
      by_cases q : w.length = 19
      · exact .inl q
      · refine .inr fun d r er => ?_
        rcases f d r er with z | z
        · simp only [List.length_cons] at z; omega
        · exact z)
    have nl : isLower c = false := by
      rw [isUpper_iff] at h1
      cases q : isLower c with
      | false => rfl
      | true => rw [isLower_iff] at q; omega
    simp only [List.cons_append, tok1, nl, h1, if_true, wordLen, e, Bool.false_eq_true, if_false]
    have : (c :: (w ++ rest)).take (1 + w.length) = c :: w := by rw [Nat.add_comm]; simp
    rw [this]
  | zero => simp [tok1, isLower, isUpper, isDigit, intLen]
  | @int c w h1 h0 h2 h3 =>
    have e := run_eq isDigit 3 w rest h2 h3 (by
      by_cases q : w.length = 3
      · exact .inl q
      · refine .inr fun d r er => ?_
        rcases f d r er with z | z | z
        · cases z; exact absurd rfl h0
        · simp only [List.length_cons] at z; omega
        · exact z)
    have nl : isLower c = false := by
      rw [isDigit_iff] at h1
      cases q : isLower c with
      | false => rfl
      | true => rw [isLower_iff] at q; omega
    have nu : isUpper c = false := by
      rw [isDigit_iff] at h1
      cases q : isUpper c with
      | false => rfl
      | true => rw [isUpper_iff] at q; omega
    simp only [List.cons_append, tok1, nl, nu, h1, if_true, intLen, h0, e, Bool.false_eq_true, if_false]
    have : (c :: (w ++ rest)).take (1 + w.length) = c :: w := by rw [Nat.add_comm]; simp
    rw [this]
  | sign h =>
    have e := sig_follow t h rest f
    obtain ⟨c, r, rfl, _, _, _, h1, h2, h3, _⟩ := sig_heads _ h
    rw [List.cons_append] at e ⊢
    simp only [tok1, h1, h2, h3, e, Bool.false_eq_true, if_false, Option.map_some]
/-- the law's own word for neighbours -/
def apart (k1 : Kind) (t1 : List Nat) (k2 : Kind) : Bool :=
  if k1 = .sign ∧ k2 = .sign then false
  else if k1 = .int ∧ k2 = .int then decide (t1 = [48]) || decide (t1.length = 4)
  else if (k1 = .name ∨ k1 = .var) ∧ k2 ≠ .sign then decide (t1.length = 20)
  else true
theorem stop_ws {k : Kind} {t : List Nat} {c : Nat} (h : c = 32 ∨ c = 10) : Stop k t c := by
  cases k
  · right; rcases h with rfl | rfl <;> decide
  · right; rcases h with rfl | rfl <;> decide
  · right; right; rcases h with rfl | rfl <;> decide
  · rcases h with rfl | rfl <;> exact ⟨by decide, by decide⟩
  · trivial
theorem apart_stop {k1 k2 : Kind} {t1 t2 : List Nat} (g1 : Good k1 t1) (g2 : Good k2 t2) (h : apart k1 t1 k2 = true) (rest : List Nat) : Follow k1 t1 (t2 ++ rest) := by
  intro c r e
  have hd : ∀ d v, t2 = d :: v → d = c := fun d v q => by rw [q, List.cons_append] at e; exact (List.cons.inj e).1
  have hw : ∀ x, (isLower x = true ∨ isUpper x = true ∨ isDigit x = true) → x ≠ 45 ∧ x ≠ 61 := fun x q => by
    simp only [isLower_iff, isUpper_iff, isDigit_iff] at q
    omega
  have lu : ∀ x, (isLower x = true ∨ isUpper x = true) → isDigit x = false := fun x q => by
    simp only [isLower_iff, isUpper_iff] at q
    cases z : isDigit x with
    | false => rfl
    | true => rw [isDigit_iff] at z; omega
  cases g1 with
  | name _ _ _ =>
    cases g2 with
    | sign h2 =>
      obtain ⟨d, v, q, _, _, hq, _⟩ := sig_heads _ h2
      right; rw [← hd d v q]; exact hq
    | name _ _ _ => left; simpa [apart] using h
    | var _ _ _ => left; simpa [apart] using h
    | zero => left; simpa [apart] using h
    | int _ _ _ _ => left; simpa [apart] using h
  | var _ _ _ =>
    cases g2 with
    | sign h2 =>
      obtain ⟨d, v, q, _, _, hq, _⟩ := sig_heads _ h2
      right; rw [← hd d v q]; exact hq
    | name _ _ _ => left; simpa [apart] using h
    | var _ _ _ => left; simpa [apart] using h
    | zero => left; simpa [apart] using h
    | int _ _ _ _ => left; simpa [apart] using h
  | zero => exact .inl rfl
  | int _ _ _ _ =>
    cases g2 with
    | sign h2 =>
      obtain ⟨d, v, q, _, _, _, _, _, hq, _⟩ := sig_heads _ h2
      right; right; rw [← hd d v q]; exact hq
    | name h2 _ _ => right; right; rw [← hd _ _ rfl]; exact lu _ (.inl h2)
    | var h2 _ _ => right; right; rw [← hd _ _ rfl]; exact lu _ (.inr h2)
    | zero => simp only [apart] at h; rcases (by simpa using h : _ ∨ _) with z | z; exact .inl (by simp [z]); exact .inr (.inl (by simpa using z))
    | int _ _ _ _ => simp only [apart] at h; rcases (by simpa using h : _ ∨ _) with z | z; exact .inl (by simp [z]); exact .inr (.inl (by simpa using z))
  | sign _ =>
    cases g2 with
    | sign h2 => simp [apart] at h
    | name h2 _ _ => rw [← hd _ _ rfl]; exact hw _ (.inl h2)
    | var h2 _ _ => rw [← hd _ _ rfl]; exact hw _ (.inr (.inl h2))
    | zero => rw [← hd _ _ rfl]; exact hw _ (.inr (.inr (by decide)))
    | int h2 _ _ _ => rw [← hd _ _ rfl]; exact hw _ (.inr (.inr h2))
theorem Lex.gap {ts : List Tk} {rest : List Nat} : ∀ (g : List Nat) (n : Nat), (∀ c ∈ g, c = 32 ∨ c = 10) → Lex (n + g.length) rest ts → Lex n (g ++ rest) ts
  | [], n, _, h => h
  | c :: g, n, hg, h => .ws (hg c List.mem_cons_self) (Lex.gap g (n + 1) (fun d hd => hg d (List.mem_cons_of_mem _ hd)) (by rw [List.length_cons] at h; rw [show n + 1 + g.length = n + (g.length + 1) by omega]; exact h))
/-- a text made so far, its tokens, and the last one -/
def Made (text : List Nat) (due : List Tk) (last : Option (Kind × List Nat)) : Prop :=
  (∀ k t, last = some (k, t) → Good k t) ∧ ∀ rest ts, (∀ k t, last = some (k, t) → Follow k t rest) → Lex text.length rest ts → Lex 0 (text ++ rest) (due ++ ts)
theorem Made.nil : Made [] [] none := ⟨fun _ _ h => (nomatch h), fun _ _ _ h => h⟩
theorem Made.step {text g t : List Nat} {due : List Tk} {last : Option (Kind × List Nat)} {k : Kind} (m : Made text due last) (hg : ∀ c ∈ g, c = 32 ∨ c = 10) (gd : Good k t)
    (h : g ≠ [] ∨ ∀ k1 t1, last = some (k1, t1) → apart k1 t1 k = true) : Made (text ++ g ++ t) (due ++ [(k, t, (text ++ g).length)]) (some (k, t)) := by
  refine ⟨fun _ _ e => by cases e; exact gd, fun rest ts hf hl => ?_⟩
  obtain ⟨c, r, e, hc1, hc2⟩ := gd.head
  have h1 : Lex (text ++ g).length (t ++ rest) ((k, t, (text ++ g).length) :: ts) := by
    have hr := gd.read (hf k t rfl)
    subst e
    rw [List.cons_append] at hr ⊢
    refine .tok ⟨hc1, hc2⟩ hr (by simp) (by simp) ?_
    have ed : (c :: (r ++ rest)).drop (c :: r).length = rest := by
      rw [← List.cons_append, List.drop_left]
    rw [ed]
    rw [List.length_append] at hl
    exact hl
  have h2 : Lex text.length (g ++ (t ++ rest)) ((k, t, (text ++ g).length) :: ts) := Lex.gap g _ hg (by rw [← List.length_append]; exact h1)
  have h3 := m.2 (g ++ (t ++ rest)) _ (fun k1 t1 e1 => by
    cases g with
    | nil =>
      rcases h with h | h
      · exact absurd rfl h
      · exact apart_stop (m.1 k1 t1 e1) gd (h k1 t1 e1) rest
    | cons d g' =>
      intro x y exy
      rw [List.cons_append] at exy
      have exd := (List.cons.inj exy).1
      exact stop_ws (by rw [← exd]; exact hg _ List.mem_cons_self)) h2
  rw [List.append_assoc, List.append_assoc, List.append_assoc, List.singleton_append]
  exact h3
theorem Made.done {text g : List Nat} {due : List Tk} {last : Option (Kind × List Nat)} (m : Made text due last) (hg : ∀ c ∈ g, c = 32 ∨ c = 10) : Lex 0 (text ++ g) (due ++ [(.fin, [], (text ++ g).length)]) := by
  refine m.2 g _ (fun k t _ => fun c r e => stop_ws (hg c (by rw [e]; exact List.mem_cons_self))) ?_
  have h := Lex.gap (rest := []) g text.length hg (.nil _)
  rw [List.append_nil] at h
  rw [List.length_append]
  exact h
end K1
set_option Elab.async false
set_option linter.all false
set_option maxRecDepth 100000
set_option maxHeartbeats 2000000
namespace LX
open PySem PySem.W PySem.Spec PyProof.Rows L2 LamX NdefX
/-! an own exception over ValueError, with classes between or not, whose __init__ says super().__init__(x) first -/
section
variable {CX : CXT} {P : Program} {w : World} {K : PySem.W.Frag} {mg : Str → Option Value} {base : Heap} {k : Nat} {C f cc : Addr} {F : NF} {N ps : List Str} {sp : Sp}
/-- what the written part says of such a class at C and its __init__ at f -/
structure XInit (P : Program) (K : PySem.W.Frag) (mg : Str → Option Value) (C f cc : Addr) (F : NF) (N ps : List Str) (doc pm ctv : Value) : Prop where
  cls : OexC K C
  fn : ∃ oc od osl, K.lookup f = some ⟨oc, od, .func (F.fd doc pm ctv), osl⟩
  cod : PySem.W.codeIn K (.ref F.c) F.qual = true
  sc : NScope N ps ["__class__"] F.scope
  cl : F.cl = [(Str.ofString "__class__", cc)]
  cell : ∃ cl cld csl, K.lookup cc = some ⟨cl, cld, .cell (some (.ref C)), csl⟩
  code : ∃ ccl cdd vs ccs file tf, K.lookup F.c = some ⟨ccl, cdd, .fields vs, ccs⟩ ∧ vs[2]? = some (.str file tf) ∧ ((P.main.file : Str) == file) = true
  top : (P.main.scope.names.lookup ("super" : Str)).isSome = false
  sup : mg "super" = none
  glob : F.scope.names.lookup ("super" : Str) = some .globalImplicit
  third : PySem.W.nsIn K cStatics "thirdparty.any" = some none
  way : PySem.W.ks_superIn K C C "__init__" = some (some (.builtin "ValueError.__init__"))
  ve : PySem.W.subIn K (.ref C) (.type "ValueError") = some true
  own : PySem.W.mroIn K C (.ref C) = some true
  head : ∃ ar, (F.params.posonlyargs ++ F.params.args).head? = some ar ∧ N[0]? = some ar.arg ∧ ps[0]? = some ar.arg
/-- super().__init__(x): the reading's effect is nothing that is told -/
theorem super_init {doc pm ctv : Value} (T : XInit P K mg C f cc F N ps doc pm ctv) {A : Around} {outer : List Env} {s0 : Shared} {H0 : Hp} {E0 : XK} {H : Hp} {s : Shared} {σ : L2.St} {a : Addr} {x1 : Str} {y : V} {p0 p1 p2 p3 p5 : Pos} {pl : Sem Bool} {Q : Value → Shared → Prop} {Ex : Value → Shared → Prop}
    (hev : eval (.Call (.Attribute (.Call (.Name "super" p0) [] [] p1) "__init__" p2) [.Name x1 p5] [] p3) (envF F f s0.heap.objs.size) = (do
      let ov ← attributeBase (.Call (.Name "super" p0) [] [] p1) "__init__" (envF F f s0.heap.objs.size) (eval (.Call (.Name "super" p0) [] [] p1) (envF F f s0.heap.objs.size))
      standAt p2.atName
      let (g, first) ← holding [ov] (getMethod ov "__init__" pl)
      callWith p3 g first (backTo p3 (starEach [.Name x1 p5] (envF F f s0.heap.objs.size))) []))
    (I : Inv (ncx CX P w K mg base N F f A outer s0 H0 E0) [] σ H s) (h0 : σ[0]? = some (some (.ref a))) (h1 : σ[1]? = some (some y)) (n1 : N[1]? = some x1) (l1 : F.scope.names.lookup x1 = some .local) (l0 : ∀ x, N[0]? = some x → F.scope.names.lookup x = some .local) (d1 : (x1 == ("__debug__" : Str)) = false) (ea : H a = some (exo a C none))
    (q : ∀ s', Inv (ncx CX P w K mg base N F f A outer s0 H0 E0) [] σ H s' → Q .none s') :
    _root_.PySem.wpAt (model P w) (A.deeper (envF F f s0.heap.objs.size)) (.func F.body (envF F f s0.heap.objs.size)) (eval (.Call (.Attribute (.Call (.Name "super" p0) [] [] p1) "__init__" p2) [.Name x1 p5] [] p3) (envF F f s0.heap.objs.size)) Q Ex s := by
  have X : K.In s.heap := I.kIn
  obtain ⟨oc, od, osl, hf⟩ := T.fn
  obtain ⟨ccl, cdd, vs, ccs, file, tf, hc, hvs, hfile⟩ := T.code
  obtain ⟨kl, kld, csl, hcell⟩ := T.cell
  obtain ⟨ar, hp, hN0, hps0⟩ := T.head
  obtain ⟨m, hns, hloc⟩ := I.loc
  obtain ⟨mb, hb1, hb2⟩ := I.mod.blt
  obtain ⟨nm, qn, NS, bs, bm, sn, sub, ab, col, dd, k0, k1, k2, k3, k5, hC, hbm⟩ := T.cls.cls
  have look : ∀ (i : Nat) (x : Str) (v : V), N[i]? = some x → σ[i]? = some (some v) → F.scope.names.lookup x = some .local → ∃ u, L2.RelV v u ∧ m x = some u := fun i x v e1 e2 e3 => by
    obtain ⟨u, r, l | ⟨l, _⟩⟩ := hloc i x v e1 e2 (.inl e3)
    · exact ⟨u, r, l.2⟩
    · have l : F.scope.names.lookup x = some .cell ∨ F.scope.names.lookup x = some .free := l
      rw [e3] at l
      rcases l with l | l <;> cases l
  obtain ⟨u0, r0, m0⟩ := look 0 ar.arg (.ref a) hN0 h0 (l0 _ hN0)
  obtain rfl : u0 = Value.ref a := r0
  obtain ⟨u1, r1, m1⟩ := look 1 x1 y n1 h1 l1
  obtain ⟨t1, he⟩ := exo_at I.hok ea
  have hD1 := X _ _ hC
  refine ks_wpAt_MethodCall (pl := pl) ?_ hev
  refine ks_wpAt_super_base (env := envF F f s0.heap.objs.size) (attr := "__init__") T.glob (T.sc.frk _ (by simp)) (by decide) rfl (X _ _ hf) rfl hp rfl (X _ _ hc) rfl hvs hfile T.top ?_
  refine PySem.W.ks_loadName_global T.sc.kind T.glob (PySem.Calls.loadGlobal_builtin (env := envF F f s0.heap.objs.size) (I.mod.glob.keeps I.bk) T.sup (hb1.keeps I.bk) ((hb2 "super" (by decide)).trans PyProof.Rows.Boot.«super») ⟨rfl, ?_⟩)
  refine wpAny_loadName_free T.sc.kind (T.sc.frk _ (by simp)) (c := cc) (v := .ref C) (by show F.cl.lookup _ = _; rw [T.cl]; rfl) ⟨_, X _ _ hcell, rfl⟩ ?_
  refine wpAny_loadName_local T.sc.kind (l0 _ hN0) hns m0 ?_
  obtain ⟨hp', g, d, t, os⟩ := s
  refine ks_wpAny_isType_cls hD1 rfl ⟨rfl, ?_⟩
  refine ks_wpAny_call_super hD1 rfl he rfl (fun c z => by cases z) (PySem.W.looks_mroIn X T.own) fun h1 e1 kp1 => ?_
  have X1 : K.In h1 := X.keeps kp1
  have hne : a ≠ C := fun z => by rw [z] at he; rw [hD1] at he; cases he
  have hIa : PySem.W.InstAt h1 a { cls := .ref C, dict := none, data := .fields #[.ref t1, .none, .none, .none, .bool false, .none] } C none := ⟨kp1 _ _ he, rfl, rfl, trivial⟩
  have hI : PySem.W.Looks (model P w) h1 (isInstance (.ref a) (.type "ValueError")) true := hIa.type.andThen (PySem.W.looks_subIn X1 T.ve)
  obtain ⟨cd, hcd, hal⟩ := Option.bind_eq_some_iff.mp (show (PySem.W.clsIn K C).bind (fun cd => PySem.W.alongIn K "__init__" ((cd.mro.dropWhile (· != .ref C)).drop 1)) = some (some (.builtin "ValueError.__init__")) from T.way)
  refine PySem.W.kxs_getMethod PySem.W.kxs_ValueError e1 (PySem.W.looks_opaque X1 T.third) (l₀ := cd.mro) (fun A Q E s k q => wpAny_bind ((PySem.W.looks_clsIn X1 hcd) A _ E s k (wpAny_pure q))) rfl X1 hal hI hne (by decide) ?_
  have kp2 : ∀ b o, hp'.get? b = some o → (h1.push (PySem.W.kxs_mw "ValueError.__init__" a)).get? b = some o := fun b o z => Heap.get?_push_of_some _ (kp1 b o z)
  have hu : (h1.push (PySem.W.kxs_mw "ValueError.__init__" a)).get? h1.objs.size = some (PySem.W.kxs_mw "ValueError.__init__" a) := Heap.get?_push_size _ rfl
  refine PySem.W.kxs_callWith (i := "ValueError.__init__") (x := a) (by rfl) ?_
  refine PySem.Calls.evalArgs_plain ?_
  refine args_cons (env := envF F f s0.heap.objs.size) (e := .Name x1 p5) (rest := []) (wpAny_Name (wpAny_loadName_local T.sc.kind l1 (hns.keeps kp2) m1 (args_nil ⟨hu, ?_⟩)) d1)
  have he2 := kp2 _ _ he
  have hC2 := kp2 _ _ hD1
  have I2 := I.kept (t' := t + 1) kp2
  have FB := PySem.F.excBase_ValueError
  have fin : ∀ h' : Heap, (∀ b o, b ≠ a → (h1.push (PySem.W.kxs_mw "ValueError.__init__" a)).get? b = some o → h'.get? b = some o) → (∃ t2 : Addr, h'.get? a = some { cls := .ref C, dict := none, data := .fields #[.ref t2, .none, .none, .none, .bool false, .none] }) → Q .none ⟨h', g, d, t + 1, os⟩ := fun h' k ⟨t2, hx⟩ => by
    have J := I2.write (t' := t + 1) (x := a) (e := a) (o := exo a C none) (by rw [ea]; exact True.intro) (.inl rfl) k ⟨_, hx⟩ (exo_ok hx)
    have eu : upd H a (exo a C none) = H := by
      funext b
      by_cases hb : b = a
      · rw [hb, upd_same, ea]
      · rw [upd_ne hb]
    rw [eu] at J
    exact q _ J
  refine wpAny_call (codeAny_of_tree ?_)
  show wpAny _ _ (callAny (.ref h1.objs.size) ⟨[u1], []⟩) _ _ _
  simp only [callAny]
  refine wpAny_bind (wpAny_load hu ?_)
  simp only [PySem.W.kxs_mw, show (Value.type "method-wrapper" == Value.type "method" || Value.type "method-wrapper" == Value.type "builtin_function_or_method" || Value.type "method-wrapper" == Value.type "method-wrapper") = true by decide, if_true]
  refine PySem.W.KFB.if_so (by decide) ?_
  refine wpAny_bind (PySem.W.check_bound_init FB.toExcCallFacts hC2 he2 rfl ?_)
  refine wpAny_bind (wpAny_pure (wpAny_pure ?_))
  refine ⟨plainId_quiet FB.init.plain _, codeAny_builtin FB.initEntry ?_⟩
  exact exc_init_tree (cls := .ref C) (t0 := t1) (dv := none) (c2 := .none) (c3 := .none) (b4 := .bool false) he2 (by rw [sizeLine_eq]; simp) fun h' k e' _ => fin h' k ⟨_, e'⟩
/-- the def __init__ of such a class -/
theorem fn_init {doc pm ctv : Value} (T : XInit P K mg C f cc F N ps doc pm ctv) {x1 : Str} {rest : List Stmt} {p0 p1 p2 p3 p4 p5 : Pos} {pl : Sem Bool} (len : ∀ vs H Q E, sp vs H Q E → vs.length = ps.length)
    (hb : F.body = .Expr (.Call (.Attribute (.Call (.Name "super" p0) [] [] p1) "__init__" p2) [.Name x1 p5] [] p3) p4 :: rest)
    (hev : ∀ L : Addr, eval (.Call (.Attribute (.Call (.Name "super" p0) [] [] p1) "__init__" p2) [.Name x1 p5] [] p3) (envF F f L) = (do
      let ov ← attributeBase (.Call (.Name "super" p0) [] [] p1) "__init__" (envF F f L) (eval (.Call (.Name "super" p0) [] [] p1) (envF F f L))
      standAt p2.atName
      let (g, first) ← holding [ov] (getMethod ov "__init__" pl)
      callWith p3 g first (backTo p3 (starEach [.Name x1 p5] (envF F f L))) []))
    (hsw : ∀ L : Addr, swapsWith (.Call (.Attribute (.Call (.Name "super" p0) [] [] p1) "__init__" p2) [.Name x1 p5] [] p3) none p4.line (envF F f L) = pure false)
    (n1 : N[1]? = some x1) (l1 : F.scope.names.lookup x1 = some .local) (l0 : ∀ x, N[0]? = some x → F.scope.names.lookup x = some .local) (d1 : (x1 == ("__debug__" : Str)) = false)
    (hbody : ∀ (A : Around) (outer : List Env) (s : Shared) (H : Hp) (vs : List V) (Q : VK) (E : XK), Room k (A.deeper (envF F f s.heap.objs.size)) → sp vs H Q E → ∃ (a : Addr) (y : V) (t : TS), vs[0]? = some (.ref a) ∧ vs[1]? = some y ∧ H a = some (exo a C none) ∧
      PSs (ncx CX P w K mg base N F f A outer s H E) rest t ∧ t { nx := fun _ H' => Q .non H', rt := Q } (startF N vs [some (.ref C)]) H) :
    FnOk P w K mg base CX (k + 1) f (F.fd doc pm ctv) ps sp := by
  refine ⟨len, fun A outer s H args us vs Q E hr e0 hbi rv hsp => ?_⟩
  have hl := len _ _ _ _ hsp
  have inK : K.In s.heap := e0.mod.kin.keeps fun b o z => (e0.bs b o z).1
  have lim : s.heap.NoLimit := e0.mod.nolimit.keeps fun b o e => (e0.bs b o e).1
  obtain ⟨oc, od, osl, hf⟩ := T.fn
  obtain ⟨kl, kld, csl, hcell⟩ := T.cell
  refine ks_codeAny_call_defAt (fd := F.fd doc pm ctv) (body := F.body) (binds := ps.zip us) hr.depth (inK _ _ hf) rfl lim (PySem.W.codeRec_of inK T.cod) rfl hbi T.sc.nocell (fun ⟨n, _⟩ hy => T.sc.par n (List.of_mem_zip hy).1) (fun h₀ hns kp => ?_) T.sc.co T.sc.gen T.sc.kind
  show _root_.PySem.wpAt (model P w) (A.deeper (envF F f s.heap.objs.size)) (.func F.body (envF F f s.heap.objs.size)) (execs F.body (envF F f s.heap.objs.size)) _ _ _
  have hcl := T.cl
  have cells : CellsAt F.cl ["__class__"] [some (.ref C)] s.heap H := by
    have one : ∀ y c, F.cl.lookup y = some c → y = Str.ofString "__class__" ∧ c = cc := fun y c e => by
      rw [hcl, List.lookup_cons] at e
      split at e
      · rename_i z
        cases e
        exact ⟨eq_of_beq z, rfl⟩
      · cases e
    have hc0 : s.heap.get? cc = some ⟨kl, kld, .cell (some (.ref C)), csl⟩ ∧ H cc = none := e0.bs _ _ (e0.mod.kin _ _ hcell)
    refine ⟨rfl, fun y c e => ?_, fun x y c e1 e2 => (one x c e1).1.trans (one y c e2).1.symm, fun i y e => ?_⟩
    · rw [(one y c e).2]
      exact ⟨hc0.2, _, _, hc0.1, rfl⟩
    · cases i with
      | zero =>
        cases e
        exact ⟨cc, by rw [hcl]; rfl, fun v ev => by cases ev; exact ⟨.ref C, rfl, _, hc0.1, rfl⟩⟩
      | succ i => simp at e
  have I : L2.Inv (ncx CX P w K mg base N F f A outer s H E) [] (startF N vs [some (.ref C)]) H { s with heap := h₀, toks := s.toks + (ps.zip us).length } := inv_startN T.sc hr.hd e0 hl rv cells hns kp
  obtain ⟨a, y, t, v0, v1, ea, ht, hq⟩ := hbody A outer s H vs Q E (hr.deeper _) hsp
  have st : ∀ (i : Nat) (v : V), vs[i]? = some v → (startF N vs [some (.ref C)])[i]? = some (some v) := fun i v e => by
    unfold startF
    rw [List.getElem?_append_left (by rw [List.length_map]; exact (List.getElem?_eq_some_iff.mp e).1), List.getElem?_map, e]; rfl
  rw [show execs F.body (envF F f s.heap.objs.size) = execs (.Expr (.Call (.Attribute (.Call (.Name "super" p0) [] [] p1) "__init__" p2) [.Name x1 p5] [] p3) p4 :: rest) (envF F f s.heap.objs.size) from by rw [hb]]
  have hint : interactive (envF F f s.heap.objs.size) = false := by
    show (F.scope.kind == .module && _) = false
    rw [T.sc.kind]; rfl
  refine ks_wpAt_execs_cons (ks_wpAt_Expr_any (super_init T (hev _) I (st 0 _ v0) (st 1 _ v1) n1 l1 l0 d1 ea fun s' J => ?_) hint (hsw _))
  show _root_.PySem.wpAt _ _ _ (execs rest _) _ _ _
  refine wpAt_of_wpAny (wpAny_mono (ht.run [] s' (startF N vs [some (.ref C)]) H _ J hq) (fun fl s' hs => ?_) fun e s' hs => hs)
  have fin : ∀ {σ' : L2.St} {H' : Hp} {v : V} {u : Value}, L2.Inv (ncx CX P w K mg base N F f A outer s H E) [] σ' H' s' → L2.RelV v u → Q v H' → CE outer P w H s Q u s' :=
    fun {σ' H' v u} J rv q => ⟨v, H', J.os, J.bare, J.base, J.hok, rv, q⟩
  cases fl with
  | ret u =>
    obtain ⟨v, σ', H', J, rv, q⟩ := hs
    exact fin J rv q
  | next =>
    obtain ⟨σ', H', J, q⟩ := hs
    exact fin (v := V.non) (u := Value.none) J rfl q
  | brk =>
    obtain ⟨_, _, _, q⟩ := hs
    exact False.elim q
  | cont =>
    obtain ⟨_, _, _, q⟩ := hs
    exact False.elim q
end
end LX
set_option Elab.async false
set_option linter.all false
set_option maxRecDepth 100000
set_option maxHeartbeats 2000000
namespace LX
open PySem PySem.W PySem.Spec PyProof.Rows L2
/-! isinstance of a caught error that has a field: ExcIs's rule asks for an error without a dict, this one for one with -/
def rIsX (K : PySem.W.Frag) (C a : Addr) (cls : Value) (d : Option Addr) : List V → Hp → VK → Prop := fun xs H Q => ∃ (c : V) (cv : Value) (b : Bool) (dd : Addr) (fs : List (Str × V)), xs = [.ref a, c] ∧ cls = .ref C ∧ d = some dd ∧ H dd = some (.xd fs) ∧
  (∀ u, RelV c u → u = cv) ∧ PySem.W.kitOne K (.ref C) cv = some b ∧ Q (.bl b) H
theorem call_isX {X : Cx} {a C : Addr} {oe : Obj} {cls : Value} {d : Option Addr} {pn : List (Addr × Obj)} (T : ExcC X.K C) (hz : Zc cls d oe) (hf : ∃ vs, oe.data = .fields vs) :
    CallR (X.suite a ((a, oe) :: pn)) (.builtin "isinstance") (rIsX X.K C a cls d) := by
  rintro pins s σ H xs us Q I r ⟨c, cv, b, dd, fs, rfl, rfl, rfl, ed, hcv, e, q⟩
  obtain ⟨ha, _⟩ := I.pin (a, oe) (List.mem_append_left _ List.mem_cons_self)
  obtain ⟨vs, hd⟩ := hf
  obtain ⟨mA, hns, _⟩ : ObjOk X.prog X.w H s.heap dd (.xd fs) := I.hok dd _ ed
  obtain ⟨od, ho, _⟩ := lookIn_ns hns
  have J : PySem.W.InstAt s.heap a oe C (some od) := ⟨ha, hz.1, by unfold PySem.W.notCls; rw [hd] <;> rfl, by rw [hz.2]; exact ho⟩
  have hcl : (PySem.W.clsIn X.K C).isSome = true := by
    obtain ⟨cd, hc, _⟩ := PySem.W.any_some T.hd
    rw [hc]; rfl
  match us, r with
  | [_, u], .cons rx (.cons rt .nil) =>
    cases rx
    rw [hcv _ rt]
    exact PySem.W.kia_one (PySem.W.kitx_exc (od := some od) hcl T.hg T.hk T.hs T.ha T.hn T.ht T.hm) I.kIn J e (fun z => nomatch z) fun tk => ⟨.bl b, H, I.kept (t' := tk) fun _ _ z => z, rfl, q⟩
end LX
set_option Elab.async false
set_option linter.all false
set_option maxRecDepth 100000
set_option maxHeartbeats 2000000
namespace LX
open PySem PySem.Spec PyProof.Rows L2 SX C8
/-! a text of one character, several times -/
theorem fold_rep (c : Nat) : ∀ (n : Nat) (acc : Array Nat), (List.replicate n #[c]).foldl (· ++ ·) acc = acc ++ (List.replicate n c).toArray
  | 0, acc => by simp
  | n + 1, acc => by
    rw [List.replicate_succ, List.foldl_cons, fold_rep c n]
    apply Array.ext'
    simp [List.replicate_succ]
theorem op_rep1 {X : Cx} : OpR X (binaryOp .Mult) (fun x y H Q => ∃ c n : Nat, x = .str (S [c]) ∧ y = .int n ∧ 1 < n ∧ n ≤ 10000 ∧ Q (.str (S (List.replicate n c))) H) := by
  rintro pins s σ H x y v u Q I rx ry ⟨c, n, rfl, rfl, h1, h2, q⟩
  obtain ⟨t, rfl⟩ := rx
  obtain ⟨t', rfl⟩ := ry
  have hL : (S [c]).length = 1 := rfl
  have n1 : ¬ ((n : Int) < 1) := by omega
  have n2 : ((n : Int) == 1 || (S [c]).length == 0) = false := by
    rw [hL, Bool.or_eq_false_iff]
    exact ⟨by rw [beq_eq_false_iff_ne]; omega, rfl⟩
  refine PySem.P.mul_str ?_ (fun _ _ => ?_) (fun _ _ => ?_) ?_
  · rw [Bool.or_eq_false_iff]
    exact ⟨decide_eq_false (by omega), decide_eq_false (by omega)⟩
  · rw [hL]
    have h3 : (2 : Int) ≤ (2 ^ 63 - 1) / n := (Int.le_ediv_iff_mul_le (by omega)).mpr (by omega)
    omega
  · rw [hL]
    unfold Builtin.Str.tooLong
    exact decide_eq_false (by rw [sizeLine_eq]; show ¬ 1 * n > 16777216; omega)
  · rw [if_neg n1, if_neg (by rw [n2]; exact Bool.false_ne_true)]
    have e : (⟨(List.replicate (n : Int).toNat (S [c]).cps).foldl (· ++ ·) #[]⟩ : Str) = S (List.replicate n c) := by
      show (⟨(List.replicate n #[c]).foldl (· ++ ·) #[]⟩ : Str) = ⟨(List.replicate n c).toArray⟩
      rw [fold_rep]
      simp
    rw [e]
    exact ⟨by rw [S_len, List.length_replicate, sizeLine_eq]; omega, .str _, H, I.tok _, ⟨_, rfl⟩, q⟩
end LX
set_option Elab.async false
set_option maxRecDepth 100000
set_option maxHeartbeats 4000000
namespace K2
open PySem L2 C8 SX K1
def top (i : Nat) : Stmt := PySem.Challenge.pw_stablepapers_k02_characters_that_belong.main.body.getD i (.Pass ⟨0, 0, 0, 0⟩)
abbrev s_is_lower : Stmt := top 9
abbrev s_is_upper : Stmt := top 10
abbrev s_is_digit : Stmt := top 11
abbrev s_is_word : Stmt := top 12
abbrev s_word_at : Stmt := top 13
abbrev s_integer_at : Stmt := top 14
abbrev s_sign_at : Stmt := top 15
abbrev s_token_at : Stmt := top 16
abbrev s_tokens : Stmt := top 17
abbrev N_is_lower : List Str := ["char"]
abbrev N_word_at : List Str := ["text", "at", "end"]
abbrev N_sign_at : List Str := ["text", "at", "sign"]
abbrev N_token_at : List Str := ["text", "at", "char"]
abbrev N_tokens : List Str := ["text", "found", "at", "token"]
theorem sc_is_lower : FnScope N_is_lower ["char"] (fnScope s_is_lower) := fnScope_by (by decide +kernel)
theorem sc_is_upper : FnScope N_is_lower ["char"] (fnScope s_is_upper) := fnScope_by (by decide +kernel)
theorem sc_is_digit : FnScope N_is_lower ["char"] (fnScope s_is_digit) := fnScope_by (by decide +kernel)
theorem sc_is_word : FnScope N_is_lower ["char"] (fnScope s_is_word) := fnScope_by (by decide +kernel)
theorem sc_word_at : FnScope N_word_at ["text", "at"] (fnScope s_word_at) := fnScope_by (by decide +kernel)
theorem sc_integer_at : FnScope N_word_at ["text", "at"] (fnScope s_integer_at) := fnScope_by (by decide +kernel)
theorem sc_sign_at : FnScope N_sign_at ["text", "at"] (fnScope s_sign_at) := fnScope_by (by decide +kernel)
theorem sc_token_at : FnScope N_token_at ["text", "at"] (fnScope s_token_at) := fnScope_by (by decide +kernel)
theorem sc_tokens : FnScope N_tokens ["text"] (fnScope s_tokens) := fnScope_by (by decide +kernel)
/-- a def of the top without defaults -/
def Has (K : PySem.W.Frag) (mg : Str → Option Value) (x : Str) (st : Stmt) : Prop := ∃ f fd, Def K mg x st f fd ∧ fd.defaults = .none
structure Txt (K : PySem.W.Frag) (mg : Str → Option Value) (aS : Addr) : Prop where
  is_lower : Has K mg "is_lower" s_is_lower
  is_upper : Has K mg "is_upper" s_is_upper
  is_digit : Has K mg "is_digit" s_is_digit
  is_word : Has K mg "is_word" s_is_word
  word_at : Has K mg "word_at" s_word_at
  integer_at : Has K mg "integer_at" s_integer_at
  sign_at : Has K mg "sign_at" s_sign_at
  token_at : Has K mg "token_at" s_token_at
  tokens : Has K mg "tokens" s_tokens
  b_len : mg "len" = none
  g_LONGEST_TEXT : ∃ u, mg "LONGEST_TEXT" = some u ∧ RelV (.int 4000) u
  g_LONGEST_WORD : ∃ u, mg "LONGEST_WORD" = some u ∧ RelV (.int 20) u
  g_LONGEST_INTEGER : ∃ u, mg "LONGEST_INTEGER" = some u ∧ RelV (.int 4) u
  g_SIGNS : ∃ u, mg "SIGNS" = some u ∧ RelV (.ref aS) u
  t_SIGNS : ∀ H, SqT K H aS (sigs.map fun g => V.str (S g))
theorem sz {n : Nat} (h : n ≤ 4000) : n ≤ sizeLine := Nat.le_trans h (by decide)
theorem S_len4 {l : List Nat} (h : l.length ≤ 4000) : (S l).length ≤ sizeLine := by rw [S_len]; exact sz h
theorem le_sign {a c : Nat} {x : Str} (hx : x.cps.toList = [a]) : (!decide ((S [c]).cps.toList < x.cps.toList)) = decide (a ≤ c) := by
  have : (S [c]).cps.toList = [c] := rfl
  rw [this, hx]
  simp [List.cons_lt_cons_iff]
  rw [← decide_not]
  exact decide_eq_decide.mpr (by omega)
theorem sign_le {a c : Nat} {x : Str} (hx : x.cps.toList = [a]) : (!decide (x.cps.toList < (S [c]).cps.toList)) = decide (c ≤ a) := by
  have : (S [c]).cps.toList = [c] := rfl
  rw [this, hx]
  simp [List.cons_lt_cons_iff]
  rw [← decide_not]
  exact decide_eq_decide.mpr (by omega)
theorem eq_sign {a c : Nat} {x : Str} (hx : x = S [a]) : decide (V.str (S [c]) = V.str x) = decide (c = a) := by
  subst hx
  by_cases h : c = a
  · subst h; simp
  · rw [decide_eq_false h, decide_eq_false]
    intro z
    exact h (List.cons.inj (S_inj (V.str.inj z))).1
theorem at_nat {l : List Nat} {p c : Nat} (h : l[p]? = some c) : atI (S l).cps.toList (p : Int) = some c := atI_nat h
theorem cut_nat (l : List Nat) {a b : Nat} (ha : a ≤ l.length) (hb : b ≤ l.length) : cutS (S l) (some (a : Int)) (some (b : Int)) = S ((l.drop a).take (b - a)) := by
  unfold cutS
  rw [S_len, HT.sIx_nat, HT.sIx_nat, Nat.min_eq_left ha, Nat.min_eq_left hb]
def spChar (f : Nat → Bool) : Sp := fun vs H Q _ => ∃ c, vs = [.str (S [c])] ∧ Q (.bl (f c)) H
section
variable {P : Program} {w : World} {K : PySem.W.Frag} {mg : Str → Option Value} {base : Heap} {aS : Addr}
theorem ok_is_lower (T : Txt K mg aS) : Cal P w K mg base 1 "is_lower" (spChar isLower) [] := by
  obtain ⟨f, fd, F, df⟩ := T.is_lower
  refine cal0 (ps := ["char"]) F (F.fn.binds df fun _ _ _ _ _ _ us hl => match us, hl with | [_], _ => rfl) .nil sc_is_lower (fun vs H Q E h => ?_) (fun cdv A outer s H vs Q E hr h => ?_)
  · obtain ⟨c, rfl, _⟩ := h; rfl
  · obtain ⟨c, rfl, k⟩ := h
    refine ⟨_, (pss_one (ps_ret (pe_chain op_le_str op_le_str pe_str (pv 0) pe_str))), ?_⟩
    refine ⟨_, rfl, _, _, rfl, rfl, _, rfl, ?_⟩
    rw [le_sign (a := 97) (by decide +kernel)]
    refine ite2 (fun h => ?_) (fun h => ?_)
    · refine ⟨_, _, rfl, rfl, ?_⟩
      rw [sign_le (a := 122) (by decide +kernel)]
      unfold isLower at k; rw [h, Bool.true_and] at k; exact k
    · rw [Bool.not_eq_true] at h; unfold isLower at k; rw [h, Bool.false_and] at k; exact k
theorem ok_is_upper (T : Txt K mg aS) : Cal P w K mg base 1 "is_upper" (spChar isUpper) [] := by
  obtain ⟨f, fd, F, df⟩ := T.is_upper
  refine cal0 (ps := ["char"]) F (F.fn.binds df fun _ _ _ _ _ _ us hl => match us, hl with | [_], _ => rfl) .nil sc_is_upper (fun vs H Q E h => ?_) (fun cdv A outer s H vs Q E hr h => ?_)
  · obtain ⟨c, rfl, _⟩ := h; rfl
  · obtain ⟨c, rfl, k⟩ := h
    refine ⟨_, (pss_one (ps_ret (pe_chain op_le_str op_le_str pe_str (pv 0) pe_str))), ?_⟩
    refine ⟨_, rfl, _, _, rfl, rfl, _, rfl, ?_⟩
    rw [le_sign (a := 65) (by decide +kernel)]
    refine ite2 (fun h => ?_) (fun h => ?_)
    · refine ⟨_, _, rfl, rfl, ?_⟩
      rw [sign_le (a := 90) (by decide +kernel)]
      unfold isUpper at k; rw [h, Bool.true_and] at k; exact k
    · rw [Bool.not_eq_true] at h; unfold isUpper at k; rw [h, Bool.false_and] at k; exact k
theorem ok_is_digit (T : Txt K mg aS) : Cal P w K mg base 1 "is_digit" (spChar isDigit) [] := by
  obtain ⟨f, fd, F, df⟩ := T.is_digit
  refine cal0 (ps := ["char"]) F (F.fn.binds df fun _ _ _ _ _ _ us hl => match us, hl with | [_], _ => rfl) .nil sc_is_digit (fun vs H Q E h => ?_) (fun cdv A outer s H vs Q E hr h => ?_)
  · obtain ⟨c, rfl, _⟩ := h; rfl
  · obtain ⟨c, rfl, k⟩ := h
    refine ⟨_, (pss_one (ps_ret (pe_chain op_le_str op_le_str pe_str (pv 0) pe_str))), ?_⟩
    refine ⟨_, rfl, _, _, rfl, rfl, _, rfl, ?_⟩
    rw [le_sign (a := 48) (by decide +kernel)]
    refine ite2 (fun h => ?_) (fun h => ?_)
    · refine ⟨_, _, rfl, rfl, ?_⟩
      rw [sign_le (a := 57) (by decide +kernel)]
      unfold isDigit at k; rw [h, Bool.true_and] at k; exact k
    · rw [Bool.not_eq_true] at h; unfold isDigit at k; rw [h, Bool.false_and] at k; exact k
theorem ok_is_word (T : Txt K mg aS) (c_is_lower : Cal P w K mg base 1 "is_lower" (spChar isLower) []) (c_is_upper : Cal P w K mg base 1 "is_upper" (spChar isUpper) []) (c_is_digit : Cal P w K mg base 1 "is_digit" (spChar isDigit) []) :
    Cal P w K mg base 2 "is_word" (spChar isWord) [] := by
  obtain ⟨f, fd, F, df⟩ := T.is_word
  refine cal0 (ps := ["char"]) F (F.fn.binds df fun _ _ _ _ _ _ us hl => match us, hl with | [_], _ => rfl) .nil sc_is_word (fun vs H Q E h => ?_) (fun cdv A outer s H vs Q E hr h => ?_)
  · obtain ⟨c, rfl, _⟩ := h; rfl
  · obtain ⟨c, rfl, k⟩ := h
    refine ⟨_, (pss_one (ps_ret (pe_or (pe_c c_is_lower hr (by decide) rfl (pa_cons (pv 0) pa_nil)) (pe_or (pe_c c_is_upper hr (by decide) rfl (pa_cons (pv 0) pa_nil)) (pe_or (pe_c c_is_digit hr (by decide) rfl (pa_cons (pv 0) pa_nil)) (pe_one (pe_cmpR op_eq (pv 0) pe_str (nomark _)))))))), ?_⟩
    refine ⟨_, rfl, _, rfl, _, rfl, ite2 (fun h1 => ?_) (fun h1 => ?_)⟩
    · unfold isWord at k; rw [h1, Bool.true_or, Bool.true_or, Bool.true_or] at k; exact k
    refine ⟨_, rfl, _, rfl, _, rfl, ite2 (fun h2 => ?_) (fun h2 => ?_)⟩
    · unfold isWord at k; rw [h2, Bool.or_true, Bool.true_or, Bool.true_or] at k; exact k
    refine ⟨_, rfl, _, rfl, _, rfl, ite2 (fun h3 => ?_) (fun h3 => ?_)⟩
    · unfold isWord at k; rw [h3, Bool.or_true, Bool.true_or] at k; exact k
    refine ⟨_, rfl, rfl, ?_⟩
    rw [Bool.not_eq_true] at h1 h2 h3
    unfold isWord at k; rw [h1, h2, h3, Bool.false_or, Bool.false_or, Bool.false_or] at k
    have e : decide (V.str (S [c]) = V.str (Str.ofString "_")) = decide (c = 95) := by
      have e0 : Str.ofString "_" = S [95] := by decide +kernel
      rw [e0]
      by_cases h : c = 95
      · subst h; simp
      · rw [decide_eq_false h, decide_eq_false]
        intro z
        have z1 := V.str.inj z
        have z2 := S_inj z1
        exact h (List.cons.inj z2).1
    rw [e]; exact k
def spRun (g : List Nat → Nat → List Nat) : Sp := fun vs H Q _ => ∃ (l : List Nat) (p : Nat), vs = [.str (S l), .int p] ∧ l.length ≤ 4000 ∧ p < l.length ∧ Q (.str (S (g l p))) H
theorem ok_word_at (T : Txt K mg aS) (c_is_word : Cal P w K mg base 2 "is_word" (spChar isWord) []) :
    Cal P w K mg base 3 "word_at" (spRun fun l p => (l.drop p).take (wordLen (l.drop (p + 1)))) [] := by
  obtain ⟨f, fd, F, df⟩ := T.word_at
  refine cal0 (ps := ["text", "at"]) F (F.fn.binds df fun _ _ _ _ _ _ us hl => match us, hl with | [_, _], _ => rfl) .nil sc_word_at (fun vs H Q E h => ?_) (fun cdv A outer s H vs Q E hr h => ?_)
  · obtain ⟨l, p, rfl, _⟩ := h; rfl
  · obtain ⟨l, p, rfl, hl, hp, k⟩ := h
    refine ⟨_, (pss_cons (ps_set (i := 2) sc_word_at.nd rfl (Or.inl rfl) (pe_op op_add (pv 1) pe_int))
      (pss_cons (ps_while PassesOwn.never (PW.pt (pw_and (pt_cmpR op_lt (pv 2) (pe_callB call_len_str (by rfl) T.b_len PySem.boot_len (pa_cons (pv 0) pa_nil)) (nomark _)) (pw_and (pt_cmpR op_lt (pe_op op_sub (pv 2) (pv 1)) (pe_gc rfl T.g_LONGEST_WORD) (nomark _)) (pw_and1 (pt_val (pe_c c_is_word hr (by decide) rfl (pa_cons (pe_ix ix_str (pv 0) (pv 2) (fun _ _ => rfl)) pa_nil)))))))
        (pss_one (ps_aug (i := 2) sc_word_at.nd rfl (Or.inl rfl) pe_int ip_add)))
      (pss_one (ps_ret (pe_slice sl_str (pv 0) (po_some (pv 1)) (po_some (pv 2))))))), ?_⟩
    refine ⟨_, rfl, _, _, rfl, rfl, ?_⟩
    have hR := run_le isWord 19 (l.drop (p + 1))
    have hD : (l.drop (p + 1)).length = l.length - (p + 1) := List.length_drop
    refine ⟨fun m σ H' => ∃ j : Nat, H' = H ∧ σ = [some (.str (S l)), some (.int p), some (.int (p + 1 + j : Nat))] ∧ j ≤ run isWord 19 (l.drop (p + 1)) ∧ m = run isWord 19 (l.drop (p + 1)) - j,
      ⟨_, 0, rfl, rfl, Nat.zero_le _, rfl⟩, ?_⟩
    rintro m σ H' ⟨j, rfl, rfl, hj, rfl⟩
    have hat := run_at isWord 19 (l.drop (p + 1)) j hj
    rw [List.getElem?_drop] at hat
    have out : ∀ (hx : ¬ j < run isWord 19 (l.drop (p + 1))), Q (V.str (cutS (S l) (some (p : Int)) (some ((p + 1 + j : Nat) : Int)))) H' := fun hx => by
      have ej : j = run isWord 19 (l.drop (p + 1)) := by omega
      rw [cut_nat l (by omega) (by omega), show p + 1 + j - p = wordLen (l.drop (p + 1)) by unfold wordLen; omega]
      exact k
    refine ⟨_, rfl, _, rfl, _, rfl, S_len4 hl, _, _, rfl, rfl, _, rfl, ite2 (fun h1 => ?_) (fun h1 => ?_)⟩
    · rw [decide_eq_true_eq, S_len] at h1
      have h1' : p + 1 + j < l.length := by omega
      refine ⟨_, rfl, _, rfl, _, _, rfl, rfl, _, _, rfl, rfl, _, rfl, ite2 (fun h2 => ?_) (fun h2 => ?_)⟩
      · rw [decide_eq_true_eq] at h2
        have hc : l[p + 1 + j]? = some l[p + 1 + j] := List.getElem?_eq_getElem h1'
        refine ⟨_, rfl, _, rfl, _, _, _, rfl, rfl, S_len4 hl, at_nat hc, _, rfl, _, rfl, ?_⟩
        refine ite2 (fun h3 => ?_) (fun h3 => ?_)
        · have hlt : j < run isWord 19 (l.drop (p + 1)) := hat.mpr ⟨by omega, _, hc, h3⟩
          refine ⟨_, fun _ _ h => h, ?_⟩
          refine ⟨_, rfl, _, _, rfl, rfl, ?_⟩
          exact ⟨run isWord 19 (l.drop (p + 1)) - (j + 1), by omega, j + 1, rfl, rfl, hlt, rfl⟩
        · refine ⟨_, rfl, _, rfl, _, rfl, _, rfl, _, rfl, _, rfl, S_len4 hl, ?_⟩
          refine out fun hx => ?_
          obtain ⟨_, c, hc', hf⟩ := hat.mp hx
          rw [hc] at hc'; cases hc'; exact h3 hf
      · rw [decide_eq_true_eq] at h2
        refine iteF ⟨_, rfl, _, rfl, _, rfl, _, rfl, _, rfl, _, rfl, S_len4 hl, ?_⟩
        exact out fun hx => by omega
    · rw [decide_eq_true_eq, S_len] at h1
      refine iteF ⟨_, rfl, _, rfl, _, rfl, _, rfl, _, rfl, _, rfl, S_len4 hl, ?_⟩
      exact out fun hx => by omega
theorem ok_integer_at (T : Txt K mg aS) (c_is_digit : Cal P w K mg base 1 "is_digit" (spChar isDigit) []) :
    Cal P w K mg base 3 "integer_at" (spRun fun l p => (l.drop p).take (intLen (l.getD p 0) (l.drop (p + 1)))) [] := by
  obtain ⟨f, fd, F, df⟩ := T.integer_at
  refine cal0 (ps := ["text", "at"]) F (F.fn.binds df fun _ _ _ _ _ _ us hl => match us, hl with | [_, _], _ => rfl) .nil sc_integer_at (fun vs H Q E h => ?_) (fun cdv A outer s H vs Q E hr h => ?_)
  · obtain ⟨l, p, rfl, _⟩ := h; rfl
  · obtain ⟨l, p, rfl, hl, hp, k⟩ := h
    refine ⟨_, (pss_cons (ps_if (pt_cmpR op_eq (pe_ix ix_str (pv 0) (pv 1) (fun _ _ => rfl)) pe_str (nomark _))
        (pss_one (ps_ret pe_str))
        pss_nil)
      (pss_cons (ps_set (i := 2) sc_integer_at.nd rfl (Or.inl rfl) (pe_op op_add (pv 1) pe_int))
      (pss_cons (ps_while PassesOwn.never (PW.pt (pw_and (pt_cmpR op_lt (pv 2) (pe_callB call_len_str (by rfl) T.b_len PySem.boot_len (pa_cons (pv 0) pa_nil)) (nomark _)) (pw_and (pt_cmpR op_lt (pe_op op_sub (pv 2) (pv 1)) (pe_gc rfl T.g_LONGEST_INTEGER) (nomark _)) (pw_and1 (pt_val (pe_c c_is_digit hr (by decide) rfl (pa_cons (pe_ix ix_str (pv 0) (pv 2) (fun _ _ => rfl)) pa_nil)))))))
        (pss_one (ps_aug (i := 2) sc_integer_at.nd rfl (Or.inl rfl) pe_int ip_add)))
      (pss_one (ps_ret (pe_slice sl_str (pv 0) (po_some (pv 1)) (po_some (pv 2)))))))), ?_⟩
    have hc0 : l[p]? = some l[p] := List.getElem?_eq_getElem hp
    have hg : l.getD p 0 = l[p] := by rw [List.getD_eq_getElem?_getD, hc0, Option.getD_some]
    dsimp only at k
    rw [hg] at k
    refine ⟨_, rfl, _, rfl, _, _, _, rfl, rfl, S_len4 hl, at_nat hc0, rfl, _, rfl, ?_⟩
    rw [eq_sign (a := 48) (by decide +kernel)]
    refine ite2 (fun h0 => ?_) (fun h0 => ?_)
    · rw [decide_eq_true_eq] at h0
      unfold intLen at k
      rw [if_pos h0, List.drop_eq_getElem_cons hp, h0] at k
      exact k
    rw [decide_eq_true_eq] at h0
    unfold intLen at k
    rw [if_neg h0] at k
    refine ⟨_, rfl, _, _, rfl, rfl, ?_⟩
    have hR := run_le isDigit 3 (l.drop (p + 1))
    have hD : (l.drop (p + 1)).length = l.length - (p + 1) := List.length_drop
    refine ⟨fun m σ H' => ∃ j : Nat, H' = H ∧ σ = [some (.str (S l)), some (.int p), some (.int (p + 1 + j : Nat))] ∧ j ≤ run isDigit 3 (l.drop (p + 1)) ∧ m = run isDigit 3 (l.drop (p + 1)) - j,
      ⟨_, 0, rfl, rfl, Nat.zero_le _, rfl⟩, ?_⟩
    rintro m σ H' ⟨j, rfl, rfl, hj, rfl⟩
    have hat := run_at isDigit 3 (l.drop (p + 1)) j hj
    rw [List.getElem?_drop] at hat
    have out : ∀ (hx : ¬ j < run isDigit 3 (l.drop (p + 1))), Q (V.str (cutS (S l) (some (p : Int)) (some ((p + 1 + j : Nat) : Int)))) H' := fun hx => by
      have ej : j = run isDigit 3 (l.drop (p + 1)) := by omega
      rw [cut_nat l (by omega) (by omega), show p + 1 + j - p = 1 + run isDigit 3 (l.drop (p + 1)) by omega]
      exact k
    refine ⟨_, rfl, _, rfl, _, rfl, S_len4 hl, _, _, rfl, rfl, _, rfl, ite2 (fun h1 => ?_) (fun h1 => ?_)⟩
    · rw [decide_eq_true_eq, S_len] at h1
      have h1' : p + 1 + j < l.length := by omega
      refine ⟨_, rfl, _, rfl, _, _, rfl, rfl, _, _, rfl, rfl, _, rfl, ite2 (fun h2 => ?_) (fun h2 => ?_)⟩
      · rw [decide_eq_true_eq] at h2
        have hc : l[p + 1 + j]? = some l[p + 1 + j] := List.getElem?_eq_getElem h1'
        refine ⟨_, rfl, _, rfl, _, _, _, rfl, rfl, S_len4 hl, at_nat hc, _, rfl, _, rfl, ?_⟩
        refine ite2 (fun h3 => ?_) (fun h3 => ?_)
        · have hlt : j < run isDigit 3 (l.drop (p + 1)) := hat.mpr ⟨by omega, _, hc, h3⟩
          refine ⟨_, fun _ _ h => h, ?_⟩
          refine ⟨_, rfl, _, _, rfl, rfl, ?_⟩
          exact ⟨run isDigit 3 (l.drop (p + 1)) - (j + 1), by omega, j + 1, rfl, rfl, hlt, rfl⟩
        · refine ⟨_, rfl, _, rfl, _, rfl, _, rfl, _, rfl, _, rfl, S_len4 hl, ?_⟩
          refine out fun hx => ?_
          obtain ⟨_, c, hc', hf⟩ := hat.mp hx
          rw [hc] at hc'; cases hc'; exact h3 hf
      · rw [decide_eq_true_eq] at h2
        refine iteF ⟨_, rfl, _, rfl, _, rfl, _, rfl, _, rfl, _, rfl, S_len4 hl, ?_⟩
        exact out fun hx => by omega
    · rw [decide_eq_true_eq, S_len] at h1
      refine iteF ⟨_, rfl, _, rfl, _, rfl, _, rfl, _, rfl, _, rfl, S_len4 hl, ?_⟩
      exact out fun hx => by omega
def spSign : Sp := fun vs H Q _ => ∃ (l : List Nat) (p : Nat) (g : List Nat), vs = [.str (S l), .int p] ∧ l.length ≤ 4000 ∧ p < l.length ∧ sigAt (l.drop p) = some g ∧ Q (.str (S g)) H
theorem starts_at (l g : List Nat) {p : Nat} (hp : p < l.length) (hg : g.length ≤ 2) : Txt.startswith3 (S l) (S g) (p : Int) = TL.pre g (l.drop p) := by
  unfold Txt.startswith3 Builtin.Str.subAt TL.pre
  have e : fromIndex (S l).length (p : Int) = p := by
    unfold fromIndex; rw [if_neg (by omega)]; omega
  rw [e, S_len, S_len]
  have e2 : (S l).cps.extract p (p + g.length) = ((l.drop p).take g.length).toArray := by
    show l.toArray.extract p (p + g.length) = _
    rw [List.extract_toArray, List.extract_eq_drop_take]
    congr 2; omega
  rw [e2]
  have e3 : (((l.drop p).take g.length).toArray == (S g).cps) = ((l.drop p).take g.length == g) := by
    show (((l.drop p).take g.length).toArray == g.toArray) = _
    simp
  rw [e3]
  by_cases h : p + g.length ≤ l.length
  · rw [decide_eq_true h, Bool.true_and]
  · rw [decide_eq_false h, Bool.false_and]
    symm
    rw [beq_eq_false_iff_ne]
    intro z
    have := congrArg List.length z
    rw [List.length_take, List.length_drop] at this
    omega
theorem ok_sign_at (T : Txt K mg aS) : Cal P w K mg base 1 "sign_at" spSign [] := by
  obtain ⟨f, fd, F, df⟩ := T.sign_at
  refine cal0 (ps := ["text", "at"]) F (F.fn.binds df fun _ _ _ _ _ _ us hl => match us, hl with | [_, _], _ => rfl) .nil sc_sign_at (fun vs H Q E h => ?_) (fun cdv A outer s H vs Q E hr h => ?_)
  · obtain ⟨l, p, g, rfl, _⟩ := h; rfl
  · obtain ⟨l, p, g, rfl, hl, hp, hg, k⟩ := h
    refine ⟨_, (pss_cons (ps_for PassesOwn.never rfl (pi_tup (pe_gc rfl T.g_SIGNS)) (pg_name (i := 2) sc_sign_at.nd rfl (Or.inl rfl))
      (pss_one (ps_if (pt_val (pe_bm PySem.F.plainAttrs_str PySem.F.slot_str_startswith PySem.F.type_str_startswith mt_startswith3 (pv 0) (pa_cons (pv 2) (pa_cons (pv 1) pa_nil))))
        (pss_one (ps_ret (pv 2)))
        pss_nil)))
    (pss_one ps_never)), ?_⟩
    refine ⟨_, rfl, ⟨_, T.t_SIGNS _⟩, for_tup (K := K) (a := aS) (xs := sigs.map fun g => V.str (S g)) (fun i σ H' => H' = H ∧ (∃ v, σ = [some (.str (S l)), some (.int p), v]) ∧ (sigs.drop i).find? (fun g => TL.pre g (l.drop p)) = some g)
      ⟨rfl, ⟨_, rfl⟩, hg⟩ (fun i σ H' _ _ => T.t_SIGNS _) ?_ ?_⟩
    · rintro i x σ H' hx ⟨rfl, ⟨v, rfl⟩, hf⟩
      rw [List.getElem?_map] at hx
      obtain ⟨s, hs, rfl⟩ := Option.map_eq_some_iff.mp hx
      have hs2 : s.length ≤ 2 := by
        obtain ⟨_, _, _, _, _, _, _, _, _, h⟩ := sig_heads s (List.mem_of_getElem? hs)
        exact h
      refine ⟨_, rfl, rfl, _, rfl, _, rfl, _, _, _, rfl, rfl, _, rfl, ?_⟩
      rw [starts_at l s hp hs2]
      obtain ⟨hi, e⟩ := List.getElem?_eq_some_iff.mp hs
      rw [List.drop_eq_getElem_cons hi, e] at hf
      refine ite2 (fun h => ?_) (fun h => ?_)
      · simp only [List.find?_cons, h] at hf
        cases hf
        exact ⟨_, rfl, k⟩
      · simp only [List.find?_cons, h] at hf
        exact ⟨rfl, ⟨_, rfl⟩, hf⟩
    · rintro σ H' ⟨_, _, hf⟩
      rw [List.length_map, List.drop_length] at hf
      exact (nomatch hf)
end
end K2
set_option Elab.async false
set_option linter.all false
set_option maxRecDepth 100000
set_option maxHeartbeats 4000000
namespace K2
open PySem L2 C8 SX K1 LamX NdefX LX PySem.Spec PyProof.Rows
/-! TextError and its __init__ -/
def s_init : Stmt := (clsBody (top 2)).getD 0 (.Pass ⟨0, 0, 0, 0⟩)
abbrev N_init : List Str := ["self", "why", "at", "__class__"]
abbrev P_init : List Str := ["self", "why", "at"]
theorem sc_init : NScope N_init P_init ["__class__"] (fnScope s_init) := nscope_by (by decide +kernel)
abbrev F_init (c cc : Addr) : NF := NF.of s_init "__init__" "TextError.__init__" [("__class__", cc)] c
def spInit (C : Addr) : Sp := fun vs H Q _ => ∃ (a : Addr) (y z : V), vs = [.ref a, y, z] ∧ H a = some (exo a C none) ∧ ∀ dx, H dx = none → dx ≠ a → Q .non (upd (upd H dx (exd dx [("at", z)])) a (exo a C (some dx)))
section
variable {P : Program} {w : World} {K : PySem.W.Frag} {mg : Str → Option Value} {base : Heap} {k : Nat} {C f c cc : Addr} {doc pm ctv : Value}
theorem fn_TextError (T : XInit P K mg C f cc (F_init c cc) N_init P_init doc pm ctv) (no : PySem.W.findIn K (.ref C) "at" = some none) : FnOk P w K mg base C8.CX0 (k + 1) f ((F_init c cc).fd doc pm ctv) P_init (spInit C) := by
  refine fn_init T (x1 := "why") (fun vs H Q E => ?_) rfl (fun L => rfl) (fun L => rfl) rfl rfl (fun x e => ?_) (by decide) ?_
  · rintro ⟨a, y, z, rfl, _⟩
    rfl
  · cases e
    rfl
  · rintro A outer s H vs Q E hr ⟨a, y, z, rfl, ea, q⟩
    refine ⟨a, y, _, rfl, rfl, ea, pss_cons (ps_ost (pv 0) (pv 2)) pss_nil, ?_⟩
    refine ⟨z, rfl, ⟨.ref a, rfl, a, C, rfl, T.cls, no, .inl ⟨ea, fun dx n ne => q dx n ne⟩⟩⟩
end
end K2
set_option Elab.async false
set_option linter.all false
set_option maxRecDepth 100000
set_option maxHeartbeats 4000000
namespace K2
open PySem L2 C8 SX K1 LamX NdefX LX PySem.Spec PyProof.Rows
/-! defs that may raise TextError -/
/-- a def that may raise, by its name -/
structure CalX (P : Program) (w : World) (K : PySem.W.Frag) (mg : Str → Option Value) (base : Heap) (k : Nat) (x : Str) (sp : Sp) : Prop where
  ex : ∃ (f : Addr) (fd : FuncData) (ps : List Str), FnOk P w K mg base (L2.CX P w) k f fd ps sp ∧ mg x = some (.ref f) ∧ PySem.W.keepIn K (.ref f) = true ∧ Binds K fd ps []
section
variable {P : Program} {w : World} {K : PySem.W.Frag} {mg : Str → Option Value} {base : Heap}
theorem calX {x : Str} {st : Stmt} {f : Addr} {fd : FuncData} {N ps : List Str} {k : Nat} {sp : Sp} (F : Def K mg x st f fd) (b : Binds K fd ps []) (S : FnScope N ps (fnScope st)) (len : ∀ vs H Q E, sp vs H Q E → vs.length = ps.length)
    (hbody : ∀ (cdv : Value) (A : Around) (outer : List Env) (s : Shared) (H : Hp) (vs : List V) (Q : VK) (E : XK), Room k (A.deeper (envOfC x (fnScope st) s.heap.objs.size f cdv)) → sp vs H Q E →
      ∃ t, PSs (cxOf (L2.CX P w) P w K mg base N x (fnScope st) f cdv A outer s H E) (fnBody st) t ∧ t { nx := fun _ H' => Q .non H', rt := Q } (start N vs) H) : CalX P w K mg base (k + 1) x sp := by
  obtain ⟨oc, od, dV, kV, doc, pm, an, cdv, ct, osl, rfl, lk, hcd⟩ := F.fn.ex
  exact ⟨f, _, ps, fn_of lk hcd S len fun A outer s H vs Q E hr hsp => hbody cdv A outer s H vs Q E hr hsp, F.mgf, F.kp, b⟩
end
section
variable {X : Cx} {k j : Nat} {x : Str} {sp : Sp} {W : WX} {p pos : Pos} {e : Expr} {es : List Expr} {t : TA}
theorem pe_cX (c : CalX X.prog X.w X.K X.mg X.base k x sp) (tk : Takes X W) (hr : Room j X.A) (hk : k ≤ j) (hg : Gl X x) (ha : PA X (e :: es) t)
    (hdb : (x == ("__debug__" : Str)) = false := by decide) (he : starEach (e :: es) X.env = (false, eval e X.env) :: starEach es X.env := by rfl) (hpl : (backTo pos (starEach es X.env)).any (·.1) = false := by rfl) :
    PE X (.Call (.Name x p) (e :: es) [] pos) (tCallS sp (WE W) t) := by
  obtain ⟨f, fd, ps, F, hm, kp, b⟩ := c.ex
  exact pe_callS F (hr.mono hk) hg hm kp b (passAt tk) ha hdb he hpl
end
/-- TextError, by its name -/
structure TErr (P : Program) (K : PySem.W.Frag) (mg : Str → Option Value) (C : Addr) : Prop where
  ex : ∃ (f c cc : Addr) (doc pm ctv : Value), XInit P K mg C f cc (F_init c cc) N_init P_init doc pm ctv ∧ PySem.W.findIn K (.ref C) "__init__" = some (some (.ref f)) ∧ PySem.W.typeIn K (.ref f) = some (.type "function")
  no : PySem.W.findIn K (.ref C) "at" = some none
  gC : mg "TextError" = some (.ref C)
/-- what stands behind the arguments of TextError(y, z) -/
def MkErr (C : Addr) (E : XK) (vs : List V) (H1 : Hp) : Prop := vs.length ≤ 1000 ∧ ∀ a, H1 a = none → spInit C (.ref a :: (vs ++ [])) (upd H1 a (exo a C none))
  (fun v H2 => v = .non ∧ ∃ (d : Addr) (fs : List (Str × V)), H2 a = some (exo a C (some d)) ∧ H2 d = some (exd d fs) ∧ H1 d = none ∧ E (.ref C) (some d) (upd (del H2 a) d (.xd fs))) (fun _ _ _ => False)
theorem mkErr {C : Addr} {E : XK} {y z : V} {H1 : Hp} (h : ∀ d, H1 d = none → E (.ref C) (some d) (upd H1 d (.xd [("at", z)]))) : MkErr C E [y, z] H1 := by
  refine ⟨Nat.le_of_ble_eq_true rfl, fun a ha => ⟨a, y, z, rfl, upd_same, fun dx n ne => ?_⟩⟩
  rw [upd_ne ne] at n
  refine ⟨rfl, dx, [("at", z)], upd_same, ?_, n, ?_⟩
  · rw [upd_ne ne, upd_same]
  · have e : upd (del (upd (upd (upd H1 a (exo a C none)) dx (exd dx [("at", z)])) a (exo a C (some dx))) a) dx (.xd [("at", z)]) = upd H1 dx (.xd [("at", z)]) := by
      funext b
      by_cases h1 : b = dx
      · rw [h1, upd_same, upd_same]
      · rw [upd_ne h1, upd_ne h1]
        by_cases h2 : b = a
        · rw [h2, del_same, ha]
        · rw [del_ne h2, upd_ne h2, upd_ne h1, upd_ne h2]
    rw [e]
    exact h dx n
/-- raise TextError(..) -/
def tErr (C : Addr) (E : XK) (ta : TA) : TS := fun _ σ H => ta σ H (MkErr C E)
section
variable {P : Program} {w : World} {K : PySem.W.Frag} {mg : Str → Option Value} {base : Heap} {C : Addr} {N : List Str} {qual : Str} {scope : Scope} {f : Addr} {cd : Value} {A : Around} {outer : List Env} {s : Shared} {H : Hp} {E : XK}
theorem ps_err {k : Nat} {e : Expr} {es : List Expr} {ta : TA} {p pos pos2 : Pos} (T : TErr P K mg C) (hr : Room (k + 2) (cxOf (L2.CX P w) P w K mg base N qual scope f cd A outer s H E).A)
    (hg : Gl (cxOf (L2.CX P w) P w K mg base N qual scope f cd A outer s H E) "TextError") (ha : PA (cxOf (L2.CX P w) P w K mg base N qual scope f cd A outer s H E) (e :: es) ta)
    (he : starEach (e :: es) (cxOf (L2.CX P w) P w K mg base N qual scope f cd A outer s H E).env = (false, eval e (cxOf (L2.CX P w) P w K mg base N qual scope f cd A outer s H E).env) :: starEach es (cxOf (L2.CX P w) P w K mg base N qual scope f cd A outer s H E).env := by rfl)
    (hpl : (backTo pos (starEach es (cxOf (L2.CX P w) P w K mg base N qual scope f cd A outer s H E).env)).any (·.1) = false := by rfl) :
    PS (cxOf (L2.CX P w) P w K mg base N qual scope f cd A outer s H E) (.Raise (some (.Call (.Name "TextError" p) (e :: es) [] pos)) none pos2) (tErr C E ta) := by
  obtain ⟨fi, c, cc, doc, pm, ctv, XI, iC, tI⟩ := T.ex
  have F1 : FnOk P w K mg base C8.CX0 (k + 1) fi ((F_init c cc).fd doc pm ctv) P_init (spInit C) := fn_TextError XI T.no
  have hb : Binds K ((F_init c cc).fd doc pm ctv) P_init [] := .all fun us hl => match us, hl with | [_, _, _], _ => rfl
  have m := pmk_oex (p := p) (X := cxOf (L2.CX P w) P w K mg base N qual scope f cd A outer s H E) (sp := spInit C) (dvs := []) XI.cls iC tI F1 hr hb .nil C8.pass0 hg T.gC ha (by decide) he hpl
  have r := ps_raise (pos := pos2) rfl (takes_of (E := E) rfl rfl rfl rfl) m
  exact r
end
def spSignX (C : Addr) : Sp := fun vs H Q E => ∃ (l : List Nat) (p : Nat), vs = [.str (S l), .int p] ∧ l.length ≤ 4000 ∧ p < l.length ∧ (∀ g, sigAt (l.drop p) = some g → Q (.str (S g)) H) ∧
  (sigAt (l.drop p) = none → ∀ d, H d = none → E (.ref C) (some d) (upd H d (.xd [("at", .int p)])))
theorem app_len (x y : Str) : (x ++ y).length = x.length + y.length := by
  show (x ++ y).cps.size = x.cps.size + y.cps.size
  rw [PySem.Str.cps_append, Array.size_append]
theorem int_short {i : Nat} (h : i ≤ 4000) : (PySem.Str.ofString (toString (i : Int))).length ≤ 5 := by
  rw [PySem.ofString_length]
  exact PySem.int_text_length_le10 (k := 4) (by decide) (by rw [Int.natAbs_natCast]; omega)
theorem int_log {i : Nat} (h : i ≤ 4000) : (i : Int).natAbs.log2 < 1920 := by
  rw [Int.natAbs_natCast]
  exact Nat.lt_of_le_of_lt (Nat.log2_le_self i |> fun _ => Nat.le_of_lt_succ (Nat.lt_succ_of_le (show i.log2 ≤ 12 from by
    by_cases z : i = 0
    · subst z; decide
    · have : i.log2 < 13 := (Nat.log2_lt z).mpr (by omega)
      omega))) (by decide)
section
variable {P : Program} {w : World} {K : PySem.W.Frag} {mg : Str → Option Value} {base : Heap} {C aS : Addr}
theorem okX_sign_at (T : Txt K mg aS) (TE : TErr P K mg C) : CalX P w K mg base 3 "sign_at" (spSignX C) := by
  obtain ⟨f, fd, F, df⟩ := T.sign_at
  refine calX (ps := ["text", "at"]) F (F.fn.binds df fun _ _ _ _ _ _ us hl => match us, hl with | [_, _], _ => rfl) sc_sign_at (fun vs H Q E h => ?_) (fun cdv A outer s H vs Q E hr h => ?_)
  · obtain ⟨l, p, rfl, _⟩ := h; rfl
  · obtain ⟨l, p, rfl, hl, hp, k1, k2⟩ := h
    refine ⟨_, (pss_cons (ps_for (passes_of rfl) rfl (pi_tup (pe_gc rfl T.g_SIGNS)) (pg_name (i := 2) sc_sign_at.nd rfl (Or.inl rfl))
      (pss_one (ps_if (pt_val (pe_bm PySem.F.plainAttrs_str PySem.F.slot_str_startswith PySem.F.type_str_startswith mt_startswith3 (pv 0) (pa_cons (pv 2) (pa_cons (pv 1) pa_nil))))
        (pss_one (ps_ret (pv 2)))
        pss_nil)))
    (pss_one (ps_err TE hr (by rfl) (pa_cons (pe_joined (.cons pe_str (.cons (pe_fmt (pv 1)) (.cons pe_str .nil)))) (pa_cons (pv 1) pa_nil))))), ?_⟩
    refine ⟨_, rfl, ⟨_, T.t_SIGNS _⟩, for_tup (K := K) (a := aS) (xs := sigs.map fun g => V.str (S g)) (fun i σ H' => H' = H ∧ (∃ v, σ = [some (.str (S l)), some (.int p), v]) ∧ (sigs.drop i).find? (fun g => TL.pre g (l.drop p)) = sigAt (l.drop p))
      ⟨rfl, ⟨_, rfl⟩, rfl⟩ (fun i σ H' _ _ => T.t_SIGNS _) ?_ ?_⟩
    · rintro i x σ H' hx ⟨rfl, ⟨v, rfl⟩, hf⟩
      rw [List.getElem?_map] at hx
      obtain ⟨s, hs, rfl⟩ := Option.map_eq_some_iff.mp hx
      have hs2 : s.length ≤ 2 := by
        obtain ⟨_, _, _, _, _, _, _, _, _, h⟩ := sig_heads s (List.mem_of_getElem? hs)
        exact h
      refine ⟨_, rfl, rfl, _, rfl, _, rfl, _, _, _, rfl, rfl, _, rfl, ?_⟩
      rw [starts_at l s hp hs2]
      obtain ⟨hi, e⟩ := List.getElem?_eq_some_iff.mp hs
      rw [List.drop_eq_getElem_cons hi, e] at hf
      refine ite2 (fun h => ?_) (fun h => ?_)
      · simp only [List.find?_cons, h] at hf
        exact ⟨_, rfl, k1 s hf.symm⟩
      · simp only [List.find?_cons, h] at hf
        exact ⟨rfl, ⟨_, rfl⟩, hf⟩
    · rintro σ H' ⟨rfl, ⟨v, rfl⟩, hf⟩
      rw [List.length_map, List.drop_length] at hf
      have s0 : Str.empty.length = 0 := rfl
      have s1 : (Str.ofString "the character at ").length = 17 := by decide +kernel
      have s2 : (Str.ofString " belongs to no token").length = 20 := by decide +kernel
      have s3 := int_short (i := p) (by omega)
      refine ⟨_, rfl, ?_, _, rfl, .inr ⟨_, rfl, int_log (by omega), _, rfl, ?_, _, rfl, ?_, _, rfl, mkErr (k2 hf.symm)⟩⟩
      · rw [sizeLine_eq, app_len]; omega
      · rw [sizeLine_eq, app_len, app_len]; omega
      · rw [sizeLine_eq, app_len, app_len, app_len]; omega
end
end K2
set_option Elab.async false
set_option maxRecDepth 100000
set_option maxHeartbeats 4000000
namespace K2
open PySem L2 C8 SX K1
def spTokenAt : Sp := fun vs H Q _ => ∃ (l : List Nat) (p : Nat) (k : K1.Kind) (t : List Nat), vs = [.str (S l), .int p] ∧ l.length ≤ 4000 ∧ p < l.length ∧ tok1 (l.drop p) = some (k, t) ∧
  ∀ a, H a = none → Q (.ref a) (upd H a (.tup [.str (kStr k), .str (S t), .int p]))
def TokAt (H : Hp) (v : V) (t : Tk) : Prop := ∃ a, v = .ref a ∧ H a = some (.tup [.str (kStr t.1), .str (S t.2.1), .int (t.2.2 : Nat)])
abbrev ToksAt (H : Hp) : List V → List Tk → Prop := Paired (TokAt H)
/-- tuples stay -/
def KeepT (H H' : Hp) : Prop := ∀ b xs, H b = some (.tup xs) → H' b = some (.tup xs)
theorem KeepT.refl (H : Hp) : KeepT H H := fun _ _ h => h
theorem KeepT.trans {A B C : Hp} (h : KeepT A B) (h' : KeepT B C) : KeepT A C := fun b xs z => h' b xs (h b xs z)
theorem keepT_of {H H' : Hp} (s : Same H H') : KeepT H H' := fun b _ h => s b _ h
theorem KeepT.toks {H H' : Hp} (s : KeepT H H') {xs : List V} {ts : List Tk} (h : ToksAt H xs ts) : ToksAt H' xs ts := Paired.mapP h fun _ _ ⟨a, e, z⟩ => ⟨a, e, s _ _ z⟩
theorem toks_snoc {H : Hp} {v : V} {t : Tk} (hv : TokAt H v t) : ∀ {xs : List V} {ts : List Tk}, ToksAt H xs ts → ToksAt H (xs ++ [v]) (ts ++ [t])
  | _, _, .nil => .cons hv .nil
  | _, _, .cons h r => .cons h (toks_snoc hv r)
theorem Same.new {H : Hp} {a : Addr} {o : HO} (h : H a = none) : Same H (upd H a o) := fun b u e => by
  rw [upd_ne (ne_of_none e h)]; exact e
theorem Same.put {H0 H : Hp} {a : Addr} {o : HO} (s : Same H0 H) (h : H0 a = none) : Same H0 (upd H a o) := fun b u e => by
  rw [upd_ne (ne_of_none e h)]; exact s b u e
theorem KeepT.put {H0 H : Hp} {a : Addr} {o : HO} {xs : List V} (s : KeepT H0 H) (h : H a = some (.lst xs)) : KeepT H0 (upd H a o) := fun b u e => by
  have := s b u e
  rw [upd_ne (by intro z; subst z; rw [h] at this; cases this)]
  exact this
def spTokens : Sp := fun vs H Q _ => ∃ (l : List Nat) (ts : List Tk), vs = [.str (S l)] ∧ l.length ≤ 4000 ∧ Lex 0 l ts ∧ ∀ a xs H', Same H H' → H' a = some (.lst xs) → ToksAt H' xs ts → Q (.ref a) H'
theorem inV_ws (c : Nat) : inV (.str (S [c])) [.str (Str.ofString " "), .str (Str.ofString "\n")] = decide (c = 32 ∨ c = 10) := by
  have e1 : Str.ofString " " = S [32] := by decide +kernel
  have e2 : Str.ofString "\n" = S [10] := by decide +kernel
  rw [e1, e2]
  show ((S [32] == S [c]) || ((S [10] == S [c]) || false)) = _
  rw [S_beq, S_beq]
  by_cases h1 : c = 32
  · subst h1; rfl
  · by_cases h2 : c = 10
    · subst h2; rfl
    · rw [decide_eq_false (by omega : ¬ (c = 32 ∨ c = 10))]
      have n1 : ([32] == [c]) = false := by
        rw [beq_eq_false_iff_ne]; intro z; exact h1 (List.cons.inj z).1.symm
      have n2 : ([10] == [c]) = false := by
        rw [beq_eq_false_iff_ne]; intro z; exact h2 (List.cons.inj z).1.symm
      rw [n1, n2]; rfl
section
variable {P : Program} {w : World} {K : PySem.W.Frag} {mg : Str → Option Value} {base : Heap} {aS : Addr}
theorem three : 3 ≤ sizeLine := by decide
theorem ok_token_at (T : Txt K mg aS) (c_is_lower : Cal P w K mg base 1 "is_lower" (spChar isLower) []) (c_is_upper : Cal P w K mg base 1 "is_upper" (spChar isUpper) []) (c_is_digit : Cal P w K mg base 1 "is_digit" (spChar isDigit) [])
    (c_word_at : Cal P w K mg base 3 "word_at" (spRun fun l p => (l.drop p).take (wordLen (l.drop (p + 1)))) [])
    (c_integer_at : Cal P w K mg base 3 "integer_at" (spRun fun l p => (l.drop p).take (intLen (l.getD p 0) (l.drop (p + 1)))) []) (c_sign_at : Cal P w K mg base 1 "sign_at" spSign []) :
    Cal P w K mg base 4 "token_at" spTokenAt [] := by
  obtain ⟨f, fd, F, df⟩ := T.token_at
  refine cal0 (ps := ["text", "at"]) F (F.fn.binds df fun _ _ _ _ _ _ us hl => match us, hl with | [_, _], _ => rfl) .nil sc_token_at (fun vs H Q E h => ?_) (fun cdv A outer s H vs Q E hr h => ?_)
  · obtain ⟨l, p, k, t, rfl, _⟩ := h; rfl
  · obtain ⟨l, p, k, t, rfl, hl, hp, ht, kk⟩ := h
    refine ⟨_, (pss_cons (ps_set (i := 2) sc_token_at.nd rfl (Or.inl rfl) (pe_ix ix_str (pv 0) (pv 1) (fun _ _ => rfl)))
    (pss_cons (ps_if (pt_val (pe_c c_is_lower hr (by decide) rfl (pa_cons (pv 2) pa_nil)))
      (pss_one (ps_ret (pe_tup (pa_cons pe_str (pa_cons (pe_c c_word_at hr (by decide) rfl (pa_cons (pv 0) (pa_cons (pv 1) pa_nil))) (pa_cons (pv 1) pa_nil))))))
      pss_nil)
    (pss_cons (ps_if (pt_val (pe_c c_is_upper hr (by decide) rfl (pa_cons (pv 2) pa_nil)))
      (pss_one (ps_ret (pe_tup (pa_cons pe_str (pa_cons (pe_c c_word_at hr (by decide) rfl (pa_cons (pv 0) (pa_cons (pv 1) pa_nil))) (pa_cons (pv 1) pa_nil))))))
      pss_nil)
    (pss_cons (ps_if (pt_val (pe_c c_is_digit hr (by decide) rfl (pa_cons (pv 2) pa_nil)))
      (pss_one (ps_ret (pe_tup (pa_cons pe_str (pa_cons (pe_c c_integer_at hr (by decide) rfl (pa_cons (pv 0) (pa_cons (pv 1) pa_nil))) (pa_cons (pv 1) pa_nil))))))
      pss_nil)
    (pss_one (ps_ret (pe_tup (pa_cons pe_str (pa_cons (pe_c c_sign_at hr (by decide) rfl (pa_cons (pv 0) (pa_cons (pv 1) pa_nil))) (pa_cons (pv 1) pa_nil)))))))))), ?_⟩
    have hc : l[p]? = some l[p] := List.getElem?_eq_getElem hp
    have ed := List.drop_eq_getElem_cons hp
    rw [ed] at ht
    refine ⟨_, rfl, _, rfl, _, _, _, rfl, rfl, S_len4 hl, at_nat hc, ?_⟩
    unfold tok1 at ht
    dsimp only at ht
    refine ⟨_, rfl, _, rfl, _, rfl, ite2 (fun h1 => ?_) (fun h1 => ?_)⟩
    · rw [if_pos h1] at ht
      cases ht
      refine ⟨_, rfl, _, rfl, l, p, rfl, hl, hp, _, rfl, three, fun a ha => ?_⟩
      have := kk a ha
      rw [← ed] at this
      exact this
    rw [if_neg h1] at ht
    refine ⟨_, rfl, _, rfl, _, rfl, ite2 (fun h2 => ?_) (fun h2 => ?_)⟩
    · rw [if_pos h2] at ht
      cases ht
      refine ⟨_, rfl, _, rfl, l, p, rfl, hl, hp, _, rfl, three, fun a ha => ?_⟩
      have := kk a ha
      rw [← ed] at this
      exact this
    rw [if_neg h2] at ht
    refine ⟨_, rfl, _, rfl, _, rfl, ite2 (fun h3 => ?_) (fun h3 => ?_)⟩
    · rw [if_pos h3] at ht
      cases ht
      refine ⟨_, rfl, _, rfl, l, p, rfl, hl, hp, _, rfl, three, fun a ha => ?_⟩
      have := kk a ha
      rw [← ed] at this
      dsimp only
      rw [show l.getD p 0 = l[p] by rw [List.getD_eq_getElem?_getD, hc, Option.getD_some]]
      exact this
    rw [if_neg h3] at ht
    obtain ⟨g, hg, e⟩ := Option.map_eq_some_iff.mp ht
    cases e
    refine ⟨_, rfl, _, rfl, l, p, t, rfl, hl, hp, by rw [ed]; exact hg, _, rfl, three, fun a ha => kk a ha⟩
theorem ok_tokens (T : Txt K mg aS) (c_token_at : Cal P w K mg base 4 "token_at" spTokenAt []) : Cal P w K mg base 5 "tokens" spTokens [] := by
  obtain ⟨f, fd, F, df⟩ := T.tokens
  refine cal0 (ps := ["text"]) F (F.fn.binds df fun _ _ _ _ _ _ us hl => match us, hl with | [_], _ => rfl) .nil sc_tokens (fun vs H Q E h => ?_) (fun cdv A outer s H vs Q E hr h => ?_)
  · obtain ⟨l, ts, rfl, _⟩ := h; rfl
  · obtain ⟨l, ts, rfl, hl, hlex, kk⟩ := h
    refine ⟨_, (pss_cons (ps_if (pt_cmpR op_gt (pe_callB call_len_str (by rfl) T.b_len PySem.boot_len (pa_cons (pv 0) pa_nil)) (pe_gc rfl T.g_LONGEST_TEXT) (nomark _))
      (pss_one ps_never)
      pss_nil)
    (pss_cons (ps_set (i := 1) sc_tokens.nd rfl (Or.inl rfl) (pe_lst pa_nil))
    (pss_cons (ps_set (i := 2) sc_tokens.nd rfl (Or.inl rfl) pe_int)
    (pss_cons (ps_while PassesOwn.never (pt_cmpR op_lt (pv 2) (pe_callB call_len_str (by rfl) T.b_len PySem.boot_len (pa_cons (pv 0) pa_nil)) (nomark _))
      (pss_one (ps_if (pt_cmpR op_in_seq (pe_ix ix_str (pv 0) (pv 2) (fun _ _ => rfl)) (pe_tup (pa_cons pe_str (pa_cons pe_str pa_nil))) rfl)
        (pss_one (ps_aug (i := 2) sc_tokens.nd rfl (Or.inl rfl) pe_int ip_add))
        (pss_cons (ps_set (i := 3) sc_tokens.nd rfl (Or.inl rfl) (pe_c c_token_at hr (by decide) rfl (pa_cons (pv 0) (pa_cons (pv 2) pa_nil))))
        (pss_cons (ps_expr (pe_bm PySem.F.plainAttrs_list PySem.F.slot_list_append PySem.F.type_list_append mt_append (pv 1) (pa_cons (pv 3) pa_nil)))
        (pss_one (ps_aug (i := 2) sc_tokens.nd rfl (Or.inl rfl) (pe_callB call_len_str (by rfl) T.b_len PySem.boot_len (pa_cons (pe_ix ix_tup (pv 3) pe_int (fun _ _ => rfl)) pa_nil)) ip_add)))))))
    (pss_cons (ps_expr (pe_bm PySem.F.plainAttrs_list PySem.F.slot_list_append PySem.F.type_list_append mt_append (pv 1) (pa_cons (pe_tup (pa_cons pe_str (pa_cons pe_str (pa_cons (pe_callB call_len_str (by rfl) T.b_len PySem.boot_len (pa_cons (pv 0) pa_nil)) pa_nil)))) pa_nil)))
    (pss_one (ps_ret (pv 1)))))))), ?_⟩
    refine ⟨_, rfl, _, rfl, S_len4 hl, _, _, rfl, rfl, _, rfl, ?_⟩
    refine ite2 (fun h1 => ?_) (fun _ => ?_)
    · rw [decide_eq_true_eq, S_len] at h1; omega
    refine ⟨Nat.zero_le _, fun a ha => ?_⟩
    refine ⟨fun m σ H' => ∃ (n : Nat) (xs : List V) (done rest : List Tk) (v : Option V), σ = [some (.str (S l)), some (.ref a), some (.int n), v] ∧ H' a = some (.lst xs) ∧ Same H H' ∧ ToksAt H' xs done ∧ done ++ rest = ts ∧ Lex n (l.drop n) rest ∧
      n ≤ l.length ∧ xs.length ≤ n ∧ m = l.length - n, ⟨_, 0, [], [], ts, none, rfl, upd_same, Same.new ha, .nil, rfl, hlex, Nat.zero_le _, Nat.zero_le _, rfl⟩, ?_⟩
    rintro m σ H' ⟨n, xs, done, rest, v, rfl, hA, hS, hT, rfl, hx, hn, hxs, rfl⟩
    refine ⟨_, rfl, _, rfl, _, rfl, S_len4 hl, _, _, rfl, rfl, _, rfl, ite2 (fun h1 => ?_) (fun h1 => ?_)⟩
    · rw [decide_eq_true_eq, S_len] at h1
      have h1' : n < l.length := by omega
      have hc : l[n]? = some l[n] := List.getElem?_eq_getElem h1'
      have ed := List.drop_eq_getElem_cons h1'
      refine ⟨_, fun _ _ h => h, ?_⟩
      refine ⟨_, rfl, _, rfl, _, _, _, rfl, rfl, S_len4 hl, at_nat hc, (by show 2 ≤ sizeLine; decide), fun q hq => ?_⟩
      refine ⟨q, _, rfl, .inr (SqT.of upd_same), rfl, rfl, _, rfl, ?_⟩
      have eI : (if false = true then !inV (V.str (S [l[n]])) [.str (Str.ofString " "), .str (Str.ofString "\n")] else inV (V.str (S [l[n]])) [.str (Str.ofString " "), .str (Str.ofString "\n")]) = decide (l[n] = 32 ∨ l[n] = 10) := by
        rw [if_neg Bool.false_ne_true]; exact inV_ws _
      have nqa : a ≠ q := ne_of_none hA hq
      have hSq : Same H' (upd H' q (.tup [.str (Str.ofString " "), .str (Str.ofString "\n")])) := Same.new hq
      refine ite2 (fun h2 => ?_) (fun h2 => ?_)
      · rw [show ((if false = true then !inV (V.str ⟨#[l[n]]⟩) [.str (Str.ofString " "), .str (Str.ofString "\n")] else inV (V.str ⟨#[l[n]]⟩) [.str (Str.ofString " "), .str (Str.ofString "\n")]) = true) = (decide (l[n] = 32 ∨ l[n] = 10) = true) from congrArg (· = true) eI] at h2
        rw [decide_eq_true_eq] at h2
        refine ⟨_, rfl, _, _, rfl, rfl, ?_⟩
        rw [ed] at hx
        cases hx with
        | ws _ hr' => exact ⟨_, Nat.lt_of_lt_of_le (by omega : l.length - (n + 1) < l.length - n) (Nat.le_refl _), n + 1, xs, done, rest, v, rfl, by rw [upd_ne nqa]; exact hA, hS.trans hSq, (keepT_of hSq).toks hT, rfl, hr', h1', by omega, rfl⟩
        | tok hw _ _ _ _ => exact absurd h2 (by omega)
      · rw [show ((if false = true then !inV (V.str ⟨#[l[n]]⟩) [.str (Str.ofString " "), .str (Str.ofString "\n")] else inV (V.str ⟨#[l[n]]⟩) [.str (Str.ofString " "), .str (Str.ofString "\n")]) = true) = (decide (l[n] = 32 ∨ l[n] = 10) = true) from congrArg (· = true) eI] at h2
        rw [decide_eq_true_eq] at h2
        have hx' := hx
        rw [ed] at hx'
        generalize er : l.drop (n + 1) = r at hx'
        cases hx' with
        | ws hw _ => exact absurd hw h2
        | @tok _ _ _ t k ts' hw htok hne hle hr' =>
          refine ⟨_, rfl, _, rfl, l, n, k, t, rfl, hl, h1', by rw [ed, er]; exact htok, fun b hb => ?_⟩
          have hb' : H' b = none := hSq.free hb
          have nab : a ≠ b := ne_of_none hA hb'
          have hSb := hSq.trans (Same.new (o := .tup [.str (kStr k), .str (S t), .int n]) hb)
          have hA2 := hSb _ _ hA
          have hlen : l.drop n = l[n] :: r := by rw [ed, er]
          have hrl : r.length + 1 = l.length - n := by
            have := congrArg List.length hlen
            rw [List.length_drop, List.length_cons] at this; omega
          have ht0 : 0 < t.length := List.length_pos_iff.mpr hne
          refine ⟨_, rfl, .inl ⟨rfl, _, SqL.of hA2⟩, _, rfl, a, xs, _, rfl, rfl, hA2, Nat.lt_of_le_of_lt (by omega : xs.length ≤ 4000) (by decide), ?_⟩
          refine ⟨_, rfl, _, rfl, _, _, _, _, rfl, rfl, SqT.of (by rw [upd_ne nab.symm]; exact upd_same), (show atI _ ((1 : Nat) : Int) = _ from atI_nat rfl), _, rfl, by rw [S_len]; exact sz (by omega), ?_⟩
          refine ⟨_, _, rfl, rfl, ?_⟩
          have e1 : (n : Int) + ((S t).length : Nat) = ((n + t.length : Nat) : Int) := by rw [S_len]; omega
          have kT : KeepT H' (upd (upd (upd H' q (.tup [.str (Str.ofString " "), .str (Str.ofString "\n")])) b (.tup [.str (kStr k), .str (S t), .int n])) a (.lst (xs ++ [.ref b]))) := (keepT_of hSb).put hA2
          refine ⟨_, (by omega : l.length - (n + t.length) < l.length - n), n + t.length, xs ++ [.ref b], done ++ [(k, t, n)], ts', some (.ref b), ?_, upd_same, ?_, ?_, ?_, ?_, by omega, by rw [List.length_append, List.length_singleton]; omega, rfl⟩
          · show [some (V.str (S l)), some (V.ref a), some (V.int ((n : Int) + ((S t).length : Nat))), some (V.ref b)] = _
            rw [e1]
          · exact Same.put (hS.trans hSb) ha
          · exact toks_snoc ⟨b, rfl, by rw [upd_ne nab.symm]; exact upd_same⟩ (kT.toks hT)
          · rw [List.append_assoc]; rfl
          · rw [← hlen, List.drop_drop] at hr'
            exact hr'
    · rw [decide_eq_true_eq, S_len] at h1
      have en : n = l.length := by omega
      subst en
      rw [List.drop_length] at hx
      cases hx
      refine ⟨_, rfl, .inl ⟨rfl, _, SqL.of hA⟩, _, rfl, _, rfl, S_len4 hl, three, fun b hb => ?_⟩
      have nab : a ≠ b := ne_of_none hA hb
      refine ⟨a, xs, _, rfl, rfl, by rw [upd_ne nab]; exact hA, Nat.lt_of_le_of_lt (by omega : xs.length ≤ 4000) (by decide), ?_⟩
      refine ⟨_, rfl, ?_⟩
      have hSb := Same.new (o := .tup [.str (Str.ofString "end"), .str (Str.ofString ""), .int ((S l).length : Nat)]) hb
      refine kk a (xs ++ [.ref b]) _ (Same.put (hS.trans hSb) ha) upd_same (toks_snoc ⟨b, rfl, ?_⟩ (((keepT_of hSb).put (o := .lst (xs ++ [.ref b])) (by rw [upd_ne nab]; exact hA)).toks hT))
      rw [upd_ne nab.symm, S_len]
      exact upd_same
end
end K2
set_option Elab.async false
set_option linter.all false
set_option maxRecDepth 100000
set_option maxHeartbeats 4000000
namespace K2
open PySem L2 C8 SX K1 LamX NdefX LX PySem.Spec PyProof.Rows
/-! token_at and tokens of a text with a bad character -/
def spTokenAtX (C : Addr) : Sp := fun vs H Q E => ∃ (l : List Nat) (p : Nat), vs = [.str (S l), .int p] ∧ l.length ≤ 4000 ∧ p < l.length ∧
  (∀ k t, tok1 (l.drop p) = some (k, t) → ∀ a, H a = none → Q (.ref a) (upd H a (.tup [.str (kStr k), .str (S t), .int p]))) ∧
  (tok1 (l.drop p) = none → ∀ d, H d = none → E (.ref C) (some d) (upd H d (.xd [("at", .int p)])))
/-- the first bad character stands at m -/
inductive BadLex (m : Nat) : Nat → List Nat → Prop
  | here {c : Nat} {r : List Nat} : (c ≠ 32 ∧ c ≠ 10) → tok1 (c :: r) = none → BadLex m m (c :: r)
  | ws {n c : Nat} {r : List Nat} : (c = 32 ∨ c = 10) → BadLex m (n + 1) r → BadLex m n (c :: r)
  | tok {n c : Nat} {r t : List Nat} {k : K1.Kind} : (c ≠ 32 ∧ c ≠ 10) → tok1 (c :: r) = some (k, t) → t ≠ [] → t.length ≤ r.length + 1 → BadLex m (n + t.length) ((c :: r).drop t.length) → BadLex m n (c :: r)
def spTokensX (C : Addr) : Sp := fun vs H _ E => ∃ (l : List Nat) (m : Nat), vs = [.str (S l)] ∧ l.length ≤ 100000 ∧ ((4000 < l.length ∧ m = 0) ∨ (l.length ≤ 4000 ∧ BadLex m 0 l)) ∧
  ∀ H', Same H H' → ∀ d, H' d = none → E (.ref C) (some d) (upd H' d (.xd [("at", .int m)]))
theorem tok1_lower {c : Nat} {r : List Nat} (h : isLower c = true) : tok1 (c :: r) = some (.name, (c :: r).take (wordLen r)) := by
  show (if isLower c = true then _ else _) = _
  rw [if_pos h]
theorem tok1_upper {c : Nat} {r : List Nat} (h : ¬ isLower c = true) (h2 : isUpper c = true) : tok1 (c :: r) = some (.var, (c :: r).take (wordLen r)) := by
  show (if isLower c = true then _ else if isUpper c = true then _ else _) = _
  rw [if_neg h, if_pos h2]
theorem tok1_digit {c : Nat} {r : List Nat} (h : ¬ isLower c = true) (h2 : ¬ isUpper c = true) (h3 : isDigit c = true) : tok1 (c :: r) = some (.int, (c :: r).take (intLen c r)) := by
  show (if isLower c = true then _ else if isUpper c = true then _ else if isDigit c = true then _ else _) = _
  rw [if_neg h, if_neg h2, if_pos h3]
theorem tok1_sign {c : Nat} {r : List Nat} (h : ¬ isLower c = true) (h2 : ¬ isUpper c = true) (h3 : ¬ isDigit c = true) : tok1 (c :: r) = (sigAt (c :: r)).map fun g => (.sign, g) := by
  show (if isLower c = true then _ else if isUpper c = true then _ else if isDigit c = true then _ else _) = _
  rw [if_neg h, if_neg h2, if_neg h3]
section
variable {P : Program} {w : World} {K : PySem.W.Frag} {mg : Str → Option Value} {base : Heap} {C aS : Addr}
theorem okX_token_at (T : Txt K mg aS) (c_is_lower : Cal P w K mg base 1 "is_lower" (spChar isLower) []) (c_is_upper : Cal P w K mg base 1 "is_upper" (spChar isUpper) []) (c_is_digit : Cal P w K mg base 1 "is_digit" (spChar isDigit) [])
    (c_word_at : Cal P w K mg base 3 "word_at" (spRun fun l p => (l.drop p).take (wordLen (l.drop (p + 1)))) [])
    (c_integer_at : Cal P w K mg base 3 "integer_at" (spRun fun l p => (l.drop p).take (intLen (l.getD p 0) (l.drop (p + 1)))) []) (c_sign_at : CalX P w K mg base 3 "sign_at" (spSignX C)) :
    CalX P w K mg base 4 "token_at" (spTokenAtX C) := by
  obtain ⟨f, fd, F, df⟩ := T.token_at
  refine calX (ps := ["text", "at"]) F (F.fn.binds df fun _ _ _ _ _ _ us hl => match us, hl with | [_, _], _ => rfl) sc_token_at (fun vs H Q E h => ?_) (fun cdv A outer s H vs Q E hr h => ?_)
  · obtain ⟨l, p, rfl, _⟩ := h; rfl
  · obtain ⟨l, p, rfl, hl, hp, kk, kx⟩ := h
    refine ⟨_, (pss_cons (ps_set (i := 2) sc_token_at.nd rfl (Or.inl rfl) (pe_ix ix_str (pv 0) (pv 1) (fun _ _ => rfl)))
    (pss_cons (ps_if (pt_val (pe_c c_is_lower hr (by decide) rfl (pa_cons (pv 2) pa_nil)))
      (pss_one (ps_ret (pe_tup (pa_cons pe_str (pa_cons (pe_c c_word_at hr (by decide) rfl (pa_cons (pv 0) (pa_cons (pv 1) pa_nil))) (pa_cons (pv 1) pa_nil))))))
      pss_nil)
    (pss_cons (ps_if (pt_val (pe_c c_is_upper hr (by decide) rfl (pa_cons (pv 2) pa_nil)))
      (pss_one (ps_ret (pe_tup (pa_cons pe_str (pa_cons (pe_c c_word_at hr (by decide) rfl (pa_cons (pv 0) (pa_cons (pv 1) pa_nil))) (pa_cons (pv 1) pa_nil))))))
      pss_nil)
    (pss_cons (ps_if (pt_val (pe_c c_is_digit hr (by decide) rfl (pa_cons (pv 2) pa_nil)))
      (pss_one (ps_ret (pe_tup (pa_cons pe_str (pa_cons (pe_c c_integer_at hr (by decide) rfl (pa_cons (pv 0) (pa_cons (pv 1) pa_nil))) (pa_cons (pv 1) pa_nil))))))
      pss_nil)
    (pss_one (ps_ret (pe_tup (pa_cons pe_str (pa_cons (pe_cX c_sign_at (takes_of (E := E) rfl rfl rfl rfl) hr (by decide) rfl (pa_cons (pv 0) (pa_cons (pv 1) pa_nil))) (pa_cons (pv 1) pa_nil)))))))))), ?_⟩
    have hc : l[p]? = some l[p] := List.getElem?_eq_getElem hp
    have ed := List.drop_eq_getElem_cons hp
    refine ⟨_, rfl, _, rfl, _, _, _, rfl, rfl, S_len4 hl, at_nat hc, ?_⟩
    refine ⟨_, rfl, _, rfl, _, rfl, ite2 (fun h1 => ?_) (fun h1 => ?_)⟩
    · refine ⟨_, rfl, _, rfl, l, p, rfl, hl, hp, _, rfl, three, fun a ha => ?_⟩
      exact kk .name _ (by rw [ed]; exact (tok1_lower h1).trans (by rw [← ed])) a ha
    refine ⟨_, rfl, _, rfl, _, rfl, ite2 (fun h2 => ?_) (fun h2 => ?_)⟩
    · refine ⟨_, rfl, _, rfl, l, p, rfl, hl, hp, _, rfl, three, fun a ha => ?_⟩
      exact kk .var _ (by rw [ed]; exact (tok1_upper h1 h2).trans (by rw [← ed])) a ha
    refine ⟨_, rfl, _, rfl, _, rfl, ite2 (fun h3 => ?_) (fun h3 => ?_)⟩
    · refine ⟨_, rfl, _, rfl, l, p, rfl, hl, hp, _, rfl, three, fun a ha => ?_⟩
      refine kk .int _ ?_ a ha
      dsimp only
      rw [show l.getD p 0 = l[p] by rw [List.getD_eq_getElem?_getD, hc, Option.getD_some]]
      rw [ed]
      exact (tok1_digit h1 h2 h3).trans (by rw [← ed])
    have et : tok1 (l.drop p) = (sigAt (l.drop p)).map fun g => (K1.Kind.sign, g) := by
      rw [ed]
      exact tok1_sign h1 h2 h3
    refine ⟨_, rfl, _, rfl, l, p, rfl, hl, hp, fun g hg => ⟨_, rfl, three, fun a ha => ?_⟩, fun hn => kx (by rw [et, hn]; rfl)⟩
    exact kk .sign g (by rw [et, hg]; rfl) a ha
theorem okX_tokens (T : Txt K mg aS) (TE : TErr P K mg C) (c_token_at : CalX P w K mg base 4 "token_at" (spTokenAtX C)) : CalX P w K mg base 5 "tokens" (spTokensX C) := by
  obtain ⟨f, fd, F, df⟩ := T.tokens
  refine calX (ps := ["text"]) F (F.fn.binds df fun _ _ _ _ _ _ us hl => match us, hl with | [_], _ => rfl) sc_tokens (fun vs H Q E h => ?_) (fun cdv A outer s H vs Q E hr h => ?_)
  · obtain ⟨l, m, rfl, _⟩ := h; rfl
  · obtain ⟨l, m, rfl, hlz, hbad, kx⟩ := h
    have hsz : (S l).length ≤ sizeLine := by rw [S_len, sizeLine_eq]; omega
    refine ⟨_, (pss_cons (ps_if (pt_cmpR op_gt (pe_callB call_len_str (by rfl) T.b_len PySem.boot_len (pa_cons (pv 0) pa_nil)) (pe_gc rfl T.g_LONGEST_TEXT) (nomark _))
      (pss_one (ps_err TE (hr.mono (by decide : 2 ≤ 4)) (by rfl) (pa_cons (pe_joined (.cons pe_str (.cons (pe_fmt (pe_gc rfl T.g_LONGEST_TEXT)) (.cons pe_str .nil)))) (pa_cons pe_int pa_nil))))
      pss_nil)
    (pss_cons (ps_set (i := 1) sc_tokens.nd rfl (Or.inl rfl) (pe_lst pa_nil))
    (pss_cons (ps_set (i := 2) sc_tokens.nd rfl (Or.inl rfl) pe_int)
    (pss_cons (ps_while (passes_of rfl) (pt_cmpR op_lt (pv 2) (pe_callB call_len_str (by rfl) T.b_len PySem.boot_len (pa_cons (pv 0) pa_nil)) (nomark _))
      (pss_one (ps_if (pt_cmpR op_in_seq (pe_ix ix_str (pv 0) (pv 2) (fun _ _ => rfl)) (pe_tup (pa_cons pe_str (pa_cons pe_str pa_nil))) rfl)
        (pss_one (ps_aug (i := 2) sc_tokens.nd rfl (Or.inl rfl) pe_int ip_add))
        (pss_cons (ps_set (i := 3) sc_tokens.nd rfl (Or.inl rfl) (pe_cX c_token_at (takes_of (E := E) rfl rfl rfl rfl) hr (by decide) rfl (pa_cons (pv 0) (pa_cons (pv 2) pa_nil))))
        (pss_cons (ps_expr (pe_bm PySem.F.plainAttrs_list PySem.F.slot_list_append PySem.F.type_list_append mt_append (pv 1) (pa_cons (pv 3) pa_nil)))
        (pss_one (ps_aug (i := 2) sc_tokens.nd rfl (Or.inl rfl) (pe_callB call_len_str (by rfl) T.b_len PySem.boot_len (pa_cons (pe_ix ix_tup (pv 3) pe_int (fun _ _ => rfl)) pa_nil)) ip_add)))))))
    (pss_cons (ps_expr (pe_bm PySem.F.plainAttrs_list PySem.F.slot_list_append PySem.F.type_list_append mt_append (pv 1) (pa_cons (pe_tup (pa_cons pe_str (pa_cons pe_str (pa_cons (pe_callB call_len_str (by rfl) T.b_len PySem.boot_len (pa_cons (pv 0) pa_nil)) pa_nil)))) pa_nil)))
    (pss_one (ps_ret (pv 1)))))))), ?_⟩
    refine ⟨_, rfl, _, rfl, hsz, _, _, rfl, rfl, _, rfl, ?_⟩
    refine ite2 (fun h1 => ?_) (fun h1 => ?_)
    · rw [decide_eq_true_eq, S_len] at h1
      have em : m = 0 := by
        rcases hbad with ⟨_, e⟩ | ⟨q, _⟩
        · exact e
        · omega
      subst em
      have s0 : Str.empty.length = 0 := rfl
      have s1 : (Str.ofString "the text has more than ").length = 23 := by decide +kernel
      have s2 : (Str.ofString " characters").length = 11 := by decide +kernel
      have s3 := int_short (i := 4000) (by omega)
      refine ⟨_, rfl, ?_, .inr ⟨_, rfl, int_log (i := 4000) (by omega), _, rfl, ?_, _, rfl, ?_, mkErr (kx _ (Same.refl _))⟩⟩
      · rw [sizeLine_eq, app_len]; omega
      · rw [sizeLine_eq, app_len, app_len]
        exact Nat.le_trans (Nat.add_le_add_left s3 _) (by omega)
      · rw [sizeLine_eq, app_len, app_len, app_len]
        exact Nat.le_trans (Nat.add_le_add_right (Nat.add_le_add_left s3 _) _) (by omega)
    rw [decide_eq_true_eq, S_len] at h1
    have hl : l.length ≤ 4000 := by omega
    have hx0 : BadLex m 0 l := by
      rcases hbad with ⟨q, _⟩ | ⟨_, q⟩
      · omega
      · exact q
    refine ⟨Nat.zero_le _, fun a ha => ?_⟩
    refine ⟨fun mm σ H' => ∃ (n : Nat) (xs : List V) (v : Option V), σ = [some (.str (S l)), some (.ref a), some (.int n), v] ∧ H' a = some (.lst xs) ∧ Same H H' ∧ BadLex m n (l.drop n) ∧
      n ≤ l.length ∧ xs.length ≤ n ∧ mm = l.length - n, ⟨_, 0, [], none, rfl, upd_same, Same.new ha, hx0, Nat.zero_le _, Nat.zero_le _, rfl⟩, ?_⟩
    rintro mm σ H' ⟨n, xs, v, rfl, hA, hS, hx, hn, hxs, rfl⟩
    refine ⟨_, rfl, _, rfl, _, rfl, S_len4 hl, _, _, rfl, rfl, _, rfl, ite2 (fun h1 => ?_) (fun h1 => ?_)⟩
    · rw [decide_eq_true_eq, S_len] at h1
      have h1' : n < l.length := by omega
      have hc : l[n]? = some l[n] := List.getElem?_eq_getElem h1'
      have ed := List.drop_eq_getElem_cons h1'
      refine ⟨_, fun _ _ h => h, ?_⟩
      refine ⟨_, rfl, _, rfl, _, _, _, rfl, rfl, S_len4 hl, at_nat hc, (by show 2 ≤ sizeLine; decide), fun q hq => ?_⟩
      refine ⟨q, _, rfl, .inr (SqT.of upd_same), rfl, rfl, _, rfl, ?_⟩
      have eI : (if false = true then !inV (V.str (S [l[n]])) [.str (Str.ofString " "), .str (Str.ofString "\n")] else inV (V.str (S [l[n]])) [.str (Str.ofString " "), .str (Str.ofString "\n")]) = decide (l[n] = 32 ∨ l[n] = 10) := by
        rw [if_neg Bool.false_ne_true]; exact inV_ws _
      have nqa : a ≠ q := ne_of_none hA hq
      have hSq : Same H' (upd H' q (.tup [.str (Str.ofString " "), .str (Str.ofString "\n")])) := Same.new hq
      refine ite2 (fun h2 => ?_) (fun h2 => ?_)
      · rw [show ((if false = true then !inV (V.str ⟨#[l[n]]⟩) [.str (Str.ofString " "), .str (Str.ofString "\n")] else inV (V.str ⟨#[l[n]]⟩) [.str (Str.ofString " "), .str (Str.ofString "\n")]) = true) = (decide (l[n] = 32 ∨ l[n] = 10) = true) from congrArg (· = true) eI] at h2
        rw [decide_eq_true_eq] at h2
        refine ⟨_, rfl, _, _, rfl, rfl, ?_⟩
        rw [ed] at hx
        cases hx with
        | here hw _ => exact absurd h2 (by omega)
        | ws _ hr' => exact ⟨_, Nat.lt_of_lt_of_le (by omega : l.length - (n + 1) < l.length - n) (Nat.le_refl _), n + 1, xs, v, rfl, by rw [upd_ne nqa]; exact hA, hS.trans hSq, hr', h1', by omega, rfl⟩
        | tok hw _ _ _ _ => exact absurd h2 (by omega)
      · rw [show ((if false = true then !inV (V.str ⟨#[l[n]]⟩) [.str (Str.ofString " "), .str (Str.ofString "\n")] else inV (V.str ⟨#[l[n]]⟩) [.str (Str.ofString " "), .str (Str.ofString "\n")]) = true) = (decide (l[n] = 32 ∨ l[n] = 10) = true) from congrArg (· = true) eI] at h2
        rw [decide_eq_true_eq] at h2
        have hx' := hx
        rw [ed] at hx'
        generalize er : l.drop (n + 1) = r at hx'
        cases hx' with
        | ws hw _ => exact absurd hw h2
        | here hw hno =>
          refine ⟨_, rfl, _, rfl, l, _, rfl, hl, h1', fun k t ht => ?_, fun _ d hd => kx _ (hS.trans hSq) d hd⟩
          rw [ed, er, hno] at ht; cases ht
        | @tok _ _ _ t k hw htok hne hle hr' =>
          refine ⟨_, rfl, _, rfl, l, n, rfl, hl, h1', fun k2 t2 ht2 b hb => ?_, fun hno => ?_⟩
          · rw [ed, er, htok] at ht2
            cases ht2
            have hb' : H' b = none := hSq.free hb
            have nab : a ≠ b := ne_of_none hA hb'
            have hSb := hSq.trans (Same.new (o := .tup [.str (kStr k), .str (S t), .int n]) hb)
            have hA2 := hSb _ _ hA
            have hlen : l.drop n = l[n] :: r := by rw [ed, er]
            have hrl : r.length + 1 = l.length - n := by
              have := congrArg List.length hlen
              rw [List.length_drop, List.length_cons] at this; omega
            have ht0 : 0 < t.length := List.length_pos_iff.mpr hne
            refine ⟨_, rfl, .inl ⟨rfl, _, SqL.of hA2⟩, _, rfl, a, xs, _, rfl, rfl, hA2, Nat.lt_of_le_of_lt (by omega : xs.length ≤ 4000) (by decide), ?_⟩
            refine ⟨_, rfl, _, rfl, _, _, _, _, rfl, rfl, SqT.of (by rw [upd_ne nab.symm]; exact upd_same), (show atI _ ((1 : Nat) : Int) = _ from atI_nat rfl), _, rfl, by rw [S_len]; exact sz (by omega), ?_⟩
            refine ⟨_, _, rfl, rfl, ?_⟩
            have e1 : (n : Int) + ((S t).length : Nat) = ((n + t.length : Nat) : Int) := by rw [S_len]; omega
            refine ⟨_, (by omega : l.length - (n + t.length) < l.length - n), n + t.length, xs ++ [.ref b], some (.ref b), ?_, upd_same, ?_, ?_, by omega, by rw [List.length_append, List.length_singleton]; omega, rfl⟩
            · show [some (V.str (S l)), some (V.ref a), some (V.int ((n : Int) + ((S t).length : Nat))), some (V.ref b)] = _
              rw [e1]
            · exact Same.put (hS.trans hSb) ha
            · rw [← hlen, List.drop_drop] at hr'
              exact hr'
          · rw [ed, er, htok] at hno; cases hno
    · rw [decide_eq_true_eq, S_len] at h1
      have en : n = l.length := by omega
      subst en
      rw [List.drop_length] at hx
      cases hx
end
end K2
set_option Elab.async false
set_option linter.all false
set_option maxRecDepth 100000
set_option maxHeartbeats 4000000
namespace K2
open PySem L2 C8 SX K1 LamX NdefX LX PySem.Spec PyProof.Rows
/-! parse of a bad text; _law_index -/
abbrev s_parse : Stmt := top 30
abbrev s_index : Stmt := top 35
abbrev N_parse : List Str := ["text", "listed", "parser", "statements", "most_words", "begin"]
abbrev N_index : List Str := ["text", "by", "e"]
theorem sc_parse : FnScope N_parse ["text"] (fnScope s_parse) := fnScope_by (by decide +kernel)
theorem sc_index : FnScope N_index ["text", "by"] (fnScope s_index) := fnScope_by (by decide +kernel)
structure TxtI (K : PySem.W.Frag) (mg : Str → Option Value) (C aB aL : Addr) : Prop where
  parse : Has K mg "parse" s_parse
  index : Has K mg "_law_index" s_index
  b_isinstance : mg "isinstance" = none
  xf : XfC K C
  ec : ExcC K C
  gB : mg "StableError" = some (.ref aB)
  gL : mg "LimitError" = some (.ref aL)
  kB : PySem.W.kitOne K (.ref C) (.ref aB) = some true
  kL : PySem.W.kitOne K (.ref C) (.ref aL) = some false
  te : PySem.W.exmOne K (.ref C) (.ref C) = some true
/-- the text l is refused at m -/
def BadAt (l : List Nat) (m : Nat) : Prop := (4000 < l.length ∧ m = 0) ∨ (l.length ≤ 4000 ∧ BadLex m 0 l)
def spIndex : Sp := fun vs H Q _ => ∃ (l : List Nat) (b : Int) (m : Nat), vs = [.str (S l), .int b] ∧ l.length ≤ 100000 ∧ BadAt l m ∧ ∀ H', Same H H' → Q (.int m) H'
section
variable {P : Program} {w : World} {K : PySem.W.Frag} {mg : Str → Option Value} {base : Heap} {C aB aL : Addr}
theorem okX_parse (T : TxtI K mg C aB aL) (c_tokens : CalX P w K mg base 5 "tokens" (spTokensX C)) : CalX P w K mg base 6 "parse" (spTokensX C) := by
  obtain ⟨f, fd, F, df⟩ := T.parse
  refine calX (ps := ["text"]) F (F.fn.binds df fun _ _ _ _ _ _ us hl => match us, hl with | [_], _ => rfl) sc_parse (fun vs H Q E h => ?_) (fun cdv A outer s H vs Q E hr h => ?_)
  · obtain ⟨l, m, rfl, _⟩ := h; rfl
  · obtain ⟨l, m, rfl, hlz, hbad, kx⟩ := h
    refine ⟨_, pss_cons (ps_set (i := 1) sc_parse.nd rfl (Or.inl rfl) (pe_cX c_tokens (takes_of (E := E) rfl rfl rfl rfl) hr (by decide) rfl (pa_cons (pv 0) pa_nil))) pss_never, ?_⟩
    exact ⟨_, rfl, l, m, rfl, hlz, hbad, fun H' hs d hd => kx H' hs d hd⟩
theorem ok_index (T : TxtI K mg C aB aL) (TE : TErr P K mg C) (c_tokens : CalX P w K mg base 5 "tokens" (spTokensX C)) (c_parse : CalX P w K mg base 6 "parse" (spTokensX C)) : Cal P w K mg base 7 "_law_index" spIndex [] := by
  obtain ⟨f, fd, F, df⟩ := T.index
  refine cal0 (ps := ["text", "by"]) F (F.fn.binds df fun _ _ _ _ _ _ us hl => match us, hl with | [_, _], _ => rfl) .nil sc_index (fun vs H Q E h => ?_) (fun cdv A outer s H vs Q E hr h => ?_)
  · obtain ⟨l, b, m, rfl, _⟩ := h; rfl
  · obtain ⟨l, b, m, rfl, hlz, hbad, kk⟩ := h
    refine ⟨_, pss_cons (ps_try_as (i := 2) (c := .ref C) (Wout := fun _ _ _ _ => False) rfl rfl sc_index.nd rfl rfl ⟨rfl, by decide, Or.inl TE.gC⟩ L2.takes0
      (fun W pn xe tk _ => pss_one (ps_if (pt_cmpR op_eq (pv 1) pe_int (nomark _))
        (pss_one (ps_expr (pe_cX c_tokens tk hr (by decide) rfl (pa_cons (pv 0) pa_nil))))
        (pss_one (ps_expr (pe_cX c_parse tk hr (by decide) rfl (pa_cons (pv 0) pa_nil))))))
      (fun a oe cls d pn hz hf => pss_one (ps_if (PW.pt (pw_and (pt_val (pe_callB (call_isX T.ec hz hf) (by rfl) T.b_isinstance (by decide +kernel) (pa_cons (pv 2) (pa_cons (pe_gc (v := .ref aB) rfl ⟨_, T.gB, rfl⟩) pa_nil))))
          (pw_and1 (pt_cmpR op_is_bl (pe_callB (call_isX T.ec hz hf) (by rfl) T.b_isinstance (by decide +kernel) (pa_cons (pv 2) (pa_cons (pe_gc (v := .ref aL) rfl ⟨_, T.gL, rfl⟩) pa_nil))) pe_bl (nomark _)))))
        (pss_one (ps_ret (pe_xf T.xf TE.no hz hf (pv 2))))
        pss_nil))) pss_never, ?_⟩
    have hit : ∀ (E2 : XK), (∀ H' , Same H H' → ∀ d, H' d = none → E2 (.ref C) (some d) (upd H' d (.xd [("at", .int m)]))) → ∀ Q2, spTokensX C [V.str (S l)] H Q2 E2 := fun E2 h2 Q2 => ⟨l, m, rfl, hlz, hbad, h2⟩
    refine ⟨_, rfl, rfl, _, rfl, ite2 (fun h1 => ⟨_, rfl, hit _ ?_ (fun _ _ => True)⟩) (fun h1 => ⟨_, rfl, hit _ ?_ (fun _ _ => True)⟩)⟩
    all_goals
      intro H' hs d hd
      refine ⟨true, T.te, fun _ a ha => ?_, fun z => Bool.noConfusion z⟩
      refine ⟨_, rfl, _, _, true, d, _, rfl, rfl, rfl, upd_same, fun u r => r, T.kB, ?_⟩
      refine ⟨true, rfl, ?_⟩
      dsimp only
      rw [if_pos rfl]
      refine ⟨_, rfl, _, _, false, d, _, rfl, rfl, rfl, upd_same, fun u r => r, T.kL, _, _, rfl, rfl, _, rfl, ?_⟩
      dsimp only
      rw [if_pos (decide_eq_true rfl)]
      exact ⟨_, rfl, rfl, rfl, d, _, _, rfl, upd_same, rfl, kk _ (Same.put hs (hs.free hd))⟩
end
end K2
set_option Elab.async false
set_option maxRecDepth 100000
set_option maxHeartbeats 4000000
namespace K2
open PySem L2 C8 SX K1
abbrev s_state : Stmt := top 32
abbrev s_draw : Stmt := top 33
abbrev s_piece : Stmt := top 34
abbrev s_law : Stmt := top 36
abbrev N_piece : List Str := ["state", "kind"]
abbrev N_law : List Str := ["script", "state", "count", "text", "rest", "bad", "whole", "k"]
abbrev N_state : List Str := ["script", "seed", "cell"]
abbrev N_draw : List Str := ["state", "many", "cells", "k", "amount", "mixed"]
theorem sc_state : FnScope N_state ["script"] (fnScope s_state) := fnScope_by (by decide +kernel)
theorem sc_draw : FnScope N_draw ["state", "many"] (fnScope s_draw) := fnScope_by (by decide +kernel)
theorem sc_piece : FnScope N_piece ["state"] (fnScope s_piece) := fnScope_by (by decide +kernel)
theorem sc_law : FnScope N_law ["script"] (fnScope s_law) := fnScope_by (by decide +kernel)
structure TxtL (K : PySem.W.Frag) (mg : Str → Option Value) : Prop where
  state : Has K mg "_law_state" s_state
  draw : Has K mg "_law_draw" s_draw
  piece : Has K mg "_law_piece" s_piece
  b_len : mg "len" = none
  b_int : mg "int" = none
  b_abs : mg "abs" = none
  b_range : mg "range" = none
  b_str : mg "str" = none
/-- the state of the draws: a list at st whose first item is the list of cells at c -/
def StAt (H : Hp) (st c : Addr) : Prop := ∃ (sd kd : Int) (ns : List Int), H st = some (.lst [.ref c, .int sd, .int kd]) ∧ H c = some (.lst (ns.map V.int)) ∧ ns.length ≤ 63
theorem StAt.ne {H : Hp} {st c : Addr} (h : StAt H st c) : st ≠ c := by
  obtain ⟨sd, kd, ns, h1, h2, _⟩ := h
  refine ne_of h1 h2 fun z => ?_
  have z' := HO.lst.inj z
  cases ns with
  | nil => cases z'
  | cons n r => cases (List.cons.inj z').1
/-- all but the state stays -/
def Keep2 (st c : Addr) (H H' : Hp) : Prop := ∀ b o, H b = some o → b ≠ st → b ≠ c → H' b = some o
theorem Keep2.refl {st c : Addr} (H : Hp) : Keep2 st c H H := fun _ _ h _ _ => h
theorem Keep2.trans {st c : Addr} {A B C : Hp} (h : Keep2 st c A B) (h' : Keep2 st c B C) : Keep2 st c A C := fun b o e n1 n2 => h' b o (h b o e n1 n2) n1 n2
theorem Keep2.of {st c : Addr} {A B : Hp} (h : Same A B) : Keep2 st c A B := fun b o e _ _ => h b o e
theorem Keep2.keepT {st c : Addr} {H H' : Hp} (h : Keep2 st c H H') (s : StAt H st c) : KeepT H H' := fun b xs e => by
  obtain ⟨sd, kd, ns, h1, h2, _⟩ := s
  exact h b _ e (ne_of e h1 (by intro z; cases z)) (ne_of e h2 (by intro z; cases z))
theorem Keep2.put_st {st c : Addr} {H0 H : Hp} {o : HO} (h : Keep2 st c H0 H) : Keep2 st c H0 (upd H st o) := fun b u e n1 n2 => by rw [upd_ne n1]; exact h b u e n1 n2
theorem Keep2.put_c {st c : Addr} {H0 H : Hp} {o : HO} (h : Keep2 st c H0 H) : Keep2 st c H0 (upd H c o) := fun b u e n1 n2 => by rw [upd_ne n2]; exact h b u e n1 n2
theorem StAt.same {H H' : Hp} {st c : Addr} (s : StAt H st c) (h : Same H H') : StAt H' st c := by
  obtain ⟨sd, kd, ns, h1, h2, h3⟩ := s
  exact ⟨sd, kd, ns, h _ _ h1, h _ _ h2, h3⟩
theorem StAt.put {H : Hp} {st c a : Addr} {o : HO} (s : StAt H st c) (h1 : a ≠ st) (h2 : a ≠ c) : StAt (upd H a o) st c := by
  obtain ⟨sd, kd, ns, e1, e2, h3⟩ := s
  exact ⟨sd, kd, ns, by rw [upd_ne h1.symm]; exact e1, by rw [upd_ne h2.symm]; exact e2, h3⟩
theorem StAt.free {H : Hp} {st c a : Addr} (s : StAt H st c) (h : H a = none) : a ≠ st ∧ a ≠ c := by
  obtain ⟨sd, kd, ns, e1, e2, h3⟩ := s
  exact ⟨(ne_of_none e1 h).symm, (ne_of_none e2 h).symm⟩
def spState (K : PySem.W.Frag) : Sp := fun vs H Q _ => ∃ (a : Addr) (ns : List Int), vs = [.ref a] ∧ SqL K H a (ns.map V.int) ∧ ns.length ≤ 63 ∧ ∀ st c H', Same H H' → H st = none → H c = none → StAt H' st c → Q (.ref st) H'
def spDraw : Sp := fun vs H Q _ => ∃ (st c : Addr) (many : Int), vs = [.ref st, .int many] ∧ 0 < many ∧ many < 1073741824 ∧ StAt H st c ∧ ∀ (d : Int) H', 0 ≤ d → d < many → StAt H' st c → Keep2 st c H H' → Q (.int d) H'
theorem at0 {α : Type} {x : α} {r : List α} : atI (x :: r) 0 = some x := atI_nat (j := 0) rfl
theorem ixN0 {n : Nat} (h : 0 < n) : ixN n 0 = some 0 := by
  unfold ixN; rw [if_pos (by decide), if_pos (by omega)]; rfl
theorem map_int_at {ns : List Int} {i : Nat} {x : V} (h : (ns.map V.int)[i]? = some x) : ∃ z, x = .int z := by
  rw [List.getElem?_map] at h
  obtain ⟨z, _, e⟩ := Option.map_eq_some_iff.mp h
  exact ⟨z, e.symm⟩
section
variable {P : Program} {w : World} {K : PySem.W.Frag} {mg : Str → Option Value} {base : Heap}
theorem ok_state (T : TxtL K mg) : Cal P w K mg base 1 "_law_state" (spState K) [] := by
  obtain ⟨f, fd, F, df⟩ := T.state
  refine cal0 (ps := ["script"]) F (F.fn.binds df fun _ _ _ _ _ _ us hl => match us, hl with | [_], _ => rfl) .nil sc_state (fun vs H Q E h => ?_) (fun cdv A outer s H vs Q E hr h => ?_)
  · obtain ⟨a, ns, rfl, _⟩ := h; rfl
  · obtain ⟨a, ns, rfl, hS, hn, kk⟩ := h
    refine ⟨_, (pss_cons (ps_set (i := 1) sc_state.nd rfl (Or.inl rfl) pe_int)
    (pss_cons (ps_for PassesOwn.never rfl (pi_list (pv 0)) (pg_name (i := 2) sc_state.nd rfl (Or.inl rfl))
      (pss_one (ps_set (i := 1) sc_state.nd rfl (Or.inl rfl) (pe_op op_mod (pe_callTy call_int1 (by rfl) T.b_int (by decide +kernel) (pa_cons (pe_op op_add (pe_op op_mul (pv 1) pe_int) (pv 2)) pa_nil)) pe_int))))
    (pss_one (ps_ret (pe_lst (pa_cons (pe_lc (own := [("cell", 2)]) rfl sc_state.nd (pi_list (pv 0)) (blkOk_by (N := N_state) (sc := fnScope s_state) (by decide +kernel)) (fun _ _ _ _ _ => (pg_name (i := 2) sc_state.nd rfl (Or.inl rfl))) (fun _ _ _ _ _ => pts_nil) (fun _ _ _ _ _ => (pe_callB call_abs (by rfl) T.b_abs (by decide +kernel) (pa_cons (pv 2) pa_nil)))) (pa_cons (pe_op op_add (pv 1) pe_int) (pa_cons (pe_op op_mod (pe_callTy call_int1 (by rfl) T.b_int (by decide +kernel) (pa_cons (pv 1) pa_nil)) pe_int) pa_nil)))))))), ?_⟩
    refine ⟨_, rfl, a, rfl, ⟨_, hS⟩, for_list (K := K) (a := a) (xs := ns.map V.int) (fun i σ H' => H' = H ∧ ∃ sd v, σ = [some (.ref a), some (.int sd), v]) ⟨rfl, _, none, rfl⟩ (fun _ _ _ _ ⟨e, _⟩ => e ▸ hS) ?_ ?_⟩
    · rintro i x σ H' hx ⟨rfl, sd, v, rfl⟩
      obtain ⟨z, rfl⟩ := map_int_at hx
      refine ⟨_, rfl, _, _, rfl, rfl, .inr ⟨by decide, by decide⟩, _, rfl, _, _, rfl, rfl, .inl ⟨_, rfl, _, _, rfl, rfl, (by show (0 : Int) < 1000003; decide), rfl, _, _, rfl⟩⟩
    · rintro σ H' ⟨rfl, sd, v, rfl⟩
      refine ⟨_, rfl, a, rfl, ⟨_, hS⟩, fun D hD => lc_list (K := K) (a := a) (xs := ns.map V.int) (fun i H2 => Same H' H2 ∧ ∃ ms : List Int, H2 D = some (.lst (ms.map V.int)) ∧ ms.length = i) ⟨Same.new hD, [], upd_same, rfl⟩ (fun i H2 _ h => h.1.seq hS) ?_ ?_⟩
      · rintro i x H2 hx ⟨hs, ms, hD2, hm⟩
        have hi : i < ns.length := by
          have := (List.getElem?_eq_some_iff.mp hx).1; rwa [List.length_map] at this
        obtain ⟨z, rfl⟩ := map_int_at hx
        refine ⟨rfl, ?_⟩
        refine ⟨_, rfl, _, rfl, ms.map V.int, hD2, by rw [List.length_map]; exact Nat.lt_of_le_of_lt (by omega : ms.length ≤ 63) (by decide), Same.put hs hD, ms ++ [if z < 0 then -z else z], ?_, by rw [List.length_append, List.length_singleton, hm]⟩
        rw [List.map_append]; exact upd_same
      · rintro H2 ⟨hs, ms, hD2, hm⟩
        rw [List.length_map] at hm
        refine ⟨_, rfl, _, _, rfl, rfl, _, rfl, .inl ⟨_, rfl, _, _, rfl, rfl, (by show (0 : Int) < 4; decide), three, fun st hst => ?_⟩⟩
        have hst' := hs.free hst
        exact kk st D _ (Same.put hs hst') hst' hD ⟨_, _, ms, upd_same, by rw [upd_ne (ne_of_none hD2 hst)]; exact hD2, by omega⟩
theorem ok_draw (T : TxtL K mg) : Cal P w K mg base 1 "_law_draw" spDraw [] := by
  obtain ⟨f, fd, F, df⟩ := T.draw
  refine cal0 (ps := ["state", "many"]) F (F.fn.binds df fun _ _ _ _ _ _ us hl => match us, hl with | [_, _], _ => rfl) .nil sc_draw (fun vs H Q E h => ?_) (fun cdv A outer s H vs Q E hr h => ?_)
  · obtain ⟨st, c, many, rfl, _⟩ := h; rfl
  · obtain ⟨st, c, many, rfl, hm0, hm1, hst, kk⟩ := h
    refine ⟨_, (pss_cons (ps_set (i := 2) sc_draw.nd rfl (Or.inl rfl) (pe_ix ix_list (pv 0) pe_int (fun _ _ => rfl)))
    (pss_cons (ps_for PassesOwn.never rfl (pi_range1 rfl T.b_range (pa_cons (pe_callB call_len_seq (by rfl) T.b_len PySem.boot_len (pa_cons (pv 2) pa_nil)) pa_nil)) (pg_name (i := 3) sc_draw.nd rfl (Or.inl rfl))
      (pss_one (ps_if (PW.pt (pw_and (pt_cmpR op_eq (pe_ix ix_list (pv 2) pe_int (fun _ _ => rfl)) pe_int (nomark _)) (pw_and1 (pt_cmpR op_gt (pe_callB call_len_seq (by rfl) T.b_len PySem.boot_len (pa_cons (pv 2) pa_nil)) pe_int (nomark _)))))
        (pss_one (ps_expr (pe_bm PySem.F.plainAttrs_list PySem.F.slot_list_pop PySem.F.type_list_pop mt_popAt (pv 2) (pa_cons pe_int pa_nil))))
        pss_nil)))
    (pss_cons (ps_if (PW.pt (pw_and (pt_cmpR op_gt (pe_callB call_len_seq (by rfl) T.b_len PySem.boot_len (pa_cons (pv 2) pa_nil)) pe_int (nomark _)) (pw_and1 (pt_cmpR op_gt (pe_ix ix_list (pv 2) pe_int (fun _ _ => rfl)) pe_int (nomark _)))))
      (pss_cons (ps_set (i := 4) sc_draw.nd rfl (Or.inl rfl) (pe_ix ix_list (pv 2) pe_int (fun _ _ => rfl)))
      (pss_cons (ps_asg (pe_op op_fdiv (pv 4) (pv 1)) (pg_sub (pv 2) pe_int set_list))
      (pss_one (ps_ret (pe_op op_mod (pe_callTy call_int1 (by rfl) T.b_int (by decide +kernel) (pa_cons (pv 4) pa_nil)) (pv 1))))))
      pss_nil)
    (pss_cons (ps_set (i := 5) sc_draw.nd rfl (Or.inl rfl) (pe_op op_mod (pe_callTy call_int1 (by rfl) T.b_int (by decide +kernel) (pa_cons (pe_op op_add (pe_op op_mul (pe_ix ix_list (pv 0) pe_int (fun _ _ => rfl)) pe_int) pe_int) pa_nil)) pe_int))
    (pss_cons (ps_asg (pv 5) (pg_sub (pv 0) pe_int set_list))
    (pss_one (ps_ret (pe_op op_mod (pe_callTy call_int1 (by rfl) T.b_int (by decide +kernel) (pa_cons (pe_op op_fdiv (pv 5) pe_int) pa_nil)) (pv 1))))))))), ?_⟩
    have hne := hst.ne
    obtain ⟨sd, kd, ns, h1, h2, hn⟩ := hst
    refine ⟨_, rfl, st, _, 0, _, rfl, rfl, SqL.of h1, rfl, ?_⟩
    refine ⟨_, rfl, c, _, rfl, .inl (SqL.of h2), _, rfl, by omega, by rw [List.length_map]; omega, ?_⟩
    rw [Int.toNat_natCast, List.length_map]
    refine for_range (lo := 0) (n := ns.length) (fun i σ H' => ∃ (v : Option V) (ms : List Int), σ = [some (.ref st), some (.int many), some (.ref c), v, none, none] ∧ H' st = some (.lst [.ref c, .int sd, .int kd]) ∧ H' c = some (.lst (ms.map V.int)) ∧ ms.length ≤ 63 ∧ (ns.length ≠ 0 → ms ≠ []) ∧ Keep2 st c H H')
      ⟨none, ns, rfl, h1, h2, hn, fun h z => h (by rw [z]; rfl), Keep2.refl H⟩ ?_ ?_
    · rintro i σ H' hi ⟨v, ms, rfl, g1, g2, gm, gne, gk⟩
      have hms := gne (by omega)
      obtain ⟨m0, mr, rfl⟩ : ∃ m0 mr, ms = m0 :: mr := by
        cases ms with
        | nil => exact absurd rfl hms
        | cons a b => exact ⟨a, b, rfl⟩
      refine ⟨_, rfl, c, _, 0, _, rfl, rfl, SqL.of g2, at0, rfl, _, rfl, ite2 (fun _ => ?_) (fun _ => ?_)⟩
      · refine ⟨_, rfl, c, _, rfl, .inl (SqL.of g2), _, _, rfl, rfl, _, rfl, ite2 (fun h4 => ?_) (fun _ => ?_)⟩
        · rw [decide_eq_true_eq, List.length_map, List.length_cons] at h4
          refine ⟨_, rfl, .inl ⟨rfl, _, SqL.of g2⟩, c, _, 0, 0, _, rfl, rfl, g2, by decide, by decide, ?_, rfl, ?_⟩
          · unfold seqIndex?; simp
          · refine ⟨_, mr, rfl, by rw [upd_ne hne]; exact g1, upd_same, by simp only [List.length_cons] at gm; omega, fun _ z => ?_, gk.put_c⟩
            rw [z] at h4; simp at h4
        · exact ⟨_, m0 :: mr, rfl, g1, g2, gm, fun _ => hms, gk⟩
      · exact iteF ⟨_, m0 :: mr, rfl, g1, g2, gm, fun _ => hms, gk⟩
    · rintro σ H' ⟨v, ms, rfl, g1, g2, gm, gne, gk⟩
      have last : ∀ (σ : List (Option V)), σ = [some (.ref st), some (.int many), some (.ref c), v, none, none] →
        (tSeq (tAsg (tOp (rI (fun _ j => 0 < j) fun i j => .int (i % j)) (tCB (fun xs H Q => (∃ i, xs = [.int i] ∧ Q (.int i) H) ∨ ∃ k, xs = [.bl k] ∧ Q (.int (if k then 1 else 0)) H) (tCons (tOp (rI0 fun i j => .int (i + j)) (tOp (rI CMul fun i j => .int (i * j)) (tOp (rIxL K) (tVar 0) (tC (.int 1))) (tC (.int 48271))) (tC (.int 12345))) tNil)) (tC (.int 2147483647))) (gName 5))
          (tSeq (tAsg (tVar 5) (gSub (tVar 0) (tC (.int 1)) rSetL)) (tRet (tOp (rI (fun _ j => 0 < j) fun i j => .int (i % j)) (tCB (fun xs H Q => (∃ i, xs = [.int i] ∧ Q (.int i) H) ∨ ∃ k, xs = [.bl k] ∧ Q (.int (if k then 1 else 0)) H) (tCons (tOp (rI CDiv fun i j => .int (i / j)) (tVar 5) (tC (.int 64))) tNil)) (tVar 1)))))
          { nx := fun _ H' => Q .non H', rt := Q } σ H' := by
        rintro _ rfl
        refine ⟨_, rfl, st, _, 1, _, rfl, rfl, SqL.of g1, rfl, _, _, rfl, rfl, .inr ⟨by decide, by decide⟩, _, _, rfl, rfl, .inl ⟨_, rfl, _, _, rfl, rfl, (by show (0 : Int) < 2147483647; decide), ?_⟩⟩
        refine ⟨_, rfl, _, rfl, st, _, 1, 1, rfl, rfl, g1, rfl, ?_⟩
        refine ⟨_, rfl, _, _, rfl, rfl, ⟨by decide, by decide⟩, .inl ⟨_, rfl, _, rfl, _, _, rfl, rfl, hm0, ?_⟩⟩
        exact kk _ _ (Int.emod_nonneg _ (by omega)) (Int.emod_lt_of_pos _ hm0) ⟨_, _, ms, upd_same, by rw [upd_ne hne.symm]; exact g2, gm⟩ gk.put_st
      refine ⟨_, rfl, c, _, rfl, .inl (SqL.of g2), _, _, rfl, rfl, _, rfl, ite2 (fun h4 => ?_) (fun _ => ?_)⟩
      · rw [decide_eq_true_eq, List.length_map] at h4
        obtain ⟨m0, mr, rfl⟩ : ∃ m0 mr, ms = m0 :: mr := by
          cases ms with
          | nil => simp at h4
          | cons a b => exact ⟨a, b, rfl⟩
        refine ⟨_, rfl, c, _, 0, _, rfl, rfl, SqL.of g2, at0, _, _, rfl, rfl, _, rfl, ite2 (fun h5 => ?_) (fun _ => ?_)⟩
        · refine ⟨_, rfl, c, _, 0, _, rfl, rfl, SqL.of g2, at0, ?_⟩
          refine ⟨_, rfl, _, rfl, _, _, rfl, rfl, ⟨hm0, hm1⟩, _, rfl, c, _, 0, 0, rfl, rfl, g2, ixN0 (by simp), ?_⟩
          refine ⟨_, rfl, .inl ⟨_, rfl, _, rfl, _, _, rfl, rfl, hm0, ?_⟩⟩
          exact kk _ _ (Int.emod_nonneg _ (by omega)) (Int.emod_lt_of_pos _ hm0) ⟨sd, kd, (m0 / many) :: mr, by rw [upd_ne hne]; exact g1, upd_same, gm⟩ gk.put_c
        · exact last _ rfl
      · exact iteF (last _ rfl)
end
theorem atI_get? {α : Type} {xs : List α} {d : Int} (h0 : 0 ≤ d) (h1 : d < xs.length) : ∃ v, v ∈ xs ∧ atI xs d = some v := by
  obtain ⟨n, rfl⟩ := Int.eq_ofNat_of_zero_le h0
  have hn : n < xs.length := by omega
  exact ⟨xs[n], List.getElem_mem hn, atI_nat (List.getElem?_eq_getElem hn)⟩
theorem ix_pick {K : PySem.W.Frag} {H : Hp} {p : Addr} {xs : List V} {d : Int} {Q : VK} (h : SqL K H p xs) (h0 : 0 ≤ d) (h1 : d < xs.length) (k : ∀ v ∈ xs, Q v H) : rIxL K (.ref p) (.int d) H Q := by
  obtain ⟨v, hv, e⟩ := atI_get? h0 h1
  exact ⟨p, xs, d, v, rfl, rfl, h, e, k v hv⟩
theorem sx_pick {H : Hp} {x : Str} {f : Nat → Bool} {d : Int} {Q : VK} (hx : x.cps.toList.all f = true) (hl : x.length ≤ 4000) (h0 : 0 ≤ d) (h1 : d < x.cps.toList.length) (k : ∀ ch, f ch = true → Q (.str (S [ch])) H) : rIxS (.str x) (.int d) H Q := by
  obtain ⟨v, hv, e⟩ := atI_get? h0 h1
  exact ⟨x, d, v, rfl, rfl, sz hl, e, k v (List.all_eq_true.mp hx v hv)⟩
theorem Keep2.free {st c a : Addr} {H H' : Hp} (k : Keep2 st c H H') (s : StAt H' st c) (h : H' a = none) : H a = none := by
  obtain ⟨n1, n2⟩ := s.free h
  cases q : H a with
  | none => rfl
  | some o => rw [k a o q n1 n2] at h; cases h
theorem Keep2.new {st c p : Addr} {H0 H : Hp} {o : HO} (k : Keep2 st c H0 H) (h : H p = none) : Keep2 st c H0 (upd H p o) := k.trans (Keep2.of (Same.new h))
theorem two : 2 ≤ sizeLine := by decide
end K2
set_option Elab.async false
set_option linter.all false
set_option maxRecDepth 100000
set_option maxHeartbeats 4000000
namespace K2
open PySem L2 C8 SX K1
/-! a piece; the text of pieces; where its first bad character stands -/
/-- a drawn piece -/
def Pc (p : List Nat) : Prop := ((∃ k, Good k p) ∨ p = [32] ∨ p = [10]) ∧ p.length ≤ 20
inductive Pcs : List Nat → Prop
  | nil : Pcs []
  | cons {p r : List Nat} : Pc p → Pcs r → Pcs (p ++ 32 :: r)
theorem Pcs.bad {c : Nat} {r : List Nat} {text : List Nat} (hp : Pcs text) (hc : c ≠ 32 ∧ c ≠ 10) (hno : tok1 (c :: r) = none) : ∀ n, BadLex (n + text.length) n (text ++ c :: r) := by
  induction hp with
  | nil => intro n; exact .here hc hno
  | @cons p q h _ ih =>
    intro n
    rw [List.append_assoc, List.cons_append]
    have i1 := ih (n + p.length + 1)
    have el : n + p.length + 1 + q.length = n + (p ++ 32 :: q).length := by rw [List.length_append, List.length_cons]; omega
    rw [el] at i1
    have i2 : BadLex (n + (p ++ 32 :: q).length) (n + p.length) (32 :: (q ++ c :: r)) := .ws (.inl rfl) i1
    rcases h.1 with ⟨k, g⟩ | rfl | rfl
    · obtain ⟨d, v, e, hd1, hd2⟩ := g.head
      have hr := g.read (rest := 32 :: (q ++ c :: r)) fun x y exy => stop_ws (.inl (List.cons.inj exy).1.symm)
      subst e
      rw [List.cons_append] at hr ⊢
      refine .tok (r := v ++ 32 :: (q ++ c :: r)) ⟨hd1, hd2⟩ hr (by simp) (by simp) ?_
      rw [show (d :: (v ++ 32 :: (q ++ c :: r))).drop (d :: v).length = 32 :: (q ++ c :: r) by rw [← List.cons_append, List.drop_left]]
      exact i2
    · exact .ws (.inl rfl) i2
    · exact .ws (.inr rfl) i2
def spPiece : Sp := fun vs H Q _ => ∃ (st c : Addr), vs = [.ref st] ∧ StAt H st c ∧ ∀ p H', Pc p → StAt H' st c → Keep2 st c H H' → Q (.str (S p)) H'
def wsP : List (List Nat) := [[112], [113, 50], [110, 111, 116], [115, 117, 109], [88], [89, 97], [122, 95]]
def wsS : List (List Nat) := [[58, 45], [33, 61], [60, 61], [40], [41], [123], [125], [44], [46], [58], [42]]
theorem pc_P : ∀ g ∈ wsP, Pc g := by
  intro g hg
  simp only [wsP, List.mem_cons, List.not_mem_nil, or_false] at hg
  rcases hg with rfl | rfl | rfl | rfl | rfl | rfl | rfl
  · exact ⟨.inl ⟨.name, .name (by decide) (by decide) (by decide)⟩, by decide⟩
  · exact ⟨.inl ⟨.name, .name (by decide) (by decide) (by decide)⟩, by decide⟩
  · exact ⟨.inl ⟨.name, .name (by decide) (by decide) (by decide)⟩, by decide⟩
  · exact ⟨.inl ⟨.name, .name (by decide) (by decide) (by decide)⟩, by decide⟩
  · exact ⟨.inl ⟨.var, .var (by decide) (by decide) (by decide)⟩, by decide⟩
  · exact ⟨.inl ⟨.var, .var (by decide) (by decide) (by decide)⟩, by decide⟩
  · exact ⟨.inl ⟨.name, .name (by decide) (by decide) (by decide)⟩, by decide⟩
theorem pc_S : ∀ g ∈ wsS, Pc g := by
  intro g hg
  have h1 : ∀ g ∈ wsS, g ∈ sigs := by decide
  have h2 : ∀ g ∈ wsS, g.length ≤ 20 := by decide
  exact ⟨.inl ⟨.sign, .sign (h1 g hg)⟩, h2 g hg⟩
section
variable {P : Program} {w : World} {K : PySem.W.Frag} {mg : Str → Option Value} {base : Heap}
theorem ok_piece (T : TxtL K mg) (c_draw : Cal P w K mg base 1 "_law_draw" spDraw []) : Cal P w K mg base 2 "_law_piece" spPiece [] := by
  obtain ⟨f, fd, F, df⟩ := T.piece
  refine cal0 (ps := ["state"]) F (F.fn.binds df fun _ _ _ _ _ _ us hl => match us, hl with | [_], _ => rfl) .nil sc_piece (fun vs H Q E h => ?_) (fun cdv A outer s H vs Q E hr h => ?_)
  · obtain ⟨st, c, rfl, _⟩ := h; rfl
  · obtain ⟨st, c, rfl, hst, kk⟩ := h
    refine ⟨_, (pss_cons (ps_set (i := 1) sc_piece.nd rfl (Or.inl rfl) (pe_c c_draw hr (by decide) rfl (pa_cons (pv 0) (pa_cons pe_int pa_nil))))
    (pss_cons (ps_if (pt_cmpR op_eq (pv 1) pe_int (nomark _))
      (pss_one (ps_ret (pe_ix ix_list (pe_lst (pa_cons pe_str (pa_cons pe_str (pa_cons pe_str (pa_cons pe_str (pa_cons pe_str (pa_cons pe_str (pa_cons pe_str pa_nil)))))))) (pe_c c_draw hr (by decide) rfl (pa_cons (pv 0) (pa_cons pe_int pa_nil))) (fun _ _ => rfl))))
      pss_nil)
    (pss_cons (ps_if (pt_cmpR op_eq (pv 1) pe_int (nomark _))
      (pss_one (ps_ret (pe_callTy call_str_int (by rfl) T.b_str (by decide +kernel) (pa_cons (pe_c c_draw hr (by decide) rfl (pa_cons (pv 0) (pa_cons pe_int pa_nil))) pa_nil))))
      pss_nil)
    (pss_cons (ps_if (pt_cmpR op_eq (pv 1) pe_int (nomark _))
      (pss_one (ps_ret (pe_ix ix_list (pe_lst (pa_cons pe_str (pa_cons pe_str (pa_cons pe_str (pa_cons pe_str (pa_cons pe_str (pa_cons pe_str (pa_cons pe_str (pa_cons pe_str (pa_cons pe_str (pa_cons pe_str (pa_cons pe_str pa_nil)))))))))))) (pe_c c_draw hr (by decide) rfl (pa_cons (pv 0) (pa_cons pe_int pa_nil))) (fun _ _ => rfl))))
      pss_nil)
    (pss_one (ps_ret (pe_ix ix_str pe_str (pe_c c_draw hr (by decide) rfl (pa_cons (pv 0) (pa_cons pe_int pa_nil))) (fun _ _ => rfl)))))))), ?_⟩
    refine ⟨_, rfl, st, c, 4, rfl, by decide, by decide, hst, fun d1 H1 a1 b1 s1 k1 => ?_⟩
    refine ⟨_, rfl, rfl, _, rfl, ite2 (fun _ => ?_) (fun _ => ?_)⟩
    · refine ⟨(by show 7 ≤ sizeLine; decide), fun p hp => ?_⟩
      obtain ⟨n1, n2⟩ := s1.free hp
      refine ⟨_, rfl, st, c, 7, rfl, by decide, by decide, s1.put n1 n2, fun d2 H2 a2 b2 s2 k2 => ?_⟩
      refine ix_pick (SqL.of (k2 p _ upd_same n1 n2)) a2 b2 fun v hv => ?_
      obtain ⟨t, rfl, ht⟩ : ∃ t, v = .str (S t) ∧ t ∈ wsP := by
        have e : ([.str (Str.ofString "p"), .str (Str.ofString "q2"), .str (Str.ofString "not"), .str (Str.ofString "sum"), .str (Str.ofString "X"), .str (Str.ofString "Ya"), .str (Str.ofString "z_")] : List V) = wsP.map fun g => V.str (S g) := by decide +kernel
        rw [e] at hv
        obtain ⟨t, h1, h2⟩ := List.mem_map.mp hv
        exact ⟨t, h2.symm, h1⟩
      exact kk t _ (pc_P t ht) s2 ((k1.new hp).trans k2)
    refine ⟨_, rfl, rfl, _, rfl, ite2 (fun _ => ?_) (fun _ => ?_)⟩
    · refine ⟨_, rfl, st, c, 10000, rfl, by decide, by decide, s1, fun d2 H2 a2 b2 s2 k2 => ?_⟩
      obtain ⟨n, rfl⟩ := Int.eq_ofNat_of_zero_le a2
      refine ⟨_, rfl, ?_, ?_⟩
      · rw [Int.natAbs_natCast]
        by_cases n0 : n = 0
        · subst n0; decide +kernel
        · exact (Nat.log2_lt n0).mpr (Nat.lt_of_lt_of_le (by omega : n < 10000) (by decide +kernel))
      rw [num_S]
      have g := Good.num (n := n) (by omega)
      exact kk _ _ ⟨.inl ⟨_, g⟩, g.len⟩ s2 (k1.trans k2)
    refine ⟨_, rfl, rfl, _, rfl, ite2 (fun _ => ?_) (fun _ => ?_)⟩
    · refine ⟨(by show 11 ≤ sizeLine; decide), fun p hp => ?_⟩
      obtain ⟨n1, n2⟩ := s1.free hp
      refine ⟨_, rfl, st, c, 11, rfl, by decide, by decide, s1.put n1 n2, fun d2 H2 a2 b2 s2 k2 => ?_⟩
      refine ix_pick (SqL.of (k2 p _ upd_same n1 n2)) a2 b2 fun v hv => ?_
      obtain ⟨t, rfl, ht⟩ : ∃ t, v = .str (S t) ∧ t ∈ wsS := by
        have e : ([.str (Str.ofString ":-"), .str (Str.ofString "!="), .str (Str.ofString "<="), .str (Str.ofString "("), .str (Str.ofString ")"), .str (Str.ofString "{"), .str (Str.ofString "}"), .str (Str.ofString ","), .str (Str.ofString "."), .str (Str.ofString ":"), .str (Str.ofString "*")] : List V) = wsS.map fun g => V.str (S g) := by decide +kernel
        rw [e] at hv
        obtain ⟨t, h1, h2⟩ := List.mem_map.mp hv
        exact ⟨t, h2.symm, h1⟩
      exact kk t _ (pc_S t ht) s2 ((k1.new hp).trans k2)
    refine ⟨_, rfl, st, c, 2, rfl, by decide, by decide, s1, fun d2 H2 a2 b2 s2 k2 => ?_⟩
    refine sx_pick (f := fun x => decide (x = 32 ∨ x = 10)) (by decide +kernel) (by decide +kernel) a2 (Int.lt_of_lt_of_le b2 (by decide +kernel)) fun ch hch => ?_
    rw [decide_eq_true_eq] at hch
    refine kk [ch] _ ⟨.inr ?_, by simp⟩ s2 (k1.trans k2)
    rcases hch with rfl | rfl
    · exact .inl rfl
    · exact .inr rfl
end
end K2
set_option Elab.async false
set_option linter.all false
set_option maxRecDepth 100000
set_option maxHeartbeats 4000000
namespace K2
open PySem L2 C8 SX K1 LX
/-! the law: its parts -/
def tokD (t : Tk) : PyData := .tuple [.str (kStr t.1), .str (S t.2.1), .int (t.2.2 : Nat)]
def Low (ts : List Tk) : Prop := ∀ tk ∈ ts, ∀ x ∈ tk.2.1, x < 128
theorem toks_dp {K : PySem.W.Frag} {H : Hp} : ∀ {xs : List V} {ts : List Tk}, ToksAt H xs ts → DpAll K H xs (ts.map tokD)
  | _, _, .nil => .nil
  | _, _, .cons ⟨a, e, h⟩ r => by
    subst e
    exact .cons (.tup (SqT.of h) (.cons (.str _) (.cons (.str _) (.cons (.int _) .nil)))) (toks_dp r)
theorem strOk_S {l : List Nat} (h : ∀ x ∈ l, x < 128) : PyData.strOk (S l) = true := by
  unfold PyData.strOk
  show l.toArray.all (· < 0x110000) = true
  rw [List.all_toArray, List.all_eq_true]
  intro x hx
  have := h x hx
  simp only [decide_eq_true_eq]; omega
theorem strOk_k (k : K1.Kind) : PyData.strOk (kStr k) = true := by cases k <;> decide +kernel
theorem lay_toks : ∀ {ts : List Tk}, Low ts → PyData.canLayAll0 (ts.map tokD) = true
  | [], _ => rfl
  | t :: ts, h => by
    have h1 := lay_toks (ts := ts) fun tk hk => h tk (List.mem_cons_of_mem _ hk)
    have h2 := strOk_S (h t List.mem_cons_self)
    have h3 := strOk_k t.1
    show (PyData.canLay0 (tokD t) && PyData.canLayAll0 (ts.map tokD)) = true
    rw [h1, Bool.and_true]
    show (PyData.strOk (kStr t.1) && (PyData.strOk (S t.2.1) && (true && true))) = true
    rw [h2, h3]; rfl
theorem depth_toks : ∀ (ts : List Tk), PyData.depthAll (ts.map tokD) ≤ 1
  | [] => Nat.zero_le _
  | t :: ts => by
    have h1 := depth_toks ts
    show max (PyData.depth (tokD t)) (PyData.depthAll (ts.map tokD)) ≤ 1
    exact Nat.max_le.mpr ⟨Nat.le_refl 1, h1⟩
theorem shaped_toks {ts : List Tk} (h : Low ts) : SeqAt.shaped (.list (ts.map tokD)) = true := by
  unfold SeqAt.shaped
  have h1 : PyData.canLay0 (.list (ts.map tokD)) = true := lay_toks h
  have h2 : PyData.depth (.list (ts.map tokD)) ≤ 64 := by
    show PyData.depthAll (ts.map tokD) + 1 ≤ 64
    have := depth_toks ts; omega
  rw [h1, decide_eq_true h2]; rfl
/-- the long text of n characters -/
def long (n : Nat) : List Nat := 112 :: (List.replicate (n - 2) 32 ++ [46])
theorem long_len {n : Nat} (h : 2 ≤ n) : (long n).length = n := by
  unfold long
  rw [List.length_cons, List.length_append, List.length_replicate, List.length_singleton]; omega
theorem long_lex {n : Nat} (h : 3 ≤ n) : Lex 0 (long n) [(.name, [112], 0), (.sign, [46], n - 1), (.fin, [], n)] := by
  have g1 : Good .name [112] := .name (by decide) (by decide) (by decide)
  have g2 : Good .sign [46] := .sign (by decide)
  have h2 : Lex (n - 1) [46] [(.sign, [46], n - 1), (.fin, [], n)] := by
    have r := g2.read (rest := []) fun x y e => by cases e
    rw [List.append_nil] at r
    refine .tok (by decide) r (by simp) (by simp) ?_
    have e : n - 1 + [46].length = n := by show n - 1 + 1 = n; omega
    rw [e]
    exact .nil n
  have h3 : Lex 1 (List.replicate (n - 2) 32 ++ [46]) [(.sign, [46], n - 1), (.fin, [], n)] := by
    refine Lex.gap _ 1 (fun c hc => .inl (List.eq_of_mem_replicate hc)) ?_
    rw [List.length_replicate, show 1 + (n - 2) = n - 1 by omega]
    exact h2
  have er : List.replicate (n - 2) 32 = 32 :: List.replicate (n - 3) 32 := by
    rw [show n - 2 = (n - 3) + 1 by omega, List.replicate_succ]
  have r := g1.read (rest := List.replicate (n - 2) 32 ++ [46]) fun x y e => by
    rw [er, List.cons_append] at e
    exact stop_ws (.inl (List.cons.inj e).1.symm)
  unfold long
  exact .tok (by decide) r (by simp) (by simp) h3
def longDue (n : Nat) : List Tk := [(.name, [112], 0), (.sign, [46], n - 1), (.fin, [], n)]
theorem long_low (n : Nat) : Low (longDue n) := by
  intro tk htk x hx
  simp only [longDue, List.mem_cons, List.not_mem_nil, or_false] at htk
  rcases htk with rfl | rfl | rfl
  · simp at hx; omega
  · simp at hx; omega
  · cases hx
def bads : List Nat := [38, 9, 33, 95, 47, 39, 124, 94, 63, 64, 91, 93, 36, 35]
theorem bads_no : ∀ c ∈ bads, ∀ r, tok1 (c :: 32 :: r) = none := by
  intro c hc r
  simp only [bads, List.mem_cons, List.not_mem_nil, or_false] at hc
  rcases hc with rfl | rfl | rfl | rfl | rfl | rfl | rfl | rfl | rfl | rfl | rfl | rfl | rfl | rfl <;> rfl
theorem bads_ws : ∀ c ∈ bads, c ≠ 32 ∧ c ≠ 10 := by decide
/-- the text of the pieces -/
def txt (ps : List (List Nat)) : List Nat := TL.joinL [] (ps.map fun p => p ++ [32])
theorem joinL_cons (p : List Nat) (r : List (List Nat)) : TL.joinL [] (p :: r) = p ++ TL.joinL [] r := by
  cases r with
  | nil => simp [TL.joinL]
  | cons q r => simp [TL.joinL]
theorem txt_cons (p : List Nat) (ps : List (List Nat)) : txt (p :: ps) = p ++ 32 :: txt ps := by
  unfold txt
  rw [List.map_cons, joinL_cons, List.append_assoc]; rfl
theorem txt_pcs : ∀ (ps : List (List Nat)), (∀ p ∈ ps, Pc p) → Pcs (txt ps)
  | [], _ => .nil
  | p :: ps, h => by
    rw [txt_cons]
    exact .cons (h p List.mem_cons_self) (txt_pcs ps fun q hq => h q (List.mem_cons_of_mem _ hq))
theorem txt_len : ∀ (ps : List (List Nat)), (∀ p ∈ ps, Pc p) → (txt ps).length ≤ 21 * ps.length
  | [], _ => by simp [txt, TL.joinL]
  | p :: ps, h => by
    have := txt_len ps fun q hq => h q (List.mem_cons_of_mem _ hq)
    have h1 := (h p List.mem_cons_self).2
    rw [txt_cons, List.length_append, List.length_cons, List.length_cons]; omega
theorem sum_len : ∀ (ps : List (List Nat)), (∀ p ∈ ps, Pc p) → (((ps.map fun p => p ++ [32]).map S).map (·.length)).sum ≤ 21 * ps.length
  | [], _ => by simp
  | p :: ps, h => by
    have := sum_len ps fun q hq => h q (List.mem_cons_of_mem _ hq)
    have h1 := (h p List.mem_cons_self).2
    rw [List.map_cons, List.map_cons, List.map_cons, List.sum_cons, S_len, List.length_append, List.length_singleton, List.length_cons]; omega
def spLaw (K : PySem.W.Frag) : Sp := fun vs H Q _ => ∃ (a : Addr) (ns : List Int), vs = [.ref a] ∧ SqL K H a (ns.map V.int) ∧ ns.length ≤ 63 ∧ ∀ H', Q (.bl true) H'
section
variable {P : Program} {w : World} {K : PySem.W.Frag} {mg : Str → Option Value} {base : Heap} {fd : FuncData} {f : Addr}
theorem ok_law (F : Def K mg "law" s_law f fd) (T : TxtL K mg) (c_state : Cal P w K mg base 1 "_law_state" (spState K) []) (c_draw : Cal P w K mg base 1 "_law_draw" spDraw []) (c_piece : Cal P w K mg base 2 "_law_piece" spPiece [])
    (c_index : Cal P w K mg base 7 "_law_index" spIndex []) (c_tokens : Cal P w K mg base 5 "tokens" spTokens []) : FnOk P w K mg base C8.CX0 8 f fd ["script"] (spLaw K) := by
  refine fn0 F.fn sc_law (fun vs H Q E h => ?_) (fun cdv A outer s H vs Q E hr h => ?_)
  · obtain ⟨a, ns, rfl, _⟩ := h; rfl
  · obtain ⟨a, ns, rfl, hS, hn, kk⟩ := h
    have hu64 := Room.units hr
    refine ⟨_, (pss_cons (ps_set (i := 1) sc_law.nd rfl (Or.inr rfl) (pe_c c_state hr (by decide) rfl (pa_cons (pv 0) pa_nil)))
    (pss_cons (ps_if (pt_cmpR op_eq (pe_c c_draw hr (by decide) rfl (pa_cons (pv 1) (pa_cons pe_int pa_nil))) pe_int (nomark _))
      (pss_cons (ps_set (i := 2) sc_law.nd rfl (Or.inl rfl) (pe_op op_add pe_int (pe_c c_draw hr (by decide) rfl (pa_cons (pv 1) (pa_cons pe_int pa_nil)))))
      (pss_cons (ps_set (i := 3) sc_law.nd rfl (Or.inl rfl) (pe_op op_add_str (pe_op op_add_str pe_str (pe_op op_rep1 pe_str (pe_op op_sub (pv 2) pe_int))) pe_str))
      (pss_cons (ps_if (pt_cmpR op_eq (pv 2) pe_int (nomark _))
        (pss_one (ps_ret (pe_and (pe_cmpR op_eq (pe_c c_index hr (by decide) rfl (pa_cons (pv 3) (pa_cons pe_int pa_nil))) pe_int (nomark _)) (pe_one (pe_cmpR op_eq (pe_c c_index hr (by decide) rfl (pa_cons (pv 3) (pa_cons pe_int pa_nil))) pe_int (nomark _))))))
        pss_nil)
      (pss_one (ps_ret (pe_cmpR (op_eqD hu64) (pe_c c_tokens hr (by decide) rfl (pa_cons (pv 3) pa_nil)) (pe_lst (pa_cons (pe_tup (pa_cons pe_str (pa_cons pe_str (pa_cons pe_int pa_nil)))) (pa_cons (pe_tup (pa_cons pe_str (pa_cons pe_str (pa_cons pe_int pa_nil)))) (pa_cons (pe_tup (pa_cons pe_str (pa_cons pe_str (pa_cons pe_int pa_nil)))) pa_nil)))) (nomark _)))))))
      pss_nil)
    (pss_cons (ps_set (i := 3) sc_law.nd rfl (Or.inl rfl) (pe_bm PySem.F.plainAttrs_str PySem.F.slot_str_join PySem.F.type_str_join mt_join pe_str (pa_cons (pe_lc (own := [("k", 7)]) rfl sc_law.nd (pi_range1 rfl T.b_range (pa_cons (pe_c c_draw hr (by decide) rfl (pa_cons (pv 1) (pa_cons pe_int pa_nil))) pa_nil)) (blkOk_by (N := N_law) (sc := fnScope s_law) (by decide +kernel)) (fun _ _ _ _ _ => (pg_name (i := 7) sc_law.nd rfl (Or.inl rfl))) (fun _ _ _ _ _ => pts_nil) (fun _ _ _ _ _ => (pe_op op_add_str (pe_c c_piece hr (by decide) rfl (pa_cons (pv 1) pa_nil)) pe_str))) pa_nil)))
    (pss_cons (ps_set (i := 4) sc_law.nd rfl (Or.inl rfl) (pe_bm PySem.F.plainAttrs_str PySem.F.slot_str_join PySem.F.type_str_join mt_join pe_str (pa_cons (pe_lc (own := [("k", 7)]) rfl sc_law.nd (pi_range1 rfl T.b_range (pa_cons (pe_c c_draw hr (by decide) rfl (pa_cons (pv 1) (pa_cons pe_int pa_nil))) pa_nil)) (blkOk_by (N := N_law) (sc := fnScope s_law) (by decide +kernel)) (fun _ _ _ _ _ => (pg_name (i := 7) sc_law.nd rfl (Or.inl rfl))) (fun _ _ _ _ _ => pts_nil) (fun _ _ _ _ _ => (pe_op op_add_str (pe_c c_piece hr (by decide) rfl (pa_cons (pv 1) pa_nil)) pe_str))) pa_nil)))
    (pss_cons (ps_set (i := 5) sc_law.nd rfl (Or.inl rfl) (pe_ix ix_list (pe_lst (pa_cons pe_str (pa_cons pe_str (pa_cons pe_str (pa_cons pe_str (pa_cons pe_str (pa_cons pe_str (pa_cons pe_str (pa_cons pe_str (pa_cons pe_str (pa_cons pe_str (pa_cons pe_str (pa_cons pe_str (pa_cons pe_str (pa_cons pe_str pa_nil))))))))))))))) (pe_c c_draw hr (by decide) rfl (pa_cons (pv 1) (pa_cons pe_int pa_nil))) (fun _ _ => rfl)))
    (pss_cons (ps_set (i := 6) sc_law.nd rfl (Or.inl rfl) (pe_op op_add_str (pe_op op_add_str (pe_op op_add_str (pv 3) (pv 5)) pe_str) (pv 4)))
    (pss_one (ps_ret (pe_and (pe_cmpR op_eq (pe_c c_index hr (by decide) rfl (pa_cons (pv 6) (pa_cons pe_int pa_nil))) (pe_callB call_len_str (by rfl) T.b_len PySem.boot_len (pa_cons (pv 3) pa_nil)) (nomark _)) (pe_one (pe_cmpR op_eq (pe_c c_index hr (by decide) rfl (pa_cons (pv 6) (pa_cons pe_int pa_nil))) (pe_callB call_len_str (by rfl) T.b_len PySem.boot_len (pa_cons (pv 3) pa_nil)) (nomark _)))))))))))), ?_⟩
    have eb : Str.ofString " " = S [32] := by decide +kernel
    have ep : Str.ofString "p" = S [112] := by decide +kernel
    have ed : Str.ofString "." = S [46] := by decide +kernel
    refine ⟨_, rfl, a, ns, rfl, hS, hn, fun st c H1 sm nst nc sA => ?_⟩
    refine ⟨_, rfl, st, c, 6, rfl, by decide, by decide, sA, fun d1 H2 a1 b1 s2 k2 => ?_⟩
    refine ⟨rfl, _, rfl, ite2 (fun _ => ?_) (fun _ => ?_)⟩
    · refine ⟨_, rfl, st, c, 2, rfl, by decide, by decide, s2, fun d2 H3 a2 b2 s3 k3 => ⟨_, _, rfl, rfl, ?_⟩⟩
      obtain ⟨m, rfl⟩ := Int.eq_ofNat_of_zero_le a2
      have hm : m < 2 := by omega
      refine ⟨_, rfl, _, _, rfl, rfl, 32, 3998 + m, congrArg V.str eb, congrArg V.int (by omega), by omega, by omega, ?_⟩
      refine ⟨_, _, rfl, rfl, ?_, ?_⟩
      · rw [ep, S_len, S_len, List.length_replicate]; exact Nat.le_of_lt_succ (by rw [sizeLine_eq]; simp; omega)
      refine ⟨_, _, rfl, rfl, ?_, ?_⟩
      · rw [ep, ed, S_cat, S_len, S_len, List.length_append, List.length_replicate]; exact Nat.le_of_lt_succ (by rw [sizeLine_eq]; simp; omega)
      have et : Str.ofString "p" ++ S (List.replicate (3998 + m) 32) ++ Str.ofString "." = S (long (4000 + m)) := by
        rw [ep, ed, S_cat, S_cat]
        unfold long
        rw [show 4000 + m - 2 = 3998 + m by omega]
        rfl
      rw [et]
      have hll := long_len (n := 4000 + m) (by omega)
      refine ⟨_, rfl, rfl, _, rfl, ite2 (fun h1 => ?_) (fun h1 => ?_)⟩
      · rw [decide_eq_true_eq] at h1
        have hm1 : m = 1 := by have := V.int.inj h1; omega
        have hbad : BadAt (long (4000 + m)) 0 := .inl ⟨by rw [hll]; omega, rfl⟩
        refine ⟨_, rfl, long (4000 + m), 0, 0, rfl, by rw [hll]; omega, hbad, fun H4 sm4 => ⟨rfl, ?_⟩⟩
        refine ⟨_, rfl, ?_⟩
        rw [if_pos (show decide (V.int ((0 : Nat) : Int) = V.int 0) = true from decide_eq_true rfl)]
        exact ⟨_, rfl, long (4000 + m), 1, 0, rfl, by rw [hll]; omega, hbad, fun H5 sm5 => ⟨rfl, kk _⟩⟩
      · rw [decide_eq_true_eq] at h1
        have hm0 : m = 0 := by
          by_cases z : m = 0
          · exact z
          · exfalso
            have : m = 1 := by omega
            subst this
            exact h1 rfl
        subst hm0
        refine ⟨_, rfl, long 4000, _, rfl, by rw [hll]; omega, long_lex (by omega), fun b ys H4 sm4 hb4 ht4 => ?_⟩
        refine ⟨three, fun q1 hq1 => ⟨three, fun q2 hq2 => ⟨three, fun q3 hq3 => ⟨three, fun D hD => ?_⟩⟩⟩⟩
        have hlow := long_low 4000
        have hsh := shaped_toks hlow
        have hself := SeqAt.eqv_refl (.list ((longDue 4000).map tokD)) (show PyData.canLayAll0 _ = true from lay_toks hlow)
        have ee : Str.ofString "" = S [] := by decide +kernel
        have n12 : q1 ≠ q2 := ne_of_none upd_same hq2
        have n23 : q2 ≠ q3 := ne_of_none upd_same hq3
        have n13 : q1 ≠ q3 := by
          refine ne_of_none (o := (.tup [.str (Str.ofString "name"), .str (Str.ofString "p"), .int 0])) (H := upd (upd H4 q1 (.tup [.str (Str.ofString "name"), .str (Str.ofString "p"), .int 0])) q2 _) ?_ hq3
          rw [upd_ne n12]; exact upd_same
        have d3 : q3 ≠ D := ne_of_none upd_same hD
        have d2' : q2 ≠ D := by
          refine ne_of_none (o := (.tup [.str (Str.ofString "sign"), .str (Str.ofString "."), .int 3999])) (H := upd (upd _ q2 (.tup [.str (Str.ofString "sign"), .str (Str.ofString "."), .int 3999])) q3 _) ?_ hD
          rw [upd_ne n23]; exact upd_same
        have d1' : q1 ≠ D := by
          refine ne_of_none (o := (.tup [.str (Str.ofString "name"), .str (Str.ofString "p"), .int 0])) (H := upd (upd (upd H4 q1 (.tup [.str (Str.ofString "name"), .str (Str.ofString "p"), .int 0])) q2 _) q3 _) ?_ hD
          rw [upd_ne n13, upd_ne n12]; exact upd_same
        have smG := (((Same.new (o := .tup [.str (Str.ofString "name"), .str (Str.ofString "p"), .int 0]) hq1).trans (Same.new (o := .tup [.str (Str.ofString "sign"), .str (Str.ofString "."), .int 3999]) hq2)).trans (Same.new (o := .tup [.str (Str.ofString "end"), .str (Str.ofString ""), .int 4000]) hq3)).trans (Same.new (o := .lst [.ref q1, .ref q2, .ref q3]) hD)
        have tk : ToksAt (upd (upd (upd (upd H4 q1 (.tup [.str (Str.ofString "name"), .str (Str.ofString "p"), .int 0])) q2 (.tup [.str (Str.ofString "sign"), .str (Str.ofString "."), .int 3999])) q3 (.tup [.str (Str.ofString "end"), .str (Str.ofString ""), .int 4000])) D (.lst [.ref q1, .ref q2, .ref q3])) [.ref q1, .ref q2, .ref q3] (longDue 4000) := by
          refine .cons ⟨q1, rfl, ?_⟩ (.cons ⟨q2, rfl, ?_⟩ (.cons ⟨q3, rfl, ?_⟩ .nil))
          · rw [upd_ne d1', upd_ne n13, upd_ne n12, upd_same, ep]; rfl
          · rw [upd_ne d2', upd_ne n23, upd_same, ed]; rfl
          · rw [upd_ne d3, upd_same, ee]; rfl
        refine ⟨.list _, .list _, .lst (SqL.of (smG _ _ hb4)) (toks_dp ((keepT_of smG).toks ht4)), .lst (SqL.of upd_same) (toks_dp tk), hsh, hsh, ?_⟩
        have e0 : PyData.eqv (.list (List.map tokD [(K1.Kind.name, [112], 0), (K1.Kind.sign, [46], 4000 - 1), (K1.Kind.fin, [], 4000)])) (.list ((longDue 4000).map tokD)) = true := hself
        rw [e0]
        exact kk _
    · refine ⟨rfl, ?_⟩
      refine ⟨_, rfl, st, c, 31, rfl, by decide, by decide, s2, fun dX HX aX bX sX kX => ?_⟩
      refine ⟨_, rfl, by omega, by omega, fun DX hDX => ?_⟩
      obtain ⟨n1X, n2X⟩ := sX.free hDX
      refine lc_range (lo := 0) (n := dX.toNat) (fun i H' => ∃ ps : List (List Nat), H' DX = some (.lst (((ps.map fun p => p ++ [32]).map S).map V.str)) ∧ ps.length = i ∧ (∀ p ∈ ps, Pc p) ∧ StAt H' st c)
        ⟨[], upd_same, rfl, fun _ z => (nomatch z), sX.put n1X n2X⟩ ?_ ?_
      · rintro i H' hi ⟨ps, eD, hpl, hps, sI⟩
        refine ⟨rfl, ?_⟩
        refine ⟨_, rfl, st, c, rfl, sI, fun p H'' hp s' k' => ⟨_, _, rfl, rfl, ?_, ?_⟩⟩
        · rw [eb, S_len, S_len]
          have := hp.2
          exact sz (by rw [List.length_singleton]; omega)
        · rw [eb, S_cat]
          refine ⟨_, k' _ _ eD n1X n2X, by rw [List.length_map, List.length_map, List.length_map, hpl]; exact Nat.lt_of_lt_of_le (by omega : i < 4000) (by decide), ps ++ [p], ?_, by rw [List.length_append, List.length_singleton, hpl], fun q hq => ?_, s'.put n1X n2X⟩
          · rw [upd_same, List.map_append, List.map_append, List.map_append]; rfl
          · rcases List.mem_append.mp hq with z | z
            · exact hps q z
            · rw [List.mem_singleton.mp z]; exact hp
      rintro GX ⟨psX, eDX, hplX, hpsX, sIX⟩
      have tlX := txt_len psX hpsX
      have slX := sum_len psX hpsX
      refine ⟨Str.ofString "", DX, (psX.map fun p => p ++ [32]).map S, rfl, rfl, .inl (SqL.of eDX), ?_, ?_⟩
      · have z : (Str.ofString "").length = 0 := by decide +kernel
        rw [z]; omega
      have eJX : Txt.join (Str.ofString "") ((psX.map fun p => p ++ [32]).map S) = S (txt psX) := by
        have z : Str.ofString "" = S [] := by decide +kernel
        rw [z, join_S]; rfl
      rw [eJX]
      refine ⟨rfl, ?_⟩
      refine ⟨_, rfl, st, c, 9, rfl, by decide, by decide, sIX, fun dY HY aY bY sY kY => ?_⟩
      refine ⟨_, rfl, by omega, by omega, fun DY hDY => ?_⟩
      obtain ⟨n1Y, n2Y⟩ := sY.free hDY
      refine lc_range (lo := 0) (n := dY.toNat) (fun i H' => ∃ ps : List (List Nat), H' DY = some (.lst (((ps.map fun p => p ++ [32]).map S).map V.str)) ∧ ps.length = i ∧ (∀ p ∈ ps, Pc p) ∧ StAt H' st c)
        ⟨[], upd_same, rfl, fun _ z => (nomatch z), sY.put n1Y n2Y⟩ ?_ ?_
      · rintro i H' hi ⟨ps, eD, hpl, hps, sI⟩
        refine ⟨rfl, ?_⟩
        refine ⟨_, rfl, st, c, rfl, sI, fun p H'' hp s' k' => ⟨_, _, rfl, rfl, ?_, ?_⟩⟩
        · rw [eb, S_len, S_len]
          have := hp.2
          exact sz (by rw [List.length_singleton]; omega)
        · rw [eb, S_cat]
          refine ⟨_, k' _ _ eD n1Y n2Y, by rw [List.length_map, List.length_map, List.length_map, hpl]; exact Nat.lt_of_lt_of_le (by omega : i < 4000) (by decide), ps ++ [p], ?_, by rw [List.length_append, List.length_singleton, hpl], fun q hq => ?_, s'.put n1Y n2Y⟩
          · rw [upd_same, List.map_append, List.map_append, List.map_append]; rfl
          · rcases List.mem_append.mp hq with z | z
            · exact hps q z
            · rw [List.mem_singleton.mp z]; exact hp
      rintro GY ⟨psY, eDY, hplY, hpsY, sIY⟩
      have tlY := txt_len psY hpsY
      have slY := sum_len psY hpsY
      refine ⟨Str.ofString "", DY, (psY.map fun p => p ++ [32]).map S, rfl, rfl, .inl (SqL.of eDY), ?_, ?_⟩
      · have z : (Str.ofString "").length = 0 := by decide +kernel
        rw [z]; omega
      have eJY : Txt.join (Str.ofString "") ((psY.map fun p => p ++ [32]).map S) = S (txt psY) := by
        have z : Str.ofString "" = S [] := by decide +kernel
        rw [z, join_S]; rfl
      rw [eJY]
      refine ⟨(by show 14 ≤ sizeLine; decide), fun p hp => ?_⟩
      obtain ⟨n1, n2⟩ := sIY.free hp
      refine ⟨_, rfl, st, c, 14, rfl, by decide, by decide, sIY.put n1 n2, fun d5 H5 a5 b5 s5 k5 => ?_⟩
      refine ix_pick (SqL.of (k5 p _ upd_same n1 n2)) a5 b5 fun v hv => ?_
      obtain ⟨ch, rfl, hch⟩ : ∃ ch, v = .str (S [ch]) ∧ ch ∈ bads := by
        have e : ([.str (Str.ofString "&"), .str (Str.ofString "\t"), .str (Str.ofString "!"), .str (Str.ofString "_"), .str (Str.ofString "/"), .str (Str.ofString "'"), .str (Str.ofString "|"), .str (Str.ofString "^"), .str (Str.ofString "?"), .str (Str.ofString "@"), .str (Str.ofString "["), .str (Str.ofString "]"), .str (Str.ofString "$"), .str (Str.ofString "#")] : List V) = bads.map fun g => V.str (S [g]) := by decide +kernel
        rw [e] at hv
        obtain ⟨t, h1, h2⟩ := List.mem_map.mp hv
        exact ⟨t, h2.symm, h1⟩
      have lX : (txt psX).length ≤ 651 := by omega
      have lY : (txt psY).length ≤ 189 := by omega
      refine ⟨_, rfl, _, rfl, _, _, rfl, rfl, ?_, _, _, rfl, rfl, ?_, _, rfl, _, _, rfl, rfl, ?_, ?_⟩
      · rw [S_len, S_len, List.length_singleton]; exact sz (by omega)
      · rw [eb, S_cat, S_len, S_len, List.length_append, List.length_singleton, List.length_singleton]; exact sz (by omega)
      · rw [eb, S_cat, S_cat, S_len, S_len, List.length_append, List.length_append, List.length_singleton, List.length_singleton]; exact sz (by omega)
      have ew : S (txt psX) ++ S [ch] ++ Str.ofString " " ++ S (txt psY) = S (txt psX ++ ch :: 32 :: txt psY) := by
        rw [eb, S_cat, S_cat, S_cat, List.append_assoc, List.append_assoc]; rfl
      rw [ew]
      have hwl : (txt psX ++ ch :: 32 :: txt psY).length ≤ 4000 := by rw [List.length_append, List.length_cons, List.length_cons]; omega
      have hbad : BadAt (txt psX ++ ch :: 32 :: txt psY) (txt psX).length := by
        refine .inr ⟨hwl, ?_⟩
        have := (txt_pcs psX hpsX).bad (bads_ws ch hch) (bads_no ch hch (txt psY)) 0
        rwa [Nat.zero_add] at this
      refine ⟨_, rfl, _, 0, _, rfl, Nat.le_trans hwl (by decide), hbad, fun H6 sm6 => ⟨_, rfl, _, rfl, S_len4 (by omega), rfl, ?_⟩⟩
      refine ⟨_, rfl, ?_⟩
      rw [if_pos (show decide (V.int ((txt psX).length : Nat) = V.int ((S (txt psX)).length : Nat)) = true from decide_eq_true rfl)]
      refine ⟨_, rfl, _, 1, _, rfl, Nat.le_trans hwl (by decide), hbad, fun H7 sm7 => ⟨_, rfl, _, rfl, S_len4 (by omega), rfl, ?_⟩⟩
      rw [show decide (V.int ((txt psX).length : Nat) = V.int ((S (txt psX)).length : Nat)) = true from decide_eq_true rfl]
      exact kk _
end
end K2
set_option Elab.async false
set_option maxRecDepth 100000
set_option maxHeartbeats 4000000
namespace K2
open PySem L2 C8 SX K1 LX
theorem has_mk {K : PySem.W.Frag} {h : Heap} {mg : Str → Option Value} {x : Str} {st : Stmt} {f : Addr} {oc : Value} {od an : Option Addr} {osl : Array (Option Value)} {kV doc pm cdv ct : Value} (X : K.In h) (G : h.Ns mainGlobals mg)
    (a : PySem.W.nsIn K mainGlobals x = some (some (.ref f))) (l : K.lookup f = some ⟨oc, od, .func (PySem.W.fnOf x x (fnArgs st) (fnBody st) (fnScope st) .none kV doc pm an cdv ct), osl⟩) (c : PySem.W.codeIn K cdv x = true) (k : PySem.W.keepIn K (.ref f) = true) :
    Has K mg x st := ⟨f, _, ⟨⟨⟨oc, od, .none, kV, doc, pm, an, cdv, ct, osl, rfl, l, c⟩⟩, PySem.W.mg_of X G a, k⟩, rfl⟩
theorem rel_str {z : Str} {g : List Nat} {t : Tok} (h : z = S g) : RelV (.str (S g)) (.str z t) := ⟨t, by rw [h]⟩
theorem signs_mk {K : PySem.W.Frag} {aS : Addr} {dd : Option Addr} {its : Array Value} {n : Nat} {sl : Array (Option Value)} (l : K.lookup aS = some ⟨.type "tuple", dd, .seq its n, sl⟩) (hs : its.size ≤ sizeLine) (hv : Vals (sigs.map fun g => V.str (S g)) its.toList) :
    ∀ H, SqT K H aS (sigs.map fun g => V.str (S g)) := fun _ => .inr ⟨_, its, n, l, rfl, rfl, hs, hv⟩
theorem all_mk {l : PySem.W.OpenLaw} {w : World} {K : PySem.W.Frag} {h : Heap} {mg : Str → Option Value} {fa : Addr} (X : K.In h) (G : h.Ns mainGlobals mg) (hfa : mg "law" = some (.ref fa)) {aS C aB aL N fi c cc : Addr} {t1 t2 t3 tf : Tok}
    {nm q file : Str} {bs : List Value} {sn : List Str} {sub : List Value} {ab : Bool} {col : Option Bool} {dd od kld cdd : Option Addr} {m0 m1 m2 m3 m5 : Option Value} {oc doc pm ctv kl ccl : Value} {osl csl ccs : Array (Option Value)} {vs : Array Value}
    (h0 : Has K mg "is_lower" s_is_lower)
    (h1 : Has K mg "is_upper" s_is_upper)
    (h2 : Has K mg "is_digit" s_is_digit)
    (h3 : Has K mg "is_word" s_is_word)
    (h4 : Has K mg "word_at" s_word_at)
    (h5 : Has K mg "integer_at" s_integer_at)
    (h6 : Has K mg "sign_at" s_sign_at)
    (h7 : Has K mg "token_at" s_token_at)
    (h8 : Has K mg "tokens" s_tokens)
    (p1 : Has K mg "_law_state" s_state)
    (p2 : Has K mg "_law_draw" s_draw)
    (p3 : Has K mg "_law_piece" s_piece)
    (p4 : Has K mg "_law_index" s_index)
    (p5 : Has K mg "parse" s_parse)
    (p6 : Has K mg "law" s_law)
    (g1 : PySem.W.nsIn K mainGlobals "LONGEST_TEXT" = some (some (.int 4000 t1)))
    (g2 : PySem.W.nsIn K mainGlobals "LONGEST_WORD" = some (some (.int 20 t2)))
    (g3 : PySem.W.nsIn K mainGlobals "LONGEST_INTEGER" = some (some (.int 4 t3)))
    (g4 : PySem.W.nsIn K mainGlobals "SIGNS" = some (some (.ref aS)))
    (g5 : ∀ H, SqT K H aS (sigs.map fun g => V.str (S g)))
    (z1 : PySem.W.nsIn K mainGlobals "len" = some none)
    (z2 : PySem.W.nsIn K mainGlobals "int" = some none)
    (z3 : PySem.W.nsIn K mainGlobals "abs" = some none)
    (z4 : PySem.W.nsIn K mainGlobals "range" = some none)
    (z5 : PySem.W.nsIn K mainGlobals "str" = some none)
    (z7 : PySem.W.nsIn K mainGlobals "isinstance" = some none)
    (z8 : PySem.W.nsIn K mainGlobals "super" = some none)
    (e1 : PySem.W.nsIn K mainGlobals "TextError" = some (some (.ref C)))
    (e2 : PySem.W.nsIn K mainGlobals "StableError" = some (some (.ref aB)))
    (e3 : PySem.W.nsIn K mainGlobals "LimitError" = some (some (.ref aL)))
    (x1 : K.lookup C = some (excClassObj nm q C N bs [.ref aB, .type "ValueError", .type "Exception", .type "BaseException", .type "object"] true sn sub ab col dd m0 m1 m2 m3 m5 "ValueError.__new__"))
    (x2 : PySem.W.findIn K (.ref C) "__setattr__" = some (some (.builtin "object.__setattr__")))
    (x3 : PySem.W.subIn K (.ref C) (.type "BaseException") = some true)
    (x4 : PySem.W.typeIn K (.ref C) = some (.type "type"))
    (x5 : PySem.W.keepIn K (.ref C) = true)
    (x6 : PySem.W.findIn K (.ref C) "__init__" = some (some (.ref fi)))
    (x7 : PySem.W.typeIn K (.ref fi) = some (.type "function"))
    (x8 : K.lookup fi = some ⟨oc, od, .func ((F_init c cc).fd doc pm ctv), osl⟩)
    (x9 : PySem.W.codeIn K (.ref c) "TextError.__init__" = true)
    (y1 : K.lookup cc = some ⟨kl, kld, .cell (some (.ref C)), csl⟩)
    (y2 : K.lookup c = some ⟨ccl, cdd, .fields vs, ccs⟩)
    (y3 : vs[2]? = some (.str file tf))
    (y4 : ((l.prog.main.file : Str) == file) = true)
    (y5 : (l.prog.main.scope.names.lookup ("super" : Str)).isSome = false)
    (y6 : PySem.W.nsIn K cStatics "thirdparty.any" = some none)
    (y7 : PySem.W.ks_superIn K C C "__init__" = some (some (.builtin "ValueError.__init__")))
    (y8 : PySem.W.subIn K (.ref C) (.type "ValueError") = some true)
    (y9 : PySem.W.mroIn K C (.ref C) = some true)
    (w1 : PySem.W.findIn K (.ref C) "at" = some none)
    (w2 : PySem.W.findIn K (.ref C) "__getattribute__" = some (some (.builtin "BaseException.__getattribute__")))
    (w3 : PySem.W.findIn K (.ref C) "__getattr__" = some none)
    (w4 : PySem.W.hasDictIn K C = true)
    (w5 : PySem.W.findIn K (.ref C) "__class__" = some (some (.builtin "object.__class__")))
    (w6 : PySem.W.specialIn K (.builtin "object.__class__") "__get__" = some (some (.builtin "getset_descriptor.__get__")))
    (w7 : PySem.W.takesIn K (.builtin "object.__class__") = some true)
    (w8 : PySem.W.mroIn K C (.type "object") = some true)
    (v1 : PySem.W.kitOne K (.ref C) (.ref aB) = some true)
    (v2 : PySem.W.kitOne K (.ref C) (.ref aL) = some false)
    (v3 : PySem.W.subIn K (.ref C) (.ref C) = some true) :
    ∃ fd : FuncData, (∀ (s : Shared) (v : Value), BindsTo s fd ⟨[v], []⟩ [("script", v)]) ∧ ∀ base : Heap, K.In base → base.Ns mainGlobals mg → FnOk l.prog w K mg base C8.CX0 8 fa fd ["script"] (spLaw K) := by
  have T : Txt K mg aS := ⟨h0, h1, h2, h3, h4, h5, h6, h7, h8, PySem.W.mg_none_of X G z1, ⟨_, PySem.W.mg_of X G g1, _, rfl⟩, ⟨_, PySem.W.mg_of X G g2, _, rfl⟩, ⟨_, PySem.W.mg_of X G g3, _, rfl⟩, ⟨_, PySem.W.mg_of X G g4, rfl⟩, g5⟩
  have TL : TxtL K mg := ⟨p1, p2, p3, PySem.W.mg_none_of X G z1, PySem.W.mg_none_of X G z2, PySem.W.mg_none_of X G z3, PySem.W.mg_none_of X G z4, PySem.W.mg_none_of X G z5⟩
  have XI : XInit l.prog K mg C fi cc (F_init c cc) N_init P_init doc pm ctv :=
    { cls := ⟨⟨nm, q, N, bs, _, sn, sub, ab, col, dd, m0, m1, m2, m3, m5, x1, rfl⟩, x2, x3, x4, x5⟩
      fn := ⟨_, _, _, x8⟩
      cod := x9
      sc := sc_init
      cl := rfl
      cell := ⟨_, _, _, y1⟩
      code := ⟨_, _, _, _, _, _, y2, y3, y4⟩
      top := y5
      sup := PySem.W.mg_none_of X G z8
      glob := rfl
      third := y6
      way := y7
      ve := y8
      own := y9
      head := ⟨_, rfl, rfl, rfl⟩ }
  have TE : TErr l.prog K mg C := ⟨⟨fi, c, cc, doc, pm, ctv, XI, x6, x7⟩, w1, PySem.W.mg_of X G e1⟩
  have TI : TxtI K mg C aB aL := ⟨p5, p4, PySem.W.mg_none_of X G z7, ⟨w2, w3, x3, w4⟩, ⟨w2, w3, x3, w4, w5, w6, w7, w8⟩, PySem.W.mg_of X G e2, PySem.W.mg_of X G e3, v1, v2, PySem.W.exm_ref x3 w4 x4 v3⟩
  obtain ⟨f, fd, D, df⟩ := p6
  have e := hfa.symm.trans D.mgf
  cases e
  obtain ⟨oc, od, dV, kV, doc, pm, an, cdv, ct, osl, rfl, lk, hcd⟩ := D.fn.ex
  have e : dV = .none := df
  subst e
  refine ⟨PySem.W.fnOf "law" "law" (fnArgs s_law) (fnBody s_law) (fnScope s_law) .none kV doc pm an cdv ct, fun s v => .of_eq rfl, fun base _ _ => ?_⟩
  have c1 := ok_is_lower (P := l.prog) (w := w) (base := base) T
  have c2 := ok_is_upper (P := l.prog) (w := w) (base := base) T
  have c3 := ok_is_digit (P := l.prog) (w := w) (base := base) T
  have c4 := ok_is_word T c1 c2 c3
  have c5 := ok_word_at T c4
  have c6 := ok_integer_at T c3
  have c7 := ok_sign_at (P := l.prog) (w := w) (base := base) T
  have c8 := ok_token_at T c1 c2 c3 c5 c6 c7
  have c9 := ok_tokens T c8
  have d7 := okX_sign_at (w := w) (base := base) T TE
  have d8 := okX_token_at T c1 c2 c3 c5 c6 d7
  have d9 := okX_tokens T TE d8
  have d10 := okX_parse TI d9
  have c10 := ok_index TI TE d9 d10
  have q1 := ok_state (P := l.prog) (w := w) (base := base) TL
  have q2 := ok_draw (P := l.prog) (w := w) (base := base) TL
  have q3 := ok_piece TL q2
  exact ok_law D TL q1 q2 q3 c10 c9
theorem walk {l : PySem.W.OpenLaw} {q : Program} {loose : List Str} {XP : (Str → Option Value) → Heap → Prop} {YP : World → Heap → Prop} {d : DefRec} {K : Params → PySem.W.Frag} (hn : l.most = some 63) (hdf : d.params.defaults = [])
    (hY : ∀ (w : World) (h : Heap), YP w h → (K w.params).In h)
    (F : ∀ (w : World) (mg : Str → Option Value) (fa : Addr) (h : Heap), (K w.params).In h → h.Ns mainGlobals mg → mg d.name = some (.ref fa) →
      ∃ fd : FuncData, (∀ (s : Shared) (u : Value), BindsTo s fd ⟨[u], []⟩ [("script", u)]) ∧ ∀ base : Heap, (K w.params).In base → base.Ns mainGlobals mg → FnOk l.prog w (K w.params) mg base C8.CX0 8 fa fd ["script"] (spLaw (K w.params))) :
    PySem.W.WalkO q loose XP YP l.row.toRowW d [] (fun f vs => PySem.call f vs) :=
  L2.walk_of (n := 63) (k := 8) (x := "script") (CX := fun _ => C8.CX0) (sp := fun w => spLaw (K w.params)) hn (by decide) hdf ⟨rfl, by decide, by decide⟩ hY F (fun _ _ a ns hl _ hS => ⟨a, ns, rfl, hS, hl, fun _ => rfl⟩) fun _ _ _ _ _ z => z
end K2
open PySem PySem.W PyProof.Rows
local macro_rules | `(tactic| walk_at "has") => `(tactic| (refine' K2.has_mk (by assumption) (by assumption) ?a ?l ?c ?k; (case a => k_is); (case l => k_is); (case c => k_is); (case k => k_is)))
set_option maxRecDepth 100000 in
set_option maxHeartbeats 0 in
theorem PySem.Challenge.cw_stablepapers_k02_characters_that_belong_holds : PySem.Challenge.rw_stablepapers_k02_characters_that_belong.Holds := by
  w_on; o_law; k_head; (case hw => w_witness2)
  k_fill
  refine K2.walk (l := PySem.Challenge.rw_stablepapers_k02_characters_that_belong) rfl rfl (fun w h Y => PySem.W.kIn_of Y) ?F
  case F =>
    intro w mg fa h KX G hmg
    refine' K2.all_mk KX G hmg ?h0 ?h1 ?h2 ?h3 ?h4 ?h5 ?h6 ?h7 ?h8 ?p1 ?p2 ?p3 ?p4 ?p5 ?p6 ?g1 ?g2 ?g3 ?g4 ?g5 ?z1 ?z2 ?z3 ?z4 ?z5 ?z7 ?z8 ?e1 ?e2 ?e3 ?x1 ?x2 ?x3 ?x4 ?x5 ?x6 ?x7 ?x8 ?x9 ?y1 ?y2 ?y3 ?y4 ?y5 ?y6 ?y7 ?y8 ?y9 ?w1 ?w2 ?w3 ?w4 ?w5 ?w6 ?w7 ?w8 ?v1 ?v2 ?v3
    (case h0 => walk_at "has")
    (case h1 => walk_at "has")
    (case h2 => walk_at "has")
    (case h3 => walk_at "has")
    (case h4 => walk_at "has")
    (case h5 => walk_at "has")
    (case h6 => walk_at "has")
    (case h7 => walk_at "has")
    (case h8 => walk_at "has")
    (case p1 => walk_at "has")
    (case p2 => walk_at "has")
    (case p3 => walk_at "has")
    (case p4 => walk_at "has")
    (case p5 => walk_at "has")
    (case p6 => walk_at "has")
    (case g1 => first | k_is | kernel_rfl)
    (case g2 => first | k_is | kernel_rfl)
    (case g3 => first | k_is | kernel_rfl)
    (case g4 => first | k_is | kernel_rfl)
    (case g5 =>
      refine' K2.signs_mk ?l ?hs ?hv
      (case l => k_is)
      (case hs => decide +kernel)
      (case hv => repeat first | exact Paired.nil | refine Paired.cons (K2.rel_str (by decide +kernel)) ?_))
    (case z1 => first | k_is | kernel_rfl)
    (case z2 => first | k_is | kernel_rfl)
    (case z3 => first | k_is | kernel_rfl)
    (case z4 => first | k_is | kernel_rfl)
    (case z5 => first | k_is | kernel_rfl)
    (case z7 => first | k_is | kernel_rfl)
    (case z8 => first | k_is | kernel_rfl)
    (case e1 => first | k_is | kernel_rfl)
    (case e2 => first | k_is | kernel_rfl)
    (case e3 => first | k_is | kernel_rfl)
    (case x1 => first | k_is | kernel_rfl)
    (case x2 => first | k_is | kernel_rfl)
    (case x3 => first | k_is | kernel_rfl)
    (case x4 => first | k_is | kernel_rfl)
    (case x5 => first | k_is | kernel_rfl)
    (case x6 => first | k_is | kernel_rfl)
    (case x7 => first | k_is | kernel_rfl)
    (case x8 => first | k_is | kernel_rfl)
    (case x9 => first | k_is | kernel_rfl)
    (case y1 => first | k_is | kernel_rfl)
    (case y2 => first | k_is | kernel_rfl)
    (case y3 => first | rfl | kernel_rfl | k_is)
    (case y4 => first | rfl | kernel_rfl | decide +kernel)
    (case y5 => first | rfl | kernel_rfl | decide +kernel)
    (case y6 => first | k_is | kernel_rfl)
    (case y7 => first | k_is | kernel_rfl)
    (case y8 => first | k_is | kernel_rfl)
    (case y9 => first | k_is | kernel_rfl)
    (case w1 => first | k_is | kernel_rfl)
    (case w2 => first | k_is | kernel_rfl)
    (case w3 => first | k_is | kernel_rfl)
    (case w4 => first | k_is | kernel_rfl)
    (case w5 => first | k_is | kernel_rfl)
    (case w6 => first | k_is | kernel_rfl)
    (case w7 => first | k_is | kernel_rfl)
    (case w8 => first | k_is | kernel_rfl)
    (case v1 => first | kit_is | k_is | kernel_rfl)
    (case v2 => first | kit_is | k_is | kernel_rfl)
    (case v3 => first | k_is | kernel_rfl)
#print axioms PySem.Challenge.cw_stablepapers_k02_characters_that_belong_holds
