import PyProof.Rows.All
import HandS.Codes
import HandS.Comp
import HandS.GenList
import HandS.Lambda
import PyProof.GenQ
import HandS.Walk
import HandS.Words
import HandS.WordsList
import HandS.EndTab
import HandS.TupLe
import HandS.Style
import HandS.IsInst
import KE.KNest
import HandS.Deep
import PyProof.ReprReads
import PyProof.ReprRoads
import HandS.ExcInit
import HandS.Nested
import KE.KExcSuper
import KE.KSuper
import HandS.FStr
import HandS.ExcOwn
import HandS.ExcIs
import HandS.ExcField
import KE.KExcIs
import HandS.Ends
import KE.KDictLaws
import HandS.Dict
import HandS.DictComp
import HandS.Conv
import HandS.More
import HandS.SortInts
import HandS.Iter
import HandS.ListItems
import PyProof.ReprLen
import PyProof.P3Eq
import KE.SortKeyHeap
import HandS.SortKw
import HandS.Keys
import PyProof.Rows.TmSorted
import PyProof.Rows.StrMeet
import HandS.StrMore
import HandS.ReplaceList
import HandS.Replace
import HandS.ReplaceLit
import PyProof.StrBlock2
import HandS.TryOnly
import PySem.Challenge.RW_stablepapers_k04_errors_of_parsing
import HandS.WordsExc
import Wide.All
import OpenK.AllK
import Wide.FinOn
set_option Elab.async false
set_option linter.all false
set_option maxRecDepth 100000
set_option maxHeartbeats 1000000
namespace GX
open PySem PySem.Spec PyProof.Rows L2 GenW
/-! generator expressions of any element, drained by all, any, sum: code objects and their tables -/
theorem over_start {A : Around} {elt tg iter : Expr} {ifs : List Expr} {sc : Scope} {pos : Pos} {it acc : Value} {env : Env} :
    A.over (.compStart (.GeneratorExp elt [⟨tg, iter, ifs, 0⟩] sc pos) 0 it acc env) [] = A.deeper env := by
  obtain ⟨hd, d, fr, gs, u⟩ := A
  rfl
theorem over_turn {A : Around} {elt tg iter : Expr} {ifs : List Expr} {sc : Scope} {pos : Pos} {it acc : Value} {env : Env} :
    A.over (.compLoop (.GeneratorExp elt [⟨tg, iter, ifs, 0⟩] sc pos) 0 it acc env) [] = A.deeper env := by
  obtain ⟨hd, d, fr, gs, u⟩ := A
  rfl
/-- the head of a code object, as a thing that may be tracked -/
abbrev hdO (c P : Addr) : HO := .ext fun h => PySem.W.CodeHd h c P
def CodeOK (base : Heap) (H : Hp) (c P : Addr) : Prop := PySem.W.CodeHd base c P ∨ H c = some (hdO c P)
/-- the table at P: n levels of codes within codes are known -/
def TabG : Nat → Hp → Addr → Prop
  | 0, H, P => ∃ ps : Array Value, H P = some (.tbl ps) ∧ TriplesOk ps.toList
  | n + 1, H, P => ∃ ps : Array Value, H P = some (.tbl ps) ∧ TriplesOk ps.toList ∧ ∀ pos cv, codeAmong pos ps.toList = some cv → ∃ c' P', cv = .ref c' ∧ H c' = some (hdO c' P') ∧ P' ≠ P ∧ TabG n H P'
def Known : Nat → Addr → Value → Hp → Prop
  | 0, _, _, _ => True
  | n + 1, P, cv, H => ∃ c' P', cv = .ref c' ∧ H c' = some (hdO c' P') ∧ P' ≠ P ∧ TabG n H P'
/-- all but the table at P is kept -/
def Kp (P : Addr) (H H' : Hp) : Prop := ∀ b o, b ≠ P → H b = some o → H' b = some o
theorem Kp.refl {P : Addr} {H : Hp} : Kp P H H := fun _ _ _ h => h
theorem Kp.trans {P : Addr} {A B C : Hp} (h : Kp P A B) (h' : Kp P B C) : Kp P A C := fun b o n e => h' b o n (h b o n e)
theorem TabG.tbl : ∀ {n : Nat} {H : Hp} {P : Addr}, TabG n H P → ∃ ps : Array Value, H P = some (.tbl ps) ∧ TriplesOk ps.toList
  | 0, _, _, h => h
  | _ + 1, _, _, ⟨ps, h1, h2, _⟩ => ⟨ps, h1, h2⟩
theorem TabG.pred : ∀ {n : Nat} {H : Hp} {P : Addr}, TabG (n + 1) H P → TabG n H P
  | 0, _, _, ⟨ps, h1, h2, _⟩ => ⟨ps, h1, h2⟩
  | _ + 1, _, _, ⟨ps, h1, h2, h3⟩ => ⟨ps, h1, h2, fun pos cv e => by
    obtain ⟨c', P', e1, e2, e3, e4⟩ := h3 pos cv e
    exact ⟨c', P', e1, e2, e3, e4.pred⟩⟩
theorem TabG.zero : ∀ {n : Nat} {H : Hp} {P : Addr}, TabG n H P → TabG 0 H P
  | 0, _, _, h => h
  | n + 1, _, _, h => (h.pred).zero
/-- a table within is grown -/
theorem TabG.within {H H' : Hp} {P P' : Addr} (h : TabG 1 H P) (hne : P' ≠ P) (h0 : TabG 0 H P') (h' : TabG 0 H' P') (k : Kp P' H H') : TabG 1 H' P := by
  obtain ⟨ps, h1, h2, h3⟩ := h
  refine ⟨ps, k _ _ (Ne.symm hne) h1, h2, fun pos cv e => ?_⟩
  obtain ⟨c', P2, e1, e2, e3, e4⟩ := h3 pos cv e
  refine ⟨c', P2, e1, k _ _ (fun z => ?_) e2, e3, ?_⟩
  · obtain ⟨q, h4, _⟩ := h0
    rw [z, h4] at e2; cases e2
  · by_cases hp : P2 = P'
    · rw [hp]; exact h'
    · obtain ⟨r, e5, e6⟩ := e4
      exact ⟨r, k _ _ hp e5, e6⟩
/-- what is away from a table and what is known within it keeps it -/
theorem TabG.keep : ∀ {n : Nat} {H H' : Hp} {P : Addr}, TabG n H P → (∀ b o, H b = some o → H' b = some o) → TabG n H' P
  | 0, _, _, _, ⟨ps, h1, h2⟩, k => ⟨ps, k _ _ h1, h2⟩
  | _ + 1, _, _, _, ⟨ps, h1, h2, h3⟩, k => ⟨ps, k _ _ h1, h2, fun pos cv e => by
    obtain ⟨c', P', e1, e2, e3, e4⟩ := h3 pos cv e
    exact ⟨c', P', e1, k _ _ e2, e3, e4.keep k⟩⟩
theorem among_snoc (pos : Pos) (a b : Int) (c cv : Value) : ∀ l : List Value, TriplesOk l → codeAmong pos (l ++ [rawInt a, rawInt b, c]) = some cv → codeAmong pos l = some cv ∨ cv = c := by
  intro l h
  fun_induction TriplesOk l with
  | case1 =>
    intro e
    simp only [List.nil_append, rawInt, codeAmong] at e
    split at e
    · cases e; exact .inr rfl
    · cases e
  | case2 i t j u x r ih =>
    intro e
    simp only [List.cons_append, codeAmong] at e ⊢
    split at e
    · rename_i hc; rw [if_pos hc]; exact .inl e
    · rename_i hc; rw [if_neg hc]; exact ih h e
  | case3 l h1 h2 => exact h.elim
section
variable {X : Cx} {pins : List (Addr × Obj)} {σ : L2.St} {H : Hp} {s : Shared}
theorem codeHd_at {c P : Addr} (I : Inv X pins σ H s) (C : CodeOK X.base H c P) : PySem.W.CodeHd s.heap c P := by
  rcases C with C | C
  · exact C.keeps fun b o e => I.bk b o e
  · obtain ⟨h, _⟩ := I.hok c _ C
    exact h
theorem hdO_ok {P : Program} {w : World} {H : Hp} {h : Heap} {c T : Addr} (hc : PySem.W.CodeHd h c T) : ObjOk P w H h c (hdO c T) := by
  refine ⟨hc, ?_, fun h1 h2 p k => ?_⟩
  · obtain ⟨o, vs, file, tf, flags, tg, inF, text, tt, e, _⟩ := hc
    exact ⟨o, e⟩
  · obtain ⟨o, vs, file, tf, flags, tg, inF, text, tt, e, r⟩ := p
    exact ⟨o, vs, file, tf, flags, tg, inF, text, tt, k o e, r⟩
/-- the code object of a generator expression: found, or made and kept in the table -/
theorem gen_code {n : Nat} {c P : Addr} {pos : Pos} {q : Str} {sc : Scope} {E : Value → Shared → Prop} {Q : Value → Shared → Prop} (hc : X.env.code = .ref c) (I : Inv X pins σ H s) (C : CodeOK X.base H c P) (T : TabG n H P) (h1n : n ≤ 1)
    (hQ : ∀ cv H' s', Inv X pins σ H' s' → Kp P H H' → TabG n H' P → Known n P cv H' → s.heap.objs.size ≤ s'.heap.objs.size → (∀ b o, s.heap.get? b = some o → H b = none → s'.heap.get? b = some o ∧ H' b = none) → Q cv s') :
    wpAny (model X.prog X.w) X.A (genexprCode X.env pos q sc) Q E s := by
  obtain ⟨ps, hP, ht⟩ := T.tbl
  have hd := codeHd_at I C
  have hPs : s.heap.get? P = some { cls := .none, data := .fields ps } := I.hok P _ hP
  cases hf : codeAmong pos ps.toList with
  | some cv =>
    refine wpAny_genexprCode_hit hc (hd.code hPs ht) hf (hQ cv H s I Kp.refl T ?_ (Nat.le_refl _) fun b o e k => ⟨e, k⟩)
    cases n with
    | zero => trivial
    | succ n =>
      obtain ⟨ps', h1, h2, h3⟩ := T
      rw [hP] at h1; cases h1
      exact h3 pos cv hf
  | none =>
    refine wpAny_genexprCodeX hc (hd.code hPs ht) (hd.tab hPs) hf fun c' h' tk hx hge hlt hco' _ htab' hin => ?_
    obtain ⟨P', hP', hcn, htn⟩ := hin
    obtain ⟨o1, vs, f1, tf, fl, tg, inF, tx, tt, op, _, _, _, _, _, _, _, _, _, htr, _⟩ := id hco'
    have hPl : P < s.heap.objs.size := Heap.lt_size hPs
    have nc : H c' = none := I.hok.fresh hge
    have nP : H P' = none := I.hok.fresh hP'
    have c1 : c' ≠ P := fun z => by rw [z, hP] at nc; cases nc
    have c2 : P' ≠ P := fun z => by rw [z, hP] at nP; cases nP
    have hhd := PySem.W.CodeHd.of hcn htn
    have c3 : c' ≠ P' := by
      obtain ⟨_, _, _, _, _, _, _, _, _, _, _, _, _, _, _, _, _, _, z⟩ := id hhd
      exact z
    let G : Hp := upd (upd (upd H P (.tbl (ps ++ #[rawInt pos.line, rawInt pos.col, .ref c']))) P' (.tbl #[])) c' (hdO c' P')
    have gP : G P = some (.tbl (ps ++ #[rawInt pos.line, rawInt pos.col, .ref c'])) := by
      show upd _ c' _ P = _
      rw [upd_ne (Ne.symm c1), upd_ne (Ne.symm c2), upd_same]
    have gP' : G P' = some (.tbl #[]) := by
      show upd _ c' _ P' = _
      rw [upd_ne (Ne.symm c3), upd_same]
    have gc : G c' = some (hdO c' P') := upd_same
    have go : ∀ b, b ≠ P → b ≠ P' → b ≠ c' → G b = H b := fun b h1 h2 h3 => by
      show upd _ c' _ b = _
      rw [upd_ne h3, upd_ne h2, upd_ne h1]
    have gk : Kp P H G := fun b o h1 e => by
      rw [go b h1 (ne_of_none e nP) (ne_of_none e nc)]; exact e
    have old : ∀ b o, s.heap.get? b = some o → b ≠ P' ∧ b ≠ c' := fun b o e =>
      ⟨fun z => absurd (Nat.lt_of_lt_of_le (Heap.lt_size e) (by rw [z]; exact hP')) (Nat.lt_irrefl _), fun z => absurd (Nat.lt_of_lt_of_le (Heap.lt_size e) (by rw [z]; exact hge)) (Nat.lt_irrefl _)⟩
    have ok : HOk X.prog X.w G h' := fun b u e => by
      by_cases h1 : b = P
      · subst h1
        rw [gP] at e; cases e
        exact htab'.2
      by_cases h2 : b = P'
      · subst h2
        rw [gP'] at e; cases e
        exact htn.2
      by_cases h3 : b = c'
      · subst h3
        rw [gc] at e; cases e
        exact hdO_ok hhd
      · rw [go b h1 h2 h3] at e
        refine (I.hok b u e).stay (fun d v hd r => hx d v ?_ r) (fun d r => gk d _ (fun z => by rw [z, hP] at r; cases r) r) fun d xs r => gk d _ (fun z => by rw [z, hP] at r; cases r) r
        rcases hd with z | z
        · rw [z]; exact h1
        · intro z2; rw [z2, hP] at z; cases z
    have un : Un X.fs [] H G s.heap h' := by
      refine ⟨fun b o e k _ _ => hx b o (fun z => by rw [z, hP] at k; cases k) e, fun b o e k _ _ => ⟨o.slots, hx b o (fun z => by rw [z, hP] at k; cases k) e⟩, fun b o e k _ => ?_, fun b o e _ => ?_, fun b xs e => gk b _ (fun z => by rw [z, hP] at e; cases e) e, fun b o u e => gk b _ (fun z => by rw [z, hP] at e; cases e) e, fun b qs e => ?_⟩
      · obtain ⟨h1, h2⟩ := old b o e
        rw [go b (fun z => by rw [z, hP] at k; cases k) h1 h2]; exact k
      · by_cases h1 : b = P
        · rw [h1]; exact ⟨_, htab'.2⟩
        · exact ⟨o, hx b o h1 e⟩
      · by_cases h1 : b = P
        · subst h1
          rw [hP] at e; cases e
          exact ⟨_, gP⟩
        · exact ⟨#[], by rw [gk b _ h1 e]; simp⟩
    have J := I.un (t' := tk) un ok
    have kn : ∀ m, TabG m G P' := fun m => by
      cases m with
      | zero => exact ⟨#[], gP', trivial⟩
      | succ m => exact ⟨#[], gP', trivial, fun pos cv e => by simp [codeAmong] at e⟩
    have tg' : TabG n G P := by
      cases n with
      | zero => exact ⟨_, gP, htr⟩
      | succ n =>
        obtain ⟨ps', h1, h2, h3⟩ := T
        rw [hP] at h1; cases h1
        refine ⟨_, gP, htr, fun pos' cv e => ?_⟩
        have e' : codeAmong pos' (ps.toList ++ [rawInt pos.line, rawInt pos.col, .ref c']) = some cv := by simpa using e
        rcases among_snoc pos' _ _ _ cv ps.toList ht e' with e2 | e2
        · obtain ⟨c3', P3, f1, f2, f3, f4⟩ := h3 pos' cv e2
          have f5 : c3' ≠ P := fun z => by rw [z, hP] at f2; cases f2
          refine ⟨c3', P3, f1, gk _ _ f5 f2, f3, ?_⟩
          have e0 : n = 0 := by omega
          subst e0
          obtain ⟨r, e5, e6⟩ := f4
          exact ⟨r, gk _ _ f3 e5, e6⟩
        · exact ⟨c', P', e2, gc, c2, kn n⟩
    refine hQ (.ref c') G _ J gk tg' ?_ (Nat.le_of_lt (Nat.lt_of_le_of_lt hge hlt)) fun b o e k => ⟨hx b o (fun z => by rw [z, hP] at k; cases k) e, ?_⟩
    · cases n with
      | zero => trivial
      | succ n => exact ⟨c', P', rfl, gc, c2, kn n⟩
    · obtain ⟨h1, h2⟩ := old b o e
      rw [go b (fun z => by rw [z, hP] at k; cases k) h1 h2]; exact k
end
end GX
set_option Elab.async false
set_option linter.all false
set_option maxRecDepth 100000
set_option maxHeartbeats 1000000
namespace GX
open PySem PySem.Spec PyProof.Rows L2 GenW
/-! the frame of a generator expression as a context -/
abbrev gcx (X : Cx) (A : Around) (s : Shared) (H : Hp) (sc : Scope) (cenv : Env) (fp : List Addr) (pn : List (Addr × Obj)) : Cx :=
  { X with A := A, s_0 := s, H_0 := H, env := cenv, outer := X.stack, stack := cenv :: X.stack, ex := fp, fn := fun x => sc.names.lookup x == some .cell, calm := true, pn := pn, xe := fun _ _ => False }
abbrev genv (X : Cx) (sc : Scope) (C : Addr) (cv : Value) : Env := genEnv sc (cloFrom X.env.cells sc.names []) C cv builtinsNs X.env
section
variable {X : Cx} {pins : List (Addr × Obj)} {σ : L2.St} {H : Hp} {s : Shared}
theorem clo_at {sc : Scope} {own : List (Str × Nat)} (I : Inv X pins σ H s) (ok : BlkOk X.N X.env.scope sc own) {y : Str} {c : Addr} (e : (cloFrom X.env.cells sc.names []).lookup y = some c) : X.env.cells.lookup y = some c ∧ c < s.heap.objs.size := by
  rcases cloFrom_mem (PySem.mem_of_lookup e) with hm | ⟨h1, h2⟩
  · cases hm
  · have hx : ∃ c, X.env.cells.lookup y = some c := by
      rcases ok.free _ h1 rfl with k | k
      · exact I.ok.has _ (.inl k)
      · exact I.ok.has _ (.inr k)
    obtain ⟨c', e'⟩ := hx
    rw [h2, e']
    obtain ⟨v, z⟩ := I.cell _ _ e'
    exact ⟨rfl, z.lt⟩
theorem clo_of {sc : Scope} {own : List (Str × Nat)} (I : Inv X pins σ H s) (ok : BlkOk X.N X.env.scope sc own) {y : Str} (e : sc.names.lookup y = some .free) : ∃ c, (cloFrom X.env.cells sc.names []).lookup y = some c := by
  obtain ⟨c, h⟩ := mem_lookup (cloFrom_has (cells := X.env.cells) (acc := []) (PySem.mem_of_lookup e))
  exact ⟨c, h⟩
theorem gen_start {A : Around} {sc : Scope} {own : List (Str × Nat)} {fp : List Addr} {cv it : Value} {h' : Heap} {go : Obj} {s5 : Shared} (I : Inv X pins σ H s) (ok : BlkOk X.N X.env.scope sc own) (nc : ∀ y ∈ sc.names, y.2 ≠ .cell) (hN : X.N.Nodup)
    (hfp : ∀ b ∈ fp, FpOk X pins H b ∧ b < s.heap.objs.size) (hh : A.handled = none) (hfr : A.frames = some (genv X sc s.heap.objs.size cv :: X.stack))
    (hns : h'.Ns s.heap.objs.size (fun y => if y = ".0" then some it else none)) (hsb : Heap.SameBut s.heap.objs.size (s.heap.push { cls := .type "frame", data := .dict #[] }) h')
    (hgo : ∀ v, go.data ≠ .cell v) (hgp : (h'.push go).get? h'.objs.size = some go) (ho : s5.os = s.os) (hb : AllBare s5.gens) (hk : ∀ b o, (h'.push go).get? b = some o → s5.heap.get? b = some o) :
    Inv (gcx X A s H sc (genv X sc s.heap.objs.size cv) fp [(h'.objs.size, go)]) [] (wipe σ (own.map (·.2))) H s5 := by
  have hsz : h'.objs.size = s.heap.objs.size + 1 := by rw [hsb.1, Heap.size_push]
  have k1 : ∀ b o, s.heap.get? b = some o → h'.get? b = some o := fun b o e => hsb.extBut b o (Nat.ne_of_lt (Heap.lt_size e)) (Heap.get?_push_of_some _ e)
  have kp : ∀ b o, s.heap.get? b = some o → s5.heap.get? b = some o := fun b o e => hk b o (Heap.get?_push_of_some _ (k1 b o e))
  have kindOf : ∀ y k, sc.names.lookup y = some k → k = .local ∨ k = .cell ∨ k = .free → k = .local ∨ k = .free := fun y k e z => by
    rcases z with z | z | z
    · exact .inl z
    · exact absurd z (nc _ (PySem.mem_of_lookup e))
    · exact .inr z
  have okG : (gcx X A s H sc (genv X sc s.heap.objs.size cv) fp [(h'.objs.size, go)]).Ok := by
    refine ⟨I.ok.mod, ok.kind, I.ok.glob, rfl, Nat.le_refl _, fun x y c e1 e2 => ?_, fun x hx => ?_, fun x c z e => ?_, fun _ => hh, hfr, .inr ⟨rfl, rfl⟩, fun b hb => ⟨Nat.ne_of_lt (hfp b hb).2, fun y c e z => ?_⟩,
      I.bs, Nat.le_trans I.ok.bsz I.sz, fun b o e hb => ?_, fun b hb z => ?_, I.stack, I.stkFree⟩
    · exact I.ok.inj x y c (clo_at I ok e1).1 (clo_at I ok e2).1
    · rcases hx with hx | hx
      · exact absurd rfl (nc _ (PySem.mem_of_lookup (show sc.names.lookup x = some .cell from hx)))
      · exact clo_of I ok hx
    · have z : (sc.names.lookup x == some NameKind.cell) = true := z
      have z : sc.names.lookup x = some .cell := by simpa using z
      exact absurd rfl (nc _ (PySem.mem_of_lookup z))
    · exact (hfp b hb).1.2.2.2.2.1 y c (clo_at I ok e).1 z
    · rcases (hfp b hb).1.2.2.2.1 with z | z
      · exact I.ok.noex b o e z
      · exact absurd (Nat.lt_of_lt_of_le (Heap.lt_size e) (Nat.le_trans I.ok.bsz z)) (Nat.lt_irrefl _)
    · rcases List.mem_cons.mp (I.stkSub b z) with z | z
      · exact (hfp b hb).1.2.1 z
      · exact (hfp b hb).1.2.2.1 z
  refine ⟨okG, ho, hb, Un.kept kp, ⟨_, (hns.push go).keeps hk, fun i y v e1 e2 e3 => ?_⟩, fun y c e => ?_, I.hok.fresh (Nat.le_refl _), fun y c e => I.freeC y c (clo_at I ok e).1, fun p hp => ?_, I.hok.kept kp, by rw [wipe_length]; exact I.len⟩
  · obtain ⟨e2, hne⟩ := wipe_some e2
    have e3 : Vis sc y := e3
    have hl : ∀ k, sc.names.lookup y = some k → k = .local ∨ k = .free → k = .free := fun k e z => by
      rcases z with z | z
      · rcases ok.own _ (PySem.mem_of_lookup e) (.inl z) with q | q
        · obtain ⟨p, hp, hpy⟩ := List.mem_map.mp q
          have e5 := ok.ix p hp
          have e6 : p.1 = y := hpy
          rw [e6] at e5
          exact absurd (List.mem_map.mpr ⟨p, hp, nodup_ix hN e5 e1⟩) hne
        · exact absurd (List.mem_of_getElem? e1) q
      · exact z
    have hf : sc.names.lookup y = some .free := by
      rcases e3 with e | e | e
      · have := hl _ e (.inl rfl); rw [e, this]
      · exact absurd rfl (nc _ (PySem.mem_of_lookup e))
      · exact e
    obtain ⟨m, _, hm⟩ := I.loc
    have hv : Vis X.env.scope y := (ok.free _ (PySem.mem_of_lookup hf) rfl).elim (fun k => .inr (.inl k)) fun k => .inr (.inr k)
    obtain ⟨u, r, q⟩ := hm i y v e1 e2 hv
    obtain ⟨c, hc⟩ := clo_of I ok hf
    refine ⟨u, r, .inr ⟨.inr hf, c, hc, ?_⟩⟩
    rcases q with ⟨k, _⟩ | ⟨_, c', e', z⟩
    · have k : X.env.scope.names.lookup y = some .local := k
      rcases ok.free _ (PySem.mem_of_lookup hf) rfl with k' | k' <;> rw [show X.env.scope.names.lookup y = _ from k'] at k <;> cases k
    · rw [(clo_at I ok hc).1] at e'; cases e'
      exact z.keeps kp
  · obtain ⟨v, z⟩ := I.cell y c (clo_at I ok e).1
    exact ⟨v, z.keeps kp⟩
  · have hp : p = (h'.objs.size, go) := by simpa using hp
    subst hp
    have hlt : s.heap.objs.size < h'.objs.size := by omega
    exact ⟨hk _ _ hgp, I.hok.fresh (Nat.le_of_lt hlt), Nat.ne_of_gt hlt, fun z => by
      rcases List.mem_cons.mp (I.stkSub _ z) with z | z
      · have z1 : X.env.locals < s.heap.objs.size := I.lt
        rw [← show h'.objs.size = X.env.locals from z] at z1
        exact Nat.lt_irrefl _ (Nat.lt_trans z1 hlt)
      · exact I.nofs (Nat.le_of_lt hlt) z, hgo⟩
end
end GX
set_option Elab.async false
set_option linter.all false
set_option maxRecDepth 100000
set_option maxHeartbeats 1000000
namespace GX
open PySem PySem.Spec PyProof.Rows L2 GenW
/-! the turns of a generator expression, between two items -/
/-- the drainer's own object stands apart -/
structure Away (X : Cx) (S : Addr) : Prop where
  young : X.s_0.heap.objs.size ≤ S
  loc : S ≠ X.env.locals
  pn : ∀ p ∈ X.pn, p.1 ≠ S
  fs : S ∉ X.fs
  ex : S ∉ X.ex
  cell : ∀ x c, X.env.cells.lookup x = some c → c ≠ S
/-- what the drainer holds by a number -/
abbrev Hold := Int → List (Addr × Obj) → Prop
structure HoldOk (S : Addr) (Hd : Hold) : Prop where
  at_ : ∀ t ps, Hd t ps → ∀ p ∈ ps, p.1 = S ∧ ∀ v, p.2.data ≠ .cell v
/-- the state behind the drainer's own step -/
structure Woke (ps : List (Addr × Obj)) (s s' : Shared) : Prop where
  os : s'.os = s.os
  bare : AllBare s'.gens
  keep : ∀ b o, b ∉ ps.map (·.1) → s.heap.get? b = some o → s'.heap.get? b = some o
abbrev Emit := Int → V → (Int → Hp → Prop) → Hp → Prop
section
variable {X : Cx} {S : Addr} {Hd : Hold}
theorem woken {ps ps' : List (Addr × Obj)} {σ : L2.St} {H : Hp} {s s' : Shared} (I : Inv X ps σ H s) (hp : ∀ p ∈ ps, p.1 = S) (hp' : ∀ p ∈ ps', p.1 ∈ ps.map (·.1) ∧ ∀ v, p.2.data ≠ .cell v) (aw : Away X S) (w : Woke ps s s') (he : ∀ p ∈ ps', s'.heap.get? p.1 = some p.2) :
    Inv X ps' σ H s' := by
  have nS : ∀ b ∈ ps.map (·.1), b = S := fun b hb => by
    obtain ⟨p, h1, h2⟩ := List.mem_map.mp hb
    rw [← h2]; exact hp p h1
  have noH : ∀ b ∈ ps.map (·.1), H b = none := fun b hb => by
    obtain ⟨p, h1, h2⟩ := List.mem_map.mp hb
    rw [← h2]; exact (I.pin p (List.mem_append_right _ h1)).2.1
  have I0 : Inv X [] σ H s := I.pins_of fun p h => by cases h
  obtain ⟨w1, w2, w3⟩ := w
  obtain ⟨hh, g, d, tk, o⟩ := s'
  have e : o = s.os := w1
  subst e
  have nL : X.env.locals ∉ ps.map (·.1) := fun z => aw.loc (nS _ z).symm
  have J : Inv X [] σ H { s with heap := hh, gens := g, drawn := d, toks := tk } := by
    refine I0.step (g' := g) (t' := tk) (d' := d) (ch := ps.map (·.1)) (fun b hb => ?_) (fun b ob _ _ hc q _ => w3 b ob hc q) (fun b ob _ _ hc q _ => ⟨ob.slots, w3 b ob hc q⟩) (fun _ _ _ _ n => n) (fun b ob hc q => ⟨ob, w3 b ob hc q⟩)
      (fun _ _ q => q) (fun _ _ _ q => q) (fun b qs q => ⟨#[], by rw [q]; simp⟩) (fun m hm => ?_) (fun b u q => ?_) w2
    · rw [nS b hb]
      refine ⟨.inr aw.young, aw.loc, aw.cell, fun p h => aw.pn p ?_⟩
      simpa using h
    · obtain ⟨ob, es, ep, h1, r⟩ := hm
      exact ⟨ob, es, ep, w3 _ ob nL h1, r⟩
    · refine (I0.hok b u q).stay (fun c v hc y => w3 c v (fun z => ?_) y) (fun _ y => y) fun _ _ y => y
      have z1 := noH c z
      rcases hc with y | y
      · rw [y, q] at z1; cases z1
      · rw [y] at z1; cases z1
  exact J.pins_of fun p h => by
    obtain ⟨h1, h2⟩ := hp' p h
    refine ⟨he p h, noH _ h1, ?_, ?_, h2⟩
    · rw [nS _ h1]; exact aw.loc
    · rw [nS _ h1]; exact aw.fs
/-- the end of the items; one item -/
def GEnd (X : Cx) (Hd : Hold) (Dn : Int → Hp → Prop) : Nat → Shared → Shared → Prop := fun _ s₀ s₁ => ∃ t ps σ' H, Hd t ps ∧ (∀ p ∈ ps, s₀.heap.get? p.1 = some p.2) ∧ Inv X ps σ' H s₁ ∧ Dn t H
def GItem (X : Cx) (Hd : Hold) (Em : Emit) : Protocol := fun _ s₀ v s kap => ∃ t ps σ' H y Nx, Hd t ps ∧ (∀ p ∈ ps, s₀.heap.get? p.1 = some p.2) ∧ Inv X ps σ' H s ∧ RelV y v ∧ Em t y Nx H ∧
  ∀ t' ps' s'', Nx t' H → Hd t' ps' → (∀ p ∈ ps', p.1 ∈ ps.map (·.1)) → Woke ps s s'' → (∀ p ∈ ps', s''.heap.get? p.1 = some p.2) → kap (.send .none) s''
/-- one turn by the readings -/
def GTurn (J : It) (g : TG) (tt : TT) (te : TE) (vs : List Nat) (σ : L2.St) (Em : Emit) (Dn : Int → Hp → Prop) (W : Nat → Nat → Int → Hp → Prop) : Prop := ∀ i m t H, W i m t H →
  (J.stop i H ∧ Dn t H) ∨ (J.go i H ∧ ∃ Nx : Int → Hp → Prop, (∀ t' H', Nx t' H' → ∃ m', m' < m ∧ W (i + 1) m' t' H') ∧ ∀ x H', J.yld i H x H' → g x (wipe σ vs) H' fun σ2 H2 => wipe σ2 vs = wipe σ vs ∧ tt σ2 H2 fun b H3 =>
    if b = true then te σ2 H3 fun y H4 => Em t y Nx H4 else Nx t H3)
theorem seg_turns {A : Around} {elt tg iter : Expr} {ifs : List Expr} {sc : Scope} {pos : Pos} {it : Addr} {fp : List Addr} {tn : Nat → Heap → Prop} {J : It} {g : TG} {tt : TT} {te : TE} {vs : List Nat} {σ : L2.St} {Em : Emit} {Dn : Int → Hp → Prop} {W : Nat → Nat → Int → Hp → Prop}
    (hA : A.deeper X.env = X.A) (hx : X.xe = fun _ _ => False) (hc : X.calm = true) (hex : X.ex = fp) (hco : X.env.scope.isCoroutine = false) (hpf : ∀ p ∈ X.pn, ∀ b ∈ fp, p.1 ≠ b) (T : Turn X.prog X.w X.K tg J fp it tn) (pg : PG X tg g) (pt : PTs X ifs tt) (pe : PE X elt te) (turn : GTurn J g tt te vs σ Em Dn W)
    (hd : HoldOk S Hd) (aw : Away X S) : ∀ (m i : Nat) (t : Int) (n : Nat) (s₀ s : Shared) (H : Hp) (ps : List (Addr × Obj)), m < n → Hd t ps → (∀ p ∈ ps, s₀.heap.get? p.1 = some p.2) → Inv X ps (wipe σ vs) H s → tn i s.heap → (∀ b ∈ fp, H b = none) → W i m t H →
      Seg (model X.prog X.w) A (fun n s₀ r s₁ => r = .ok .next ∧ GEnd X Hd Dn n s₀ s₁) (GItem X Hd Em) n s₀ (.compLoop (.GeneratorExp elt [⟨tg, iter, ifs, 0⟩] sc pos) 0 (.ref it) .none X.env)
        ((model X.prog X.w).den (.compLoop (.GeneratorExp elt [⟨tg, iter, ifs, 0⟩] sc pos) 0 (.ref it) .none X.env)) [] s := by
  intro m
  induction m using Nat.strongRecOn with
  | ind m ih =>
    intro i t n s₀ s H ps hmn h1 h2 I st fr w
    have stat : ∀ {σ' : L2.St} {H' : Hp} {s' : Shared} {qs : List (Addr × Obj)}, Inv X qs σ' H' s' → (∀ p ∈ qs, p.1 = S) → (∀ b ∈ fp, H' b = none) → ∀ b ∈ fp, FpOk X qs H' b := fun {σ' H' s' qs} I' hq hn b hb => by
      have hbx : b ∈ X.ex := by rw [hex]; exact hb
      refine ⟨hn b hb, (I'.ok.exf b hbx).1, I'.ok.exfs b hbx, .inl hbx, fun x c e => (I'.ok.exf b hbx).2 x c e, fun p hp => ?_⟩
      rcases List.mem_append.mp hp with z | z
      · exact hpf p z b hb
      · rw [hq p z]; intro e; exact aw.ex (by rw [e]; exact hbx)
    have hS : ∀ p ∈ ps, p.1 = S := fun p hp => (hd.at_ t ps h1 p hp).1
    show Seg _ A _ _ n s₀ _ ((compTurn _ 0 (.ref it) .none X.env).onRaise (leaving X.env)) [] s
    rw [compTurn_gen, Sem.onRaise_eq_wrap]
    refine seg_bind_wrap (wpAny_standAt (seg_bind_wrap ?_))
    rw [over_turn, hA]
    rcases turn i m t H w with ⟨stop, qn⟩ | ⟨go, Nx, hN, step⟩
    · refine thnF (T.done X rfl rfl rfl hc i ps s _ H (fun _ _ => False) I (stat I hS fr) st stop) fun r s4 ⟨hr, I4⟩ => ?_
      subst hr
      exact seg_end (.ok .next) ⟨rfl, t, ps, _, H, h1, h2, I4, qn⟩
    · refine thnF (T.item X rfl rfl rfl hc i ps s _ H (fun _ _ => False) I (stat I hS fr) st go) fun r s4 ⟨u, hr, h4⟩ => ?_
      subst hr
      refine seg_bind_wrap ?_
      rw [over_turn, hA]
      refine thnF h4 fun _ s5 ⟨x, H5, I5, r5, y5, st5, fr5⟩ => seg_bind_wrap ?_
      rw [over_turn, hA]
      have I5' := I5.pinned (stat I5 hS fr5) (T.obj _ _ st5)
      have pgr := pg.run _ s5 _ H5 x u _ I5' r5 (step x H5 y5)
      rw [hx] at pgr
      refine thnF pgr fun _ s6 ⟨σ6, H6, I6, hw6, q6⟩ => seg_bind_wrap ?_
      rw [over_turn, hA]
      have ptr := pt.run _ s6 σ6 H6 _ I6 q6
      rw [hx] at ptr
      refine thnF ptr fun b s7 ⟨H7, I7, q7⟩ => ?_
      -- what stays of the iterator's objects
      have back : ∀ {qs : List (Addr × Obj)} {s' : Shared} {H' : Hp}, Inv X (ps ++ pinsAt fp s5.heap) σ6 H' s' → tn (i + 1) s'.heap ∧ (∀ b ∈ fp, H' b = none) ∧ Inv X ps (wipe σ vs) H' s' := fun {qs s' H'} I' => by
        have pin' : ∀ b ∈ fp, ∀ o, s5.heap.get? b = some o → s'.heap.get? b = some o ∧ H' b = none := fun b hb o e =>
          let z := I'.pin (b, o) (List.mem_append_right _ (List.mem_append_right _ (mem_pinsAt hb e)))
          ⟨z.1, z.2.1⟩
        refine ⟨T.keep _ _ _ st5 fun b hb o e => (pin' b hb o e).1, fun b hb => ?_, ?_⟩
        · obtain ⟨o, e, _⟩ := T.obj _ _ st5 b hb
          exact (pin' b hb o e).2
        · refine (I'.unpinned (pins := ps)).weak (by rw [← hw6, wipe_length]) fun j v e => ?_
          rw [← hw6] at e
          exact (wipe_some e).1
      cases b with
      | false =>
        simp only [Bool.false_eq_true, if_false] at q7 ⊢
        obtain ⟨b1, b2, b3⟩ := back (qs := []) I7
        obtain ⟨m', hm, w'⟩ := hN t H7 q7
        exact seg_again rfl (ih m' hm (i + 1) t n s₀ s7 H7 ps (Nat.lt_trans hm hmn) h1 h2 b3 b1 b2 w')
      | true =>
        simp only [if_true] at q7 ⊢
        have hy : ∀ v, yieldOut X.env v = yieldValue v := fun v => by simp only [yieldOut, hco, Bool.false_eq_true, if_false]
        simp only [hy]
        rw [Sem.bind_eq_wrap', Sem.bind_eq_wrap', Sem.wrap_wrap, Sem.wrap_wrap]
        refine seg_wrap ?_
        rw [over_turn, hA]
        have per := pe.run _ s7 σ6 H7 _ I7 q7
        rw [hx] at per
        refine thnF per fun z s8 ⟨y, H8, I8, r8, q8⟩ => ?_
        obtain ⟨n, rfl⟩ : ∃ k, n = k + 1 := ⟨n - 1, by omega⟩
        obtain ⟨b1, b2, b3⟩ := back (qs := []) I8
        refine seg_at (seg_yield rfl rfl rfl ⟨t, ps, _, H8, y, Nx, h1, h2, b3, r8, q8, fun t' ps' s'' nx hp' ha wk he => ?_⟩)
        obtain ⟨m', hm, w'⟩ := hN t' H8 nx
        have I9 := woken b3 hS (fun p hp => ⟨ha p hp, (hd.at_ t' ps' hp' p hp).2⟩) aw wk he
        refine seg_again rfl (ih m' hm (i + 1) t' n s'' s'' H8 ps' (by omega) hp' he I9 (T.keep _ _ _ b1 fun b hb o e => wk.keep b o (fun z => ?_) e) b2 w')
        obtain ⟨p, z1, z2⟩ := List.mem_map.mp z
        rw [hS p z1] at z2
        exact aw.ex (by rw [hex, z2]; exact hb)
end
end GX
set_option Elab.async false
set_option linter.all false
set_option maxRecDepth 100000
set_option maxHeartbeats 1000000
namespace GX
open PySem PySem.Spec PyProof.Rows L2 GenW
/-! the first turn; all, any, sum -/
section
variable {X : Cx} {S : Addr} {Hd : Hold}
theorem seg_begin {A : Around} {elt tg iter : Expr} {ifs : List Expr} {sc : Scope} {pos : Pos} {it : Addr} {fp : List Addr} {tn : Nat → Heap → Prop} {J : It} {g : TG} {tt : TT} {te : TE} {vs : List Nat} {σ : L2.St} {Em : Emit} {Dn : Int → Hp → Prop} {W : Nat → Nat → Int → Hp → Prop}
    (hA : A.deeper X.env = X.A) (hx : X.xe = fun _ _ => False) (hc : X.calm = true) (hex : X.ex = fp) (hco : X.env.scope.isCoroutine = false) (hpf : ∀ p ∈ X.pn, ∀ b ∈ fp, p.1 ≠ b) (T : Turn X.prog X.w X.K tg J fp it tn) (pg : PG X tg g) (pt : PTs X ifs tt) (pe : PE X elt te) (turn : GTurn J g tt te vs σ Em Dn W)
    (hd : HoldOk S Hd) (aw : Away X S) (m : Nat) (t : Int) (n : Nat) (s₀ s : Shared) (H : Hp) (ps : List (Addr × Obj)) (hmn : m < n) (h1 : Hd t ps) (h2 : ∀ p ∈ ps, s₀.heap.get? p.1 = some p.2) (I : Inv X ps (wipe σ vs) H s) (st : tn 0 s.heap) (fr : ∀ b ∈ fp, H b = none) (w : W 0 m t H) :
      Seg (model X.prog X.w) A (fun n s₀ r s₁ => r = .ok .next ∧ GEnd X Hd Dn n s₀ s₁) (GItem X Hd Em) n s₀ (.compStart (.GeneratorExp elt [⟨tg, iter, ifs, 0⟩] sc pos) 0 (.ref it) .none X.env)
        ((model X.prog X.w).den (.compStart (.GeneratorExp elt [⟨tg, iter, ifs, 0⟩] sc pos) 0 (.ref it) .none X.env)) [] s := by
  have loop := seg_turns (iter := iter) (sc := sc) (pos := pos) hA hx hc hex hco hpf T pg pt pe turn hd aw m 0 t n s₀ s H ps hmn h1 h2 I st fr w
  show Seg _ A _ _ n s₀ _ ((compStart _ 0 (.ref it) .none X.env).onRaise (leaving X.env)) [] s
  unfold compStart
  rw [Sem.onRaise_eq_wrap]
  show Seg _ A _ _ n s₀ _ ((ask >>= _).wrap _ _ _ _) [] s
  refine seg_bind_wrap (wpAny_askSetting ?_)
  split
  · exact seg_again rfl loop
  · refine seg_bind_wrap (wpAny_rule ?_)
    show Seg _ A _ _ n s₀ _ ((standAt iter.pos >>= _).wrap _ _ _ _) [] s
    exact seg_bind_wrap (wpAny_standAt (seg_bind_wrap (T.self _ 0 s _ _ st (seg_again rfl loop))))
theorem inv_gens {pins : List (Addr × Obj)} {σ : L2.St} {H : Hp} {s : Shared} {g' : Array GenState} (I : Inv X pins σ H s) (h : AllBare g') : Inv X pins σ H { s with gens := g' } :=
  ⟨I.ok, I.os, h, I.base, I.loc, I.cell, I.free, I.freeC, I.pin, I.hok, I.len⟩
/-- the generator object stands -/
structure GObj (X : Cx) (a : Addr) (g : Nat) (go : Obj) : Prop where
  mem : (a, go) ∈ X.pn
  gen : ∀ h : Heap, h.get? a = some go → h.IsGen a g
theorem GObj.at {a : Addr} {g : Nat} {go : Obj} (G : GObj X a g go) {pins : List (Addr × Obj)} {σ : L2.St} {H : Hp} {s : Shared} (I : Inv X pins σ H s) : s.heap.IsGen a g :=
  G.gen _ (I.pin _ (List.mem_append_left _ G.mem)).1
/-- the generator g sleeps at a, n items at most are left -/
def Rdy (X : Cx) (A : Around) (Hd : Hold) (Em : Emit) (Dn : Int → Hp → Prop) (a : Addr) (g n : Nat) (s : Shared) : Prop :=
  s.heap.IsGen a g ∧ s.heap.NoLimit ∧ ∃ gs, s.gens[g]? = some gs ∧ gs.Goes (model X.prog X.w) A (fun n s₀ r s₁ => r = .ok .next ∧ GEnd X Hd Dn n s₀ s₁) (GItem X Hd Em) n (.send .none) (s.setGen g .running)
theorem next_item {A : Around} {a : Addr} {g n : Nat} {go : Obj} {s : Shared} {Em : Emit} {Dn : Int → Hp → Prop} {Q : Option Value → Shared → Prop} {E : Value → Shared → Prop} (G : GObj X a g go) (hh : A.handled = none) (hd : A.depth < recursionLimit) (r : Rdy X A.in1 Hd Em Dn a g n s)
    (hI : ∀ t ps σ' H y v s1 Nx, Hd t ps → (∀ p ∈ ps, s.heap.get? p.1 = some p.2) → Inv X ps σ' H s1 → RelV y v → Em t y Nx H →
      (∀ t' ps' hp, Nx t' H → Hd t' ps' → (∀ p ∈ ps', p.1 ∈ ps.map (·.1)) → (∀ b o, b ∉ ps.map (·.1) → s1.heap.get? b = some o → hp.get? b = some o) → (∀ p ∈ ps', hp.get? p.1 = some p.2) → hp.IsGen a g → hp.NoLimit → ∃ k, k < n ∧ ∀ tk, Rdy X A.in1 Hd Em Dn a g k { s1 with heap := hp, toks := tk }) → Q (some v) s1)
    (hE : ∀ t ps σ' H s1, Hd t ps → (∀ p ∈ ps, s.heap.get? p.1 = some p.2) → Inv X ps σ' H s1 → Dn t H → Q none s1) :
    wpAny (model X.prog X.w) A (pyNext (.ref a)) Q E s := by
  obtain ⟨h1, h2, gs, h3, h4⟩ := r
  have hgl : g + 1 ≤ s.gens.size := (Array.getElem?_eq_some_iff.mp h3).1
  refine wpAny_gsz (n := g + 1) hgl (wpAny_pyNext_genexpQ (A := A) (P := GEnd X Hd Dn) hh h2 hd h1 h3 h4 (fun v s₁ gs' hb hv => ?_) (fun s₁ hp h' hk => ?_))
  · intro hsz
    have hsz1 : g < s₁.gens.size := by
      have q : (s₁.setGen g gs').gens.size = s₁.gens.size := setGen_size _ _ _
      rw [q] at hsz
      exact hsz
    obtain ⟨t, ps, σ', H, y, Nx, f1, f2, f3, f4, f5, f6⟩ := hv
    have J : Inv X ps σ' H (s₁.setGen g gs') := inv_gens f3 (allBare_setGen f3.bare hb)
    refine hI t ps σ' H y v _ Nx f1 f2 J f4 f5 fun t' ps' hp q1 q2 q3 q4 q5 q6 q7 => ?_
    cases n with
    | zero =>
      exact False.elim (f6 t' ps' { s₁ with heap := hp } q1 q2 q3 ⟨rfl, f3.bare, q4⟩ q5)
    | succ n =>
      refine ⟨n, Nat.lt_succ_self n, fun tk => ⟨q6, q7, gs', setGen_at hsz1, ?_⟩⟩
      exact f6 t' ps' _ q1 q2 q3 ⟨rfl, allBare_setGen (s := { s₁.setGen g gs' with heap := hp, toks := tk }) J.bare rfl, q4⟩ q5
  · intro _
    obtain ⟨t, ps, σ', H, f1, f2, f3, f4⟩ := hp
    refine hE t ps σ' H _ f1 f2 ?_ f4
    exact (inv_gens f3 (allBare_setGen f3.bare rfl)).kept (t' := (s₁.setGen g .finished).toks) hk
/-! all and any -/
def HoldN : Hold := fun t ps => t = 0 ∧ ps = []
theorem holdN_ok : HoldOk S HoldN := ⟨fun t ps h p hp => by rw [h.2] at hp; cases hp⟩
def EmAll (Qf : Hp → Prop) : Emit := fun _ y Nx H => ∃ b, y = .bl b ∧ if b = true then Nx 0 H else Qf H
def EmAny (Qt : Hp → Prop) : Emit := fun _ y Nx H => ∃ b, y = .bl b ∧ if b = true then Qt H else Nx 0 H
theorem all_turns {A : Around} {a : Addr} {g : Nat} {go : Obj} {Qf : Hp → Prop} {Dn : Int → Hp → Prop} {R : Result → Shared → Prop} (G : GObj X a g go) (hh : A.handled = none) (hd : A.depth < recursionLimit)
    (hf : ∀ σ' H s', Inv X [] σ' H s' → Qf H → R (.ok (.ret (.bool false))) s') (ht : ∀ t σ' H s', Inv X [] σ' H s' → Dn t H → R (.ok (.ret (.bool true))) s') :
    ∀ (n : Nat) (s : Shared), Rdy X A.in1.in1 HoldN (EmAll Qf) Dn a g n s → codeAny (model X.prog X.w) A (.builtin "all.loop" ⟨[.ref a], []⟩) R s := by
  intro n
  induction n using Nat.strongRecOn with
  | ind n ih =>
    intro s r
    refine codeAny_builtin F.entry_all_loop ?_
    rw [Around.under_plainId F.plain_all_loop _]
    show wpAny _ A.in1 (pyNext (.ref a) >>= _) _ _ s
    refine wpAny_bind (next_item (A := A.in1) G hh hd r (fun t ps σ' H y v s1 Nx f1 f2 f3 f4 f5 f6 => ?_) fun t ps σ' H s1 f1 f2 f3 f4 => ?_)
    · obtain ⟨b, rfl, f5⟩ := f5
      obtain ⟨rfl, rfl⟩ := f1
      obtain rfl : v = Value.bool b := f4
      refine wpAny_bind (wpAny_holding (wpAny_truthy_bool ?_))
      refine wpAny_bind (wpAny_letGo ?_)
      cases b with
      | true =>
        simp only [if_true] at f5 ⊢
        obtain ⟨k, hk, q⟩ := f6 0 [] s1.heap f5 ⟨rfl, rfl⟩ (fun p hp => by cases hp) (fun _ _ _ e => e) (fun p hp => by cases hp) (G.at f3) f3.nolimit
        exact wpAny_pure ⟨plainId_quiet F.plain_all_loop _, ih k hk s1 (q s1.toks)⟩
      | false =>
        simp only [Bool.false_eq_true, if_false] at f5 ⊢
        exact wpAny_bind (wpAny_rule (wpAny_pure (hf σ' H s1 f3 f5)))
    · obtain ⟨rfl, rfl⟩ := f1
      exact wpAny_bind (wpAny_rule (wpAny_pure (ht 0 σ' H s1 f3 f4)))
theorem any_turns {A : Around} {a : Addr} {g : Nat} {go : Obj} {Qt : Hp → Prop} {Dn : Int → Hp → Prop} {R : Result → Shared → Prop} (G : GObj X a g go) (hh : A.handled = none) (hd : A.depth < recursionLimit)
    (ht : ∀ σ' H s', Inv X [] σ' H s' → Qt H → R (.ok (.ret (.bool true))) s') (hf : ∀ t σ' H s', Inv X [] σ' H s' → Dn t H → R (.ok (.ret (.bool false))) s') :
    ∀ (n : Nat) (s : Shared), Rdy X A.in1.in1 HoldN (EmAny Qt) Dn a g n s → codeAny (model X.prog X.w) A (.builtin "any.loop" ⟨[.ref a], []⟩) R s := by
  intro n
  induction n using Nat.strongRecOn with
  | ind n ih =>
    intro s r
    refine codeAny_builtin F.entry_any_loop ?_
    rw [Around.under_plainId F.plain_any_loop _]
    show wpAny _ A.in1 (pyNext (.ref a) >>= _) _ _ s
    refine wpAny_bind (next_item (A := A.in1) G hh hd r (fun t ps σ' H y v s1 Nx f1 f2 f3 f4 f5 f6 => ?_) fun t ps σ' H s1 f1 f2 f3 f4 => ?_)
    · obtain ⟨b, rfl, f5⟩ := f5
      obtain ⟨rfl, rfl⟩ := f1
      obtain rfl : v = Value.bool b := f4
      refine wpAny_bind (wpAny_holding (wpAny_truthy_bool ?_))
      refine wpAny_bind (wpAny_letGo ?_)
      cases b with
      | true =>
        simp only [if_true] at f5 ⊢
        exact wpAny_bind (wpAny_rule (wpAny_pure (ht σ' H s1 f3 f5)))
      | false =>
        simp only [Bool.false_eq_true, if_false] at f5 ⊢
        obtain ⟨k, hk, q⟩ := f6 0 [] s1.heap f5 ⟨rfl, rfl⟩ (fun p hp => by cases hp) (fun _ _ _ e => e) (fun p hp => by cases hp) (G.at f3) f3.nolimit
        exact wpAny_pure ⟨plainId_quiet F.plain_any_loop _, ih k hk s1 (q s1.toks)⟩
    · obtain ⟨rfl, rfl⟩ := f1
      exact wpAny_bind (wpAny_rule (wpAny_pure (hf 0 σ' H s1 f3 f4)))
/-! sum -/
abbrev totO (t : Int) (tk : Tok) (c : Nat) : Obj := { cls := .type "list", dict := none, data := .seq #[.int t tk] c, slots := #[] }
def HoldS (S : Addr) : Hold := fun t ps => ∃ tk c, ps = [(S, totO t tk c)]
theorem holdS_ok : HoldOk S (HoldS S) := ⟨fun t ps ⟨tk, c, e⟩ p hp => by
  rw [e] at hp
  have e2 : p = (S, totO t tk c) := by simpa using hp
  rw [e2]
  exact ⟨rfl, fun v z => by cases z⟩⟩
def EmSum : Emit := fun t y Nx H => ∃ k, y = .int k ∧ InLong k ∧ InLong (t + k) ∧ Nx (t + k) H
theorem sum_turns {A : Around} {a : Addr} {g : Nat} {go : Obj} {Dn : Int → Hp → Prop} {R : Result → Shared → Prop} (G : GObj X a g go) (hh : A.handled = none) (hd : A.depth < recursionLimit) (hSa : S ≠ a) (hSc : S ≠ cStatics)
    (hf : ∀ t tk σ' H s' ps, Inv X ps σ' H s' → Dn t H → R (.ok (.ret (.int t tk))) s') :
    ∀ (n : Nat) (t : Int) (tk : Tok) (c : Nat) (s : Shared), Rdy X A.in1.in1 (HoldS S) EmSum Dn a g n s → s.heap.get? S = some (totO t tk c) → codeAny (model X.prog X.w) A (.builtin "sum.loop" ⟨[.ref a, .ref S, rawInt 0, rawInt 0], []⟩) R s := by
  intro n
  induction n using Nat.strongRecOn with
  | ind n ih =>
    intro t tk c s r hS
    refine codeAny_builtin F.entry_sum_loop ?_
    rw [Around.under_plainId F.plain_sum_loop _]
    show wpAny _ A.in1 (seqItems? (.ref S) >>= _) _ _ s
    refine wpAny_bind (wpAny_seqItems hS rfl ?_)
    show wpAny _ A.in1 (tryCatch (pyNext (.ref a)) _ >>= _) _ _ s
    refine wpAny_bind (wpAny_tryCatch (next_item (A := A.in1) G hh hd r (fun t1 ps σ' H y v s1 Nx f1 f2 f3 f4 f5 f6 => ?_) fun t1 ps σ' H s1 f1 f2 f3 f4 => ?_))
    · obtain ⟨tk1, c1, rfl⟩ := f1
      have e1 := f2 (S, totO t1 tk1 c1) (List.mem_singleton.mpr rfl)
      rw [hS] at e1
      cases e1
      obtain ⟨k, rfl, ⟨l1, l2⟩, ⟨l3, l4⟩, f5⟩ := f5
      obtain ⟨u, rfl⟩ := f4
      have hS1 : s1.heap.get? S = some (totO t tk c) := (f3.pin _ (List.mem_append_right _ (List.mem_singleton.mpr rfl))).1
      have hc : ((decide (-(2 ^ 63) ≤ k) && decide (k < 2 ^ 63)) && (decide (-(2 ^ 63) ≤ t + k) && decide (t + k < 2 ^ 63))) = true := by
        simp only [Bool.and_eq_true, decide_eq_true_eq]
        exact ⟨⟨l1, l2⟩, l3, l4⟩
      show wpAny _ A.in1 (if (_ : Bool) = true then (mkInt (t + k) >>= _) else _) _ _ _
      split
      · refine wpAny_bind (wpAny_mkInt ?_)
        show wpAny _ A.in1 (updateSeq S (fun _ => #[.int (t + k) s1.toks]) >>= _) _ _ _
        refine wpAny_bind ?_
        have ke : ∀ b o, b ≠ S → s1.heap.get? b = some o → (s1.heap.update S (Obj.mapSeq fun _ => #[.int (t + k) s1.toks])).get? b = some o := fun b o hb e => (Heap.get?_update_other _ _ (Ne.symm hb)).trans e
        have hS2 := Heap.get?_update_self (Obj.mapSeq fun _ => (#[.int (t + k) s1.toks] : Array Value)) hS1 rfl
        obtain ⟨k', hk', q⟩ := f6 (t + k) [(S, _)] (s1.heap.update S (Obj.mapSeq fun _ => #[.int (t + k) s1.toks])) f5 ⟨_, _, rfl⟩ (fun p hp => by
            have : p = (S, _) := List.mem_singleton.mp hp
            rw [this]; exact List.mem_singleton.mpr rfl) (fun b o hb e => ke b o (fun z => hb (by rw [z]; exact List.mem_singleton.mpr rfl)) e) (fun p hp => by
            have : p = (S, _) := List.mem_singleton.mp hp
            rw [this]; exact hS2)
          (let ⟨o, nm, qn, ho, r⟩ := G.at f3; ⟨o, nm, qn, ke _ o (Ne.symm hSa) ho, r⟩) (let ⟨mc, h1, h2⟩ := f3.nolimit; ⟨mc, h1.at' fun o e => ke _ o (Ne.symm hSc) e, h2⟩)
        refine wpAny_updateSeq hS1 rfl (wpAny_pure ⟨plainId_quiet F.plain_sum_loop _, ?_⟩)
        exact ih k' hk' (t + k) s1.toks _ _ (q _) hS2
      · rename_i hneg
        exact absurd hc hneg
    · obtain ⟨tk1, c1, rfl⟩ := f1
      have e1 := f2 (S, totO t1 tk1 c1) (List.mem_singleton.mpr rfl)
      rw [hS] at e1
      cases e1
      exact wpAny_pure (hf t tk σ' H s1 _ f3 f4)
end
end GX
set_option Elab.async false
set_option linter.all false
set_option maxRecDepth 100000
set_option maxHeartbeats 2000000
namespace GX
open PySem PySem.Spec PyProof.Rows L2 GenW
/-! the making of a generator expression, and all(..), any(..), sum(..) of it as expressions -/
section
variable {X : Cx} {pins : List (Addr × Obj)} {σ : L2.St}
/-- a generator expression that has just been made, at a -/
structure Made (X : Cx) (pins : List (Addr × Obj)) (σ : L2.St) (elt tg iter : Expr) (ifs : List Expr) (sc : Scope) (pos : Pos) (J : It) (cv : Value) (H2 : Hp) (s4 : Shared) (it : Addr) (fp : List Addr) (tn : Nat → Heap → Prop) (h' : Heap) (go : Obj) (s5 : Shared) : Prop where
  inv : Inv X pins σ H2 s4
  turn : Turn X.prog X.w X.K tg J fp it tn
  st : tn 0 s4.heap
  fp : ∀ b ∈ fp, FpOk X pins H2 b ∧ b < s4.heap.objs.size
  ns : h'.Ns s4.heap.objs.size (fun y => if y = ".0" then some (.ref it) else none)
  same : Heap.SameBut s4.heap.objs.size (s4.heap.push { cls := .type "frame", data := .dict #[] }) h'
  gen : ∀ h : Heap, h.get? h'.objs.size = some go → h.IsGen h'.objs.size s4.gens.size
  ncell : ∀ v, go.data ≠ .cell v
  got : (h'.push go).get? h'.objs.size = some go
  os : s5.os = s4.os
  heap : s5.heap = h'.push go
  gens : s5.gens = s4.gens.push (.fresh (.compStart (.GeneratorExp elt [⟨tg, iter, ifs, 0⟩] sc pos) 0 (.ref it) .none (genv X sc s4.heap.objs.size cv)))
/-- what the reading asks once the iterable has come -/
def GStart (base : Heap) (n : Nat) (c P : Addr) (R : It → Value → Hp → Prop) (J : It) (H1 : Hp) : Prop :=
  CodeOK base H1 c P ∧ TabG n H1 P ∧ ∀ cv H2, Kp P H1 H2 → TabG n H2 P → Known n P cv H2 → R J cv H2
theorem gen_made {n : Nat} {c P : Addr} {elt tg iter : Expr} {ifs : List Expr} {sc : Scope} {own : List (Str × Nat)} {pos : Pos} {wi : TI} {k : Nat} {H : Hp} {s : Shared} {R : It → Value → Hp → Prop} {Q : Value → Shared → Prop}
    (hr : Room k X.A) (hn : n ≤ 1) (bm : ∃ P0, X.base.BuiltinsAt X.mg P0) (hcode : X.env.code = .ref c) (ok : BlkOk X.N X.env.scope sc own) (nc : ∀ y ∈ sc.names, y.2 ≠ .cell) (h0 : sc.names.lookup (".0" : Str) = some NameKind.local) (hco : sc.isCoroutine = false)
    (hi : PI X tg iter wi) (hs : ∀ v, genFold iter X.env v = pure v) (I : Inv X pins σ H s) (h : wi σ H (GStart X.base n c P R))
    (hQ : ∀ J cv H2 s4 it fp tn h' go s5, Made X pins σ elt tg iter ifs sc pos J cv H2 s4 it fp tn h' go s5 → R J cv H2 → Q (.ref h'.objs.size) s5) :
    wpAny (model X.prog X.w) X.A (eval (.GeneratorExp elt [⟨tg, iter, ifs, 0⟩] sc pos) X.env) Q X.xe s := by
  have hfree : ∀ y ∈ sc.names, y.2 = .free → ∃ c, X.env.cells.lookup y.1 = some c := fun y hy e => by
    rcases ok.free y hy e with k | k
    · exact I.ok.has _ (.inl k)
    · exact I.ok.has _ (.inr k)
  refine wpAny_GeneratorExp_make hco (closure_ok hfree) nc h0 ok.kind hr.depth (thn (hi.run pins s σ H _ I h) fun xv s1 hx => thn hx fun itv s2 h2 => ?_) hs
  obtain ⟨it, fp, tn, J, H1, e, I2, T, st2, f2, hC, hT, q⟩ := h2
  subst e
  have fsz : ∀ b ∈ fp, b < s2.heap.objs.size := fun b hb => by
    obtain ⟨o, e, _⟩ := T.obj _ _ st2 b hb
    exact Heap.lt_size e
  refine ⟨I2.nolimit, gen_code hcode I2 hC hT hn fun cv H2 s4 I4 kp t2 kn sz old => ?_⟩
  obtain ⟨P0, bmA, ob, e1, e2, e3, e4, e5, e6, e7, e8⟩ := bm
  refine wpAny_builtinsFor (m := X.mg) (by rw [I4.ok.glob]; exact I4.mod.glob.keeps I4.bk) e1 e2 (I4.bk _ _ e5) e6 e7 e8 ?_
  intro h' hn' hs'
  have st4 : tn 0 s4.heap := T.keep _ _ _ st2 fun b hb o e => (old b o e (f2 b hb).1).1
  refine hQ J cv H2 s4 it fp tn h' _ _ ⟨I4, T, st4, fun b hb => ?_, hn', hs', (fun hh e => ⟨_, _, _, e, rfl, rfl, rfl⟩), (fun v z => by cases z), Heap.get?_push_size _ rfl, rfl, rfl, rfl⟩ (q cv H2 kp t2 kn)
  obtain ⟨o, e, _⟩ := T.obj _ _ st2 b hb
  exact ⟨⟨(old b o e (f2 b hb).1).2, (f2 b hb).2⟩, Nat.lt_of_lt_of_le (fsz b hb) sz⟩
/-- the generator's own context -/
abbrev Made.cx (X : Cx) (A : Around) (sc : Scope) (cv : Value) (H2 : Hp) (s4 : Shared) (fp : List Addr) (h' : Heap) (go : Obj) : Cx := gcx X (A.deeper (genv X sc s4.heap.objs.size cv)) s4 H2 sc (genv X sc s4.heap.objs.size cv) fp [(h'.objs.size, go)]
section
variable {elt tg iter : Expr} {ifs : List Expr} {sc : Scope} {own : List (Str × Nat)} {pos : Pos} {J : It} {cv : Value} {H2 : Hp} {s4 s5 : Shared} {it : Addr} {fp : List Addr} {tn : Nat → Heap → Prop} {h' : Heap} {go : Obj}
theorem Made.size (M : Made X pins σ elt tg iter ifs sc pos J cv H2 s4 it fp tn h' go s5) : h'.objs.size = s4.heap.objs.size + 1 := by rw [M.same.1, Heap.size_push]
theorem Made.old (M : Made X pins σ elt tg iter ifs sc pos J cv H2 s4 it fp tn h' go s5) : ∀ b o, s4.heap.get? b = some o → s5.heap.get? b = some o := fun b o e => by
  rw [M.heap]
  exact Heap.get?_push_of_some _ (M.same.extBut b o (Nat.ne_of_lt (Heap.lt_size e)) (Heap.get?_push_of_some _ e))
theorem Made.gobj (M : Made X pins σ elt tg iter ifs sc pos J cv H2 s4 it fp tn h' go s5) {A : Around} : GObj (Made.cx X A sc cv H2 s4 fp h' go) h'.objs.size s4.gens.size go :=
  ⟨List.mem_singleton.mpr rfl, M.gen⟩
/-- ready to be drained -/
theorem Made.rdy (M : Made X pins σ elt tg iter ifs sc pos J cv H2 s4 it fp tn h' go s5) {A : Around} {g : TG} {tt : TT} {te : TE} {S : Addr} {Hd : Hold} {Em : Emit} {Dn : Int → Hp → Prop} {W : Nat → Nat → Int → Hp → Prop} {m : Nat} {t : Int} {ps : List (Addr × Obj)} {s6 : Shared}
    (hN : X.N.Nodup) (ok : BlkOk X.N X.env.scope sc own) (nc : ∀ y ∈ sc.names, y.2 ≠ .cell) (hco : sc.isCoroutine = false) (hh : A.handled = none) (hfr : A.frames = X.A.frames)
    (pg : PG (Made.cx X A sc cv H2 s4 fp h' go) tg g) (pt : PTs (Made.cx X A sc cv H2 s4 fp h' go) ifs tt) (pe : PE (Made.cx X A sc cv H2 s4 fp h' go) elt te) (turn : GTurn J g tt te (own.map (·.2)) σ Em Dn W) (w : W 0 m t H2)
    (hd : HoldOk S Hd) (aw : Away (Made.cx X A sc cv H2 s4 fp h' go) S) (hps : Hd t ps) (ho : s6.os = s5.os) (hg : s6.gens = s5.gens) (hk : ∀ b o, s5.heap.get? b = some o → s6.heap.get? b = some o) (hp : ∀ p ∈ ps, s6.heap.get? p.1 = some p.2) :
    Rdy (Made.cx X A sc cv H2 s4 fp h' go) A Hd Em Dn h'.objs.size s4.gens.size (m + 1) s6 := by
  have k6 : ∀ b o, (h'.push go).get? b = some o → s6.heap.get? b = some o := fun b o e => hk b o (by rw [M.heap]; exact e)
  have a6 : s6.heap.get? h'.objs.size = some go := k6 _ _ M.got
  have hgl : s6.gens[s4.gens.size]? = some (.fresh (.compStart (.GeneratorExp elt [⟨tg, iter, ifs, 0⟩] sc pos) 0 (.ref it) .none (genv X sc s4.heap.objs.size cv))) := by
    rw [hg, M.gens]; exact Array.getElem?_push_size ..
  have fr2 : (A.deeper (genv X sc s4.heap.objs.size cv)).frames = some (genv X sc s4.heap.objs.size cv :: X.stack) := by
    show Option.map _ A.frames = _
    rw [hfr, M.inv.ok.frames]; rfl
  have bare6 : AllBare (s6.setGen s4.gens.size .running).gens := allBare_setGen (by rw [hg, M.gens]; exact AllBare.push M.inv.bare rfl) rfl
  have I6 := gen_start (A := A.deeper (genv X sc s4.heap.objs.size cv)) (s5 := s6.setGen s4.gens.size .running) M.inv ok nc hN M.fp hh fr2 M.ns M.same M.ncell M.got (ho.trans M.os) bare6 k6
  have I7 : Inv (Made.cx X A sc cv H2 s4 fp h' go) ps (wipe σ (own.map (·.2))) H2 (s6.setGen s4.gens.size .running) := I6.pins_of fun p hpp => by
    obtain ⟨q1, q2⟩ := hd.at_ t ps hps p hpp
    refine ⟨hp p hpp, ?_, ?_, ?_, q2⟩
    · rw [q1]; exact M.inv.hok.fresh aw.young
    · rw [q1]; exact aw.loc
    · rw [q1]; exact aw.fs
  refine ⟨M.gen _ a6, I6.nolimit, _, hgl, rfl, ?_⟩
  refine seg_begin (X := Made.cx X A sc cv H2 s4 fp h' go) rfl rfl rfl rfl hco (fun p hpp b hb => ?_) M.turn pg pt pe turn hd aw m t (m + 1) _ _ H2 ps (Nat.lt_succ_self m) hps hp I7 (M.turn.keep _ _ _ M.st fun b hb o e => hk b o (M.old b o e)) (fun b hb => (M.fp b hb).1.1) w
  have e : p = (h'.objs.size, go) := List.mem_singleton.mp hpp
  rw [e]
  have := (M.fp b hb).2
  have hsz := M.size
  intro z
  have z2 : h'.objs.size = b := z
  rw [← z2, hsz] at this
  exact absurd (Nat.lt_of_succ_lt this) (Nat.lt_irrefl _)
/-- back in the def -/
theorem Made.back (M : Made X pins σ elt tg iter ifs sc pos J cv H2 s4 it fp tn h' go s5) {A : Around} {ps : List (Addr × Obj)} {σ' : L2.St} {H' : Hp} {s' : Shared} (I : Inv (Made.cx X A sc cv H2 s4 fp h' go) ps σ' H' s') : Inv X pins σ H' s' :=
  M.inv.call' (ch := fp) I.os I.base I.hok I.bare fun b hb => ⟨(M.fp b hb).1.2.2.2.1, (M.fp b hb).1.2.1, (M.fp b hb).1.2.2.2.2.1, (M.fp b hb).1.2.2.2.2.2⟩
theorem Made.away (M : Made X pins σ elt tg iter ifs sc pos J cv H2 s4 it fp tn h' go s5) {A : Around} (ok : BlkOk X.N X.env.scope sc own) {S : Addr} (hS : h'.objs.size < S) : Away (Made.cx X A sc cv H2 s4 fp h' go) S := by
  have hsz := M.size
  have h1 : s4.heap.objs.size < S := by rw [hsz] at hS; exact Nat.lt_of_succ_lt hS
  refine ⟨Nat.le_of_lt h1, Nat.ne_of_gt h1, fun p hp => ?_, fun z => ?_, fun z => ?_, fun x c e => ?_⟩
  · have e : p = (h'.objs.size, go) := List.mem_singleton.mp hp
    rw [e]; exact Nat.ne_of_lt hS
  · rcases List.mem_cons.mp (M.inv.stkSub _ z) with z | z
    · have z1 : X.env.locals < s4.heap.objs.size := M.inv.lt
      rw [← z] at z1
      exact Nat.lt_irrefl _ (Nat.lt_trans z1 h1)
    · exact M.inv.nofs (Nat.le_of_lt h1) z
  · exact Nat.lt_irrefl _ (Nat.lt_trans (M.fp S z).2 h1)
  · exact Nat.ne_of_lt (Nat.lt_trans (clo_at M.inv ok e).2 h1)
end
/-- what a generator expression of a def needs -/
structure GOk (X : Cx) (sc : Scope) (own : List (Str × Nat)) (c : Addr) : Prop where
  nd : X.N.Nodup
  blk : BlkOk X.N X.env.scope sc own
  ncell : ∀ y ∈ sc.names, y.2 ≠ .cell
  dot : sc.names.lookup (".0" : Str) = some NameKind.local
  co : sc.isCoroutine = false
  code : X.env.code = .ref c
  bm : ∃ P0, X.base.BuiltinsAt X.mg P0
/-- a part of the generator expression, in any of its frames -/
abbrev GPart (X : Cx) (sc : Scope) (k : Nat) (F : Cx → Value → Prop) : Prop := ∀ (A : Around) (s : Shared) (H : Hp) (C : Addr) (cv : Value) (fp : List Addr) (pn : List (Addr × Obj)), Room k A → F (gcx X A s H sc (genv X sc C cv) fp pn) cv
def tGen (base : Heap) (n : Nat) (c P : Addr) (wi : TI) (g : TG) (tt : Value → TT) (te : Value → TE) (vs : List Nat) (Em : VK → Emit) (Dn : VK → Int → Hp → Prop) : TE := fun σ H Q => wi σ H (GStart base n c P fun J cv H2 => ∃ W : Nat → Nat → Int → Hp → Prop, (∃ m, W 0 m 0 H2) ∧ GTurn J g (tt cv) (te cv) vs σ (Em Q) (Dn Q) W)
def DnB (b : Bool) : VK → Int → Hp → Prop := fun Q _ H => Q (.bl b) H
section
variable {n k : Nat} {c P : Addr} {elt tg iter : Expr} {ifs : List Expr} {sc : Scope} {own : List (Str × Nat)} {p pos gpos : Pos} {wi : TI} {g : TG} {tt : Value → TT} {te : Value → TE}
theorem room_in {A : Around} (hr : Room (k + 3) A) (env : Env) : Room k (A.in1.in1.deeper env) := (hr.in1.in1).deeper env
theorem pe_all (hr : Room (k + 3) X.A) (hn : n ≤ 1) (hg : Gl X "all") (hm : X.mg "all" = none) (G : GOk X sc own c) (hi : PI X tg iter wi) (pg : GPart X sc k fun Y _ => PG Y tg g) (pt : GPart X sc k fun Y cv => PTs Y ifs (tt cv)) (pe : GPart X sc k fun Y cv => PE Y elt (te cv))
    (hs : ∀ v, genFold iter X.env v = pure v := by intro _; rfl)
    (he : starEach [.GeneratorExp elt [⟨tg, iter, ifs, 0⟩] sc gpos] X.env = (false, eval (.GeneratorExp elt [⟨tg, iter, ifs, 0⟩] sc gpos) X.env) :: starEach [] X.env := by rfl) :
    PE X (.Call (.Name "all" p) [.GeneratorExp elt [⟨tg, iter, ifs, 0⟩] sc gpos] [] pos) (tGen X.base n c P wi g tt te (own.map (·.2)) (fun Q => EmAll fun H => Q (.bl false) H) (DnB true)) := by
  refine ⟨fun pins s σ H Q I h => wpAny_Call_Name_kw (ld_blt I hg hm boot_all (PyProof.Rows.callWith_builtin1 ?_ he (by rfl)))⟩
  rw [he]
  show wpAny _ _ (spliced ((false, eval (.GeneratorExp elt _ sc gpos) X.env) :: backTo pos (starEach [] X.env))) _ _ s
  refine Calls.spliced_cons (gen_made hr hn G.bm G.code G.blk G.ncell G.dot G.co hi hs I h fun J cv H2 s4 it fp tn h' go s5 M q => Calls.spliced_nil ?_)
  obtain ⟨W, ⟨m, w⟩, turn⟩ := q
  have aw := M.away (A := X.A.in1.in1) G.blk (Nat.lt_succ_self _)
  have rd := M.rdy (A := X.A.in1.in1) (s6 := s5) G.nd G.blk G.ncell G.co hr.hd rfl (pg _ _ _ _ cv _ _ (room_in hr _)) (pt _ _ _ _ cv _ _ (room_in hr _)) (pe _ _ _ _ cv _ _ (room_in hr _)) turn w holdN_ok aw ⟨rfl, rfl⟩ rfl rfl (fun _ _ e => e) (fun p hp => by cases hp)
  have hd1 : X.A.in1.depth < recursionLimit := hr.in1.depth
  refine call_function_tree F.kind_all F.plain_all F.entry_all (F.args_all1 _) ?_
  unfold Builtin.«all»
  refine wpAny_bind (m := oneArg "all" _) (wpAny_pure (wpAny_bind (wpAny_pyIter_gen (M.gen _ (by rw [M.heap]; exact M.got)) (wpAny_pure ⟨plainId_quiet F.plain_all_loop _, ?_⟩))))
  exact all_turns M.gobj hr.hd hr.depth (fun σ' H' s' I' q => ⟨.bl false, H', M.back I', rfl, q⟩) (fun t σ' H' s' I' q => ⟨.bl true, H', M.back I', rfl, q⟩) _ _ rd
theorem pe_any (hr : Room (k + 3) X.A) (hn : n ≤ 1) (hg : Gl X "any") (hm : X.mg "any" = none) (G : GOk X sc own c) (hi : PI X tg iter wi) (pg : GPart X sc k fun Y _ => PG Y tg g) (pt : GPart X sc k fun Y cv => PTs Y ifs (tt cv)) (pe : GPart X sc k fun Y cv => PE Y elt (te cv))
    (hs : ∀ v, genFold iter X.env v = pure v := by intro _; rfl)
    (he : starEach [.GeneratorExp elt [⟨tg, iter, ifs, 0⟩] sc gpos] X.env = (false, eval (.GeneratorExp elt [⟨tg, iter, ifs, 0⟩] sc gpos) X.env) :: starEach [] X.env := by rfl) :
    PE X (.Call (.Name "any" p) [.GeneratorExp elt [⟨tg, iter, ifs, 0⟩] sc gpos] [] pos) (tGen X.base n c P wi g tt te (own.map (·.2)) (fun Q => EmAny fun H => Q (.bl true) H) (DnB false)) := by
  refine ⟨fun pins s σ H Q I h => wpAny_Call_Name_kw (ld_blt I hg hm boot_any (PyProof.Rows.callWith_builtin1 ?_ he (by rfl)))⟩
  rw [he]
  show wpAny _ _ (spliced ((false, eval (.GeneratorExp elt _ sc gpos) X.env) :: backTo pos (starEach [] X.env))) _ _ s
  refine Calls.spliced_cons (gen_made hr hn G.bm G.code G.blk G.ncell G.dot G.co hi hs I h fun J cv H2 s4 it fp tn h' go s5 M q => Calls.spliced_nil ?_)
  obtain ⟨W, ⟨m, w⟩, turn⟩ := q
  have aw := M.away (A := X.A.in1.in1) G.blk (Nat.lt_succ_self _)
  have rd := M.rdy (A := X.A.in1.in1) (s6 := s5) G.nd G.blk G.ncell G.co hr.hd rfl (pg _ _ _ _ cv _ _ (room_in hr _)) (pt _ _ _ _ cv _ _ (room_in hr _)) (pe _ _ _ _ cv _ _ (room_in hr _)) turn w holdN_ok aw ⟨rfl, rfl⟩ rfl rfl (fun _ _ e => e) (fun p hp => by cases hp)
  refine call_function_tree F.kind_any F.plain_any F.entry_any (F.args_any1 _) ?_
  unfold Builtin.«any»
  refine wpAny_bind (m := oneArg "any" _) (wpAny_pure (wpAny_bind (wpAny_pyIter_gen (M.gen _ (by rw [M.heap]; exact M.got)) (wpAny_pure ⟨plainId_quiet F.plain_any_loop _, ?_⟩))))
  exact any_turns M.gobj hr.hd hr.depth (fun σ' H' s' I' q => ⟨.bl true, H', M.back I', rfl, q⟩) (fun t σ' H' s' I' q => ⟨.bl false, H', M.back I', rfl, q⟩) _ _ rd
end
end
end GX
set_option Elab.async false
set_option linter.all false
set_option maxRecDepth 100000
set_option maxHeartbeats 2000000
namespace GX
open PySem PySem.Spec PyProof.Rows L2 GenW
def DnS : VK → Int → Hp → Prop := fun Q t H => Q (.int t) H
section
variable {X : Cx} {n k : Nat} {c P : Addr} {elt tg iter : Expr} {ifs : List Expr} {sc : Scope} {own : List (Str × Nat)} {p pos gpos : Pos} {wi : TI} {g : TG} {tt : Value → TT} {te : Value → TE}
theorem pe_sum (hr : Room (k + 3) X.A) (hn : n ≤ 1) (hg : Gl X "sum") (hm : X.mg "sum" = none) (G : GOk X sc own c) (hi : PI X tg iter wi) (pg : GPart X sc k fun Y _ => PG Y tg g) (pt : GPart X sc k fun Y cv => PTs Y ifs (tt cv)) (pe : GPart X sc k fun Y cv => PE Y elt (te cv))
    (hs : ∀ v, genFold iter X.env v = pure v := by intro _; rfl)
    (he : starEach [.GeneratorExp elt [⟨tg, iter, ifs, 0⟩] sc gpos] X.env = (false, eval (.GeneratorExp elt [⟨tg, iter, ifs, 0⟩] sc gpos) X.env) :: starEach [] X.env := by rfl) :
    PE X (.Call (.Name "sum" p) [.GeneratorExp elt [⟨tg, iter, ifs, 0⟩] sc gpos] [] pos) (tGen X.base n c P wi g tt te (own.map (·.2)) (fun _ => EmSum) DnS) := by
  refine ⟨fun pins s σ H Q I h => wpAny_Call_Name_kw (ld_blt I hg hm boot_sum (PyProof.Rows.callWith_builtin1 ?_ he (by rfl)))⟩
  rw [he]
  show wpAny _ _ (spliced ((false, eval (.GeneratorExp elt _ sc gpos) X.env) :: backTo pos (starEach [] X.env))) _ _ s
  refine Calls.spliced_cons (gen_made hr hn G.bm G.code G.blk G.ncell G.dot G.co hi hs I h fun J cv H2 s4 it fp tn h' go s5 M q => Calls.spliced_nil ?_)
  obtain ⟨W, ⟨m, w⟩, turn⟩ := q
  have hS : s5.heap.objs.size = h'.objs.size + 1 := by rw [M.heap, Heap.size_push]
  have aw := M.away (A := X.A.in1.in1) (S := s5.heap.objs.size) G.blk (by rw [hS]; exact Nat.lt_succ_self _)
  refine call_function_tree F.kind_sum F.plain_sum F.entry_sum (F.args_sum1 _) ?_
  unfold Builtin.«sum»
  simp only [List.length_cons, List.length_nil]; rw [if_neg (by decide)]
  refine wpAny_bind (wpAny_of_eq (show Builtin.Builtins.bindParams "sum" ["start"] 0 {} = pure [none] from rfl) (wpAny_bind (wpAny_pyIter_gen (M.gen _ (by rw [M.heap]; exact M.got)) (wpAny_bind (wpAny_mkInt (wpAny_bind (wpAny_pure ?_)))))))
  simp only [List.forIn_cons, List.forIn_nil]
  refine wpAny_bind (wpAny_bind (wpAny_bind (wpAny_isInstance (T := "int") (b := false) (typeIs_int _ _ _) PySem.sub_int_str ?_)))
  simp only [Bool.false_eq_true, if_false]
  refine wpAny_pure (wpAny_bind (wpAny_bind (wpAny_isInstance (T := "int") (b := false) (typeIs_int _ _ _) PySem.sub_int_bytes ?_)))
  simp only [Bool.false_eq_true, if_false]
  refine wpAny_pure (wpAny_bind (wpAny_bind (wpAny_isInstance (T := "int") (b := false) (typeIs_int _ _ _) PySem.sub_int_bytearray ?_)))
  simp only [Bool.false_eq_true, if_false]
  refine wpAny_pure (wpAny_pure (wpAny_bind (wpAny_newObj_type (wpAny_pure ⟨plainId_quiet F.plain_sum_loop _, ?_⟩))))
  have lt2 : h'.objs.size < s5.heap.objs.size := by rw [hS]; exact Nat.lt_succ_self _
  refine sum_turns (S := s5.heap.objs.size) (M.gobj (A := X.A.in1.in1)) hr.hd hr.depth (Nat.ne_of_gt lt2) (fun z => ?_) (fun t tk σ' H' s' ps I' q => ⟨.int t, H', M.back I', ⟨tk, rfl⟩, q⟩) (m + 1) 0 s5.toks 0 _ ?_ (Heap.get?_push_size _ rfl)
  · obtain ⟨_, hns, _⟩ := M.inv.nolimit
    have q : cStatics < s4.heap.objs.size := hns.lt
    have hsz := M.size
    rw [← z] at q
    exact Nat.lt_irrefl _ (Nat.lt_trans (Nat.lt_trans q (by rw [hsz]; exact Nat.lt_succ_self _)) lt2)
  · refine M.rdy (A := X.A.in1.in1) G.nd G.blk G.ncell G.co hr.hd rfl (pg _ _ _ _ cv _ _ (room_in hr _)) (pt _ _ _ _ cv _ _ (room_in hr _)) (pe _ _ _ _ cv _ _ (room_in hr _)) turn w holdS_ok aw ⟨s5.toks, 0, rfl⟩ rfl rfl (fun _ _ e => Heap.get?_push_of_some _ e) (fun p hp => ?_)
    have e : p = (s5.heap.objs.size, totO 0 s5.toks 0) := List.mem_singleton.mp hp
    rw [e]
    exact Heap.get?_push_size _ rfl
end
/-! the forms one uses: over a list or a tuple that stands still -/
section
variable {K : PySem.W.Frag} {a P : Addr} {xs : List V}
theorem sql_kp {H H' : Hp} (h : SqL K H a xs) (hP : ∃ ps, H P = some (.tbl ps)) (k : Kp P H H') : SqL K H' a xs := by
  have ne : ∀ {u : HO}, H a = some u → (∀ ps, u ≠ .tbl ps) → a ≠ P := fun {u} e n z => by
    obtain ⟨ps, hp⟩ := hP
    rw [z, hp] at e
    exact n ps (Option.some.inj e).symm
  rcases h with h | h
  · rcases h with h | ⟨o, h⟩
    · exact .inl (.inl (k _ _ (ne h fun _ z => by cases z) h))
    · exact .inl (.inr ⟨o, k _ _ (ne h fun _ z => by cases z) h⟩)
  · exact .inr h
theorem sqt_kp {H H' : Hp} (h : SqT K H a xs) (hP : ∃ ps, H P = some (.tbl ps)) (k : Kp P H H') : SqT K H' a xs := by
  have ne : ∀ {u : HO}, H a = some u → (∀ ps, u ≠ .tbl ps) → a ≠ P := fun {u} e n z => by
    obtain ⟨ps, hp⟩ := hP
    rw [z, hp] at e
    exact n ps (Option.some.inj e).symm
  rcases h with h | h
  · rcases h with h | ⟨o, h⟩
    · exact .inl (.inl (k _ _ (ne h fun _ z => by cases z) h))
    · exact .inl (.inr ⟨o, k _ _ (ne h fun _ z => by cases z) h⟩)
  · exact .inr h
/-- over a walk of n items: Pv by the turn, the number, the heap -/
theorem gturn_it {J : It} {n : Nat} {Gd : Hp → Prop} {Y : Nat → Hp → V → Hp → Prop} (w : Walk J n Gd Y) {g : TG} {tt : TT} {te : TE} {vs : List Nat} {σ : L2.St} {Em : Emit} {Dn : Int → Hp → Prop} {H : Hp} (Pv : Nat → Int → Hp → Prop) (h0 : Pv 0 0 H) (hG : ∀ i t H, i ≤ n → Pv i t H → Gd H)
    (hs : ∀ i x t H H', i < n → Pv i t H → Y i H x H' → g x (wipe σ vs) H' fun σ2 H2 => wipe σ2 vs = wipe σ vs ∧ tt σ2 H2 fun b H3 => if b = true then te σ2 H3 fun y H4 => Em t y (Pv (i + 1)) H4 else Pv (i + 1) t H3) (hd : ∀ t H, Pv n t H → Dn t H) :
    ∃ W : Nat → Nat → Int → Hp → Prop, (∃ m, W 0 m 0 H) ∧ GTurn J g tt te vs σ Em Dn W := by
  refine ⟨fun i m t H => m = n - i ∧ i ≤ n ∧ Pv i t H, ⟨n, by simp, Nat.zero_le _, h0⟩, ?_⟩
  rintro i m t H ⟨rfl, hi, p⟩
  have q := hG i t H hi p
  by_cases hlt : i < n
  · exact .inr ⟨w.goes i H hlt q, Pv (i + 1), fun t' H' p' => ⟨n - (i + 1), by omega, rfl, hlt, p'⟩, fun x H' y => hs i x t H H' hlt p (w.yields i H x H' hlt q y)⟩
  · have e : i = n := by omega
    subst e
    exact .inl ⟨w.stops H q, hd t H p⟩
end
end GX
set_option Elab.async false
set_option linter.all false
set_option maxRecDepth 100000
set_option maxHeartbeats 2000000
namespace LC
open PySem PySem.Spec PyProof.Rows L2 C8 GX
/-! what every law here uses: volatile addresses, the draws' state, tables -/
abbrev Vol := Addr → Prop
def tb : HO → Bool
  | .tbl _ => true
  | _ => false
/-- all that is no table and not volatile is kept -/
structure Kx (L : Vol) (H H' : Hp) : Prop where
  keep : ∀ (b : Addr) (o : HO) (_ : ¬ L b) (_ : H b = some o) (_ : tb o = false := by rfl), H' b = some o
  alive : ∀ (b : Addr) (o : HO), H b = some o → ∃ u, H' b = some u
instance {L : Vol} {H H' : Hp} : CoeFun (Kx L H H') fun _ => ∀ (b : Addr) (o : HO) (_ : ¬ L b) (_ : H b = some o) (_ : tb o = false := by rfl), H' b = some o := ⟨@Kx.keep L H H'⟩
theorem Kx.refl {L : Vol} (H : Hp) : Kx L H H := ⟨fun _ _ _ h _ => h, fun _ o h => ⟨o, h⟩⟩
theorem Kx.trans {L : Vol} {A B C : Hp} (h : Kx L A B) (h' : Kx L B C) : Kx L A C := ⟨fun b o n e t => h'.keep b o n (h.keep b o n e t) t, fun b o e => by
  obtain ⟨u, e⟩ := h.alive b o e
  exact h'.alive b u e⟩
theorem Kx.mono {L L' : Vol} {A B : Hp} (h : Kx L A B) (i : ∀ b, L b → L' b) : Kx L' A B := ⟨fun b o n e t => h.keep b o (fun z => n (i b z)) e t, h.alive⟩
theorem Kx.of {L : Vol} {A B : Hp} (h : Same A B) : Kx L A B := ⟨fun b o _ e _ => h b o e, fun b o e => ⟨o, h b o e⟩⟩
theorem alive_upd {H : Hp} {p b : Addr} {o u : HO} (e : H b = some u) : ∃ v, upd H p o b = some v := by
  by_cases z : b = p
  · exact ⟨o, by rw [z, upd_same]⟩
  · exact ⟨u, by rw [upd_ne z]; exact e⟩
theorem Kx.new {L : Vol} {H : Hp} {p : Addr} {o : HO} (h : H p = none) : Kx L H (upd H p o) := ⟨fun b u _ e _ => by rw [upd_ne (ne_of_none e h)]; exact e, fun _ _ e => alive_upd e⟩
theorem Kx.put {L : Vol} {H : Hp} {p : Addr} {o : HO} (h : L p) : Kx L H (upd H p o) := ⟨fun b u n e _ => by rw [upd_ne (fun z => n (by rw [z]; exact h))]; exact e, fun _ _ e => alive_upd e⟩
theorem Kx.none {L : Vol} {H H' : Hp} {p : Addr} (k : Kx L H H') (h : H' p = none) : H p = none := by
  cases e : H p with
  | none => rfl
  | some o =>
    obtain ⟨u, e⟩ := k.alive _ _ e
    rw [h] at e; cases e
theorem kp_alive {P : Addr} {H H' : Hp} (k : Kp P H H') (t : ∃ n, TabG n H' P) (b : Addr) (o : HO) (e : H b = some o) : ∃ u, H' b = some u := by
  by_cases z : b = P
  · obtain ⟨n, t⟩ := t
    obtain ⟨ps, e, _⟩ := t.tbl
    exact ⟨_, by rw [z]; exact e⟩
  · exact ⟨o, k b o z e⟩
/-- one more -/
def addV (L : Vol) (D : Addr) : Vol := fun b => L b ∨ b = D
/-- the state of the draws: a list at st whose first item is the list of cells at c -/
def StAt (H : Hp) (st c : Addr) : Prop := ∃ (sd kd : Int) (ns : List Int), H st = some (.lst [.ref c, .int sd, .int kd]) ∧ H c = some (.lst (ns.map V.int)) ∧ ns.length ≤ 63 ∧ 0 ≤ kd ∧ kd < 4
theorem StAt.ne {H : Hp} {st c : Addr} (h : StAt H st c) : st ≠ c := by
  obtain ⟨sd, kd, ns, h1, h2, _⟩ := h
  refine ne_of h1 h2 fun z => ?_
  have z' := HO.lst.inj z
  cases ns with
  | nil => cases z'
  | cons n r => cases (List.cons.inj z').1
/-- the codes' tables: of one it is known what is within it -/
structure Tbs where
  one : Addr
  all : List Addr
/-- the world of a law's run: what is volatile stands, the draws' state, the tables of the codes (each with the depth that is known of it: 0 or 1) -/
structure Wd (ts : Tbs) (st c : Addr) (L : Vol) (H : Hp) : Prop where
  live : ∀ b, L b → (∃ o, H b = some o ∧ tb o = false) ∨ b ∈ ts.all
  stat : StAt H st c
  lst : L st
  lc : L c
  tab : ∀ P ∈ ts.all, TabG 0 H P
  tab1 : TabG 1 H ts.one
section
variable {ts : Tbs} {st c : Addr} {L : Vol} {H H' : Hp}
theorem tbl_of {n : Nat} {P : Addr} (h : TabG n H P) : ∃ ps, H P = some (.tbl ps) := by
  obtain ⟨ps, e, _⟩ := h.tbl
  exact ⟨ps, e⟩
theorem Wd.fresh (w : Wd ts st c L H) {p : Addr} (h : H p = none) : ¬ L p := fun z => by
  rcases w.live p z with ⟨o, e, _⟩ | e
  · rw [h] at e; cases e
  · obtain ⟨ps, e⟩ := tbl_of (w.tab _ e)
    rw [h] at e; cases e
/-- a new object -/
theorem Wd.new (w : Wd ts st c L H) {p : Addr} {o : HO} (h : H p = none) : Wd ts st c L (upd H p o) := by
  have ke : ∀ b u, H b = some u → upd H p o b = some u := fun b u e => by rw [upd_ne (ne_of_none e h)]; exact e
  refine ⟨fun b hb => ?_, ?_, w.lst, w.lc, fun P hP => (w.tab P hP).keep ke, w.tab1.keep ke⟩
  · rcases w.live b hb with ⟨u, e, t⟩ | z
    · exact .inl ⟨u, ke _ _ e, t⟩
    · exact .inr z
  · obtain ⟨sd, kd, ns, h1, h2, h3⟩ := w.stat
    exact ⟨sd, kd, ns, ke _ _ h1, ke _ _ h2, h3⟩
/-- one more is volatile -/
theorem Wd.add (w : Wd ts st c L H) {D : Addr} (h : ∃ o, H D = some o ∧ tb o = false) : Wd ts st c (addV L D) H :=
  ⟨fun b hb => hb.elim (w.live b) fun z => .inl (by rw [z]; exact h), w.stat, .inl w.lst, .inl w.lc, w.tab, w.tab1⟩
/-- a list is written -/
theorem Wd.put (w : Wd ts st c L H) {p : Addr} {o : HO} {u : HO} (h1 : p ≠ st) (h2 : p ≠ c) (hp : H p = some u) (hu : (∃ xs, u = .lst xs) ∨ ∃ ks, u = .dK ks) (ho : tb o = false) : Wd ts st c L (upd H p o) := by
  have nx : ∀ b v, H b = some v → (∀ xs, v ≠ .lst xs) → (∀ ks, v ≠ .dK ks) → upd H p o b = some v := fun b v e z1 z2 => by
    rw [upd_ne fun q => ?_]
    · exact e
    · rw [q, hp] at e
      rcases hu with ⟨xs, hu⟩ | ⟨ks, hu⟩
      · exact z1 xs ((Option.some.inj e).symm.trans hu)
      · exact z2 ks ((Option.some.inj e).symm.trans hu)
  refine ⟨fun b hb => ?_, ?_, w.lst, w.lc, fun P hP => ?_, ?_⟩
  · by_cases e : b = p
    · exact .inl ⟨o, by rw [e, upd_same], ho⟩
    · rw [upd_ne e]; exact w.live b hb
  · obtain ⟨sd, kd, ns, e1, e2, e3⟩ := w.stat
    exact ⟨sd, kd, ns, by rw [upd_ne (Ne.symm h1)]; exact e1, by rw [upd_ne (Ne.symm h2)]; exact e2, e3⟩
  · obtain ⟨ps, h1, h2⟩ := w.tab P hP
    exact ⟨ps, nx _ _ h1 (fun _ z => nomatch z) (fun _ z => nomatch z), h2⟩
  · obtain ⟨ps, h1, h2, h3⟩ := w.tab1
    refine ⟨ps, nx _ _ h1 (fun _ z => nomatch z) (fun _ z => nomatch z), h2, fun pos cv e => ?_⟩
    obtain ⟨c', P', e1, e2, e3, qs, e4, e5⟩ := h3 pos cv e
    exact ⟨c', P', e1, nx _ _ e2 (fun _ z => nomatch z) (fun _ z => nomatch z), e3, qs, nx _ _ e4 (fun _ z => nomatch z) (fun _ z => nomatch z), e5⟩
/-- a table has grown: one of the world's, or one within these -/
theorem Wd.grown0 (w : Wd ts st c L H) {P : Addr} (k : Kp P H H') (t0 : TabG 0 H P) (t : TabG 0 H' P) (own : P = ts.one → TabG 1 H' P) : Wd ts st c L H' ∧ Kx L H H' := by
  obtain ⟨ps, hP, _⟩ := id t0
  have ne : ∀ b u, H b = some u → tb u = false → b ≠ P := fun b u e z q => by rw [q, hP] at e; cases e; cases z
  obtain ⟨sd, kd, ns, e1, e2, e3⟩ := w.stat
  refine ⟨⟨fun b hb => ?_, ⟨sd, kd, ns, k _ _ (ne _ _ e1 rfl) e1, k _ _ (ne _ _ e2 rfl) e2, e3⟩, w.lst, w.lc, fun Q hQ => ?_, ?_⟩, ⟨fun b o _ e z => k b o (ne b o e z) e, kp_alive k ⟨_, t⟩⟩⟩
  · rcases w.live b hb with ⟨u, e, z⟩ | z
    · exact .inl ⟨u, k _ _ (ne _ _ e z) e, z⟩
    · exact .inr z
  · by_cases e : Q = P
    · subst e; exact t
    · obtain ⟨qs, h1, h2⟩ := w.tab Q hQ
      exact ⟨qs, k _ _ e h1, h2⟩
  · by_cases e : P = ts.one
    · rw [← e]; exact own e
    · exact w.tab1.within e t0 t k
end
section
variable {K : PySem.W.Frag} {L : Vol} {H H' : Hp} {a : Addr} {xs : List V}
/-- a tuple or a list that is read and not volatile -/
def TupL (K : PySem.W.Frag) (L : Vol) (H : Hp) (a : Addr) (xs : List V) : Prop := ¬ L a ∧ SqT K H a xs
def LstL (K : PySem.W.Frag) (L : Vol) (H : Hp) (a : Addr) (xs : List V) : Prop := ¬ L a ∧ SqL K H a xs
theorem TupL.kx (h : TupL K L H a xs) (k : Kx L H H') : TupL K L H' a xs := by
  obtain ⟨n, h⟩ := h
  refine ⟨n, ?_⟩
  rcases h with h | h
  · rcases h with h | ⟨o, h⟩
    · exact .inl (.inl (k _ _ n h rfl))
    · exact .inl (.inr ⟨o, k _ _ n h rfl⟩)
  · exact .inr h
theorem LstL.kx (h : LstL K L H a xs) (k : Kx L H H') : LstL K L H' a xs := by
  obtain ⟨n, h⟩ := h
  refine ⟨n, ?_⟩
  rcases h with h | h
  · rcases h with h | ⟨o, h⟩
    · exact .inl (.inl (k _ _ n h rfl))
    · exact .inl (.inr ⟨o, k _ _ n h rfl⟩)
  · exact .inr h
theorem TupL.anti {L' : Vol} (h : TupL K L' H a xs) (i : ∀ b, L b → L' b) : TupL K L H a xs := ⟨fun z => h.1 (i _ z), h.2⟩
theorem LstL.anti {L' : Vol} (h : LstL K L' H a xs) (i : ∀ b, L b → L' b) : LstL K L H a xs := ⟨fun z => h.1 (i _ z), h.2⟩
theorem TupL.mk (n : ¬ L a) (h : H a = some (.tup xs)) : TupL K L H a xs := ⟨n, SqT.of h⟩
theorem LstL.mk (n : ¬ L a) (h : H a = some (.lst xs)) : LstL K L H a xs := ⟨n, SqL.of h⟩
end
/-! three-valued items: None, True, False -/
def tri : Option Bool → V
  | none => .non
  | some b => .bl b
def rIsTri : R2 := fun x y H Q => ∃ (a : Option Bool) (b : Bool), x = tri a ∧ y = .bl b ∧ Q (.bl (decide (a = some b))) H
def rNotTri : R2 := fun x y H Q => ∃ (a : Option Bool) (b : Bool), x = tri a ∧ y = .bl b ∧ Q (.bl (!decide (a = some b))) H
theorem op_isTri {X : Cx} : OpR X (compareOp .Is) rIsTri := by
  intro pins s σ H x y v u Q I rx ry h
  obtain ⟨a, b, rfl, rfl, q⟩ := h
  obtain rfl : u = Value.bool b := ry
  cases a with
  | none =>
    obtain rfl : v = Value.none := rx
    exact wpAny_is_other rfl (fun z => by cases z) ⟨.bl false, H, I, rfl, q⟩
  | some a =>
    obtain rfl : v = Value.bool a := rx
    by_cases e : a = b
    · subst e
      refine wpAny_is_self rfl ⟨.bl true, H, I, rfl, ?_⟩
      rw [decide_eq_true rfl] at q; exact q
    · refine wpAny_is_other rfl (fun z => e (Value.bool.inj z)) ⟨.bl false, H, I, rfl, ?_⟩
      rw [decide_eq_false (fun z => e (Option.some.inj z))] at q; exact q
theorem op_notTri {X : Cx} : OpR X (compareOp .IsNot) rNotTri := by
  intro pins s σ H x y v u Q I rx ry h
  obtain ⟨a, b, rfl, rfl, q⟩ := h
  obtain rfl : u = Value.bool b := ry
  cases a with
  | none =>
    obtain rfl : v = Value.none := rx
    exact wpAny_isNot_other rfl (fun z => by cases z) ⟨.bl true, H, I, rfl, q⟩
  | some a =>
    obtain rfl : v = Value.bool a := rx
    by_cases e : a = b
    · subst e
      refine wpAny_isNot_self rfl ⟨.bl false, H, I, rfl, ?_⟩
      rw [decide_eq_true rfl] at q; exact q
    · refine wpAny_isNot_other rfl (fun z => e (Value.bool.inj z)) ⟨.bl true, H, I, rfl, ?_⟩
      rw [decide_eq_false (fun z => e (Option.some.inj z))] at q; exact q
/-! defs whose code is known -/
structure FunC (K : PySem.W.Frag) (x qual : Str) (st : Stmt) (f : Addr) (fd : FuncData) (c : Addr) : Prop where
  ex : ∃ (oc : Value) (od : Option Addr) (dV kV doc pm : Value) (an : Option Addr) (ct : Value) (osl : Array (Option Value)),
    fd = PySem.W.fnOf x qual (fnArgs st) (fnBody st) (fnScope st) dV kV doc pm an (.ref c) ct ∧ K.lookup f = some ⟨oc, od, .func fd, osl⟩ ∧ PySem.W.codeIn K (.ref c) qual = true
theorem FunC.fun {K : PySem.W.Frag} {x qual : Str} {st : Stmt} {f c : Addr} {fd : FuncData} (F : FunC K x qual st f fd c) : C8.Fun K x qual st f fd := by
  obtain ⟨oc, od, dV, kV, doc, pm, an, ct, osl, h1, h2, h3⟩ := F.ex
  exact ⟨oc, od, dV, kV, doc, pm, an, _, ct, osl, h1, h2, h3⟩
/-- a def of the top without defaults, its code at c -/
def Has (K : PySem.W.Frag) (mg : Str → Option Value) (x : Str) (st : Stmt) (c : Addr) : Prop := ∃ f fd, FunC K x x st f fd c ∧ mg x = some (.ref f) ∧ PySem.W.keepIn K (.ref f) = true ∧ fd.defaults = .none
theorem has_mk {K : PySem.W.Frag} {h : Heap} {mg : Str → Option Value} {x : Str} {st : Stmt} {f c : Addr} {oc : Value} {od an : Option Addr} {osl : Array (Option Value)} {kV doc pm ct : Value} (X : K.In h) (G : h.Ns mainGlobals mg)
    (a : PySem.W.nsIn K mainGlobals x = some (some (.ref f))) (l : K.lookup f = some ⟨oc, od, .func (PySem.W.fnOf x x (fnArgs st) (fnBody st) (fnScope st) .none kV doc pm an (.ref c) ct), osl⟩) (d : PySem.W.codeIn K (.ref c) x = true) (k : PySem.W.keepIn K (.ref f) = true) :
    Has K mg x st c := ⟨f, _, ⟨⟨oc, od, .none, kV, doc, pm, an, ct, osl, rfl, l, d⟩⟩, PySem.W.mg_of X G a, k, rfl⟩
section
variable {P : Program} {w : World} {K : PySem.W.Frag} {mg : Str → Option Value} {base : Heap}
/-- a def's promise by its body -/
theorem cal {x : Str} {st : Stmt} {c : Addr} {N ps : List Str} {k : Nat} {sp : Sp} (F : Has K mg x st c)
    (hb : ∀ (kV doc pm : Value) (an : Option Addr) (cdv ct : Value) (us : List Value), us.length = ps.length → bindArgs (PySem.W.fnOf x x (fnArgs st) (fnBody st) (fnScope st) .none kV doc pm an cdv ct) ⟨us, []⟩ = pure (ps.zip us))
    (S : FnScope N ps (fnScope st)) (len : ∀ vs H Q E, sp vs H Q E → vs.length = ps.length)
    (hbody : ∀ (f : Addr) (A : Around) (outer : List Env) (s : Shared) (H : Hp) (vs : List V) (Q : VK) (E : XK), Room k (A.deeper (envOfC x (fnScope st) s.heap.objs.size f (.ref c))) → sp vs H Q E →
      ∃ t, PSs (cxOf C8.CX0 P w K mg base N x (fnScope st) f (.ref c) A outer s H E).nox (fnBody st) t ∧ t { nx := fun _ H' => Q .non H', rt := Q } (start N vs) H) : Cal P w K mg base (k + 1) x sp [] := by
  obtain ⟨f, fd, F, hm, kp, df⟩ := F
  have b := F.fun.binds df hb
  obtain ⟨oc, od, dV, kV, doc, pm, an, ct, osl, rfl, lk, hcd⟩ := F.ex
  refine ⟨f, _, ps, [], fn_of lk hcd S len fun A outer s H vs Q E hr hsp => ?_, hm, kp, b, .nil⟩
  obtain ⟨t, h, q⟩ := hbody f A outer s H vs Q E hr hsp
  exact ⟨t, h.nox, q⟩
end
section
variable {P : Program} {w : World} {K : PySem.W.Frag} {mg : Str → Option Value} {base : Heap}
theorem fnC {x : Str} {st : Stmt} {f c : Addr} {fd : FuncData} {N ps : List Str} {k : Nat} {sp : Sp} (F : FunC K x x st f fd c) (S : FnScope N ps (fnScope st)) (len : ∀ vs H Q E, sp vs H Q E → vs.length = ps.length)
    (hbody : ∀ (A : Around) (outer : List Env) (s : Shared) (H : Hp) (vs : List V) (Q : VK) (E : XK), Room k (A.deeper (envOfC x (fnScope st) s.heap.objs.size f (.ref c))) → sp vs H Q E →
      ∃ t, PSs (cxOf C8.CX0 P w K mg base N x (fnScope st) f (.ref c) A outer s H E).nox (fnBody st) t ∧ t { nx := fun _ H' => Q .non H', rt := Q } (start N vs) H) : FnOk P w K mg base C8.CX0 (k + 1) f fd ps sp := by
  obtain ⟨oc, od, dV, kV, doc, pm, an, ct, osl, rfl, lk, hcd⟩ := F.ex
  refine fn_of lk hcd S len fun A outer s H vs Q E hr hsp => ?_
  obtain ⟨t, h, q⟩ := hbody A outer s H vs Q E hr hsp
  exact ⟨t, h.nox, q⟩
end
/-! a generator expression of a def -/
def gokC (N : List Str) (sc0 scope : Scope) (own : List (Str × Nat)) : Bool :=
  decide N.Nodup && blkC N sc0 scope own && (scope.names.all fun y => !decide (y.2 = .cell)) && decide (scope.names.lookup (".0" : Str) = some NameKind.local) && !scope.isCoroutine
theorem gok {X : Cx} {N : List Str} {sc0 scope : Scope} {own : List (Str × Nat)} {c : Addr} (e1 : X.N = N) (e2 : X.env.scope = sc0) (hc : X.env.code = .ref c) (bm : ∃ P0, X.base.BuiltinsAt X.mg P0) (h : gokC N sc0 scope own = true) : GOk X scope own c := by
  unfold gokC at h
  simp only [Bool.and_eq_true, Bool.not_eq_true', decide_eq_true_eq, List.all_eq_true, decide_eq_false_iff_not] at h
  obtain ⟨⟨⟨⟨h1, h2⟩, h3⟩, h4⟩, h5⟩ := h
  exact ⟨by rw [e1]; exact h1, by rw [e1, e2]; exact blkOk_by h2, h3, h4, h5, hc, bm⟩
end LC
set_option Elab.async false
set_option linter.all false
set_option maxRecDepth 100000
set_option maxHeartbeats 2000000
namespace LC
open PySem PySem.Spec PyProof.Rows L2 C8 GX
/-! generator expressions and list comprehensions in such a world. Lx: what may change; M: what data are apart from -/
def Lx (_ts : Tbs) (st c : Addr) : Vol := fun b => b = st ∨ b = c
abbrev Ky (ts : Tbs) (st c : Addr) : Hp → Hp → Prop := Kx (Lx ts st c)
/-- a list or a dict -/
def wl : HO → Bool
  | .lst _ => true
  | .dK _ => true
  | _ => false
section
variable {ts : Tbs} {st ca : Addr} {M : Vol} {H H' : Hp}
theorem Wd.sub (w : Wd ts st ca M H) {b : Addr} (h : Lx ts st ca b) : M b := by
  rcases h with h | h
  · rw [h]; exact w.lst
  · rw [h]; exact w.lc
theorem Wd.ky (w : Wd ts st ca M H) (k : Ky ts st ca H H') : Kx M H H' := k.mono fun _ h => w.sub h
theorem Wd.nl (w : Wd ts st ca M H) {b : Addr} (h : ¬ M b) : ¬ Lx ts st ca b := fun z => h (w.sub z)
/-- the world at a smaller M, later -/
theorem Wd.low {M' : Vol} {H0 : Hp} (w0 : Wd ts st ca M H0) (w : Wd ts st ca M' H) (i : ∀ b, M b → M' b) : Wd ts st ca M H :=
  ⟨fun b hb => w.live b (i b hb), w.stat, w0.lst, w0.lc, w.tab, w.tab1⟩
/-- the world at a larger M -/
theorem Wd.up {M' : Vol} {H0 : Hp} (w0 : Wd ts st ca M' H0) (w : Wd ts st ca M H) (k : Ky ts st ca H0 H) : Wd ts st ca M' H := by
  refine ⟨fun b hb => ?_, w.stat, w0.lst, w0.lc, w.tab, w.tab1⟩
  by_cases h : Lx ts st ca b
  · exact w.live b (w.sub h)
  · rcases w0.live b hb with ⟨o, e, t⟩ | z
    · exact .inl ⟨o, k.keep b o h e t, t⟩
    · exact .inr z
theorem Wd.gen (w : Wd ts st ca M H) {P : Addr} (t0 : TabG 0 H P) (hne : P ≠ ts.one) (k : Kp P H H') (t : TabG 0 H' P) : Wd ts st ca M H' ∧ Ky ts st ca H H' := by
  obtain ⟨ps, e, _⟩ := id t0
  exact ⟨(w.grown0 k t0 t fun z => absurd z hne).1, ⟨fun b o _ eb z => k b o (fun q => by rw [q, e] at eb; cases eb; cases z) eb, kp_alive k ⟨_, t⟩⟩⟩
theorem Wd.gen1 (w : Wd ts st ca M H) (k : Kp ts.one H H') (t : TabG 1 H' ts.one) : Wd ts st ca M H' ∧ Ky ts st ca H H' := by
  have t0 := w.tab1.zero
  obtain ⟨ps, e, _⟩ := id t0
  exact ⟨(w.grown0 k t0 t.zero fun _ => t).1, ⟨fun b o _ eb z => k b o (fun q => by rw [q, e] at eb; cases eb; cases z) eb, kp_alive k ⟨_, t⟩⟩⟩
/-- a local list or dict is written -/
theorem Wd.wr (w : Wd ts st ca M H) {D : Addr} {u o : HO} (n : ¬ Lx ts st ca D) (e : H D = some u) (hu : wl u = true := by rfl) (ho : tb o = false := by rfl) : Wd ts st ca M (upd H D o) := by
  refine w.put (fun z => n (.inl z)) (fun z => n (.inr z)) e ?_ ho
  cases u with
  | lst xs => exact .inl ⟨xs, rfl⟩
  | dK ks => exact .inr ⟨ks, rfl⟩
  | _ => cases hu
end
section
variable {K : PySem.W.Frag} {base : Heap} {ts : Tbs} {st ca c P a D : Addr} {M : Vol} {H : Hp} {α : Type} {xs : List α} {f : α → V} {g : TG} {vs : List Nat} {σ : L2.St} {Q : VK}
theorem LstL.of (h : LstL K M H a (xs.map f)) : SqL K H a (xs.map f) := h.2
theorem TupL.of (h : TupL K M H a (xs.map f)) : SqT K H a (xs.map f) := h.2
/-- all(.. for x in a tuple), a walk of any kind that stands while nothing but Lx changes -/
theorem gall_walk {J : It} {Gd : Hp → Prop} {Y : Nat → Hp → V → Hp → Prop} {te : Value → TE} {pr : α → Bool} (W : L2.Walk J xs.length Gd Y) (hG : ∀ H', Ky ts st ca H H' → Gd H') (hY : ∀ i H1 x H2, i < xs.length → Y i H1 x H2 → H2 = H1 ∧ (xs.map f)[i]? = some x)
    (C : PySem.W.CodeHd base c P) (hP : P ∈ ts.all) (hne : P ≠ ts.one) (w : Wd ts st ca M H)
    (step : ∀ cv, ∀ x ∈ xs, ∀ H1, Wd ts st ca M H1 → Ky ts st ca H H1 → ∀ Qk : VK, (∀ H2, Wd ts st ca M H2 → Ky ts st ca H1 H2 → Qk (.bl (pr x)) H2) → g (f x) (wipe σ vs) H1 fun σ2 H2 => wipe σ2 vs = wipe σ vs ∧ te cv σ2 H2 Qk)
    (k : ∀ H1, Wd ts st ca M H1 → Ky ts st ca H H1 → Q (.bl (xs.all pr)) H1) :
    GStart base 0 c P (fun J cv H2 => ∃ W : Nat → Nat → Int → Hp → Prop, (∃ m, W 0 m 0 H2) ∧ GTurn J g tYes (te cv) vs σ (EmAll fun H => Q (.bl false) H) (DnB true Q) W) J H := by
  refine ⟨.inl C, w.tab P hP, fun cv H2 kp t2 _ => ?_⟩
  obtain ⟨w2, k2⟩ := w.gen (w.tab P hP) hne kp t2
  refine gturn_it W (fun i _ H1 => Wd ts st ca M H1 ∧ Ky ts st ca H H1 ∧ (xs.take i).all pr = true) ⟨w2, k2, rfl⟩ (fun i t H1 _ h => hG _ h.2.1) (fun i x t H1 H1' hi ⟨w1, k1, e1⟩ y => ?_) (fun t H1 ⟨w1, k1, e1⟩ => ?_)
  · obtain ⟨rfl, hx⟩ := hY i H1 x H1' hi y
    rw [List.getElem?_map] at hx
    obtain ⟨z, hz, rfl⟩ := Option.map_eq_some_iff.mp hx
    refine step cv z (List.mem_of_getElem? hz) H1' w1 k1 _ fun H4 w4 k4 => ⟨pr z, rfl, ?_⟩
    cases hb : pr z with
    | true =>
      refine iteT ⟨w4, k1.trans k4, ?_⟩
      rw [List.take_add_one, hz, List.all_append, e1]
      show (true && [z].all pr) = true
      simp [hb]
    | false =>
      refine iteF ?_
      have e : xs.all pr = false := by
        rw [List.all_eq_false]
        exact ⟨z, List.mem_of_getElem? hz, by simp [hb]⟩
      rw [← e]
      exact k H4 w4 (k1.trans k4)
  · rw [List.take_length] at e1
    have := k H1 w1 k1
    rw [e1] at this
    exact this
theorem gany_walk {J : It} {Gd : Hp → Prop} {Y : Nat → Hp → V → Hp → Prop} {te : Value → TE} {pr : α → Bool} (W : L2.Walk J xs.length Gd Y) (hG : ∀ H', Ky ts st ca H H' → Gd H') (hY : ∀ i H1 x H2, i < xs.length → Y i H1 x H2 → H2 = H1 ∧ (xs.map f)[i]? = some x)
    (C : PySem.W.CodeHd base c P) (hP : P ∈ ts.all) (hne : P ≠ ts.one) (w : Wd ts st ca M H)
    (step : ∀ cv, ∀ x ∈ xs, ∀ H1, Wd ts st ca M H1 → Ky ts st ca H H1 → ∀ Qk : VK, (∀ H2, Wd ts st ca M H2 → Ky ts st ca H1 H2 → Qk (.bl (pr x)) H2) → g (f x) (wipe σ vs) H1 fun σ2 H2 => wipe σ2 vs = wipe σ vs ∧ te cv σ2 H2 Qk)
    (k : ∀ H1, Wd ts st ca M H1 → Ky ts st ca H H1 → Q (.bl (xs.any pr)) H1) :
    GStart base 0 c P (fun J cv H2 => ∃ W : Nat → Nat → Int → Hp → Prop, (∃ m, W 0 m 0 H2) ∧ GTurn J g tYes (te cv) vs σ (EmAny fun H => Q (.bl true) H) (DnB false Q) W) J H := by
  refine ⟨.inl C, w.tab P hP, fun cv H2 kp t2 _ => ?_⟩
  obtain ⟨w2, k2⟩ := w.gen (w.tab P hP) hne kp t2
  refine gturn_it W (fun i _ H1 => Wd ts st ca M H1 ∧ Ky ts st ca H H1 ∧ (xs.take i).any pr = false) ⟨w2, k2, rfl⟩ (fun i t H1 _ h => hG _ h.2.1) (fun i x t H1 H1' hi ⟨w1, k1, e1⟩ y => ?_) (fun t H1 ⟨w1, k1, e1⟩ => ?_)
  · obtain ⟨rfl, hx⟩ := hY i H1 x H1' hi y
    rw [List.getElem?_map] at hx
    obtain ⟨z, hz, rfl⟩ := Option.map_eq_some_iff.mp hx
    refine step cv z (List.mem_of_getElem? hz) H1' w1 k1 _ fun H4 w4 k4 => ⟨pr z, rfl, ?_⟩
    cases hb : pr z with
    | false =>
      refine iteF ⟨w4, k1.trans k4, ?_⟩
      rw [List.take_add_one, hz, List.any_append, e1]
      show (false || [z].any pr) = false
      simp [hb]
    | true =>
      refine iteT ?_
      have e : xs.any pr = true := List.any_eq_true.mpr ⟨z, List.mem_of_getElem? hz, hb⟩
      rw [← e]
      exact k H4 w4 (k1.trans k4)
  · rw [List.take_length] at e1
    have := k H1 w1 k1
    rw [e1] at this
    exact this
/-- what a sum gives -/
def sumOf (keep : α → Bool) (val : α → Int) (xs : List α) : Int := ((xs.filter keep).map val).sum
theorem sumOf_snoc {keep : α → Bool} {val : α → Int} {x : α} : sumOf keep val (xs ++ [x]) = sumOf keep val xs + if keep x = true then val x else 0 := by
  unfold sumOf
  rw [List.filter_append, List.map_append, List.sum_append]
  cases h : keep x <;> simp [h]
theorem sumOf_le {keep : α → Bool} {val : α → Int} {B : Int} (hB : 0 ≤ B) : ∀ {xs : List α}, (∀ x ∈ xs, 0 ≤ val x ∧ val x ≤ B) → 0 ≤ sumOf keep val xs ∧ sumOf keep val xs ≤ xs.length * B
  | [], _ => by simp [sumOf]
  | x :: r, h => by
    have ih := sumOf_le hB (keep := keep) (xs := r) fun y hy => h y (List.mem_cons_of_mem _ hy)
    have hx := h x List.mem_cons_self
    unfold sumOf at ih ⊢
    have e : ((r.length + 1 : Nat) : Int) * B = r.length * B + B := by rw [Int.natCast_add, Int.add_mul]; simp
    rw [List.filter_cons]
    split
    · rw [List.map_cons, List.sum_cons, List.length_cons, e]; omega
    · rw [List.length_cons, e]; omega
theorem gsum_walk {J : It} {Gd : Hp → Prop} {Y : Nat → Hp → V → Hp → Prop} {tt : Value → TT} {te : Value → TE} {keep : α → Bool} {val : α → Int} (W : L2.Walk J xs.length Gd Y) (hG : ∀ H', Ky ts st ca H H' → Gd H') (hY : ∀ i H1 x H2, i < xs.length → Y i H1 x H2 → H2 = H1 ∧ (xs.map f)[i]? = some x)
    (C : PySem.W.CodeHd base c P) (hP : P ∈ ts.all) (hne : P ≠ ts.one) (w : Wd ts st ca M H) (hv : ∀ x ∈ xs, 0 ≤ val x ∧ val x ≤ 1073741824) (hl : xs.length ≤ 1048576)
    (step : ∀ cv, ∀ x ∈ xs, ∀ H1, Wd ts st ca M H1 → Ky ts st ca H H1 → ∀ (Qk : VK) (F : Hp → Prop), (keep x = true → ∀ H2, Wd ts st ca M H2 → Ky ts st ca H1 H2 → Qk (.int (val x)) H2) → (keep x = false → ∀ H2, Wd ts st ca M H2 → Ky ts st ca H1 H2 → F H2) →
      g (f x) (wipe σ vs) H1 fun σ2 H2 => wipe σ2 vs = wipe σ vs ∧ tt cv σ2 H2 fun b H3 => if b = true then te cv σ2 H3 Qk else F H3)
    (k : ∀ H1, Wd ts st ca M H1 → Ky ts st ca H H1 → Q (.int (sumOf keep val xs)) H1) :
    GStart base 0 c P (fun J cv H2 => ∃ W : Nat → Nat → Int → Hp → Prop, (∃ m, W 0 m 0 H2) ∧ GTurn J g (tt cv) (te cv) vs σ EmSum (DnS Q) W) J H := by
  refine ⟨.inl C, w.tab P hP, fun cv H2 kp t2 _ => ?_⟩
  obtain ⟨w2, k2⟩ := w.gen (w.tab P hP) hne kp t2
  refine gturn_it W (fun i t H1 => Wd ts st ca M H1 ∧ Ky ts st ca H H1 ∧ t = sumOf keep val (xs.take i)) ⟨w2, k2, rfl⟩ (fun i t H1 _ h => hG _ h.2.1) (fun i x t H1 H1' hi ⟨w1, k1, e1⟩ y => ?_) (fun t H1 ⟨w1, k1, e1⟩ => ?_)
  · obtain ⟨rfl, hx⟩ := hY i H1 x H1' hi y
    rw [List.getElem?_map] at hx
    obtain ⟨z, hz, rfl⟩ := Option.map_eq_some_iff.mp hx
    have hzm := List.mem_of_getElem? hz
    have hsn : sumOf keep val (xs.take (i + 1)) = sumOf keep val (xs.take i) + if keep z = true then val z else 0 := by
      rw [List.take_add_one, hz]; exact sumOf_snoc
    have hle := sumOf_le (keep := keep) (B := 1073741824) (by decide) (xs := xs.take i) fun y hy => hv y (List.mem_of_mem_take hy)
    have hln : (xs.take i).length ≤ 1048576 := Nat.le_trans (by rw [List.length_take]; exact Nat.min_le_right _ _) hl
    have hz2 := hv z hzm
    have bnd : sumOf keep val (xs.take i) ≤ 1125899906842624 := by
      have : ((xs.take i).length : Int) * 1073741824 ≤ 1048576 * 1073741824 := Int.mul_le_mul_of_nonneg_right (by omega) (by decide)
      omega
    refine step cv z hzm H1' w1 k1 _ _ (fun hk H4 w4 k4 => ⟨val z, rfl, ?_, ?_, w4, k1.trans k4, ?_⟩) (fun hk H4 w4 k4 => ⟨w4, k1.trans k4, ?_⟩)
    · constructor <;> omega
    · rw [e1]; constructor <;> omega
    · rw [hsn, if_pos hk, e1]
    · rw [hsn, if_neg (by simp [hk]), e1, Int.add_zero]
  · rw [List.take_length] at e1
    show Q (.int t) H1
    rw [e1]
    exact k H1 w1 k1
/-- a sum whose turns use generator expressions within it: their code and its table stand -/
theorem gsum_walk1 {J : It} {Gd : Hp → Prop} {Y : Nat → Hp → V → Hp → Prop} {tt : Value → TT} {te : Value → TE} {keep : α → Bool} {val : α → Int} (W : L2.Walk J xs.length Gd Y) (hG : ∀ H', Ky ts st ca H H' → Gd H') (hY : ∀ i H1 x H2, i < xs.length → Y i H1 x H2 → H2 = H1 ∧ (xs.map f)[i]? = some x)
    (C : PySem.W.CodeHd base c ts.one) (w : Wd ts st ca M H) (hv : ∀ x ∈ xs, 0 ≤ val x ∧ val x ≤ 1073741824) (hl : xs.length ≤ 1048576)
    (step : ∀ c' P', P' ≠ ts.one → ∀ x ∈ xs, ∀ H1, Wd ts st ca M H1 → Ky ts st ca H H1 → H1 c' = some (hdO c' P') → TabG 0 H1 P' → ∀ (Qk : VK) (F : Hp → Prop), (keep x = true → ∀ H2, Wd ts st ca M H2 → Ky ts st ca H1 H2 → H2 c' = some (hdO c' P') → TabG 0 H2 P' → Qk (.int (val x)) H2) → (keep x = false → ∀ H2, Wd ts st ca M H2 → Ky ts st ca H1 H2 → H2 c' = some (hdO c' P') → TabG 0 H2 P' → F H2) →
      g (f x) (wipe σ vs) H1 fun σ2 H2 => wipe σ2 vs = wipe σ vs ∧ tt (.ref c') σ2 H2 fun b H3 => if b = true then te (.ref c') σ2 H3 Qk else F H3)
    (k : ∀ H1, Wd ts st ca M H1 → Ky ts st ca H H1 → Q (.int (sumOf keep val xs)) H1) :
    GStart base 1 c ts.one (fun J cv H2 => ∃ W : Nat → Nat → Int → Hp → Prop, (∃ m, W 0 m 0 H2) ∧ GTurn J g (tt cv) (te cv) vs σ EmSum (DnS Q) W) J H := by
  refine ⟨.inl C, w.tab1, fun cv H2 kp t2 kn => ?_⟩
  obtain ⟨w2, k2⟩ := w.gen1 kp t2
  obtain ⟨c', P', rfl, n1, n2, n3⟩ := kn
  refine gturn_it W (fun i t H1 => Wd ts st ca M H1 ∧ Ky ts st ca H H1 ∧ H1 c' = some (hdO c' P') ∧ TabG 0 H1 P' ∧ t = sumOf keep val (xs.take i)) ⟨w2, k2, n1, n3, rfl⟩ (fun i t H1 _ h => hG _ h.2.1) (fun i x t H1 H1' hi ⟨w1, k1, m1, m2, e1⟩ y => ?_) (fun t H1 ⟨w1, k1, _, _, e1⟩ => ?_)
  · obtain ⟨rfl, hx⟩ := hY i H1 x H1' hi y
    rw [List.getElem?_map] at hx
    obtain ⟨z, hz, rfl⟩ := Option.map_eq_some_iff.mp hx
    have hzm := List.mem_of_getElem? hz
    have hsn : sumOf keep val (xs.take (i + 1)) = sumOf keep val (xs.take i) + if keep z = true then val z else 0 := by
      rw [List.take_add_one, hz]; exact sumOf_snoc
    have hle := sumOf_le (keep := keep) (B := 1073741824) (by decide) (xs := xs.take i) fun y hy => hv y (List.mem_of_mem_take hy)
    have hln : (xs.take i).length ≤ 1048576 := Nat.le_trans (by rw [List.length_take]; exact Nat.min_le_right _ _) hl
    have hz2 := hv z hzm
    have bnd : sumOf keep val (xs.take i) ≤ 1125899906842624 := by
      have : ((xs.take i).length : Int) * 1073741824 ≤ 1048576 * 1073741824 := Int.mul_le_mul_of_nonneg_right (by omega) (by decide)
      omega
    refine step c' P' n2 z hzm H1' w1 k1 m1 m2 _ _ (fun hk H4 w4 k4 a4 b4 => ⟨val z, rfl, ?_, ?_, w4, k1.trans k4, a4, b4, ?_⟩) (fun hk H4 w4 k4 a4 b4 => ⟨w4, k1.trans k4, a4, b4, ?_⟩)
    · constructor <;> omega
    · rw [e1]; constructor <;> omega
    · rw [hsn, if_pos hk, e1]
    · rw [hsn, if_neg (by simp [hk]), e1, Int.add_zero]
  · rw [List.take_length] at e1
    show Q (.int t) H1
    rw [e1]
    exact k H1 w1 k1
/-- all(..), any(..) whose elements change nothing -/
theorem gall_pure {J : It} {Gd : Hp → Prop} {Y : Nat → Hp → V → Hp → Prop} {te : Value → TE} {pr : α → Bool} (W : L2.Walk J xs.length Gd Y) (hG : ∀ H', Kp P H H' → TabG 0 H' P → Gd H') (hY : ∀ i H1 x H2, i < xs.length → Y i H1 x H2 → H2 = H1 ∧ (xs.map f)[i]? = some x)
    (C : CodeOK base H c P) (t0 : TabG 0 H P) (step : ∀ cv, ∀ x ∈ xs, ∀ H1, Kp P H H1 → TabG 0 H1 P → ∀ Qk : VK, Qk (.bl (pr x)) H1 → g (f x) (wipe σ vs) H1 fun σ2 H2 => wipe σ2 vs = wipe σ vs ∧ te cv σ2 H2 Qk)
    (k : ∀ H1, Kp P H H1 → TabG 0 H1 P → Q (.bl (xs.all pr)) H1) :
    GStart base 0 c P (fun J cv H2 => ∃ W : Nat → Nat → Int → Hp → Prop, (∃ m, W 0 m 0 H2) ∧ GTurn J g tYes (te cv) vs σ (EmAll fun H => Q (.bl false) H) (DnB true Q) W) J H := by
  refine ⟨C, t0, fun cv H2 kp t2 _ => ?_⟩
  refine gturn_it W (fun i _ H1 => H1 = H2 ∧ (xs.take i).all pr = true) ⟨rfl, rfl⟩ (fun i t H1 _ h => by rw [h.1]; exact hG _ kp t2) (fun i x t H1 H1' hi ⟨h1, e1⟩ y => ?_) (fun t H1 ⟨h1, e1⟩ => ?_)
  · obtain ⟨rfl, hx⟩ := hY i H1 x H1' hi y
    subst h1
    rw [List.getElem?_map] at hx
    obtain ⟨z, hz, rfl⟩ := Option.map_eq_some_iff.mp hx
    refine step cv z (List.mem_of_getElem? hz) H1' kp t2 _ ⟨pr z, rfl, ?_⟩
    cases hb : pr z with
    | true =>
      refine iteT ⟨rfl, ?_⟩
      rw [List.take_add_one, hz, List.all_append, e1]
      show (true && [z].all pr) = true
      simp [hb]
    | false =>
      refine iteF ?_
      have e : xs.all pr = false := List.all_eq_false.mpr ⟨z, List.mem_of_getElem? hz, by simp [hb]⟩
      rw [← e]
      exact k H1' kp t2
  · subst h1
    rw [List.take_length] at e1
    have := k H1 kp t2
    rw [e1] at this
    exact this
theorem gany_pure {J : It} {Gd : Hp → Prop} {Y : Nat → Hp → V → Hp → Prop} {te : Value → TE} {pr : α → Bool} (W : L2.Walk J xs.length Gd Y) (hG : ∀ H', Kp P H H' → TabG 0 H' P → Gd H') (hY : ∀ i H1 x H2, i < xs.length → Y i H1 x H2 → H2 = H1 ∧ (xs.map f)[i]? = some x)
    (C : CodeOK base H c P) (t0 : TabG 0 H P) (step : ∀ cv, ∀ x ∈ xs, ∀ H1, Kp P H H1 → TabG 0 H1 P → ∀ Qk : VK, Qk (.bl (pr x)) H1 → g (f x) (wipe σ vs) H1 fun σ2 H2 => wipe σ2 vs = wipe σ vs ∧ te cv σ2 H2 Qk)
    (k : ∀ H1, Kp P H H1 → TabG 0 H1 P → Q (.bl (xs.any pr)) H1) :
    GStart base 0 c P (fun J cv H2 => ∃ W : Nat → Nat → Int → Hp → Prop, (∃ m, W 0 m 0 H2) ∧ GTurn J g tYes (te cv) vs σ (EmAny fun H => Q (.bl true) H) (DnB false Q) W) J H := by
  refine ⟨C, t0, fun cv H2 kp t2 _ => ?_⟩
  refine gturn_it W (fun i _ H1 => H1 = H2 ∧ (xs.take i).any pr = false) ⟨rfl, rfl⟩ (fun i t H1 _ h => by rw [h.1]; exact hG _ kp t2) (fun i x t H1 H1' hi ⟨h1, e1⟩ y => ?_) (fun t H1 ⟨h1, e1⟩ => ?_)
  · obtain ⟨rfl, hx⟩ := hY i H1 x H1' hi y
    subst h1
    rw [List.getElem?_map] at hx
    obtain ⟨z, hz, rfl⟩ := Option.map_eq_some_iff.mp hx
    refine step cv z (List.mem_of_getElem? hz) H1' kp t2 _ ⟨pr z, rfl, ?_⟩
    cases hb : pr z with
    | false =>
      refine iteF ⟨rfl, ?_⟩
      rw [List.take_add_one, hz, List.any_append, e1]
      show (false || [z].any pr) = false
      simp [hb]
    | true =>
      refine iteT ?_
      have e : xs.any pr = true := List.any_eq_true.mpr ⟨z, List.mem_of_getElem? hz, hb⟩
      rw [← e]
      exact k H1' kp t2
  · subst h1
    rw [List.take_length] at e1
    have := k H1 kp t2
    rw [e1] at this
    exact this
theorem pair_app {β : Type} {F : α → β → Prop} : ∀ {a c : List α} {b d : List β}, Paired F a b → Paired F c d → Paired F (a ++ c) (b ++ d)
  | _, _, _, _, .nil, h => h
  | _, _, _, _, .cons r t, h => .cons r (pair_app t h)
/-- [.. for x in .. if ..] -/
theorem lc_walkD {Qd : Hp → Prop} {J : It} {Gd : Hp → Prop} {Y : Nat → Hp → V → Hp → Prop} {tt : TT} {te : TE} {keep : α → Bool} {Out : Vol → α → V → Hp → Prop} (stab : ∀ M A B x y, Kx M A B → Out M x y A → Out M x y B) (anti : ∀ (M M' : Vol) A x y, (∀ b, M b → M' b) → Out M' x y A → Out M x y A)
    (W : L2.Walk J xs.length Gd Y) (hG : ∀ H', Ky ts st ca H H' → Gd H') (hY : ∀ i H1 x H2, i < xs.length → Y i H1 x H2 → H2 = H1 ∧ (xs.map f)[i]? = some x) (w : Wd ts st ca M H) (hD : H D = none) (hl : xs.length < sizeLine)
    (step : ∀ x ∈ xs, ∀ H1, Wd ts st ca (addV M D) H1 → Ky ts st ca H H1 → (∃ acc, H1 D = some (.lst acc)) → ∀ (Qk : VK) (F : Hp → Prop), (keep x = true → ∀ y H2, Wd ts st ca (addV M D) H2 → Ky ts st ca H1 H2 → Out (addV M D) x y H2 → Qk y H2) → (keep x = false → ∀ H2, Wd ts st ca (addV M D) H2 → Ky ts st ca H1 H2 → F H2) →
      g (f x) (wipe σ vs) H1 fun σ2 H2 => wipe σ2 vs = wipe σ vs ∧ tt σ2 H2 fun b H3 => if b = true then te σ2 H3 Qk else F H3)
    (k : ∀ ys H1, Wd ts st ca M H1 → Ky ts st ca H H1 → ¬ M D → H1 D = some (.lst ys) → Paired (fun x y => Out M x y H1) (xs.filter keep) ys → Qd H1) :
    ∃ W : Nat → Nat → Hp → Prop, (∃ m, W 0 m (upd H D (.lst []))) ∧ ∀ i m H, W i m H →
      (J.stop i H ∧ Qd H) ∨ (J.go i H ∧ ∃ Nx : Hp → Prop, (∀ H', Nx H' → ∃ m', m' < m ∧ W (i + 1) m' H') ∧ ∀ x H', J.yld i H x H' → g x (wipe σ vs) H' fun σ2 H2 => wipe σ2 vs = wipe σ vs ∧ tt σ2 H2 fun b H3 =>
        if b = true then te σ2 H3 fun y H4 => ∃ acc, H4 D = some (.lst acc) ∧ acc.length < sizeLine ∧ Nx (upd H4 D (.lst (acc ++ [y]))) else Nx H3) := by
  have nM := w.fresh hD
  have nL := w.nl nM
  have w0 : Wd ts st ca (addV M D) (upd H D (.lst [])) := (w.new hD).add ⟨_, upd_same, rfl⟩
  have k0 : Ky ts st ca H (upd H D (.lst [])) := Kx.new hD
  refine lc_it W (fun i H1 => Wd ts st ca (addV M D) H1 ∧ Ky ts st ca H H1 ∧ ∃ ys, H1 D = some (.lst ys) ∧ Paired (fun x y => Out (addV M D) x y H1) ((xs.take i).filter keep) ys) ⟨w0, k0, [], upd_same, .nil⟩ (fun i H1 _ h => hG _ h.2.1) (fun i x H1 H1' hi ⟨w1, k1, ys, e1, p1⟩ y => ?_) (fun H1 ⟨w1, k1, ys, e1, p1⟩ => ?_)
  · obtain ⟨rfl, hx⟩ := hY i H1 x H1' hi y
    rw [List.getElem?_map] at hx
    obtain ⟨z, hz, rfl⟩ := Option.map_eq_some_iff.mp hx
    have hlen : ys.length < sizeLine := by
      rw [← p1.length]
      exact Nat.lt_of_le_of_lt (Nat.le_trans (List.length_filter_le _ _) (by rw [List.length_take]; exact Nat.min_le_right _ _)) hl
    refine step z (List.mem_of_getElem? hz) H1' w1 k1 ⟨ys, e1⟩ _ _ (fun hk y H4 w4 k4 o4 => ⟨ys, k4 D _ nL e1, hlen, w4.wr nL (k4 D _ nL e1), ?_, ys ++ [y], upd_same, ?_⟩) (fun hk H4 w4 k4 => ⟨w4, k1.trans k4, ys, k4 D _ nL e1, ?_⟩)
    · refine ⟨fun b o nb e t => ?_, fun b o e => ?_⟩
      · rw [upd_ne (ne_of_none e hD)]
        exact (k1.trans k4).keep b o nb e t
      · obtain ⟨u, e⟩ := (k1.trans k4).alive b o e
        exact alive_upd e
    · have st' : ∀ x y, Out (addV M D) x y H4 → Out (addV M D) x y (upd H4 D (.lst (ys ++ [y]))) := fun x y o => stab _ H4 _ x y (Kx.put (.inr rfl)) o
      rw [List.take_add_one, hz]
      show Paired _ ((xs.take i ++ [z]).filter keep) _
      rw [List.filter_append]
      have e : [z].filter keep = [z] := by simp [hk]
      rw [e]
      exact pair_app (L2.Paired.mapP p1 fun x y' o => stab _ _ _ x y' (Kx.put (.inr rfl)) (stab _ _ _ x y' (w1.ky k4) o)) (.cons (stab _ _ _ z y (Kx.put (.inr rfl)) o4) .nil)
    · rw [List.take_add_one, hz]
      show Paired _ ((xs.take i ++ [z]).filter keep) _
      rw [List.filter_append]
      have e : [z].filter keep = [] := by simp [hk]
      rw [e, List.append_nil]
      exact L2.Paired.mapP p1 fun x y o => stab _ _ _ x y (w1.ky k4) o
  · rw [List.take_length] at p1
    exact k ys H1 (w.low w1 fun b hb => .inl hb) k1 nM e1 (L2.Paired.mapP p1 fun x y o => anti _ _ _ x y (fun b hb => .inl hb) o)
theorem lc_walk {Qd : Hp → Prop} {J : It} {Gd : Hp → Prop} {Y : Nat → Hp → V → Hp → Prop} {tt : TT} {te : TE} {keep : α → Bool} {Out : Vol → α → V → Hp → Prop} (stab : ∀ M A B x y, Kx M A B → Out M x y A → Out M x y B) (anti : ∀ (M M' : Vol) A x y, (∀ b, M b → M' b) → Out M' x y A → Out M x y A)
    (W : L2.Walk J xs.length Gd Y) (hG : ∀ H', Ky ts st ca H H' → Gd H') (hY : ∀ i H1 x H2, i < xs.length → Y i H1 x H2 → H2 = H1 ∧ (xs.map f)[i]? = some x) (w : Wd ts st ca M H) (hD : H D = none) (hl : xs.length < sizeLine)
    (step : ∀ x ∈ xs, ∀ H1, Wd ts st ca (addV M D) H1 → Ky ts st ca H H1 → ∀ (Qk : VK) (F : Hp → Prop), (keep x = true → ∀ y H2, Wd ts st ca (addV M D) H2 → Ky ts st ca H1 H2 → Out (addV M D) x y H2 → Qk y H2) → (keep x = false → ∀ H2, Wd ts st ca (addV M D) H2 → Ky ts st ca H1 H2 → F H2) →
      g (f x) (wipe σ vs) H1 fun σ2 H2 => wipe σ2 vs = wipe σ vs ∧ tt σ2 H2 fun b H3 => if b = true then te σ2 H3 Qk else F H3)
    (k : ∀ ys H1, Wd ts st ca M H1 → Ky ts st ca H H1 → ¬ M D → H1 D = some (.lst ys) → Paired (fun x y => Out M x y H1) (xs.filter keep) ys → Qd H1) :
    ∃ W : Nat → Nat → Hp → Prop, (∃ m, W 0 m (upd H D (.lst []))) ∧ ∀ i m H, W i m H →
      (J.stop i H ∧ Qd H) ∨ (J.go i H ∧ ∃ Nx : Hp → Prop, (∀ H', Nx H' → ∃ m', m' < m ∧ W (i + 1) m' H') ∧ ∀ x H', J.yld i H x H' → g x (wipe σ vs) H' fun σ2 H2 => wipe σ2 vs = wipe σ vs ∧ tt σ2 H2 fun b H3 =>
        if b = true then te σ2 H3 fun y H4 => ∃ acc, H4 D = some (.lst acc) ∧ acc.length < sizeLine ∧ Nx (upd H4 D (.lst (acc ++ [y]))) else Nx H3) :=
  lc_walkD stab anti W hG hY w hD hl (fun x hx H1 w1 k1 _ => step x hx H1 w1 k1) k
/-- a walk of a list, of a tuple that stands -/
theorem hG_lst (w : Wd ts st ca M H) (h : LstL K M H a (xs.map f)) : ∀ H', Ky ts st ca H H' → SqL K H' a (xs.map f) := fun H' k => (h.kx (w.ky k)).2
theorem hG_tup (w : Wd ts st ca M H) (h : TupL K M H a (xs.map f)) : ∀ H', Ky ts st ca H H' → SqT K H' a (xs.map f) := fun H' k => (h.kx (w.ky k)).2
theorem walk_l : L2.Walk (Itl K a) xs.length (fun H => SqL K H a (xs.map f)) (YAt (xs.map f)) := by
  have := walk_list (K := K) (a := a) (xs := xs.map f)
  rw [List.length_map] at this
  exact this
theorem walk_t : L2.Walk (Itt K a) xs.length (fun H => SqT K H a (xs.map f)) (YAt (xs.map f)) := by
  have := walk_tup (K := K) (a := a) (xs := xs.map f)
  rw [List.length_map] at this
  exact this
theorem hY_at : ∀ i H1 x H2, i < xs.length → YAt (xs.map f) i H1 x H2 → H2 = H1 ∧ (xs.map f)[i]? = some x := fun _ _ _ _ _ h => h
end
end LC
set_option Elab.async false
set_option linter.all false
set_option maxRecDepth 100000
namespace LC
open PySem PySem.Spec PyProof.Rows L2 C8 GX
/-! rules with the written part said: within a comprehension or a generator expression -/
section
variable {X : Cx} {K : PySem.W.Frag}
theorem ixl (e : X.K = K) : IxR X (rIxL K) := by subst e; exact ix_list
theorem ixt (e : X.K = K) : IxR X (rIxT K) := by subst e; exact ix_tup
theorem opin (e : X.K = K) : OpR X (compareOp .In) (rIn K false) := by subst e; exact op_in_seq
theorem opnin (e : X.K = K) : OpR X (compareOp .NotIn) (rIn K true) := by subst e; exact op_notIn_seq
theorem opeqD (e : X.K = K) (hu : X.A.units + 64 < cLine) : OpR X (compareOp .Eq) (rEqD K) := by subst e; exact op_eqD hu
theorem opneD (e : X.K = K) (hu : X.A.units + 64 < cLine) : OpR X (compareOp .NotEq) (rNeD K) := by subst e; exact op_neD hu
theorem pgtup {es : List Expr} {k : Nat} {t : TGs} {n : Nat} {pos : Pos} (e : X.K = K) (hc : X.calm = true) (h : PGs X es t)
    (hn : (assignEach es X.env).length = n := by rfl) (hst : (assignEach es X.env).findIdx? (·.1) = none := by rfl) : PG X (.Tuple es k pos) (gTup K n t) := by subst e; exact pg_tup hc h hn hst
theorem pil {tg l : Expr} {tl : TE} (e : X.K = K) (hl : PE X l tl) : PI X tg l (iList K tl) := by subst e; exact pi_list hl
theorem pit {tg l : Expr} {tl : TE} (e : X.K = K) (hl : PE X l tl) : PI X tg l (iTup K tl) := by subst e; exact pi_tup hl
def rLenQ (K : PySem.W.Frag) : List V → Hp → VK → Prop := fun xs H Q => ∃ p ys, xs = [.ref p] ∧ (SqL K H p ys ∨ SqT K H p ys) ∧ Q (.int (List.length ys)) H
def rListQ (K : PySem.W.Frag) : List V → Hp → VK → Prop := fun xs H Q => ∃ p ys, xs = [.ref p] ∧ (SqL K H p ys ∨ SqT K H p ys) ∧ ∀ l, H l = none → Q (.ref l) (upd H l (.lst ys))
def rTupQ (K : PySem.W.Frag) : List V → Hp → VK → Prop := fun xs H Q => ∃ p ys, xs = [.ref p] ∧ ((SqL K H p ys ∧ ∀ l, H l = none → Q (.ref l) (upd H l (.tup ys))) ∨ (SqT K H p ys ∧ Q (.ref p) H))
theorem clen (e : X.K = K) : CallR X (.builtin "len") (rLenQ K) := by subst e; exact call_len_seq
theorem clist (e : X.K = K) : CallR X (.type "list") (rListQ K) := by subst e; exact call_list_of
theorem ctuple (e : X.K = K) : CallR X (.type "tuple") (rTupQ K) := by subst e; exact call_tuple_of
theorem call_ (e : X.K = K) (hc : X.calm = true) : CallR X (.builtin "all") (rAll K) := by subst e; exact cr_all hc
theorem cany_ (e : X.K = K) (hc : X.calm = true) : CallR X (.builtin "any") (rAny K) := by subst e; exact cr_any hc
theorem csum_ (e : X.K = K) (hc : X.calm = true) : CallR X (.builtin "sum") (rSum K) := by subst e; exact cr_sum hc
theorem cisi (e : X.K = K) : CallR X (.builtin "isinstance") (rIsi K) := by subst e; exact call_isi
theorem slL (e : X.K = K) : SlR X (rSlL K) := by subst e; exact sl_list
end
end LC
set_option Elab.async false
set_option linter.all false
set_option maxRecDepth 100000
namespace LC
open PySem PySem.Spec PyProof.Rows L2 C8 GX
/-! the draws of a law -/
def Keep2 (st c : Addr) (H H' : Hp) : Prop := ∀ b o, H b = some o → b ≠ st → b ≠ c → H' b = some o
theorem Keep2.refl {st c : Addr} (H : Hp) : Keep2 st c H H := fun _ _ h _ _ => h
theorem Keep2.put_st {st c : Addr} {H0 H : Hp} {o : HO} (h : Keep2 st c H0 H) : Keep2 st c H0 (upd H st o) := fun b u e n1 n2 => by rw [upd_ne n1]; exact h b u e n1 n2
theorem Keep2.put_c {st c : Addr} {H0 H : Hp} {o : HO} (h : Keep2 st c H0 H) : Keep2 st c H0 (upd H c o) := fun b u e n1 n2 => by rw [upd_ne n2]; exact h b u e n1 n2
theorem Wd.draw {ts : Tbs} {st c : Addr} {M : Vol} {H H' : Hp} (w : Wd ts st c M H) (s : StAt H' st c) (k : Keep2 st c H H') : Wd ts st c M H' ∧ Ky ts st c H H' := by
  obtain ⟨sd, kd, ns, h1, h2, _⟩ := w.stat
  have kx : ∀ b o, H b = some o → (∀ xs, o ≠ .lst xs) → H' b = some o := fun b o e n => k b o e (fun z => by rw [z, h1] at e; exact n _ (Option.some.inj e).symm) (fun z => by rw [z, h2] at e; exact n _ (Option.some.inj e).symm)
  refine ⟨⟨fun b hb => ?_, s, w.lst, w.lc, fun P hP => ?_, ?_⟩, ⟨fun b o n e _ => k b o e (fun z => n (.inl z)) (fun z => n (.inr z)), fun b o e => ?_⟩⟩
  · by_cases e1 : b = st
    · obtain ⟨sd, kd, ns, h1, _⟩ := s
      exact .inl ⟨_, by rw [e1]; exact h1, rfl⟩
    · by_cases e2 : b = c
      · obtain ⟨sd, kd, ns, _, h2, _⟩ := s
        exact .inl ⟨_, by rw [e2]; exact h2, rfl⟩
      · rcases w.live b hb with ⟨o, e, t⟩ | z
        · exact .inl ⟨o, k b o e e1 e2, t⟩
        · exact .inr z
  · obtain ⟨ps, g1, g2⟩ := w.tab P hP
    exact ⟨ps, kx _ _ g1 (fun _ z => nomatch z), g2⟩
  · obtain ⟨ps, g1, g2, g3⟩ := w.tab1
    refine ⟨ps, kx _ _ g1 (fun _ z => nomatch z), g2, fun pos cv e => ?_⟩
    obtain ⟨c', P', e1, e2, e3, qs, e4, e5⟩ := g3 pos cv e
    exact ⟨c', P', e1, kx _ _ e2 (fun _ z => nomatch z), e3, qs, kx _ _ e4 (fun _ z => nomatch z), e5⟩
  · by_cases e1 : b = st
    · obtain ⟨sd, kd, ns, h1, _⟩ := s
      exact ⟨_, by rw [e1]; exact h1⟩
    · by_cases e2 : b = c
      · obtain ⟨sd, kd, ns, _, h2, _⟩ := s
        exact ⟨_, by rw [e2]; exact h2⟩
      · exact ⟨o, k b o e e1 e2⟩
def spState (K : PySem.W.Frag) (_ts : Tbs) : Sp := fun vs H Q _ => ∃ (a : Addr) (ns : List Int), vs = [.ref a] ∧ SqL K H a (ns.map V.int) ∧ ns.length ≤ 63 ∧ ∀ st c H', Same H H' → H st = none → H c = none → StAt H' st c → Q (.ref st) H'
def spDraw (_K : PySem.W.Frag) (ts : Tbs) : Sp := fun vs H Q _ => ∃ (st ca : Addr) (M : Vol) (many : Int), vs = [.ref st, .int many] ∧ 0 < many ∧ many < 1073741824 ∧ Wd ts st ca M H ∧ ∀ (d : Int) H', 0 ≤ d → d < many → Wd ts st ca M H' → Ky ts st ca H H' → Q (.int d) H'
theorem ixN0 {n : Nat} (h : 0 < n) : ixN n 0 = some 0 := by
  unfold ixN; rw [if_pos (by decide), if_pos (by omega)]; rfl
theorem map_int_at {ns : List Int} {i : Nat} {x : V} (h : (ns.map V.int)[i]? = some x) : ∃ z, x = .int z := by
  rw [List.getElem?_map] at h
  obtain ⟨z, _, e⟩ := Option.map_eq_some_iff.mp h
  exact ⟨z, e.symm⟩
theorem at0 {α : Type} {x : α} {r : List α} : atI (x :: r) 0 = some x := atI_nat (j := 0) rfl
theorem at1 {α : Type} {x y : α} {r : List α} : atI (x :: y :: r) 1 = some y := atI_nat (j := 1) rfl
theorem at2 {α : Type} {x y z : α} {r : List α} : atI (x :: y :: z :: r) 2 = some z := atI_nat (j := 2) rfl
theorem two : 2 ≤ sizeLine := by decide
theorem three : 3 ≤ sizeLine := by decide
theorem four : 4 ≤ sizeLine := by decide
theorem same_new {H : Hp} {p : Addr} {o : HO} (h : H p = none) : Same H (upd H p o) := fun b u e => by rw [upd_ne (ne_of_none e h)]; exact e
theorem same_put {H0 H : Hp} {p : Addr} {o : HO} (s : Same H0 H) (h : H0 p = none) : Same H0 (upd H p o) := fun b u e => by rw [upd_ne (ne_of_none e h)]; exact s b u e
end LC
set_option Elab.async false
set_option linter.all false
set_option maxRecDepth 100000
namespace LC
open PySem PySem.Spec PyProof.Rows L2 C8 GX
section
variable {K : PySem.W.Frag} {ts : Tbs} {st ca a D : Addr} {M : Vol} {H : Hp} {α : Type} {xs : List α} {f : α → V} {g : TG} {vs : List Nat} {σ : L2.St} {Q : VK}
theorem paired_map {val : α → V} : ∀ {zs : List α} {ys : List V}, Paired (fun x y => y = val x) zs ys → ys = zs.map val
  | _, _, .nil => rfl
  | _, _, .cons r t => by rw [r, paired_map t]; rfl
/-- a comprehension whose items are values by themselves -/
theorem lc_val {Qd : Hp → Prop} {J : It} {Gd : Hp → Prop} {Y : Nat → Hp → V → Hp → Prop} {tt : TT} {te : TE} {keep : α → Bool} {val : α → V}
    (W : L2.Walk J xs.length Gd Y) (hG : ∀ H', Ky ts st ca H H' → Gd H') (hY : ∀ i H1 x H2, i < xs.length → Y i H1 x H2 → H2 = H1 ∧ (xs.map f)[i]? = some x) (w : Wd ts st ca M H) (hD : H D = none) (hl : xs.length < sizeLine)
    (step : ∀ x ∈ xs, ∀ H1, Wd ts st ca (addV M D) H1 → Ky ts st ca H H1 → ∀ (Qk : VK) (F : Hp → Prop), (keep x = true → ∀ H2, Wd ts st ca (addV M D) H2 → Ky ts st ca H1 H2 → Qk (val x) H2) → (keep x = false → ∀ H2, Wd ts st ca (addV M D) H2 → Ky ts st ca H1 H2 → F H2) →
      g (f x) (wipe σ vs) H1 fun σ2 H2 => wipe σ2 vs = wipe σ vs ∧ tt σ2 H2 fun b H3 => if b = true then te σ2 H3 Qk else F H3)
    (k : ∀ H1, Wd ts st ca M H1 → Ky ts st ca H H1 → ¬ M D → H1 D = some (.lst ((xs.filter keep).map val)) → Qd H1) :
    ∃ W : Nat → Nat → Hp → Prop, (∃ m, W 0 m (upd H D (.lst []))) ∧ ∀ i m H, W i m H →
      (J.stop i H ∧ Qd H) ∨ (J.go i H ∧ ∃ Nx : Hp → Prop, (∀ H', Nx H' → ∃ m', m' < m ∧ W (i + 1) m' H') ∧ ∀ x H', J.yld i H x H' → g x (wipe σ vs) H' fun σ2 H2 => wipe σ2 vs = wipe σ vs ∧ tt σ2 H2 fun b H3 =>
        if b = true then te σ2 H3 fun y H4 => ∃ acc, H4 D = some (.lst acc) ∧ acc.length < sizeLine ∧ Nx (upd H4 D (.lst (acc ++ [y]))) else Nx H3) :=
  lc_walk (keep := keep) (Out := fun _ x y _ => y = val x) (fun _ _ _ _ _ _ h => h) (fun _ _ _ _ _ _ h => h) W hG hY w hD hl
    (fun x hx H1 w1 k1 Qk F h1 h2 => step x hx H1 w1 k1 Qk F (fun e H2 w2 k2 => h1 e _ H2 w2 k2 rfl) h2) (fun ys H1 w1 k1 n e p => k H1 w1 k1 n (by rw [e, paired_map p]))
/-- a range as a list of turns -/
theorem walk_r {n : Nat} : L2.Walk (Itr 0 n) (List.range n).length (fun _ => True) (YFn fun i => .int (0 + (i : Nat))) := by
  rw [List.length_range]; exact walk_range
theorem hY_r {n : Nat} : ∀ i H1 x H2, i < (List.range n).length → YFn (fun i => V.int (0 + (i : Nat))) i H1 x H2 → H2 = H1 ∧ ((List.range n).map fun i => V.int (0 + (i : Nat)))[i]? = some x := fun i H1 x H2 hi h => by
  rw [List.length_range] at hi
  refine ⟨h.1, ?_⟩
  rw [List.getElem?_map, List.getElem?_range hi, h.2]; rfl
end
theorem cond_true {p : Prop} [Decidable p] (h : p) : decide p = true := decide_eq_true h
theorem filt_true {α : Type} : ∀ {xs : List α}, (xs.filter fun _ => true) = xs := by intro xs; simp
end LC
set_option Elab.async false
set_option linter.all false
set_option maxRecDepth 100000
namespace LC
open PySem PySem.Spec PyProof.Rows L2 C8 GX
/-! the end of a law with tables -/
theorem walkT {l : PySem.W.OpenLaw} {n k : Nat} {q : Program} {loose : List Str} {XP : (Str → Option Value) → Heap → Prop} {YP : World → Heap → Prop} {d : DefRec} {K : Params → PySem.W.Frag} {x : Str}
    (hn : l.most = some n) (hn2 : n ≤ sizeLine) (hdf : d.params.defaults = []) (hr : Room k callerA) (hY : ∀ (w : World) (h : Heap), YP w h → (K w.params).In h)
    (F : ∀ (w : World) (mg mb : Str → Option Value) (fa : Addr) (h : Heap), (∃ loose mean, Top q loose mean mg mb h) → (K w.params).In h → h.Ns mainGlobals mg → mg d.name = some (.ref fa) → LamX.LawAtS l w (K w.params) C8.CX0 k n x mg fa h) :
    PySem.W.WalkO q loose XP YP l.row.toRowW d [] (fun f vs => PySem.call f vs) := by
  refine Att.attach_callB hn hdf fun w s₀ s₁ mg mb fa o pm cd doc a vs ns G Y ho hd hcd hmg hobj hints hlen hbits hg => ?_
  have KX := hY w _ Y
  obtain ⟨fd, cs, sp, hT, nT, C, hb, hsp, hF⟩ := F w mg mb fa _ ⟨_, _, G.T⟩ KX G.T.g hmg
  exact LamX.law_callTs KX G.T.g G.T.b G.T.builtins G.T.nolimit hg hT nT C G.T.bmain hobj hints (Nat.le_trans hlen hn2) hr hF hb (fun H hH hS => hsp H a ns hlen hbits hH hS) fun H e s' z => z
theorem recs_of {q : Program} {x : Str} (h : ((recsOf q).find? fun e => e.name == x).isSome = true) : ∃ d, (recsOf q).find? (fun e => e.name == x) = some d := Option.isSome_iff_exists.mp h
theorem tab_mk {K : PySem.W.Frag} {x : Str} {f c P : Addr} {oc oc2 : Value} {od od2 : Option Addr} {fd : FuncData} {osl osl2 : Array (Option Value)} {vs : Array Value}
    (a : PySem.W.nsIn K mainGlobals x = some (some (.ref f))) (l : K.lookup f = some ⟨oc, od, .func fd, osl⟩) (e : fd.code = .ref c) (lc : K.lookup c = some ⟨oc2, od2, .fields vs, osl2⟩) (v : (vs[11]? : Option Value) = some (.ref P)) :
    PySem.W.tabIn K x = some (c, P) := by
  unfold PySem.W.tabIn
  rw [a]
  simp only [l, e, lc, v]
end LC
set_option Elab.async false
set_option linter.all false
set_option maxRecDepth 100000
set_option maxHeartbeats 2000000
namespace LG
open PySem PySem.Spec PyProof.Rows L2 C8 GX LC
/-! repr of data, in a def that no repr has called; the end of a law whose top def asks for repr -/
theorem call_reprD {X : Cx} (gu : X.A.guards = some []) (un : X.A.units + 64 < cLine) : CallR X (.builtin "repr") (fun xs H Q => ∃ a d, xs = [.ref a] ∧ Dp X.K H (.ref a) d ∧ d.showable = true ∧ d.hasDict = false ∧ d.depth ≤ 60 ∧ d.shown.length ≤ sizeLine ∧ Q (.str d.shown) H) := by
  intro pins s σ H xs us Q I r h
  obtain ⟨a, d, rfl, hd, sh, nd, dp, sz, q⟩ := h
  obtain ⟨u, rfl, ru⟩ := vals1 r
  obtain rfl : u = Value.ref a := ru
  obtain ⟨as, rd⟩ := Dp.reads I d _ _ hd rfl
  exact repr_of_reads' rd sh (PyData.noDict_hsm nd) gu (by omega) (fun _ _ e => e) (fun h' u tk hk => ⟨.str _, H, I.kept hk, ⟨_, rfl⟩, q⟩) sz
def rRepr (K : PySem.W.Frag) : List V → Hp → VK → Prop := fun xs H Q => ∃ a d, xs = [.ref a] ∧ Dp K H (.ref a) d ∧ d.showable = true ∧ d.hasDict = false ∧ d.depth ≤ 60 ∧ d.shown.length ≤ sizeLine ∧ Q (.str d.shown) H
theorem crepr {X : Cx} {K : PySem.W.Frag} (e : X.K = K) (gu : X.A.guards = some []) (un : X.A.units + 64 < cLine) : CallR X (.builtin "repr") (rRepr K) := by subst e; exact call_reprD gu un
/-- a def's promise when no repr is under way -/
structure FnG (P : Program) (w : World) (K : PySem.W.Frag) (mg : Str → Option Value) (base : Heap) (k : Nat) (f : Addr) (fd : FuncData) (ps : List Str) (sp : Sp) : Prop where
  run : ∀ {A : Around} {fr : List Env} {s : Shared} {H : Hp} {as : Args} {us : List Value} {vs : List V} {Q : VK} {E : XK}, A.guards = some [] → Room k A → Env0 P w K mg base A fr s H → Vals vs us → BindsTo s fd as (ps.zip us) → sp vs H Q E →
    codeAny (model P w) A (.call (.ref f) as) (CR C8.CX0 fr P w H s Q E) s
theorem fnG {P : Program} {w : World} {K : PySem.W.Frag} {mg : Str → Option Value} {base : Heap} {x : Str} {st : Stmt} {f c : Addr} {fd : FuncData} {N ps : List Str} {k : Nat} {sp : Sp} (F : FunC K x x st f fd c) (S : FnScope N ps (fnScope st)) (len : ∀ vs H Q E, sp vs H Q E → vs.length = ps.length)
    (body : ∀ (A : Around) (fr : List Env) (s : Shared) (H : Hp) (vs : List V) (Q : VK) (E : XK), A.guards = some [] → Room k (A.deeper (envOfC x (fnScope st) s.heap.objs.size f (.ref c))) → sp vs H Q E →
      ∃ t, PSs (cxOf C8.CX0 P w K mg base N x (fnScope st) f (.ref c) A fr s H E).nox (fnBody st) t ∧ t { nx := fun _ H' => Q .non H', rt := Q } (start N vs) H) : FnG P w K mg base (k + 1) f fd ps sp := by
  obtain ⟨oc, od, dV, kV, doc, pm, an, ct, osl, rfl, lk, cdi⟩ := F.ex
  constructor
  intro A fr s H as us vs Q E gu rm e0 rv bi q0
  have eqL := len _ _ _ _ q0
  have inK : K.In s.heap := e0.mod.kin.keeps fun b o z => (e0.bs b o z).1
  have noL : s.heap.NoLimit := e0.mod.nolimit.keeps fun b o z => (e0.bs b o z).1
  refine codeAny_call_function rm.depth (inK _ _ lk) rfl S.co S.gen rfl (PySem.W.codeRec_of inK cdi) (bi _ _ _ _ (wpAny_newFunctionEnv_cells S.kind (fun y hy => ?_) fun en hen s1 ic => ?_))
  · rcases S.par y.1 (List.of_mem_zip (show (y.1, y.2) ∈ _ from hy)).1 with z | z
    · exact Or.inl z
    · exact Or.inr ⟨z, PySem.W.cellsFrom_some _ _ _ (Or.inl z)⟩
  · cases hen
    refine ⟨noL.keeps ic.toInCall.keep, codeAny_func ?_⟩
    obtain ⟨t, rt, qt⟩ := body A fr s H vs Q E gu (rm.deeper _) q0
    have J := inv_start (CX := C8.CX0) (E := E) S rm.hd e0 eqL rv ic
    refine wpAny_mono (rt.nox.run [] s1 (start N vs) H _ J qt) (fun fl s' hs => ?_) fun _ _ z => z
    cases fl with
    | next =>
      obtain ⟨_, H', J', q⟩ := hs
      exact ⟨V.non, H', J'.os, J'.bare, J'.base, J'.hok, (rfl : RelV V.non Value.none), q⟩
    | ret u =>
      obtain ⟨v, _, H', J', ru, q⟩ := hs
      exact ⟨v, H', J'.os, J'.bare, J'.base, J'.hok, ru, q⟩
    | brk => exact (hs.choose_spec.choose_spec.2 : False).elim
    | cont => exact (hs.choose_spec.choose_spec.2 : False).elim
end LG
set_option Elab.async false
set_option linter.all false
set_option maxRecDepth 100000
set_option maxHeartbeats 2000000
namespace LG
open PySem PySem.Spec PyProof.Rows L2 C8 GX LC
/-- what is known of a law whose top def asks for repr, at the head's heap -/
def LawAtG (l : PySem.W.OpenLaw) (w : World) (K : PySem.W.Frag) (k n : Nat) (x : Str) (mg : Str → Option Value) (fa : Addr) (h : Heap) : Prop :=
  ∃ (fd : FuncData) (tb : List (Addr × Addr)) (sp : Sp), ((∀ t ∈ tb, h.get? t.2 = some { cls := .none, data := .fields #[] }) ∧ (∀ t ∈ tb, K.lookup t.2 = none) ∧ ∀ t ∈ tb, PySem.W.CodeHd h t.1 t.2) ∧
    (∀ (s : Shared) (u : Value), BindsTo s fd ⟨[u], []⟩ [(x, u)]) ∧
    (∀ (H : Hp) (a : Addr) (ns : List Int), ns.length ≤ n → (∀ t ∈ tb, H t.2 = some (.tbl #[])) → SqL K H a (ns.map V.int) → sp [.ref a] H (fun v _ => v = .bl true) fun _ _ _ => False) ∧
    ∀ base : Heap, K.In base → base.Ns mainGlobals mg → (∀ t ∈ tb, LamX.TabB base mg t.1 t.2) → FnG l.prog w K mg base k fa fd [x] sp
/-- the heap as the law's top def finds it: the empty tables, the script -/
def Hstart (K : PySem.W.Frag) (tb : List (Addr × Addr)) (a : Addr) (scr : Obj) (xs : List V) : Hp := fun b =>
  if b ∈ tb.map Prod.snd then some (.tbl #[]) else if b = a ∧ K.lookup a = none then some (.frz scr (.lst xs)) else none
section
variable {K : PySem.W.Frag} {tb : List (Addr × Addr)} {a : Addr} {scr : Obj} {xs : List V} {P : Program} {w : World} {h : Heap}
theorem start_tab {b : Addr} (hb : b ∈ tb.map Prod.snd) : Hstart K tb a scr xs b = some (.tbl #[]) := if_pos hb
theorem start_scr (h1 : a ∉ tb.map Prod.snd) (h2 : K.lookup a = none) : Hstart K tb a scr xs a = some (.frz scr (.lst xs)) := (if_neg h1).trans (if_pos ⟨rfl, h2⟩)
theorem start_at {b : Addr} {o : HO} (e : Hstart K tb a scr xs b = some o) : (b ∈ tb.map Prod.snd ∧ o = .tbl #[]) ∨ (b = a ∧ b ∉ tb.map Prod.snd ∧ K.lookup a = none ∧ o = .frz scr (.lst xs)) := by
  unfold Hstart at e
  by_cases h1 : b ∈ tb.map Prod.snd
  · rw [if_pos h1] at e; exact .inl ⟨h1, (Option.some.inj e).symm⟩
  · rw [if_neg h1] at e
    by_cases h2 : b = a ∧ K.lookup a = none
    · rw [if_pos h2] at e; exact .inr ⟨h2.1, h1, h2.2, (Option.some.inj e).symm⟩
    · rw [if_neg h2] at e; cases e
end
theorem law_callG {P : Program} {w : World} {K : PySem.W.Frag} {mg mb : Str → Option Value} {k : Nat} {fa a : Addr} {tb : List (Addr × Addr)} {fd : FuncData} {x : Str} {sp : Sp} {s : Shared} {vs : List Value} {ns : List Int}
    (inK : K.In s.heap) (nG : s.heap.Ns mainGlobals mg) (nB : s.heap.Ns builtinsNs mb) (boot : ∀ y : Str, y ≠ "__name__" → mb y = bootBuiltins y) (noL : s.heap.NoLimit) (noG : s.gens = #[])
    (tT : ∀ t ∈ tb, s.heap.get? t.2 = some { cls := .none, data := .fields #[] }) (tK : ∀ t ∈ tb, K.lookup t.2 = none) (tC : ∀ t ∈ tb, PySem.W.CodeHd s.heap t.1 t.2)
    (main : ∃ (m : Addr) (om : Obj), mg "__builtins__" = some (.ref m) ∧ m ≠ builtinsNs ∧ s.heap.get? m = some om ∧ om.cls = .type "module" ∧ om.dict = some builtinsNs ∧ om.data = .plain)
    (scr : s.heap.get? a = some { cls := .type "list", data := .seq vs.toArray }) (iv : IntsAre vs ns) (few : ns.length ≤ sizeLine) (rm : Room k callerA)
    (F : ∀ base : Heap, K.In base → base.Ns mainGlobals mg → (∀ t ∈ tb, LamX.TabB base mg t.1 t.2) → FnG P w K mg base k fa fd [x] sp) (binds : ∀ (s : Shared) (u : Value), BindsTo s fd ⟨[u], []⟩ [(x, u)])
    (wish : ∀ H : Hp, (∀ t ∈ tb, H t.2 = some (.tbl #[])) → SqL K H a (ns.map V.int) → sp [.ref a] H (fun v _ => v = .bl true) fun _ _ _ => False) :
    codeAny (model P w) callerA (.call (.ref fa) ⟨[.ref a], []⟩) (fun r s' => r = .ok (.ret (.bool true)) ∧ OldK s.heap s'.heap ∧ s'.os = s.os ∧ AllBare s'.gens) s := by
  have vals := vals_ints iv
  have lv := iv.length
  have inTab : ∀ b ∈ tb.map Prod.snd, s.heap.get? b = some { cls := .none, data := .fields #[] } ∧ K.lookup b = none := fun b hb => by
    obtain ⟨t, ht, rfl⟩ := List.mem_map.mp hb
    exact ⟨tT t ht, tK t ht⟩
  have aT : a ∉ tb.map Prod.snd := fun z => by
    have e := (inTab a z).1
    rw [scr] at e
    cases congrArg Obj.data (Option.some.inj e)
  generalize hH : Hstart K tb a { cls := .type "list", data := .seq vs.toArray } (ns.map V.int) = H
  have atH : ∀ {b : Addr} {o : HO}, H b = some o → (b ∈ tb.map Prod.snd ∧ o = .tbl #[]) ∨ (b = a ∧ b ∉ tb.map Prod.snd ∧ K.lookup a = none ∧ o = .frz { cls := .type "list", data := .seq vs.toArray } (.lst (ns.map V.int))) := fun {b o} e => start_at (by rw [hH]; exact e)
  have tabH : ∀ t ∈ tb, H t.2 = some (.tbl #[]) := fun t ht => by rw [← hH]; exact start_tab (List.mem_map.mpr ⟨t, ht, rfl⟩)
  -- what is no table and no list is not tracked
  have plain : ∀ {b : Addr} {o : Obj}, s.heap.get? b = some o → o.data ≠ .fields #[] → (∀ v m, o.data ≠ .seq v m) → H b = none := fun {b o} e n1 n2 => by
    cases q : H b with
    | none => rfl
    | some u =>
      rcases atH q with ⟨z, _⟩ | ⟨z, _⟩
      · rw [(inTab b z).1] at e; cases e; exact (n1 rfl).elim
      · rw [z, scr] at e; cases e; exact (n2 _ _ rfl).elim
  have ok : HOk P w H s.heap := fun b o e => by
    rcases atH e with ⟨z, rfl⟩ | ⟨rfl, _, _, rfl⟩
    · exact (inTab b z).1
    · exact ⟨scr, by rw [List.length_map]; exact few, vs, _, vals, scr⟩
  have sq : SqL K H a (ns.map V.int) := by
    cases e : K.lookup a with
    | none => exact .inl (.inr ⟨_, by rw [← hH]; exact start_scr aT e⟩)
    | some o =>
      have e2 := inK a o e
      rw [scr] at e2
      cases e2
      exact .inr ⟨_, vs.toArray, _, e, rfl, rfl, rfl, by rw [List.size_toArray, lv]; exact few, by simpa using vals⟩
  have low : ∀ {b : Addr} {o : Obj}, s.heap.get? b = some o → H b = none → (hidT s.heap H).get? b = some o := hidT_get
  have lowNs : ∀ {b : Addr} {m : Str → Option Value}, s.heap.Ns b m → (hidT s.heap H).Ns b m := fun {b m} ⟨o, es, ep, e, z, r⟩ => ⟨o, es, ep, low e (plain e (by rw [z]; exact fun q => nomatch q) (by rw [z]; exact fun _ _ q => nomatch q)), z, r⟩
  have kLow : K.In (hidT s.heap H) := fun b o e => low (inK b o e) (by
    cases q : H b with
    | none => rfl
    | some u =>
      rcases atH q with ⟨z, _⟩ | ⟨z, _, z2, _⟩
      · rw [(inTab b z).2] at e; cases e
      · rw [z, z2] at e; cases e)
  have md : L2.Mod K mg (hidT s.heap H) := ⟨kLow, lowNs nG, ⟨mb, lowNs nB, boot⟩, noL.elim fun mc z => ⟨mc, lowNs z.1, z.2⟩⟩
  have notNs : ∀ {b : Addr}, s.heap.get? b = some { cls := .none, data := .fields #[] } → mainGlobals ≠ b := fun {b} e z => by
    obtain ⟨o, es, ep, e2, d, _⟩ := nG
    rw [z, e] at e2
    cases e2
    cases d
  have tabs : ∀ t ∈ tb, LamX.TabB (hidT s.heap H) mg t.1 t.2 := fun t ht => by
    refine ⟨?_, ?_, notNs (tT t ht)⟩
    · obtain ⟨o, us, file, tf, flags, tg, inF, text, tt, e1, r1, r2, r3, rest⟩ := tC t ht
      refine ⟨o, us, file, tf, flags, tg, inF, text, tt, low e1 (plain e1 (fun z => ?_) (by rw [r2]; exact fun _ _ q => nomatch q)), r1, r2, r3, rest⟩
      rw [r2] at z
      cases z
      cases r3
    · obtain ⟨m, om, g1, g2, g3, g4, g5, g6⟩ := main
      refine ⟨m, om, g1, g2, fun z => ?_, fun z => ?_, low g3 (plain g3 (by rw [g6]; exact fun q => nomatch q) (by rw [g6]; exact fun _ _ q => nomatch q)), g4, g5, g6⟩
      · obtain ⟨o, es, ep, e2, d, _⟩ := nG
        rw [z, e2] at g3
        cases g3
        rw [d] at g6; cases g6
      · rw [z, tT t ht] at g3
        cases g3
        cases g6
  have env : Env0 P w K mg (hidT s.heap H) callerA [] s H :=
    { frames := rfl, mod := md, bs := fun b o e => of_hidT e, bsz := Nat.le_of_eq (hidT_size _ _), funs := trivial, frf := (fun b z => nomatch z), hok := ok, bare := .of_eq noG }
  refine codeAny_mono ((F _ kLow (lowNs nG) tabs).run (vs := [.ref a]) rfl rm env (.cons rfl .nil) (binds s (.ref a)) (wish H tabH sq)) fun r s' done => ?_
  rcases r with e | fl
  · exact (done : False).elim
  cases fl with
  | next => exact (done : False).elim
  | brk => exact (done : False).elim
  | cont => exact (done : False).elim
  | ret u =>
    obtain ⟨v, H', eos, bare, un, ok', rv, rfl⟩ := done
    obtain rfl : u = Value.bool true := rv
    have keep : ∀ b o, b ∉ tb.map Prod.snd → s.heap.get? b = some o → s'.heap.get? b = some o := fun b o nb e => by
      cases q : H b with
      | none => exact un.keep b o e q (fun z => nomatch z) (fun z => nomatch z)
      | some u =>
        rcases atH q with ⟨z, _⟩ | ⟨_, _, _, z⟩
        · exact (nb z).elim
        · rw [z] at q
          have z1 := (ok b _ q).1
          rw [e] at z1
          rw [z1]
          exact (ok' b _ (un.frzs b _ _ q)).1
    have grew : ∀ t ∈ tb, ∃ more : Array Value, s'.heap.get? t.2 = some { cls := .none, data := .fields more } := fun t ht => by
      obtain ⟨more, z⟩ := un.tbls t.2 #[] (tabH t ht)
      exact ⟨_, ok' t.2 _ z⟩
    refine ⟨rfl, ⟨fun b o e => ?_, fun b o e => ?_⟩, eos, bare⟩
    · by_cases hb : b ∈ tb.map Prod.snd
      · obtain ⟨t, ht, rfl⟩ := List.mem_map.mp hb
        obtain ⟨more, z⟩ := grew t ht
        rw [tT t ht] at e
        cases e
        exact .inr (.inl ⟨((tC t ht).tab (tT t ht)).isCodeTable, rfl, #[], more, rfl, by rw [Array.empty_append]; exact z⟩)
      · exact .inl (keep b o hb e)
    · by_cases hb : b ∈ tb.map Prod.snd
      · obtain ⟨t, ht, rfl⟩ := List.mem_map.mp hb
        exact ⟨_, (grew t ht).choose_spec⟩
      · exact ⟨o, keep b o hb e⟩
theorem walkG {l : PySem.W.OpenLaw} {n k : Nat} {q : Program} {loose : List Str} {XP : (Str → Option Value) → Heap → Prop} {YP : World → Heap → Prop} {d : DefRec} {K : Params → PySem.W.Frag} {x : Str}
    (hn : l.most = some n) (hn2 : n ≤ sizeLine) (hdf : d.params.defaults = []) (hr : Room k callerA) (hY : ∀ (w : World) (h : Heap), YP w h → (K w.params).In h)
    (F : ∀ (w : World) (mg mb : Str → Option Value) (fa : Addr) (h : Heap), (∃ loose mean, Top q loose mean mg mb h) → (K w.params).In h → h.Ns mainGlobals mg → mg d.name = some (.ref fa) → LawAtG l w (K w.params) k n x mg fa h) :
    PySem.W.WalkO q loose XP YP l.row.toRowW d [] (fun f vs => PySem.call f vs) := by
  refine Att.attach_callB hn hdf fun w s₀ s₁ mg mb fa o pm cd doc a vs ns G Y _ _ _ fm scr iv len _ ng => ?_
  have KX := hY w _ Y
  obtain ⟨fd, tb, sp, ⟨t1, t2, t3⟩, b, wi, body⟩ := F w mg mb fa _ ⟨_, _, G.T⟩ KX G.T.g fm
  exact law_callG KX G.T.g G.T.b G.T.builtins G.T.nolimit ng t1 t2 t3 G.T.bmain scr iv (Nat.le_trans len hn2) hr body b fun H hH hS => wi H a ns len hH hS
end LG
set_option Elab.async false
set_option linter.all false
set_option maxRecDepth 100000
set_option maxHeartbeats 2000000
namespace LX
open PySem PySem.W PySem.Spec PyProof.Rows L2 LamX NdefX
/-! an own exception over ValueError, with classes between or not, whose __init__ says super().__init__(x) first -/
section
variable {CX : CXT} {P : Program} {w : World} {K : PySem.W.Frag} {mg : Str → Option Value} {base : Heap} {k : Nat} {C f cc : Addr} {F : NF} {N ps : List Str} {sp : Sp}
/-- what the written part says of such a class at C and its __init__ at f -/
structure XInit (P : Program) (K : PySem.W.Frag) (mg : Str → Option Value) (C f cc : Addr) (F : NF) (N ps : List Str) (doc pm ctv : Value) : Prop where
  cls : OexC K C
  fn : ∃ oc od osl, K.lookup f = some ⟨oc, od, .func (F.fd doc pm ctv), osl⟩
  cod : PySem.W.codeIn K (.ref F.c) F.qual = true
  sc : NScope N ps ["__class__"] F.scope
  cl : F.cl = [(Str.ofString "__class__", cc)]
  cell : ∃ cl cld csl, K.lookup cc = some ⟨cl, cld, .cell (some (.ref C)), csl⟩
  code : ∃ ccl cdd vs ccs file tf, K.lookup F.c = some ⟨ccl, cdd, .fields vs, ccs⟩ ∧ vs[2]? = some (.str file tf) ∧ ((P.main.file : Str) == file) = true
  top : (P.main.scope.names.lookup ("super" : Str)).isSome = false
  sup : mg "super" = none
  glob : F.scope.names.lookup ("super" : Str) = some .globalImplicit
  third : PySem.W.nsIn K cStatics "thirdparty.any" = some none
  way : PySem.W.ks_superIn K C C "__init__" = some (some (.builtin "ValueError.__init__"))
  ve : PySem.W.subIn K (.ref C) (.type "ValueError") = some true
  own : PySem.W.mroIn K C (.ref C) = some true
  head : ∃ ar, (F.params.posonlyargs ++ F.params.args).head? = some ar ∧ N[0]? = some ar.arg ∧ ps[0]? = some ar.arg
/-- super().__init__(x): the reading's effect is nothing that is told -/
theorem super_init {doc pm ctv : Value} (T : XInit P K mg C f cc F N ps doc pm ctv) {A : Around} {outer : List Env} {s0 : Shared} {H0 : Hp} {E0 : XK} {H : Hp} {s : Shared} {σ : L2.St} {a : Addr} {x1 : Str} {y : V} {p0 p1 p2 p3 p5 : Pos} {pl : Sem Bool} {Q : Value → Shared → Prop} {Ex : Value → Shared → Prop}
    (hev : eval (.Call (.Attribute (.Call (.Name "super" p0) [] [] p1) "__init__" p2) [.Name x1 p5] [] p3) (envF F f s0.heap.objs.size) = (do
      let ov ← attributeBase (.Call (.Name "super" p0) [] [] p1) "__init__" (envF F f s0.heap.objs.size) (eval (.Call (.Name "super" p0) [] [] p1) (envF F f s0.heap.objs.size))
      standAt p2.atName
      let (g, first) ← holding [ov] (getMethod ov "__init__" pl)
      callWith p3 g first (backTo p3 (starEach [.Name x1 p5] (envF F f s0.heap.objs.size))) []))
    (I : Inv (ncx CX P w K mg base N F f A outer s0 H0 E0) [] σ H s) (h0 : σ[0]? = some (some (.ref a))) (h1 : σ[1]? = some (some y)) (n1 : N[1]? = some x1) (l1 : F.scope.names.lookup x1 = some .local) (l0 : ∀ x, N[0]? = some x → F.scope.names.lookup x = some .local) (d1 : (x1 == ("__debug__" : Str)) = false) (ea : H a = some (exo a C none))
    (q : ∀ s', Inv (ncx CX P w K mg base N F f A outer s0 H0 E0) [] σ H s' → Q .none s') :
    _root_.PySem.wpAt (model P w) (A.deeper (envF F f s0.heap.objs.size)) (.func F.body (envF F f s0.heap.objs.size)) (eval (.Call (.Attribute (.Call (.Name "super" p0) [] [] p1) "__init__" p2) [.Name x1 p5] [] p3) (envF F f s0.heap.objs.size)) Q Ex s := by
  have X : K.In s.heap := I.kIn
  obtain ⟨oc, od, osl, hf⟩ := T.fn
  obtain ⟨ccl, cdd, vs, ccs, file, tf, hc, hvs, hfile⟩ := T.code
  obtain ⟨kl, kld, csl, hcell⟩ := T.cell
  obtain ⟨ar, hp, hN0, hps0⟩ := T.head
  obtain ⟨m, hns, hloc⟩ := I.loc
  obtain ⟨mb, hb1, hb2⟩ := I.mod.blt
  obtain ⟨nm, qn, NS, bs, bm, sn, sub, ab, col, dd, k0, k1, k2, k3, k5, hC, hbm⟩ := T.cls.cls
  have look : ∀ (i : Nat) (x : Str) (v : V), N[i]? = some x → σ[i]? = some (some v) → F.scope.names.lookup x = some .local → ∃ u, L2.RelV v u ∧ m x = some u := fun i x v e1 e2 e3 => by
    obtain ⟨u, r, l | ⟨l, _⟩⟩ := hloc i x v e1 e2 (.inl e3)
    · exact ⟨u, r, l.2⟩
    · have l : F.scope.names.lookup x = some .cell ∨ F.scope.names.lookup x = some .free := l
      rw [e3] at l
      rcases l with l | l <;> cases l
  obtain ⟨u0, r0, m0⟩ := look 0 ar.arg (.ref a) hN0 h0 (l0 _ hN0)
  obtain rfl : u0 = Value.ref a := r0
  obtain ⟨u1, r1, m1⟩ := look 1 x1 y n1 h1 l1
  obtain ⟨t1, he⟩ := exo_at I.hok ea
  have hD1 := X _ _ hC
  refine ks_wpAt_MethodCall (pl := pl) ?_ hev
  refine ks_wpAt_super_base (env := envF F f s0.heap.objs.size) (attr := "__init__") T.glob (T.sc.frk _ (by simp)) (by decide) rfl (X _ _ hf) rfl hp rfl (X _ _ hc) rfl hvs hfile T.top ?_
  refine PySem.W.ks_loadName_global T.sc.kind T.glob (PySem.Calls.loadGlobal_builtin (env := envF F f s0.heap.objs.size) (I.mod.glob.keeps I.bk) T.sup (hb1.keeps I.bk) ((hb2 "super" (by decide)).trans PyProof.Rows.Boot.«super») ⟨rfl, ?_⟩)
  refine wpAny_loadName_free T.sc.kind (T.sc.frk _ (by simp)) (c := cc) (v := .ref C) (by show F.cl.lookup _ = _; rw [T.cl]; rfl) ⟨_, X _ _ hcell, rfl⟩ ?_
  refine wpAny_loadName_local T.sc.kind (l0 _ hN0) hns m0 ?_
  obtain ⟨hp', g, d, t, os⟩ := s
  refine ks_wpAny_isType_cls hD1 rfl ⟨rfl, ?_⟩
  refine ks_wpAny_call_super hD1 rfl he rfl (fun c z => by cases z) (PySem.W.looks_mroIn X T.own) fun h1 e1 kp1 => ?_
  have X1 : K.In h1 := X.keeps kp1
  have hne : a ≠ C := fun z => by rw [z] at he; rw [hD1] at he; cases he
  have hIa : PySem.W.InstAt h1 a { cls := .ref C, dict := none, data := .fields #[.ref t1, .none, .none, .none, .bool false, .none] } C none := ⟨kp1 _ _ he, rfl, rfl, trivial⟩
  have hI : PySem.W.Looks (model P w) h1 (isInstance (.ref a) (.type "ValueError")) true := hIa.type.andThen (PySem.W.looks_subIn X1 T.ve)
  obtain ⟨cd, hcd, hal⟩ := Option.bind_eq_some_iff.mp (show (PySem.W.clsIn K C).bind (fun cd => PySem.W.alongIn K "__init__" ((cd.mro.dropWhile (· != .ref C)).drop 1)) = some (some (.builtin "ValueError.__init__")) from T.way)
  refine PySem.W.kxs_getMethod PySem.W.kxs_ValueError e1 (PySem.W.looks_opaque X1 T.third) (l₀ := cd.mro) (fun A Q E s k q => wpAny_bind ((PySem.W.looks_clsIn X1 hcd) A _ E s k (wpAny_pure q))) rfl X1 hal hI hne (by decide) ?_
  have kp2 : ∀ b o, hp'.get? b = some o → (h1.push (PySem.W.kxs_mw "ValueError.__init__" a)).get? b = some o := fun b o z => Heap.get?_push_of_some _ (kp1 b o z)
  have hu : (h1.push (PySem.W.kxs_mw "ValueError.__init__" a)).get? h1.objs.size = some (PySem.W.kxs_mw "ValueError.__init__" a) := Heap.get?_push_size _ rfl
  refine PySem.W.kxs_callWith (i := "ValueError.__init__") (x := a) (by rfl) ?_
  refine PySem.Calls.evalArgs_plain ?_
  refine args_cons (env := envF F f s0.heap.objs.size) (e := .Name x1 p5) (rest := []) (wpAny_Name (wpAny_loadName_local T.sc.kind l1 (hns.keeps kp2) m1 (args_nil ⟨hu, ?_⟩)) d1)
  have he2 := kp2 _ _ he
  have hC2 := kp2 _ _ hD1
  have I2 := I.kept (t' := t + 1) kp2
  have FB := PySem.F.excBase_ValueError
  have fin : ∀ h' : Heap, (∀ b o, b ≠ a → (h1.push (PySem.W.kxs_mw "ValueError.__init__" a)).get? b = some o → h'.get? b = some o) → (∃ t2 : Addr, h'.get? a = some { cls := .ref C, dict := none, data := .fields #[.ref t2, .none, .none, .none, .bool false, .none] }) → Q .none ⟨h', g, d, t + 1, os⟩ := fun h' k ⟨t2, hx⟩ => by
    have J := I2.write (t' := t + 1) (x := a) (e := a) (o := exo a C none) (by rw [ea]; exact True.intro) (.inl rfl) k ⟨_, hx⟩ (exo_ok hx)
    have eu : upd H a (exo a C none) = H := by
      funext b
      by_cases hb : b = a
      · rw [hb, upd_same, ea]
      · rw [upd_ne hb]
    rw [eu] at J
    exact q _ J
  refine wpAny_call (codeAny_of_tree ?_)
  show wpAny _ _ (callAny (.ref h1.objs.size) ⟨[u1], []⟩) _ _ _
  simp only [callAny]
  refine wpAny_bind (wpAny_load hu ?_)
  simp only [PySem.W.kxs_mw, show (Value.type "method-wrapper" == Value.type "method" || Value.type "method-wrapper" == Value.type "builtin_function_or_method" || Value.type "method-wrapper" == Value.type "method-wrapper") = true by decide, if_true]
  refine PySem.W.KFB.if_so (by decide) ?_
  refine wpAny_bind (PySem.W.check_bound_init FB.toExcCallFacts hC2 he2 rfl ?_)
  refine wpAny_bind (wpAny_pure (wpAny_pure ?_))
  refine ⟨plainId_quiet FB.init.plain _, codeAny_builtin FB.initEntry ?_⟩
  exact exc_init_tree (cls := .ref C) (t0 := t1) (dv := none) (c2 := .none) (c3 := .none) (b4 := .bool false) he2 (by rw [sizeLine_eq]; simp) fun h' k e' _ => fin h' k ⟨_, e'⟩
/-- the def __init__ of such a class -/
theorem fn_init {doc pm ctv : Value} (T : XInit P K mg C f cc F N ps doc pm ctv) {x1 : Str} {rest : List Stmt} {p0 p1 p2 p3 p4 p5 : Pos} {pl : Sem Bool} (len : ∀ vs H Q E, sp vs H Q E → vs.length = ps.length)
    (hb : F.body = .Expr (.Call (.Attribute (.Call (.Name "super" p0) [] [] p1) "__init__" p2) [.Name x1 p5] [] p3) p4 :: rest)
    (hev : ∀ L : Addr, eval (.Call (.Attribute (.Call (.Name "super" p0) [] [] p1) "__init__" p2) [.Name x1 p5] [] p3) (envF F f L) = (do
      let ov ← attributeBase (.Call (.Name "super" p0) [] [] p1) "__init__" (envF F f L) (eval (.Call (.Name "super" p0) [] [] p1) (envF F f L))
      standAt p2.atName
      let (g, first) ← holding [ov] (getMethod ov "__init__" pl)
      callWith p3 g first (backTo p3 (starEach [.Name x1 p5] (envF F f L))) []))
    (hsw : ∀ L : Addr, swapsWith (.Call (.Attribute (.Call (.Name "super" p0) [] [] p1) "__init__" p2) [.Name x1 p5] [] p3) none p4.line (envF F f L) = pure false)
    (n1 : N[1]? = some x1) (l1 : F.scope.names.lookup x1 = some .local) (l0 : ∀ x, N[0]? = some x → F.scope.names.lookup x = some .local) (d1 : (x1 == ("__debug__" : Str)) = false)
    (hbody : ∀ (A : Around) (outer : List Env) (s : Shared) (H : Hp) (vs : List V) (Q : VK) (E : XK), Room k (A.deeper (envF F f s.heap.objs.size)) → sp vs H Q E → ∃ (a : Addr) (y : V) (t : TS), vs[0]? = some (.ref a) ∧ vs[1]? = some y ∧ H a = some (exo a C none) ∧
      PSs (ncx CX P w K mg base N F f A outer s H E) rest t ∧ t { nx := fun _ H' => Q .non H', rt := Q } (startF N vs [some (.ref C)]) H) :
    FnOk P w K mg base CX (k + 1) f (F.fd doc pm ctv) ps sp := by
  refine ⟨len, fun A outer s H args us vs Q E hr e0 hbi rv hsp => ?_⟩
  have hl := len _ _ _ _ hsp
  have inK : K.In s.heap := e0.mod.kin.keeps fun b o z => (e0.bs b o z).1
  have lim : s.heap.NoLimit := e0.mod.nolimit.keeps fun b o e => (e0.bs b o e).1
  obtain ⟨oc, od, osl, hf⟩ := T.fn
  obtain ⟨kl, kld, csl, hcell⟩ := T.cell
  refine ks_codeAny_call_defAt (fd := F.fd doc pm ctv) (body := F.body) (binds := ps.zip us) hr.depth (inK _ _ hf) rfl lim (PySem.W.codeRec_of inK T.cod) rfl hbi T.sc.nocell (fun ⟨n, _⟩ hy => T.sc.par n (List.of_mem_zip hy).1) (fun h₀ hns kp => ?_) T.sc.co T.sc.gen T.sc.kind
  show _root_.PySem.wpAt (model P w) (A.deeper (envF F f s.heap.objs.size)) (.func F.body (envF F f s.heap.objs.size)) (execs F.body (envF F f s.heap.objs.size)) _ _ _
  have hcl := T.cl
  have cells : CellsAt F.cl ["__class__"] [some (.ref C)] s.heap H := by
    have one : ∀ y c, F.cl.lookup y = some c → y = Str.ofString "__class__" ∧ c = cc := fun y c e => by
      rw [hcl, List.lookup_cons] at e
      split at e
      · rename_i z
        cases e
        exact ⟨eq_of_beq z, rfl⟩
      · cases e
    have hc0 : s.heap.get? cc = some ⟨kl, kld, .cell (some (.ref C)), csl⟩ ∧ H cc = none := e0.bs _ _ (e0.mod.kin _ _ hcell)
    refine ⟨rfl, fun y c e => ?_, fun x y c e1 e2 => (one x c e1).1.trans (one y c e2).1.symm, fun i y e => ?_⟩
    · rw [(one y c e).2]
      exact ⟨hc0.2, _, _, hc0.1, rfl⟩
    · cases i with
      | zero =>
        cases e
        exact ⟨cc, by rw [hcl]; rfl, fun v ev => by cases ev; exact ⟨.ref C, rfl, _, hc0.1, rfl⟩⟩
      | succ i => simp at e
  have I : L2.Inv (ncx CX P w K mg base N F f A outer s H E) [] (startF N vs [some (.ref C)]) H { s with heap := h₀, toks := s.toks + (ps.zip us).length } := inv_startN T.sc hr.hd e0 hl rv cells hns kp
  obtain ⟨a, y, t, v0, v1, ea, ht, hq⟩ := hbody A outer s H vs Q E (hr.deeper _) hsp
  have st : ∀ (i : Nat) (v : V), vs[i]? = some v → (startF N vs [some (.ref C)])[i]? = some (some v) := fun i v e => by
    unfold startF
    rw [List.getElem?_append_left (by rw [List.length_map]; exact (List.getElem?_eq_some_iff.mp e).1), List.getElem?_map, e]; rfl
  rw [show execs F.body (envF F f s.heap.objs.size) = execs (.Expr (.Call (.Attribute (.Call (.Name "super" p0) [] [] p1) "__init__" p2) [.Name x1 p5] [] p3) p4 :: rest) (envF F f s.heap.objs.size) from by rw [hb]]
  have hint : interactive (envF F f s.heap.objs.size) = false := by
    show (F.scope.kind == .module && _) = false
    rw [T.sc.kind]; rfl
  refine ks_wpAt_execs_cons (ks_wpAt_Expr_any (super_init T (hev _) I (st 0 _ v0) (st 1 _ v1) n1 l1 l0 d1 ea fun s' J => ?_) hint (hsw _))
  show _root_.PySem.wpAt _ _ _ (execs rest _) _ _ _
  refine wpAt_of_wpAny (wpAny_mono (ht.run [] s' (startF N vs [some (.ref C)]) H _ J hq) (fun fl s' hs => ?_) fun e s' hs => hs)
  have fin : ∀ {σ' : L2.St} {H' : Hp} {v : V} {u : Value}, L2.Inv (ncx CX P w K mg base N F f A outer s H E) [] σ' H' s' → L2.RelV v u → Q v H' → CE outer P w H s Q u s' :=
    fun {σ' H' v u} J rv q => ⟨v, H', J.os, J.bare, J.base, J.hok, rv, q⟩
  cases fl with
  | ret u =>
    obtain ⟨v, σ', H', J, rv, q⟩ := hs
    exact fin J rv q
  | next =>
    obtain ⟨σ', H', J, q⟩ := hs
    exact fin (v := V.non) (u := Value.none) J rfl q
  | brk =>
    obtain ⟨_, _, _, q⟩ := hs
    exact False.elim q
  | cont =>
    obtain ⟨_, _, _, q⟩ := hs
    exact False.elim q
end
end LX
set_option Elab.async false
set_option linter.all false
set_option maxRecDepth 100000
set_option maxHeartbeats 4000000
namespace PX
open PySem L2 C8 SX LamX NdefX LX LC PySem.Spec PyProof.Rows
/-! defs and methods that may raise; methods; own exceptions: for every program -/
/-- a method's def, its code at c -/
def MHas (K : PySem.W.Frag) (C : Addr) (m qual : Str) (st : Stmt) : Prop := ∃ f fd c, FunC K m qual st f fd c ∧ Meth K C m f ∧ fd.defaults = .none
theorem mhas_mk {K : PySem.W.Frag} {C : Addr} {m qual : Str} {st : Stmt} {f c : Addr} {oc : Value} {od an : Option Addr} {osl : Array (Option Value)} {kV doc pm ct : Value}
    (a : PySem.W.findIn K (.ref C) m = some (some (.ref f))) (i : PySem.W.isFn K (.ref f) = true) (k : PySem.W.keepIn K (.ref f) = true)
    (l : K.lookup f = some ⟨oc, od, .func (PySem.W.fnOf m qual (fnArgs st) (fnBody st) (fnScope st) .none kV doc pm an (.ref c) ct), osl⟩) (d : PySem.W.codeIn K (.ref c) qual = true) : MHas K C m qual st :=
  ⟨f, _, c, ⟨⟨oc, od, .none, kV, doc, pm, an, ct, osl, rfl, l, d⟩⟩, ⟨a, i, k⟩, rfl⟩
/-- a class of one's own, to be made by its name -/
structure HasC (K : PySem.W.Frag) (mg : Str → Option Value) (x : Str) (C : Addr) : Prop where
  cl : Cls K C
  makes : PySem.W.makesIn K C = true
  kp : PySem.W.keepIn K (.ref C) = true
  mg : mg x = some (.ref C)
section
variable {P : Program} {w : World} {K : PySem.W.Frag} {mg : Str → Option Value} {base : Heap}
/-- a method's promise by its body -/
theorem met {m qual : Str} {C : Addr} {st : Stmt} {N ps : List Str} {k : Nat} {sp : Sp} (cl : Cls K C) (F : MHas K C m qual st)
    (hb : ∀ (kV doc pm : Value) (an : Option Addr) (cdv ct : Value) (us : List Value), us.length = ps.length → bindArgs (PySem.W.fnOf m qual (fnArgs st) (fnBody st) (fnScope st) .none kV doc pm an cdv ct) ⟨us, []⟩ = pure (ps.zip us))
    (S : FnScope N ps (fnScope st)) (len : ∀ vs H Q E, sp vs H Q E → vs.length = ps.length)
    (hbody : ∀ (f c : Addr) (A : Around) (outer : List Env) (s : Shared) (H : Hp) (vs : List V) (Q : VK) (E : XK), Room k (A.deeper (envOfC qual (fnScope st) s.heap.objs.size f (.ref c))) → sp vs H Q E →
      ∃ t, PSs (cxOf C8.CX0 P w K mg base N qual (fnScope st) f (.ref c) A outer s H E).nox (fnBody st) t ∧ t { nx := fun _ H' => Q .non H', rt := Q } (start N vs) H) : Met P w K mg base (k + 1) C m sp [] := by
  obtain ⟨f, fd, c, F, me, df⟩ := F
  have b := F.fun.binds df hb
  obtain ⟨oc, od, dV, kV, doc, pm, an, ct, osl, rfl, lk, hcd⟩ := F.ex
  refine ⟨f, _, ps, [], cl, me, fn_of lk hcd S len fun A outer s H vs Q E hr hsp => ?_, b, .nil⟩
  obtain ⟨t, h, q⟩ := hbody f c A outer s H vs Q E hr hsp
  exact ⟨t, h.nox, q⟩
/-- __init__ -/
theorem mak {x qual : Str} {C : Addr} {st : Stmt} {N ps : List Str} {k : Nat} {sp : Sp} (cl : HasC K mg x C) (F : MHas K C "__init__" qual st)
    (hb : ∀ (kV doc pm : Value) (an : Option Addr) (cdv ct : Value) (us : List Value), us.length = ps.length → bindArgs (PySem.W.fnOf "__init__" qual (fnArgs st) (fnBody st) (fnScope st) .none kV doc pm an cdv ct) ⟨us, []⟩ = pure (ps.zip us))
    (S : FnScope N ps (fnScope st)) (len : ∀ vs H Q E, sp vs H Q E → vs.length = ps.length)
    (hbody : ∀ (f c : Addr) (A : Around) (outer : List Env) (s : Shared) (H : Hp) (vs : List V) (Q : VK) (E : XK), Room k (A.deeper (envOfC qual (fnScope st) s.heap.objs.size f (.ref c))) → sp vs H Q E →
      ∃ t, PSs (cxOf C8.CX0 P w K mg base N qual (fnScope st) f (.ref c) A outer s H E).nox (fnBody st) t ∧ t { nx := fun _ H' => Q .non H', rt := Q } (start N vs) H) : Mak P w K mg base (k + 1) x C sp [] := by
  obtain ⟨f, fd, c, F, me, df⟩ := F
  have b := F.fun.binds df hb
  obtain ⟨oc, od, dV, kV, doc, pm, an, ct, osl, rfl, lk, hcd⟩ := F.ex
  refine ⟨f, _, ps, [], ⟨cl.makes, me.at_, me.fn, cl.kp⟩, fn_of lk hcd S len fun A outer s H vs Q E hr hsp => ?_, cl.mg, b, .nil⟩
  obtain ⟨t, h, q⟩ := hbody f c A outer s H vs Q E hr hsp
  exact ⟨t, h.nox, q⟩
end
/-- a def that may raise, by its name -/
structure CalX (P : Program) (w : World) (K : PySem.W.Frag) (mg : Str → Option Value) (base : Heap) (k : Nat) (x : Str) (sp : Sp) : Prop where
  ex : ∃ (f : Addr) (fd : FuncData) (ps : List Str), FnOk P w K mg base (L2.CX P w) k f fd ps sp ∧ mg x = some (.ref f) ∧ PySem.W.keepIn K (.ref f) = true ∧ Binds K fd ps []
/-- a method that may raise -/
structure MetX (P : Program) (w : World) (K : PySem.W.Frag) (mg : Str → Option Value) (base : Heap) (k : Nat) (C : Addr) (m : Str) (sp : Sp) : Prop where
  ex : ∃ (f : Addr) (fd : FuncData) (ps : List Str), Cls K C ∧ Meth K C m f ∧ FnOk P w K mg base (L2.CX P w) k f fd ps sp ∧ Binds K fd ps []
section
variable {P : Program} {w : World} {K : PySem.W.Frag} {mg : Str → Option Value} {base : Heap}
theorem calX {x : Str} {st : Stmt} {c : Addr} {N ps : List Str} {k : Nat} {sp : Sp} (F : Has K mg x st c)
    (hb : ∀ (kV doc pm : Value) (an : Option Addr) (cdv ct : Value) (us : List Value), us.length = ps.length → bindArgs (PySem.W.fnOf x x (fnArgs st) (fnBody st) (fnScope st) .none kV doc pm an cdv ct) ⟨us, []⟩ = pure (ps.zip us))
    (S : FnScope N ps (fnScope st)) (len : ∀ vs H Q E, sp vs H Q E → vs.length = ps.length)
    (hbody : ∀ (f : Addr) (A : Around) (outer : List Env) (s : Shared) (H : Hp) (vs : List V) (Q : VK) (E : XK), Room k (A.deeper (envOfC x (fnScope st) s.heap.objs.size f (.ref c))) → sp vs H Q E →
      ∃ t, PSs (cxOf (L2.CX P w) P w K mg base N x (fnScope st) f (.ref c) A outer s H E) (fnBody st) t ∧ t { nx := fun _ H' => Q .non H', rt := Q } (start N vs) H) : CalX P w K mg base (k + 1) x sp := by
  obtain ⟨f, fd, F, hm, kp, df⟩ := F
  have b := F.fun.binds df hb
  obtain ⟨oc, od, dV, kV, doc, pm, an, ct, osl, rfl, lk, hcd⟩ := F.ex
  exact ⟨f, _, ps, fn_of lk hcd S len fun A outer s H vs Q E hr hsp => hbody f A outer s H vs Q E hr hsp, hm, kp, b⟩
theorem metX {m qual : Str} {C : Addr} {st : Stmt} {N ps : List Str} {k : Nat} {sp : Sp} (cl : Cls K C) (F : MHas K C m qual st)
    (hb : ∀ (kV doc pm : Value) (an : Option Addr) (cdv ct : Value) (us : List Value), us.length = ps.length → bindArgs (PySem.W.fnOf m qual (fnArgs st) (fnBody st) (fnScope st) .none kV doc pm an cdv ct) ⟨us, []⟩ = pure (ps.zip us))
    (S : FnScope N ps (fnScope st)) (len : ∀ vs H Q E, sp vs H Q E → vs.length = ps.length)
    (hbody : ∀ (f c : Addr) (A : Around) (outer : List Env) (s : Shared) (H : Hp) (vs : List V) (Q : VK) (E : XK), Room k (A.deeper (envOfC qual (fnScope st) s.heap.objs.size f (.ref c))) → sp vs H Q E →
      ∃ t, PSs (cxOf (L2.CX P w) P w K mg base N qual (fnScope st) f (.ref c) A outer s H E) (fnBody st) t ∧ t { nx := fun _ H' => Q .non H', rt := Q } (start N vs) H) : MetX P w K mg base (k + 1) C m sp := by
  obtain ⟨f, fd, c, F, me, df⟩ := F
  have b := F.fun.binds df hb
  obtain ⟨oc, od, dV, kV, doc, pm, an, ct, osl, rfl, lk, hcd⟩ := F.ex
  exact ⟨f, _, ps, cl, me, fn_of lk hcd S len fun A outer s H vs Q E hr hsp => hbody f c A outer s H vs Q E hr hsp, b⟩
end
/-- nothing is let out -/
theorem passE0 {X : Cx} : Passes (L2.CX X.prog X.w) X C8.E0 := fun _ _ _ _ _ _ _ ⟨_, _, _, _, _, _, _, _, _, _, _, _, z⟩ => z.elim
section
variable {X : Cx} {k j : Nat} {C : Addr} {x m : Str} {sp : Sp} {W : WX} {p pos apos : Pos} {e o : Expr} {es : List Expr} {ta : TE} {t : TA}
theorem pe_cX (c : CalX X.prog X.w X.K X.mg X.base k x sp) (tk : Takes X W) (hr : Room j X.A) (hk : k ≤ j) (hg : Gl X x) (ha : PA X (e :: es) t)
    (hdb : (x == ("__debug__" : Str)) = false := by decide) (he : starEach (e :: es) X.env = (false, eval e X.env) :: starEach es X.env := by rfl) (hpl : (backTo pos (starEach es X.env)).any (·.1) = false := by rfl) :
    PE X (.Call (.Name x p) (e :: es) [] pos) (tCallS sp (WE W) t) := by
  obtain ⟨f, fd, ps, F, hm, kp, b⟩ := c.ex
  exact pe_callS F (hr.mono hk) hg hm kp b (passAt tk) ha hdb he hpl
/-- where nothing is raised -/
theorem pe_cE (c : CalX X.prog X.w X.K X.mg X.base k x sp) (hr : Room j X.A) (hk : k ≤ j) (hg : Gl X x) (ha : PA X (e :: es) t)
    (hdb : (x == ("__debug__" : Str)) = false := by decide) (he : starEach (e :: es) X.env = (false, eval e X.env) :: starEach es X.env := by rfl) (hpl : (backTo pos (starEach es X.env)).any (·.1) = false := by rfl) :
    PE X (.Call (.Name x p) (e :: es) [] pos) (tCall sp [] C8.E0 t) := by
  obtain ⟨f, fd, ps, F, hm, kp, b⟩ := c.ex
  exact pe_call F (hr.mono hk) hg hm kp b .nil passE0 ha hdb he hpl
theorem pe_mtX {E : XK} {pl : Sem Bool} (c : MetX X.prog X.w X.K X.mg X.base k C m sp) (tk : Takes X (fun cls d _ H => E cls d H)) (hr : Room j X.A) (hk : k ≤ j) (he : PE X o ta) (ha : PA X (e :: es) t)
    (hst : starEach (e :: es) X.env = (false, eval e X.env) :: starEach es X.env := by rfl) (hpl : (backTo pos (starEach es X.env)).any (·.1) = false := by rfl)
    (ht : eval (.Call (.Attribute o m apos) (e :: es) [] pos) X.env = (do
      let ov ← eval o X.env
      standAt apos.atName
      let (f, first) ← holding [ov] (getMethod ov m pl)
      callWith pos f first (backTo pos (starEach (e :: es) X.env)) (backToKw pos (keywordEach [] X.env))) := by rfl) :
    PE X (.Call (.Attribute o m apos) (e :: es) [] pos) (tMeth C m sp [] E ta t) := by
  obtain ⟨f, fd, ps, hc, hm, F, b⟩ := c.ex
  exact pe_meth (pl := pl) he hc hm F (hr.mono hk) b .nil (passes_call tk fun _ _ _ _ h => h) ha hst hpl ht
theorem pe_mtX0 {E : XK} {pl : Sem Bool} (c : MetX X.prog X.w X.K X.mg X.base k C m sp) (tk : Takes X (fun cls d _ H => E cls d H)) (hr : Room j X.A) (hk : k ≤ j) (he : PE X o ta)
    (ht : eval (.Call (.Attribute o m apos) [] [] pos) X.env = (do
      let ov ← eval o X.env
      standAt apos.atName
      let (f, first) ← holding [ov] (getMethod ov m pl)
      callWith pos f first (backTo pos (starEach [] X.env)) (backToKw pos (keywordEach [] X.env))) := by rfl) :
    PE X (.Call (.Attribute o m apos) [] [] pos) (tMeth C m sp [] E ta tNil) := by
  obtain ⟨f, fd, ps, hc, hm, F, b⟩ := c.ex
  exact pe_meth0 (pl := pl) he hc hm F (hr.mono hk) b .nil (passes_call tk fun _ _ _ _ h => h) ht
end
/-! TextError -/
abbrev N_init : List Str := ["self", "why", "at", "__class__"]
abbrev P_init : List Str := ["self", "why", "at"]
abbrev F_init (st : Stmt) (c cc : Addr) : NF := NF.of st "__init__" "TextError.__init__" [("__class__", cc)] c
def spInit (C : Addr) : Sp := fun vs H Q _ => ∃ (a : Addr) (y z : V), vs = [.ref a, y, z] ∧ H a = some (exo a C none) ∧ ∀ dx, H dx = none → dx ≠ a → Q .non (upd (upd H dx (exd dx [("at", z)])) a (exo a C (some dx)))
/-- TextError, by its name -/
structure TErr (P : Program) (w : World) (K : PySem.W.Frag) (mg : Str → Option Value) (base : Heap) (C : Addr) : Prop where
  ex : ∃ (f : Addr) (fd : FuncData), OexC K C ∧ (∀ k, FnOk P w K mg base C8.CX0 (k + 1) f fd P_init (spInit C)) ∧ Binds K fd P_init [] ∧ PySem.W.findIn K (.ref C) "__init__" = some (some (.ref f)) ∧ PySem.W.typeIn K (.ref f) = some (.type "function")
  gC : mg "TextError" = some (.ref C)
/-- what stands behind the arguments of TextError(y, z) -/
def MkErr (C : Addr) (E : XK) (vs : List V) (H1 : Hp) : Prop := vs.length ≤ 1000 ∧ ∀ a, H1 a = none → spInit C (.ref a :: (vs ++ [])) (upd H1 a (exo a C none))
  (fun v H2 => v = .non ∧ ∃ (d : Addr) (fs : List (Str × V)), H2 a = some (exo a C (some d)) ∧ H2 d = some (exd d fs) ∧ H1 d = none ∧ E (.ref C) (some d) (upd (del H2 a) d (.xd fs))) (fun _ _ _ => False)
theorem mkErr {C : Addr} {E : XK} {y z : V} {H1 : Hp} (h : ∀ d, H1 d = none → E (.ref C) (some d) (upd H1 d (.xd [("at", z)]))) : MkErr C E [y, z] H1 := by
  refine ⟨Nat.le_of_ble_eq_true rfl, fun a ha => ⟨a, y, z, rfl, upd_same, fun dx n ne => ?_⟩⟩
  rw [upd_ne ne] at n
  refine ⟨rfl, dx, [("at", z)], upd_same, ?_, n, ?_⟩
  · rw [upd_ne ne, upd_same]
  · have e : upd (del (upd (upd (upd H1 a (exo a C none)) dx (exd dx [("at", z)])) a (exo a C (some dx))) a) dx (.xd [("at", z)]) = upd H1 dx (.xd [("at", z)]) := by
      funext b
      by_cases h1 : b = dx
      · rw [h1, upd_same, upd_same]
      · rw [upd_ne h1, upd_ne h1]
        by_cases h2 : b = a
        · rw [h2, del_same, ha]
        · rw [del_ne h2, upd_ne h2, upd_ne h1, upd_ne h2]
    rw [e]
    exact h dx n
/-- raise TextError(..) -/
def tErr (C : Addr) (E : XK) (ta : TA) : TS := fun _ σ H => ta σ H (MkErr C E)
section
variable {P : Program} {w : World} {K : PySem.W.Frag} {mg : Str → Option Value} {base : Heap} {C : Addr} {N : List Str} {qual : Str} {scope : Scope} {f : Addr} {cd : Value} {A : Around} {outer : List Env} {s : Shared} {H : Hp} {E : XK}
theorem ps_err {k : Nat} {e : Expr} {es : List Expr} {ta : TA} {p pos pos2 : Pos} (T : TErr P w K mg base C) (hr : Room k (cxOf (L2.CX P w) P w K mg base N qual scope f cd A outer s H E).A) (hk : 2 ≤ k)
    (hg : Gl (cxOf (L2.CX P w) P w K mg base N qual scope f cd A outer s H E) "TextError") (ha : PA (cxOf (L2.CX P w) P w K mg base N qual scope f cd A outer s H E) (e :: es) ta)
    (he : starEach (e :: es) (cxOf (L2.CX P w) P w K mg base N qual scope f cd A outer s H E).env = (false, eval e (cxOf (L2.CX P w) P w K mg base N qual scope f cd A outer s H E).env) :: starEach es (cxOf (L2.CX P w) P w K mg base N qual scope f cd A outer s H E).env := by rfl)
    (hpl : (backTo pos (starEach es (cxOf (L2.CX P w) P w K mg base N qual scope f cd A outer s H E).env)).any (·.1) = false := by rfl) :
    PS (cxOf (L2.CX P w) P w K mg base N qual scope f cd A outer s H E) (.Raise (some (.Call (.Name "TextError" p) (e :: es) [] pos)) none pos2) (tErr C E ta) := by
  obtain ⟨fi, fd, oc, F0, hb, iC, tI⟩ := T.ex
  have m := pmk_oex (p := p) (X := cxOf (L2.CX P w) P w K mg base N qual scope f cd A outer s H E) (sp := spInit C) (dvs := []) oc iC tI (F0 0) (hr.mono hk) hb .nil C8.pass0 hg T.gC ha (by decide) he hpl
  have r := ps_raise (pos := pos2) rfl (takes_of (E := E) rfl rfl rfl rfl) m
  exact r
end
theorem app_len (x y : Str) : (x ++ y).length = x.length + y.length := by
  show (x ++ y).cps.size = x.cps.size + y.cps.size
  rw [PySem.Str.cps_append, Array.size_append]
theorem int_short {i : Nat} (h : i ≤ 4001) : (PySem.Str.ofString (toString (i : Int))).length ≤ 5 := by
  rw [PySem.ofString_length]
  exact PySem.int_text_length_le10 (k := 4) (by decide) (by rw [Int.natAbs_natCast]; omega)
theorem int_log {i : Nat} (h : i ≤ 4001) : (i : Int).natAbs.log2 < 1920 := by
  rw [Int.natAbs_natCast]
  exact Nat.lt_of_le_of_lt (Nat.le_of_lt_succ (Nat.lt_succ_of_le (show i.log2 ≤ 12 from by
    by_cases z : i = 0
    · subst z; decide
    · have : i.log2 < 13 := (Nat.log2_lt z).mpr (by omega)
      omega))) (by decide)
end PX
set_option Elab.async false
set_option linter.all false
set_option maxRecDepth 100000
set_option maxHeartbeats 2000000
namespace LX
open PySem PySem.W PySem.Spec PyProof.Rows L2
/-! isinstance of a caught error that has a field: ExcIs's rule asks for an error without a dict, this one for one with -/
def rIsX (K : PySem.W.Frag) (C a : Addr) (cls : Value) (d : Option Addr) : List V → Hp → VK → Prop := fun xs H Q => ∃ (c : V) (cv : Value) (b : Bool) (dd : Addr) (fs : List (Str × V)), xs = [.ref a, c] ∧ cls = .ref C ∧ d = some dd ∧ H dd = some (.xd fs) ∧
  (∀ u, RelV c u → u = cv) ∧ PySem.W.kitOne K (.ref C) cv = some b ∧ Q (.bl b) H
theorem call_isX {X : Cx} {a C : Addr} {oe : Obj} {cls : Value} {d : Option Addr} {pn : List (Addr × Obj)} (T : ExcC X.K C) (hz : Zc cls d oe) (hf : ∃ vs, oe.data = .fields vs) :
    CallR (X.suite a ((a, oe) :: pn)) (.builtin "isinstance") (rIsX X.K C a cls d) := by
  rintro pins s σ H xs us Q I r ⟨c, cv, b, dd, fs, rfl, rfl, rfl, ed, hcv, e, q⟩
  obtain ⟨ha, _⟩ := I.pin (a, oe) (List.mem_append_left _ List.mem_cons_self)
  obtain ⟨vs, hd⟩ := hf
  obtain ⟨mA, hns, _⟩ : ObjOk X.prog X.w H s.heap dd (.xd fs) := I.hok dd _ ed
  obtain ⟨od, ho, _⟩ := lookIn_ns hns
  have J : PySem.W.InstAt s.heap a oe C (some od) := ⟨ha, hz.1, by unfold PySem.W.notCls; rw [hd] <;> rfl, by rw [hz.2]; exact ho⟩
  have hcl : (PySem.W.clsIn X.K C).isSome = true := by
    obtain ⟨cd, hc, _⟩ := PySem.W.any_some T.hd
    rw [hc]; rfl
  match us, r with
  | [_, u], .cons rx (.cons rt .nil) =>
    cases rx
    rw [hcv _ rt]
    exact PySem.W.kia_one (PySem.W.kitx_exc (od := some od) hcl T.hg T.hk T.hs T.ha T.hn T.ht T.hm) I.kIn J e (fun z => nomatch z) fun tk => ⟨.bl b, H, I.kept (t' := tk) fun _ _ z => z, rfl, q⟩
end LX
set_option Elab.async false
set_option maxRecDepth 100000
set_option maxHeartbeats 4000000
namespace PX
open PySem L2 C8 SX GX LC LG LX
/-! what the ends of texts ask of a program's state -/
theorem has_ex {K : PySem.W.Frag} {mg : Str → Option Value} {x : Str} {st : Stmt} {c : Addr} (h : Has K mg x st c) : ∃ c, Has K mg x st c := ⟨c, h⟩
theorem rel_str {z : Str} {g : List Nat} {t : Tok} (h : z = S g) : RelV (.str (S g)) (.str z t) := ⟨t, by rw [h]⟩
theorem signs_mk {K : PySem.W.Frag} {aS : Addr} {dd : Option Addr} {its : Array Value} {n : Nat} {sl : Array (Option Value)} {gs : List (List Nat)} (l : K.lookup aS = some ⟨.type "tuple", dd, .seq its n, sl⟩) (hs : its.size ≤ sizeLine) (hv : Vals (gs.map fun g => V.str (S g)) its.toList) :
    ∀ H, SqT K H aS (gs.map fun g => V.str (S g)) := fun _ => .inr ⟨_, its, n, l, rfl, rfl, hs, hv⟩
theorem noattr_mk {K : PySem.W.Frag} {C : Addr} {f : Str} (a : PySem.W.findIn K (.ref C) f = some none) : NoAttr K C f := a
section
variable {K : PySem.W.Frag} {h : Heap} {mg : Str → Option Value} {x : Str} {C : Addr} {i : Int} {t : Tok}
theorem int_mk (X : K.In h) (G : h.Ns mainGlobals mg) (a : PySem.W.nsIn K mainGlobals x = some (some (.int i t))) : ∃ u, mg x = some u ∧ RelV (.int i) u := ⟨_, PySem.W.mg_of X G a, _, rfl⟩
theorem ref_mk (X : K.In h) (G : h.Ns mainGlobals mg) (a : PySem.W.nsIn K mainGlobals x = some (some (.ref C))) : ∃ u, mg x = some u ∧ RelV (.ref C) u := ⟨_, PySem.W.mg_of X G a, rfl⟩
theorem hasc_mk (X : K.In h) (G : h.Ns mainGlobals mg) (a : PySem.W.nsIn K mainGlobals x = some (some (.ref C))) (p : PySem.W.plainGet K C Str.empty = true) (hd : PySem.W.hasDictIn K C = true) (o : PySem.W.plainOver K C = true)
    (s : PySem.W.findIn K (.ref C) "__setattr__" = some (some (.builtin "object.__setattr__"))) (m : PySem.W.makesIn K C = true) (k : PySem.W.keepIn K (.ref C) = true) : HasC K mg x C := ⟨⟨p, hd, o, s⟩, m, k, PySem.W.mg_of X G a⟩
end
theorem xfc_mk {K : PySem.W.Frag} {C : Addr} (a : PySem.W.findIn K (.ref C) "__getattribute__" = some (some (.builtin "BaseException.__getattribute__"))) (b : PySem.W.findIn K (.ref C) "__getattr__" = some none) (c : PySem.W.subIn K (.ref C) (.type "BaseException") = some true) (d : PySem.W.hasDictIn K C = true) : XfC K C := ⟨a, b, c, d⟩
theorem exm_mk {K : PySem.W.Frag} {C : Addr} (a : PySem.W.subIn K (.ref C) (.type "BaseException") = some true) (b : PySem.W.hasDictIn K C = true) (c : PySem.W.typeIn K (.ref C) = some (.type "type")) (d : PySem.W.subIn K (.ref C) (.ref C) = some true) : PySem.W.exmOne K (.ref C) (.ref C) = some true := PySem.W.exm_ref a b c d
theorem fng_of {P : Program} {w : World} {K : PySem.W.Frag} {mg : Str → Option Value} {base : Heap} {k : Nat} {f : Addr} {fd : FuncData} {ps : List Str} {sp : Sp} (F : FnOk P w K mg base C8.CX0 k f fd ps sp) : FnG P w K mg base k f fd ps sp := ⟨fun {A fr s H as us vs Q E} _ hr e0 r hb h => F.2 A fr s H as us vs Q E hr e0 hb r h⟩
end PX
set_option Elab.async false
set_option linter.all false
set_option maxRecDepth 100000
set_option maxHeartbeats 2000000
namespace LC
open PySem PySem.Spec PyProof.Rows L2 C8 GX
/-! d.setdefault(k, x) -/
section
variable {X : Cx} {pins : List (Addr × Obj)} {σ : L2.St} {H : Hp} {s : Shared} {a : Addr} {kvs : List (Key × V)} {k : Key} {u r : Value} {z : V} {A : Around} {E : Value → Shared → Prop}
theorem d_setdef {Q : Value → Shared → Prop} (I : Inv X pins σ H s) (e : H a = some (.dK kvs)) (ry : RelV (kV k) u) (rz : RelV z r) (hlt : kvs.length < sizeLine)
    (h1 : ∀ v w' s', valV kvs k = some v → Inv X pins σ H s' → RelV v w' → Q w' s') (h2 : ∀ s', valV kvs k = none → Inv X pins σ (upd H a (.dK (putK kvs k z))) s' → Q r s') :
    wpAny (model X.prog X.w) A (call (.builtin "dict.setdefault") [.ref a, u, r]) Q E s := by
  obtain ⟨zl, hd, vs, rel, dd⟩ := dk_of I.hok e
  have hz : vs.length ≤ sizeLine := by rw [← rel.length]; exact zl
  have hl : (putK kvs k z).length ≤ sizeLine := by have := length_putK kvs k z; omega
  refine call_meetsIn PySem.F.slot_dict_setdefault dd.typeIs PySem.F.entry_dict_setdefault (PySem.F.args_dict_setdefault_3 _ _ _) (kt_meets_setdefault (mixKind X.prog X.w) a (kV_is ry) hd r) ⟨vs, dd, hz, fun v hv => ?_, fun hn h' dd' hs => ?_⟩
  · cases l : valV kvs k with
    | none =>
      have hn : valueAt vs k = none := RelO.none_of (by rw [← l]; exact rel.val k)
      rw [hn] at hv; cases hv
    | some x =>
      obtain ⟨w', hw, rw'⟩ := RelO.some_of (v := x) (o := valueAt vs k) (by rw [← l]; exact rel.val k)
      rw [hw] at hv; cases hv
      exact h1 x _ _ l (I.tok _) rw'
  · have l : valV kvs k = none := by
      cases l : valV kvs k with
      | none => rfl
      | some x =>
        obtain ⟨w', hw, _⟩ := RelO.some_of (v := x) (o := valueAt vs k) (by rw [← l]; exact rel.val k)
        rw [hw] at hn; cases hn
    refine h2 _ l ?_
    have he : ∃ q, h'.get? a = some q := let ⟨q, _, _, hq, _⟩ := dd'; ⟨q, hq⟩
    exact d_write I (by rw [e]; exact True.intro) hs he (dk_new hl hd (rel.put k rz) dd')
end
def tDSet (td ty tx : TE) : TE := fun σ H Q => td σ H fun x H1 => ∃ a, x = .ref a ∧ IsD H1 a ∧ ty σ H1 fun y H2 => tx σ H2 fun z H3 => ∃ kvs k, H3 a = some (.dK kvs) ∧ y = kV k ∧ kvs.length < sizeLine ∧ (∀ v, valV kvs k = some v → Q v H3) ∧ (valV kvs k = none → Q z (upd H3 a (.dK (putK kvs k z))))
theorem pe_dsetdef {X : Cx} {o e f : Expr} {apos cpos : Pos} {td ty tx : TE} (ho : PE X o td) (he : PE X e ty) (hf : PE X f tx) (m : M2 X o "setdefault" apos e f cpos) : PE X (.Call (.Attribute o "setdefault" apos) [e, f] [] cpos) (tDSet td ty tx) := by
  refine ⟨fun pins s σ H Q I h => ?_⟩
  refine wpAny_Call_method m.base m.few m.line PySem.F.plainAttrs_dict PySem.F.slot_dict_setdefault PySem.F.type_dict_setdefault (thn (ho.run pins s σ H _ I h) fun u s1 ⟨x, H1, I1, rx, a, ex, d, q1⟩ => ?_)
  subst ex
  obtain rfl : u = Value.ref a := rx
  obtain ⟨t1, t2, _⟩ := isD_at I1 d
  refine ⟨t1, t2, ?_⟩
  rw [m.trees]
  refine Calls.callWith_builtin rfl (Calls.evalArgs_plain (Calls.spliced_cons (thn (he.run pins s1 σ H1 _ I1 q1) fun iv s2 ⟨y, H2, I2, ry, q2⟩ =>
    Calls.spliced_cons (thn (hf.run pins s2 σ H2 _ I2 q2) fun fv s3 ⟨z, H3, I3, rz, kvs, k, ea, ey, hlt, q3, q4⟩ => Calls.spliced_nil ?_))))
  subst ey
  exact d_setdef I3 ea ry rz hlt (fun v w' s4 l I4 rw' => ⟨v, _, I4, rw', q3 v l⟩) fun s4 l I4 => ⟨z, _, I4, rz, q4 l⟩
theorem u1 {X : Cx} (h : X.A.units + 64 < cLine) : X.A.units + 1 < cLine := by omega
/-- the key of an atom -/
abbrev kN (a : Nat) : Key := .inl (a : Int)
theorem kN_inj {a b : Nat} (h : kN a = kN b) : a = b := by
  have := Sum.inl.inj h
  omega
theorem val_some {kvs : List (Key × V)} {k : Key} : (valV kvs k).isSome = true ↔ k ∈ kvs.map (·.1) := by
  rw [← valV_any, List.any_eq_true]
  constructor
  · rintro ⟨x, hx, e⟩
    exact List.mem_map.mpr ⟨x, hx, of_decide_eq_true e⟩
  · intro h
    obtain ⟨x, hx, e⟩ := List.mem_map.mp h
    exact ⟨x, hx, decide_eq_true e⟩
/-- a dict whose keys are these atoms -/
def KeysAt (H : Hp) (d : Addr) (cs : List Nat) : Prop := ∃ kvs : List (Key × V), H d = some (.dK kvs) ∧ ∀ a, (valV kvs (kN a)).isSome = decide (a ∈ cs)
theorem keys_val {kvs : List (Key × V)} {cs : List Nat} (hk : kvs.map (·.1) = cs.map kN) (a : Nat) : (valV kvs (kN a)).isSome = decide (a ∈ cs) := by
  have h1 : (valV kvs (kN a)).isSome = true ↔ a ∈ cs := by
    rw [val_some, hk, List.mem_map]
    exact ⟨fun ⟨x, hx, z⟩ => by rw [← kN_inj z]; exact hx, fun z => ⟨a, z, rfl⟩⟩
  by_cases hm : a ∈ cs
  · rw [decide_eq_true hm]; exact h1.mpr hm
  · rw [decide_eq_false hm]
    exact Bool.eq_false_iff.mpr fun z => hm (h1.mp z)
theorem keysAt_of {H : Hp} {d : Addr} {kvs : List (Key × V)} {cs : List Nat} (e : H d = some (.dK kvs)) (hk : kvs.map (·.1) = cs.map kN) : KeysAt H d cs := ⟨kvs, e, keys_val hk⟩
theorem KeysAt.get {H : Hp} {d : Addr} {cs : List Nat} (h : KeysAt H d cs) (a : Nat) : ∃ o, DGet H d (.int (a : Int)) o ∧ o.isSome = decide (a ∈ cs) := by
  obtain ⟨kvs, e, hk⟩ := h
  exact ⟨_, DGet.k (k := kN a) e, hk a⟩
def DctL (M : Vol) (H : Hp) (d : Addr) (cs : List Nat) : Prop := ¬ M d ∧ KeysAt H d cs
theorem DctL.kx {M : Vol} {H H' : Hp} {d : Addr} {cs : List Nat} (h : DctL M H d cs) (k : Kx M H H') : DctL M H' d cs := by
  obtain ⟨n, kvs, e, hk⟩ := h
  exact ⟨n, kvs, k.keep _ _ n e, hk⟩
theorem keys_put {kvs : List (Key × V)} {k : Key} {v : V} (h : k ∉ kvs.map (·.1)) : (putK kvs k v).map (·.1) = kvs.map (·.1) ++ [k] := by
  rw [putK_new v (by
    cases e : valV kvs k with
    | none => rfl
    | some x => exact absurd (val_some.mp (by rw [e]; rfl)) h), List.map_append]; rfl
theorem keys_same {kvs : List (Key × V)} {k : Key} {v : V} (h : k ∈ kvs.map (·.1)) : (putK kvs k v).map (·.1) = kvs.map (·.1) := by
  unfold putK
  rw [if_pos (by rw [valV_any]; exact val_some.mpr h), List.map_map]
  refine List.map_congr_left fun x _ => ?_
  show (if x.1 = k then (x.1, v) else x).1 = x.1
  split <;> rfl
/-- a dict comprehension whose keys are atoms and whose values are True -/
theorem dc_atoms {ts : Tbs} {st ca D : Addr} {M : Vol} {H : Hp} {xs : List Nat} {f : Nat → V} {g : TG} {vs : List Nat} {σ : L2.St} {Qd : Hp → Prop} {J : It} {Gd : Hp → Prop} {Y : Nat → Hp → V → Hp → Prop} {tt : TT} {tk tv : TE}
    (W : L2.Walk J xs.length Gd Y) (hG : ∀ H', Ky ts st ca H H' → Gd H') (hY : ∀ i H1 x H2, i < xs.length → Y i H1 x H2 → H2 = H1 ∧ (xs.map f)[i]? = some x) (w : Wd ts st ca M H) (hD : H D = none) (hl : xs.length < sizeLine)
    (step : ∀ x ∈ xs, ∀ (H1 : Hp) (kvs : List (Key × V)) (N : Hp → Prop), H1 D = some (.dK kvs) → kvs.length < sizeLine → N (upd H1 D (.dK (putK kvs (kN x) (.bl true)))) →
      g (f x) (wipe σ vs) H1 fun σ2 H2 => wipe σ2 vs = wipe σ vs ∧ tt σ2 H2 fun b H3 => if b = true then tk σ2 H3 fun y H4 => tv σ2 H4 fun z H5 => ∃ kvs k, y = kV k ∧ H5 D = some (.dK kvs) ∧ kvs.length < sizeLine ∧ N (upd H5 D (.dK (putK kvs k z))) else N H3)
    (k : ∀ (H1 : Hp) (kvs : List (Key × V)) (ds : List Nat), Wd ts st ca M H1 → Ky ts st ca H H1 → ¬ M D → H1 D = some (.dK kvs) → kvs.map (·.1) = ds.map kN → (∀ a, a ∈ ds ↔ a ∈ xs) → ds.length ≤ xs.length → Qd H1) :
    ∃ W : Nat → Nat → Hp → Prop, (∃ m, W 0 m (upd H D (.dK []))) ∧ ∀ i m H, W i m H →
      (J.stop i H ∧ Qd H) ∨ (J.go i H ∧ ∃ Nx : Hp → Prop, (∀ H', Nx H' → ∃ m', m' < m ∧ W (i + 1) m' H') ∧ ∀ x H', J.yld i H x H' → g x (wipe σ vs) H' fun σ2 H2 => wipe σ2 vs = wipe σ vs ∧ tt σ2 H2 fun b H3 =>
        if b = true then tk σ2 H3 fun y H4 => tv σ2 H4 fun z H5 => ∃ kvs k, y = kV k ∧ H5 D = some (.dK kvs) ∧ kvs.length < sizeLine ∧ Nx (upd H5 D (.dK (putK kvs k z))) else Nx H3) := by
  have nM := w.fresh hD
  have nL := w.nl nM
  let Pv : Nat → Hp → Prop := fun i H1 => Wd ts st ca M H1 ∧ Ky ts st ca H H1 ∧ ∃ (kvs : List (Key × V)) (ds : List Nat), H1 D = some (.dK kvs) ∧ kvs.map (·.1) = ds.map kN ∧ (∀ a, a ∈ ds ↔ a ∈ xs.take i) ∧ ds.length ≤ i
  refine ⟨fun i m H1 => m = xs.length - i ∧ i ≤ xs.length ∧ Pv i H1, ⟨xs.length, by simp, Nat.zero_le _, w.new hD, Kx.new hD, [], [], upd_same, rfl, by simp, Nat.zero_le _⟩, ?_⟩
  rintro i m H1 ⟨rfl, hi, w1, k1, kvs, ds, e1, e2, e3, e4⟩
  have q := hG H1 k1
  by_cases hlt : i < xs.length
  · refine .inr ⟨W.goes i H1 hlt q, Pv (i + 1), fun H' p' => ⟨xs.length - (i + 1), by omega, rfl, hlt, p'⟩, fun x H' y => ?_⟩
    obtain ⟨rfl, hx⟩ := hY i H1 x H' hlt (W.yields i H1 x H' hlt q y)
    rw [List.getElem?_map] at hx
    obtain ⟨z, hz, rfl⟩ := Option.map_eq_some_iff.mp hx
    have hlen : kvs.length = ds.length := by
      have := congrArg List.length e2
      rwa [List.length_map, List.length_map] at this
    refine step z (List.mem_of_getElem? hz) H' kvs (Pv (i + 1)) e1 (by omega) ?_
    refine ⟨w1.wr nL e1, ⟨fun b o nb e t => ?_, fun b o e => ?_⟩, ?_⟩
    · rw [upd_ne (ne_of_none e hD)]; exact k1.keep b o nb e t
    · obtain ⟨u, e⟩ := k1.alive b o e
      exact alive_upd e
    · have tk : xs.take (i + 1) = xs.take i ++ [z] := by rw [List.take_add_one, hz]; rfl
      by_cases hm : z ∈ ds
      · refine ⟨_, ds, upd_same, ?_, fun a => ?_, by omega⟩
        · rw [keys_same (by rw [e2]; exact List.mem_map.mpr ⟨z, hm, rfl⟩), e2]
        · rw [tk, List.mem_append, ← e3 a, List.mem_singleton]
          exact ⟨.inl, fun h => h.elim id fun h => by rw [h]; exact hm⟩
      · refine ⟨_, ds ++ [z], upd_same, ?_, fun a => ?_, by rw [List.length_append, List.length_singleton]; omega⟩
        · rw [keys_put (fun h => by
            rw [e2] at h
            obtain ⟨a, ha, ea⟩ := List.mem_map.mp h
            rw [kN_inj ea] at ha
            exact hm ha), e2, List.map_append]; rfl
        · rw [tk, List.mem_append, List.mem_append, e3 a]
  · have e : i = xs.length := by omega
    subst e
    rw [List.take_length] at e3
    exact .inl ⟨W.stops H1 q, k H1 kvs ds w1 k1 nM e1 e2 e3 e4⟩
end LC
set_option Elab.async false
set_option maxRecDepth 100000
set_option maxHeartbeats 2000000
namespace SP
open PySem PySem.Spec PyProof.Rows L2 C8 GX LC
/-! rows, conditions, assignments: the data and the mathematics -/
structure Row where
  w : Int
  yes : List Nat
  no : List Nat
inductive Cond where
  | yes (a : Nat) | no (a : Nat) | least (k : Int) (rows : List Row) | below (k : Int) (rows : List Row)
def vN (n : Nat) : V := .int n
structure Row.Ok (n : Nat) (r : Row) : Prop where
  w0 : 0 ≤ r.w
  w1 : r.w ≤ 1000
  ys : ∀ a ∈ r.yes, a < n
  ns : ∀ a ∈ r.no, a < n
  yl : r.yes.length ≤ 100
  nl : r.no.length ≤ 100
def Cond.Ok (n : Nat) : Cond → Prop
  | .yes a => a < n
  | .no a => a < n
  | .least _ rows => rows.length ≤ 100 ∧ ∀ r ∈ rows, r.Ok n
  | .below _ rows => rows.length ≤ 100 ∧ ∀ r ∈ rows, r.Ok n
def RowAt (K : PySem.W.Frag) (M : Vol) (r : Row) (v : V) (H : Hp) : Prop := ∃ a y n, v = .ref a ∧ TupL K M H a [.int r.w, .ref y, .ref n] ∧ TupL K M H y (r.yes.map vN) ∧ TupL K M H n (r.no.map vN)
def RowsAt (K : PySem.W.Frag) (M : Vol) (rows : List Row) (q : Addr) (H : Hp) : Prop := ∃ zs : List (Row × V), LstL K M H q (zs.map Prod.snd) ∧ zs.map Prod.fst = rows ∧ ∀ z ∈ zs, RowAt K M z.1 z.2 H
def CondAt (K : PySem.W.Frag) (M : Vol) (c : Cond) (v : V) (H : Hp) : Prop := match c with
  | .yes a => ∃ p, v = .ref p ∧ TupL K M H p [.str "yes", .int a]
  | .no a => ∃ p, v = .ref p ∧ TupL K M H p [.str "no", .int a]
  | .least k rows => ∃ p q, v = .ref p ∧ TupL K M H p [.str "least", .int k, .ref q] ∧ RowsAt K M rows q H
  | .below k rows => ∃ p q, v = .ref p ∧ TupL K M H p [.str "below", .int k, .ref q] ∧ RowsAt K M rows q H
section
variable {K : PySem.W.Frag} {M M' : Vol} {A B : Hp}
theorem RowAt.kx {r : Row} {v : V} (h : RowAt K M r v A) (k : Kx M A B) : RowAt K M r v B := by
  obtain ⟨a, y, n, e, h1, h2, h3⟩ := h
  exact ⟨a, y, n, e, h1.kx k, h2.kx k, h3.kx k⟩
theorem RowAt.anti {r : Row} {v : V} (h : RowAt K M' r v A) (i : ∀ b, M b → M' b) : RowAt K M r v A := by
  obtain ⟨a, y, n, e, h1, h2, h3⟩ := h
  exact ⟨a, y, n, e, h1.anti i, h2.anti i, h3.anti i⟩
theorem RowsAt.kx {rs : List Row} {q : Addr} (h : RowsAt K M rs q A) (k : Kx M A B) : RowsAt K M rs q B := by
  obtain ⟨zs, h1, h2, h3⟩ := h
  exact ⟨zs, h1.kx k, h2, fun z hz => (h3 z hz).kx k⟩
theorem RowsAt.anti {rs : List Row} {q : Addr} (h : RowsAt K M' rs q A) (i : ∀ b, M b → M' b) : RowsAt K M rs q A := by
  obtain ⟨zs, h1, h2, h3⟩ := h
  exact ⟨zs, h1.anti i, h2, fun z hz => (h3 z hz).anti i⟩
theorem CondAt.kx {c : Cond} {v : V} (h : CondAt K M c v A) (k : Kx M A B) : CondAt K M c v B := by
  cases c with
  | yes a => obtain ⟨p, e, h1⟩ := h; exact ⟨p, e, h1.kx k⟩
  | no a => obtain ⟨p, e, h1⟩ := h; exact ⟨p, e, h1.kx k⟩
  | least a rs => obtain ⟨p, q, e, h1, h2⟩ := h; exact ⟨p, q, e, h1.kx k, h2.kx k⟩
  | below a rs => obtain ⟨p, q, e, h1, h2⟩ := h; exact ⟨p, q, e, h1.kx k, h2.kx k⟩
theorem CondAt.anti {c : Cond} {v : V} (h : CondAt K M' c v A) (i : ∀ b, M b → M' b) : CondAt K M c v A := by
  cases c with
  | yes a => obtain ⟨p, e, h1⟩ := h; exact ⟨p, e, h1.anti i⟩
  | no a => obtain ⟨p, e, h1⟩ := h; exact ⟨p, e, h1.anti i⟩
  | least a rs => obtain ⟨p, q, e, h1, h2⟩ := h; exact ⟨p, q, e, h1.anti i, h2.anti i⟩
  | below a rs => obtain ⟨p, q, e, h1, h2⟩ := h; exact ⟨p, q, e, h1.anti i, h2.anti i⟩
theorem zipP {α : Type} {F : α → V → Prop} : ∀ {xs : List α} {vs : List V}, Paired F xs vs → ∃ zs : List (α × V), zs.map Prod.fst = xs ∧ zs.map Prod.snd = vs ∧ ∀ z ∈ zs, F z.1 z.2
  | _, _, .nil => ⟨[], rfl, rfl, fun z h => by cases h⟩
  | _, _, .cons (a := a) (b := b) r t => by
    obtain ⟨zs, h1, h2, h3⟩ := zipP t
    refine ⟨(a, b) :: zs, by rw [List.map_cons, h1], by rw [List.map_cons, h2], fun z hz => ?_⟩
    rcases List.mem_cons.mp hz with e | e
    · rw [e]; exact r
    · exact h3 z e
end
/-! the mathematics -/
abbrev Vls := List (Option Bool)
def gv (vals : Vls) (a : Nat) : Option Bool := vals.getD a none
def sc (vals : Vls) (r : Row) : Bool := r.yes.all (fun a => decide (gv vals a = some true)) && r.no.all fun a => decide (gv vals a = some false)
def mc (vals : Vls) (r : Row) : Bool := r.yes.all (fun a => !decide (gv vals a = some false)) && r.no.all fun a => !decide (gv vals a = some true)
def sW (vals : Vls) (rows : List Row) : Int := sumOf (sc vals) Row.w rows
def gW (vals : Vls) (rows : List Row) : Int := sumOf (mc vals) Row.w rows
def sh (vals : Vls) : Cond → Bool
  | .yes a => decide (gv vals a = some true)
  | .no a => decide (gv vals a = some false)
  | .least k rows => decide (k ≤ sW vals rows)
  | .below k rows => decide (gW vals rows < k)
def sf (vals : Vls) : Cond → Bool
  | .yes a => decide (gv vals a = some false)
  | .no a => decide (gv vals a = some true)
  | .least k rows => decide (gW vals rows < k)
  | .below k rows => decide (k ≤ sW vals rows)
/-- a row counts with its yes atoms among ys, its no atoms outside cand -/
def rc (ys cand : List Nat) (r : Row) : Bool := r.yes.all (fun a => decide (a ∈ ys)) && r.no.all fun a => !decide (a ∈ cand)
def wt (ys cand : List Nat) (rows : List Row) : Int := sumOf (rc ys cand) Row.w rows
def met (ys cand : List Nat) : Cond → Bool
  | .yes a => decide (a ∈ ys)
  | .no a => !decide (a ∈ cand)
  | .least k rows => decide (k ≤ wt ys cand rows)
  | .below k rows => decide (wt cand cand rows < k)
def agrees (cand : List Nat) (vals : Vls) : Prop := ∀ a b, gv vals a = some b → decide (a ∈ cand) = b
theorem sumOf_mono {f g : Row → Bool} : ∀ {rows : List Row}, (∀ r ∈ rows, 0 ≤ r.w) → (∀ r ∈ rows, f r = true → g r = true) → sumOf f Row.w rows ≤ sumOf g Row.w rows
  | [], _, _ => Int.le_refl _
  | r :: rs, h0, h => by
    have ih := sumOf_mono (f := f) (g := g) (rows := rs) (fun x hx => h0 x (List.mem_cons_of_mem _ hx)) fun x hx => h x (List.mem_cons_of_mem _ hx)
    have h1 := h0 r List.mem_cons_self
    have h2 := h r List.mem_cons_self
    unfold sumOf at ih ⊢
    simp only [List.filter_cons]
    cases hf : f r
    · cases hg : g r
      · simpa using ih
      · simp only [Bool.false_eq_true, if_false, if_true, List.map_cons, List.sum_cons]; omega
    · rw [h2 hf]
      simp only [if_true, List.map_cons, List.sum_cons]; omega
theorem sc_rc {vals : Vls} {cand : List Nat} (ag : agrees cand vals) {r : Row} (h : sc vals r = true) : rc cand cand r = true := by
  unfold sc at h; unfold rc
  rw [Bool.and_eq_true, List.all_eq_true, List.all_eq_true] at h ⊢
  refine ⟨fun a ha => ?_, fun a ha => ?_⟩
  · have := h.1 a ha; rw [decide_eq_true_eq] at this
    exact ag a _ this
  · have := h.2 a ha; rw [decide_eq_true_eq] at this
    rw [ag a _ this]; rfl
theorem rc_mc {vals : Vls} {cand : List Nat} (ag : agrees cand vals) {r : Row} (h : rc cand cand r = true) : mc vals r = true := by
  unfold rc at h; unfold mc
  rw [Bool.and_eq_true, List.all_eq_true, List.all_eq_true] at h ⊢
  refine ⟨fun a ha => ?_, fun a ha => ?_⟩
  · have := h.1 a ha
    rw [Bool.not_eq_true', decide_eq_false_iff_not]
    intro z
    rw [ag a _ z] at this; cases this
  · have := h.2 a ha
    rw [Bool.not_eq_true', decide_eq_false_iff_not]
    intro z
    rw [ag a _ z] at this; cases this
theorem sh_met {vals : Vls} {cand : List Nat} {n : Nat} (ag : agrees cand vals) {c : Cond} (ok : c.Ok n) (h : sh vals c = true) : met cand cand c = true := by
  cases c with
  | yes a => simp only [sh, decide_eq_true_eq] at h; simp only [met]; exact ag a _ h
  | no a => simp only [sh, decide_eq_true_eq] at h; simp only [met]; rw [ag a _ h]; rfl
  | least k rows =>
    simp only [sh, decide_eq_true_eq] at h; simp only [met]; rw [decide_eq_true_eq]
    exact Int.le_trans h (sumOf_mono (fun r hr => (ok.2 r hr).w0) fun r _ => sc_rc ag)
  | below k rows =>
    simp only [sh, decide_eq_true_eq] at h; simp only [met]; rw [decide_eq_true_eq]
    exact Int.lt_of_le_of_lt (sumOf_mono (fun r hr => (ok.2 r hr).w0) fun r _ => rc_mc ag) h
theorem sf_met {vals : Vls} {cand : List Nat} {n : Nat} (ag : agrees cand vals) {c : Cond} (ok : c.Ok n) (h : sf vals c = true) : met cand cand c = false := by
  cases c with
  | yes a => simp only [sf, decide_eq_true_eq] at h; simp only [met]; exact ag a _ h
  | no a => simp only [sf, decide_eq_true_eq] at h; simp only [met]; rw [ag a _ h]; rfl
  | least k rows =>
    simp only [sf, decide_eq_true_eq] at h; simp only [met]; rw [decide_eq_false_iff_not, Int.not_le]
    exact Int.lt_of_le_of_lt (sumOf_mono (fun r hr => (ok.2 r hr).w0) fun r _ => rc_mc ag) h
  | below k rows =>
    simp only [sf, decide_eq_true_eq] at h; simp only [met]; rw [decide_eq_false_iff_not, Int.not_lt]
    exact Int.le_trans h (sumOf_mono (fun r hr => (ok.2 r hr).w0) fun r _ => sc_rc ag)
theorem gv_some {vals : Vls} (h : none ∉ vals) {a : Nat} (ha : a < vals.length) : ∃ b, gv vals a = some b := by
  unfold gv
  rw [List.getD_eq_getElem?_getD, List.getElem?_eq_getElem ha, Option.getD_some]
  cases e : vals[a] with
  | none => exact absurd (by rw [← e]; exact List.getElem_mem ha) h
  | some b => exact ⟨b, rfl⟩
theorem all_congr {α : Type} {f g : α → Bool} : ∀ {xs : List α}, (∀ x ∈ xs, f x = g x) → xs.all f = xs.all g
  | [], _ => rfl
  | x :: r, h => by
    rw [List.all_cons, List.all_cons, h x List.mem_cons_self, all_congr fun y hy => h y (List.mem_cons_of_mem _ hy)]
theorem filter_eq {α : Type} {f g : α → Bool} : ∀ {xs : List α}, (∀ x ∈ xs, f x = g x) → xs.filter f = xs.filter g
  | [], _ => rfl
  | x :: r, h => by
    simp only [List.filter_cons, h x List.mem_cons_self, filter_eq fun y hy => h y (List.mem_cons_of_mem _ hy)]
theorem sc_mc {vals : Vls} (h : none ∉ vals) {r : Row} (ok : r.Ok vals.length) : sc vals r = mc vals r := by
  unfold sc mc
  congr 1
  · refine all_congr fun a ha => ?_
    obtain ⟨b, e⟩ := gv_some h (ok.ys a ha)
    rw [e]; cases b <;> rfl
  · refine all_congr fun a ha => ?_
    obtain ⟨b, e⟩ := gv_some h (ok.ns a ha)
    rw [e]; cases b <;> rfl
theorem sh_sf {vals : Vls} (h : none ∉ vals) {c : Cond} (ok : c.Ok vals.length) : sh vals c = !sf vals c := by
  have key : ∀ rows : List Row, (∀ r ∈ rows, r.Ok vals.length) → sW vals rows = gW vals rows := fun rows hr => by
    unfold sW gW sumOf
    rw [filter_eq fun r hr' => sc_mc h (hr r hr')]
  cases c with
  | yes a => obtain ⟨b, e⟩ := gv_some h ok; simp only [sh, sf]; rw [e]; cases b <;> rfl
  | no a => obtain ⟨b, e⟩ := gv_some h ok; simp only [sh, sf]; rw [e]; cases b <;> rfl
  | least k rows =>
    simp only [sh, sf]; rw [key rows ok.2]
    by_cases z : k ≤ gW vals rows
    · rw [decide_eq_true z, decide_eq_false (by omega)]; rfl
    · rw [decide_eq_false z, decide_eq_true (by omega)]; rfl
  | below k rows =>
    simp only [sh, sf]; rw [key rows ok.2]
    by_cases z : k ≤ gW vals rows
    · rw [decide_eq_true z, decide_eq_false (by omega)]; rfl
    · rw [decide_eq_false z, decide_eq_true (by omega)]; rfl
end SP
namespace SP
open PySem PySem.Spec PyProof.Rows L2 C8 GX LC
theorem sumOf_fst {f : Row → Bool} : ∀ {zs : List (Row × V)}, sumOf (fun z : Row × V => f z.1) (fun z => z.1.w) zs = sumOf f Row.w (zs.map Prod.fst)
  | [] => rfl
  | z :: r => by
    have ih := sumOf_fst (f := f) (zs := r)
    unfold sumOf at ih ⊢
    simp only [List.map_cons, List.filter_cons]
    cases f z.1 <;> simp [ih]
theorem at0' {α : Type} {x : α} {r : List α} : atI (x :: r) 0 = some x := atI_nat (j := 0) rfl
theorem at1' {α : Type} {x y : α} {r : List α} : atI (x :: y :: r) 1 = some y := atI_nat (j := 1) rfl
theorem at2' {α : Type} {x y z : α} {r : List α} : atI (x :: y :: z :: r) 2 = some z := atI_nat (j := 2) rfl
theorem str_eq (x y : Str) : decide (V.str x = V.str y) = decide (x = y) := by
  by_cases h : x = y
  · rw [h]; simp
  · rw [decide_eq_false h, decide_eq_false (fun z => h (V.str.inj z))]
end SP
namespace SP
open PySem PySem.Spec PyProof.Rows L2 C8 GX LC
theorem in_vN {a : Nat} : ∀ {ys : List Nat}, inV (.int (a : Int)) (ys.map vN) = decide (a ∈ ys)
  | [] => rfl
  | y :: r => by
    have ih := in_vN (a := a) (ys := r)
    unfold inV at ih ⊢
    rw [List.map_cons, List.any_cons, ih]
    have e : eqV (vN y) (.int (a : Int)) = decide (a = y) := by
      show ((y : Int) == (a : Int)) = decide (a = y)
      by_cases h : a = y
      · subst h; simp
      · rw [decide_eq_false h, beq_eq_false_iff_ne]; omega
    rw [e]
    by_cases h : a = y
    · subst h; simp
    · simp [h]
theorem flat_vN : ∀ {ys : List Nat}, (ys.map vN).all flatV = true
  | [] => rfl
  | y :: r => by rw [List.map_cons, List.all_cons, flat_vN]; rfl
end SP
namespace SP
open PySem PySem.Spec PyProof.Rows L2 C8 GX LC
theorem chooseP {α β : Type} {F : β → V → Prop} : ∀ {xs : List α} {ys : List V}, Paired (fun _ y => ∃ b, F b y) xs ys → ∃ zs : List (β × V), zs.map Prod.snd = ys ∧ zs.length = xs.length ∧ ∀ z ∈ zs, F z.1 z.2
  | _, _, .nil => ⟨[], rfl, rfl, fun z h => by cases h⟩
  | _, _, .cons (b := y) ⟨b, r⟩ t => by
    obtain ⟨zs, h1, h2, h3⟩ := chooseP t
    refine ⟨(b, y) :: zs, by rw [List.map_cons, h1], by rw [List.length_cons, h2, List.length_cons], fun z hz => ?_⟩
    rcases List.mem_cons.mp hz with e | e
    · rw [e]; exact r
    · exact h3 z e
/-- the candidates of the law, in its order -/
def candsOf : Nat → List (List Nat)
  | 0 => [[]]
  | k + 1 => candsOf k ++ (candsOf k).map (· ++ [k])
theorem candsOf_len : ∀ n, (candsOf n).length = 2 ^ n
  | 0 => rfl
  | k + 1 => by rw [candsOf, List.length_append, List.length_map, candsOf_len k]; omega
theorem candsOf_le : ∀ n, ∀ c ∈ candsOf n, c.length ≤ n ∧ ∀ a ∈ c, a < n
  | 0, c, h => by
    have e : c = [] := by simpa [candsOf] using h
    subst e; simp
  | k + 1, c, h => by
    rw [candsOf, List.mem_append] at h
    rcases h with h | h
    · obtain ⟨h1, h2⟩ := candsOf_le k c h
      exact ⟨by omega, fun a ha => by have := h2 a ha; omega⟩
    · obtain ⟨c', h1, rfl⟩ := List.mem_map.mp h
      obtain ⟨h2, h3⟩ := candsOf_le k c' h1
      refine ⟨by rw [List.length_append]; simp; omega, fun a ha => ?_⟩
      rcases List.mem_append.mp ha with z | z
      · have := h3 a z; omega
      · rw [List.mem_singleton.mp z]; omega
/-- a list of candidates at q, each a list of its own -/
def CandsAt (M : Vol) (cs : List (List Nat)) (q : Addr) (H : Hp) : Prop := ∃ zs : List (List Nat × V), ¬ M q ∧ H q = some (.lst (zs.map Prod.snd)) ∧ zs.map Prod.fst = cs ∧ ∀ z ∈ zs, ∃ p, z.2 = .ref p ∧ ¬ M p ∧ H p = some (.lst (z.1.map vN))
theorem CandsAt.kx {M : Vol} {A B : Hp} {cs : List (List Nat)} {q : Addr} (h : CandsAt M cs q A) (k : Kx M A B) : CandsAt M cs q B := by
  obtain ⟨zs, n, h1, h2, h3⟩ := h
  refine ⟨zs, n, k _ _ n h1, h2, fun z hz => ?_⟩
  obtain ⟨p, e, m, g⟩ := h3 z hz
  exact ⟨p, e, m, k _ _ m g⟩
theorem vN_at {l : List Nat} {i : Nat} {x : Nat} (h : l[i]? = some x) : (l.map vN)[i]? = some (.int x) := by rw [List.getElem?_map, h]; rfl
theorem len_mc {vals : Vls} {r : Row} : decide ((((r.yes.filter fun a => decide (gv vals a = some false)).map vN).length : Int) + (((r.no.filter fun a => decide (gv vals a = some true)).map vN).length : Int) = 0) = mc vals r := by
  have key : ∀ (f : Nat → Bool) (l : List Nat), (l.filter f).length = 0 ↔ l.all (fun a => !f a) = true := fun f l => by
    rw [List.length_eq_zero_iff, List.filter_eq_nil_iff, List.all_eq_true]
    simp
  rw [List.length_map, List.length_map]
  unfold mc
  by_cases h1 : r.yes.all (fun a => !decide (gv vals a = some false)) = true
  · by_cases h2 : r.no.all (fun a => !decide (gv vals a = some true)) = true
    · rw [h1, h2, (key _ _).mpr h1, (key _ _).mpr h2]; rfl
    · have : ¬ (r.no.filter fun a => decide (gv vals a = some true)).length = 0 := fun z => h2 ((key _ _).mp z)
      rw [decide_eq_false (by omega)]
      simp only [Bool.not_eq_true] at h2
      rw [h2, Bool.and_false]
  · have : ¬ (r.yes.filter fun a => decide (gv vals a = some false)).length = 0 := fun z => h1 ((key _ _).mp z)
    rw [decide_eq_false (by omega)]
    simp only [Bool.not_eq_true] at h1
    rw [h1, Bool.false_and]
end SP
namespace SP
open PySem PySem.Spec PyProof.Rows L2 C8 GX LC
abbrev yn : List V := [.str "yes", .str "no"]
abbrev lb : List V := [.str "least", .str "below"]
theorem yn_yes : inV (.str "yes") yn = true := by decide +kernel
theorem yn_no : inV (.str "no") yn = true := by decide +kernel
theorem yn_least : inV (.str "least") yn = false := by decide +kernel
theorem yn_below : inV (.str "below") yn = false := by decide +kernel
theorem lb_yes : inV (.str "yes") lb = false := by decide +kernel
theorem lb_no : inV (.str "no") lb = false := by decide +kernel
theorem lb_least : inV (.str "least") lb = true := by decide +kernel
theorem lb_below : inV (.str "below") lb = true := by decide +kernel
theorem str_self (x : Str) : decide (V.str x = V.str x) = true := by simp
theorem no_yes : decide (V.str "no" = V.str "yes") = false := by decide +kernel
theorem eqv_bb (a b : Bool) : PyData.eqv (.tuple [.bool a, .bool b]) (.tuple [.bool a, .bool b]) = true := by cases a <;> cases b <;> decide +kernel
theorem in_tri : ∀ {vals : Vls}, inV .non (vals.map tri) = decide (none ∈ vals)
  | [] => rfl
  | y :: r => by
    have ih := in_tri (vals := r)
    unfold inV at ih ⊢
    rw [List.map_cons, List.any_cons, ih]
    cases y with
    | none => simp [eqV, tri]
    | some b => simp [eqV, tri]
theorem flat_tri : ∀ {vals : Vls}, (vals.map tri).all flatV = true
  | [] => rfl
  | y :: r => by rw [List.map_cons, List.all_cons, flat_tri]; cases y <;> rfl
theorem bl_ne (a b : Bool) : (!decide (V.bl a = V.bl b)) = decide (a ≠ b) := by cases a <;> cases b <;> decide
end SP
set_option Elab.async false
set_option linter.all false
set_option maxRecDepth 100000
set_option maxHeartbeats 2000000
namespace LC
open PySem PySem.Spec PyProof.Rows L2 C8 GX SP
/-! x in c, c a dict or a list or a tuple -/
def rInA (K : PySem.W.Frag) : R2 := fun x y H Q => (∃ a o, y = .ref a ∧ DGet H a x o ∧ Q (.bl o.isSome) H) ∨ rIn K false x y H Q
def rNinA (K : PySem.W.Frag) : R2 := fun x y H Q => (∃ a o, y = .ref a ∧ DGet H a x o ∧ Q (.bl (!o.isSome)) H) ∨ rIn K true x y H Q
theorem opinA {X : Cx} {K : PySem.W.Frag} (e : X.K = K) (hu : X.A.units + 1 < cLine) : OpR X (compareOp .In) (rInA K) := by
  intro pins s σ H x y v u Q I rx ry h
  rcases h with ⟨a, o, ey, g, q⟩ | h
  · subst ey
    obtain rfl : u = Value.ref a := ry
    exact d_in hu I g rx fun s' I' => ⟨.bl o.isSome, H, I', rfl, q⟩
  · exact opin e pins s σ H x y v u Q I rx ry h
theorem opninA {X : Cx} {K : PySem.W.Frag} (e : X.K = K) (hu : X.A.units + 1 < cLine) : OpR X (compareOp .NotIn) (rNinA K) := by
  intro pins s σ H x y v u Q I rx ry h
  rcases h with ⟨a, o, ey, g, q⟩ | h
  · subst ey
    obtain rfl : u = Value.ref a := ry
    exact d_notIn hu I g rx fun s' I' => ⟨.bl (!o.isSome), H, I', rfl, q⟩
  · exact opnin e pins s σ H x y v u Q I rx ry h
/-! all(..), any(..) of a generator expression within another one's frame, whose code is known only when it runs -/
def tGin (base : Heap) (cv : Value) (wi : TI) (g : TG) (tt : Value → TT) (te : Value → TE) (vs : List Nat) (Em : VK → Emit) (Dn : VK → Int → Hp → Prop) : TE := fun σ H Q => ∃ c' P', cv = .ref c' ∧ tGen base 0 c' P' wi g tt te vs Em Dn σ H Q
theorem gokA {X : Cx} {N : List Str} {sc0 scope : Scope} {own : List (Str × Nat)} (e1 : X.N = N) (e2 : X.env.scope = sc0) (bm : ∃ P0, X.base.BuiltinsAt X.mg P0) (h : gokC N sc0 scope own = true) : ∀ c, X.env.code = .ref c → GOk X scope own c := fun c hc => gok e1 e2 hc bm h
theorem pe_gall {X : Cx} {k : Nat} {cv : Value} {elt tg iter : Expr} {ifs : List Expr} {sc : Scope} {own : List (Str × Nat)} {p pos gpos : Pos} {wi : TI} {g : TG} {tt : Value → TT} {te : Value → TE} {B : Heap} (eb : X.base = B) (hc : X.env.code = cv) (hr : Room (k + 3) X.A) (hg : Gl X "all") (hm : X.mg "all" = none) (G : ∀ c, X.env.code = .ref c → GOk X sc own c) (hi : PI X tg iter wi) (pg : GPart X sc k fun Y _ => PG Y tg g) (pt : GPart X sc k fun Y cv => PTs Y ifs (tt cv)) (pe : GPart X sc k fun Y cv => PE Y elt (te cv))
    (hs : ∀ v, genFold iter X.env v = pure v := by intro _; rfl)
    (he : starEach [.GeneratorExp elt [⟨tg, iter, ifs, 0⟩] sc gpos] X.env = (false, eval (.GeneratorExp elt [⟨tg, iter, ifs, 0⟩] sc gpos) X.env) :: starEach [] X.env := by rfl) :
    PE X (.Call (.Name "all" p) [.GeneratorExp elt [⟨tg, iter, ifs, 0⟩] sc gpos] [] pos) (tGin B cv wi g tt te (own.map (·.2)) (fun Q => EmAll fun H => Q (.bl false) H) (DnB true)) :=
  ⟨fun pins s σ H Q I ⟨c', P', e', q⟩ => by subst eb; exact (pe_all (P := P') hr (by decide) hg hm (G c' (hc.trans e')) hi pg pt pe hs he).run pins s σ H Q I q⟩
theorem pe_gany {X : Cx} {k : Nat} {cv : Value} {elt tg iter : Expr} {ifs : List Expr} {sc : Scope} {own : List (Str × Nat)} {p pos gpos : Pos} {wi : TI} {g : TG} {tt : Value → TT} {te : Value → TE} {B : Heap} (eb : X.base = B) (hc : X.env.code = cv) (hr : Room (k + 3) X.A) (hg : Gl X "any") (hm : X.mg "any" = none) (G : ∀ c, X.env.code = .ref c → GOk X sc own c) (hi : PI X tg iter wi) (pg : GPart X sc k fun Y _ => PG Y tg g) (pt : GPart X sc k fun Y cv => PTs Y ifs (tt cv)) (pe : GPart X sc k fun Y cv => PE Y elt (te cv))
    (hs : ∀ v, genFold iter X.env v = pure v := by intro _; rfl)
    (he : starEach [.GeneratorExp elt [⟨tg, iter, ifs, 0⟩] sc gpos] X.env = (false, eval (.GeneratorExp elt [⟨tg, iter, ifs, 0⟩] sc gpos) X.env) :: starEach [] X.env := by rfl) :
    PE X (.Call (.Name "any" p) [.GeneratorExp elt [⟨tg, iter, ifs, 0⟩] sc gpos] [] pos) (tGin B cv wi g tt te (own.map (·.2)) (fun Q => EmAny fun H => Q (.bl true) H) (DnB false)) :=
  ⟨fun pins s σ H Q I ⟨c', P', e', q⟩ => by subst eb; exact (pe_any (P := P') hr (by decide) hg hm (G c' (hc.trans e')) hi pg pt pe hs he).run pins s σ H Q I q⟩
/-- atoms in a dict or a list -/
def SetA (K : PySem.W.Frag) (M : Vol) (H : Hp) (a : Addr) (cs : List Nat) : Prop := DctL M H a cs ∨ LstL K M H a (cs.map vN)
theorem SetA.kx {K : PySem.W.Frag} {M : Vol} {H H' : Hp} {a : Addr} {cs : List Nat} (h : SetA K M H a cs) (k : Kx M H H') : SetA K M H' a cs := h.elim (fun h => .inl (h.kx k)) fun h => .inr (h.kx k)
theorem SetA.isIn {K : PySem.W.Frag} {M : Vol} {H : Hp} {a : Addr} {cs : List Nat} {n : Nat} {Q : VK} (h : SetA K M H a cs) (q : Q (.bl (decide (n ∈ cs))) H) : rInA K (.int (n : Int)) (.ref a) H Q := by
  rcases h with h | h
  · obtain ⟨o, g, e⟩ := h.2.get n
    exact .inl ⟨a, o, rfl, g, by rw [e]; exact q⟩
  · refine .inr ⟨a, _, rfl, .inl h.2, rfl, flat_vN, ?_⟩
    show Q (.bl (inV (V.int (n : Int)) _)) H
    rw [in_vN]; exact q
theorem SetA.notIn {K : PySem.W.Frag} {M : Vol} {H : Hp} {a : Addr} {cs : List Nat} {n : Nat} {Q : VK} (h : SetA K M H a cs) (q : Q (.bl (!decide (n ∈ cs))) H) : rNinA K (.int (n : Int)) (.ref a) H Q := by
  rcases h with h | h
  · obtain ⟨o, g, e⟩ := h.2.get n
    exact .inl ⟨a, o, rfl, g, by rw [e]; exact q⟩
  · refine .inr ⟨a, _, rfl, .inl h.2, rfl, flat_vN, ?_⟩
    show Q (.bl (!inV (V.int (n : Int)) _)) H
    rw [in_vN]; exact q
end LC
set_option Elab.async false
set_option linter.all false
set_option maxRecDepth 100000
set_option maxHeartbeats 4000000
namespace LC
open PySem PySem.Spec PyProof.Rows L2
/-- what a walk of a dict's int keys has laid into an array -/
theorem keyInts {vs : List (Key × Value)} {nums : List Int} {arr : Array Value} (hk : vs.map Prod.fst = nums.map Sum.inl) (hn : arr.size = vs.length)
    (hat : ∀ (i : Nat) (u : Value), arr[i]? = some u → ∃ key val, vs[i]? = some (key, val) ∧ keyIs key u = true) : IntsAre arr.toList nums := by
  have size : vs.length = nums.length := by simpa using congrArg List.length hk
  refine ints_each (by rw [Array.length_toList, hn, size]) fun i u hu => ?_
  rw [Array.getElem?_toList] at hu
  obtain ⟨key, val, hv, hkey⟩ := hat i u hu
  have at_ : (nums.map (Sum.inl : Int → Key))[i]? = some key := by rw [← hk, List.getElem?_map, hv] <;> rfl
  rw [List.getElem?_map] at at_
  obtain ⟨num, hnum, rfl⟩ := Option.map_eq_some_iff.mp at_
  rcases keyIs_shape hkey with ⟨m, tok, em, eu⟩ | ⟨_, _, em, _⟩
  · exact ⟨num, tok, hnum, by rw [eu, Sum.inl.inj em]⟩
  · exact nomatch em
/-- what sorted asks of a dict whose keys are ints, however many -/
def rSortDU : List V → Hp → VK → Prop := fun args H Q => ∃ (d : Addr) (table : List (Key × V)) (nums : List Int), args = [.ref d] ∧ Rd H d (.dK table) ∧ table.map (·.1) = nums.map Sum.inl ∧
  ∀ (res : List Int) (new : Addr), res.Perm nums → res.Pairwise (· ≤ ·) → H new = none → Q (.ref new) (upd H new (.lst (res.map V.int)))
theorem cr_sortedDU {X : Cx} (calm : X.calm = true) : CallR X (.builtin "sorted") rSortDU := by
  rintro pins s σ H args us Q inv rel ⟨d, table, nums, rfl, rd, keys, goal⟩
  obtain ⟨u0, rfl, r0⟩ := vals1 rel
  cases r0
  obtain ⟨fits, sysd, vs, kv, isd⟩ := dk_rd inv.hok rd
  obtain ⟨epoch, dat⟩ := isd.dictAt
  have hk : vs.map Prod.fst = nums.map Sum.inl := kv.keys.symm.trans keys
  have szv : vs.length = nums.length := by simpa using congrArg List.length hk
  have szt : table.length = nums.length := by simpa using congrArg List.length keys
  have room : nums.length ≤ sizeLine := szt ▸ fits
  refine Calls.call_function_entry kind_sorted plain_sorted entry_sorted (args_sorted1 _) ?_
  show wpAny _ _ (Builtin.«sorted» _) _ _ _
  unfold Builtin.«sorted»
  refine wpAny_bind (m := checkCount "sorted" 1 1 _) (wpAny_pure (wpAny_bind (PySem.W.kdu_collect (A := X.A.in1) (PySem.W.kdl_dict (knd := mixKind X.prog X.w) (kvs := vs) (ep := epoch) sysd) (inv.ok.hd calm) dat (szv ▸ room) fun heap1 toks1 arr keep full => ?_)))
  have allInt := keyInts hk full.1 full.2
  have lenA : arr.toList.length ≤ sizeLine := by rw [Array.length_toList, full.1, szv]; exact room
  have inv1 : Inv X pins σ H { s with heap := heap1, toks := toks1 } := inv.kept keep
  have made : (heap1.push (seqObj "list" arr.toList.toArray 0)).get? heap1.objs.size = some (seqObj "list" arr.toList.toArray 0) := Heap.get?_push_size _ rfl
  refine wpAny_bind (wpAny_newList (wpAny_bind (wpAny_holding (wpAny_call_entry (s := { s with heap := heap1.push (seqObj "list" arr.toList.toArray 0), toks := toks1 }) slot_list_sort ⟨_, made, rfl⟩ entry_list_sort (SrtO.list_sort_ord (s := { s with heap := heap1.push (seqObj "list" arr.toList.toArray 0), toks := toks1 }) SrtO.swo_int made lenA (fun two => SrtO.ints_sortable allInt two) fun out sorted stable => ⟨_, rfl, ?_⟩) (args_list_sort _)))) lenA)
  obtain ⟨o1, o2, o3⟩ := SrtO.ints_out allInt sorted stable
  obtain ⟨ep2, there⟩ := sortedHeap_at (vs := arr.toList) (out := out.toArray) made
  have fits2 : ((out.map SrtO.iv).map V.int).length ≤ sizeLine := by
    rw [List.length_map, o2.length_eq]; exact room
  have ok2 : ObjOk X.prog X.w (upd H heap1.objs.size (.lst ((out.map SrtO.iv).map V.int))) _ heap1.objs.size (.lst ((out.map SrtO.iv).map V.int)) := ⟨fits2, out, ep2, vals_of_ints o1, there⟩
  refine wpAny_pure ⟨_, rfl, .ref _, _, inv1.laid (t' := toks1) (fun b x hx => ?_) (Nat.le_refl _) ok2, rfl, goal _ _ o2 o3 (inv1.hok.fresh (Nat.le_refl _))⟩
  have lt := Heap.lt_size hx
  rw [sortedHeap_old (Nat.ne_of_lt lt) (by rw [size_push']; exact Nat.lt_succ_of_lt lt)]
  exact Heap.get?_push_of_some _ hx
/-- turns of any body, by a walk -/
theorem it_turns {J : It} {n : Nat} {G : Hp → Prop} {Y : Nat → Hp → V → Hp → Prop} {H0 : Hp} {Qd : Hp → Prop} {B : V → Hp → (Hp → Prop) → Prop} (w : L2.Walk J n G Y) (Pv : Nat → Hp → Prop) (h0 : Pv 0 H0) (hG : ∀ i H, i ≤ n → Pv i H → G H)
    (hs : ∀ i x H H', i < n → Pv i H → Y i H x H' → B x H' (Pv (i + 1))) (hd : ∀ H, Pv n H → Qd H) :
    ∃ W : Nat → Nat → Hp → Prop, (∃ m, W 0 m H0) ∧ ∀ i m H, W i m H → (J.stop i H ∧ Qd H) ∨ (J.go i H ∧ ∃ Nx : Hp → Prop, (∀ H', Nx H' → ∃ m', m' < m ∧ W (i + 1) m' H') ∧ ∀ x H', J.yld i H x H' → B x H' Nx) := by
  refine ⟨fun i m H => m = n - i ∧ i ≤ n ∧ Pv i H, ⟨n, by simp, Nat.zero_le _, h0⟩, ?_⟩
  rintro i m H ⟨rfl, hi, p⟩
  have q := hG i H hi p
  by_cases hlt : i < n
  · exact .inr ⟨w.goes i H hlt q, Pv (i + 1), fun H' p' => ⟨n - (i + 1), by omega, rfl, hlt, p'⟩, fun x H' y => hs i x H H' hlt p (w.yields i H x H' hlt q y)⟩
  · have e : i = n := by omega
    subst e
    exact .inl ⟨w.stops H q, hd H p⟩
end LC
set_option Elab.async false
set_option linter.all false
set_option maxRecDepth 100000
set_option maxHeartbeats 2000000
namespace LC
open PySem PySem.Spec PyProof.Rows L2 C8 GX
section
variable {K : PySem.W.Frag} {ts : Tbs} {st ca a D : Addr} {M : Vol} {H : Hp} {g : TG} {vs : List Nat} {σ : L2.St} {Q : VK}
theorem ky_put {D : Addr} {H H1 : Hp} {o : HO} (k : Ky ts st ca H H1) (hD : H D = none) : Ky ts st ca H (upd H1 D o) := ⟨fun b u n e t => by rw [upd_ne (ne_of_none e hD)]; exact k.keep b u n e t, fun b u e => by
  obtain ⟨v, e⟩ := k.alive b u e
  exact alive_upd e⟩
/-- a comprehension over turns that may lay new things, the items values by themselves -/
theorem lc_turns {Qd : Hp → Prop} {J : It} {n : Nat} {Gd : Hp → Prop} {Y : Nat → Hp → V → Hp → Prop} {tt : TT} {te : TE} {keep : Nat → Bool} {val : Nat → V} {R : Nat → V → Hp → Prop}
    (W : L2.Walk J n Gd Y) (hG : ∀ H', Ky ts st ca H H' → Gd H') (hY : ∀ i H1 x H2, i < n → Y i H1 x H2 → (∀ M', Wd ts st ca M' H1 → Wd ts st ca M' H2) ∧ Kx (fun _ => False) H1 H2 ∧ R i x H2) (w : Wd ts st ca M H) (hD : H D = none) (hl : n < sizeLine)
    (step : ∀ i x, i < n → ∀ H1, R i x H1 → Wd ts st ca (addV M D) H1 → Ky ts st ca H H1 → ∀ (Qk : VK) (F : Hp → Prop), (keep i = true → ∀ H2, Wd ts st ca (addV M D) H2 → Ky ts st ca H1 H2 → Qk (val i) H2) → (keep i = false → ∀ H2, Wd ts st ca (addV M D) H2 → Ky ts st ca H1 H2 → F H2) →
      g x (wipe σ vs) H1 fun σ2 H2 => wipe σ2 vs = wipe σ vs ∧ tt σ2 H2 fun b H3 => if b = true then te σ2 H3 Qk else F H3)
    (k : ∀ H1, Wd ts st ca M H1 → Ky ts st ca H H1 → ¬ M D → H1 D = some (.lst (((List.range n).filter keep).map val)) → Qd H1) :
    ∃ W : Nat → Nat → Hp → Prop, (∃ m, W 0 m (upd H D (.lst []))) ∧ ∀ i m H, W i m H →
      (J.stop i H ∧ Qd H) ∨ (J.go i H ∧ ∃ Nx : Hp → Prop, (∀ H', Nx H' → ∃ m', m' < m ∧ W (i + 1) m' H') ∧ ∀ x H', J.yld i H x H' → g x (wipe σ vs) H' fun σ2 H2 => wipe σ2 vs = wipe σ vs ∧ tt σ2 H2 fun b H3 =>
        if b = true then te σ2 H3 fun y H4 => ∃ acc, H4 D = some (.lst acc) ∧ acc.length < sizeLine ∧ Nx (upd H4 D (.lst (acc ++ [y]))) else Nx H3) := by
  have nM := w.fresh hD
  have nL := w.nl nM
  have w0 : Wd ts st ca (addV M D) (upd H D (.lst [])) := (w.new hD).add ⟨_, upd_same, rfl⟩
  have k0 : Ky ts st ca H (upd H D (.lst [])) := Kx.new hD
  have tk : ∀ i, i < n → (List.range n).take (i + 1) = (List.range n).take i ++ [i] := fun i hi => by
    rw [List.take_add_one, List.getElem?_range hi]; rfl
  have ln : ∀ i, (((List.range n).take i).filter keep).length ≤ n := fun i => Nat.le_trans (List.length_filter_le _ _) (by rw [List.length_take, List.length_range]; exact Nat.min_le_right _ _)
  refine lc_it W (fun i H1 => Wd ts st ca (addV M D) H1 ∧ Ky ts st ca H H1 ∧ H1 D = some (.lst ((((List.range n).take i).filter keep).map val))) ⟨w0, k0, upd_same⟩ (fun i H1 _ h => hG _ h.2.1) (fun i x H1 H1' hi ⟨w1, k1, e1⟩ y => ?_) (fun H1 ⟨w1, k1, e1⟩ => ?_)
  · obtain ⟨hw, hk, hr⟩ := hY i H1 x H1' hi y
    have w2 := hw _ w1
    have k2 : Ky ts st ca H1 H1' := hk.mono fun _ z => z.elim
    have e2 : H1' D = some (.lst ((((List.range n).take i).filter keep).map val)) := k2 _ _ nL e1
    refine step i x hi H1' hr w2 (k1.trans k2) _ _ (fun hk H4 w4 k4 => ⟨_, k4 D _ nL e2, Nat.lt_of_le_of_lt (by rw [List.length_map]; exact ln i) hl, w4.wr nL (k4 D _ nL e2), ky_put ((k1.trans k2).trans k4) hD, ?_⟩) (fun hk H4 w4 k4 => ⟨w4, (k1.trans k2).trans k4, ?_⟩)
    · rw [upd_same, tk i hi, List.filter_append, List.map_append]
      have e : [i].filter keep = [i] := by simp [hk]
      rw [e]; rfl
    · rw [tk i hi, List.filter_append]
      have e : [i].filter keep = [] := by simp [hk]
      rw [e, List.append_nil]
      exact k4 D _ nL e2
  · rw [List.take_of_length_le (by rw [List.length_range]; exact Nat.le_refl _)] at e1
    exact k H1 (w.low w1 fun b hb => .inl hb) k1 nM e1
/-- .. over enumerate(list) -/
theorem walk_e {α : Type} {f : α → V} {xs : List α} : L2.Walk (Ite K a) xs.length (fun H => SqL K H a (xs.map f)) (YPair (fun i => some (.int (i : Nat))) (fun i => (xs.map f)[i]?)) := by
  have := walk_enum (K := K) (a := a) (xs := xs.map f)
  rw [List.length_map] at this
  exact this
theorem hY_e {α : Type} {f : α → V} {xs : List α} : ∀ i H1 x H2, i < xs.length → YPair (fun i => some (.int (i : Nat))) (fun i => (xs.map f)[i]?) i H1 x H2 →
    (∀ M', Wd ts st ca M' H1 → Wd ts st ca M' H2) ∧ Kx (fun _ => False) H1 H2 ∧ (∃ T z, x = .ref T ∧ xs[i]? = some z ∧ H2 T = some (.tup [.int (i : Nat), f z])) := fun i H1 x H2 hi h => by
  obtain ⟨T, y1, y2, rfl, hT, rfl, e1, e2⟩ := h
  cases e1
  have e2 : (xs.map f)[i]? = some y2 := e2
  rw [List.getElem?_map] at e2
  obtain ⟨z, hz, rfl⟩ := Option.map_eq_some_iff.mp e2
  exact ⟨fun M' w => w.new hT, Kx.new hT, T, z, rfl, hz, upd_same⟩
end
/-- a list stays when another one is written -/
theorem sq_ne {K : PySem.W.Frag} {H : Hp} {q D : Addr} {xs : List V} {o : HO} (h : SqL K H q xs) (n : q ≠ D) : SqL K (upd H D o) q xs := by
  rcases h with (h | ⟨x, h⟩) | h
  · exact .inl (.inl (by rw [upd_ne n]; exact h))
  · exact .inl (.inr ⟨x, by rw [upd_ne n]; exact h⟩)
  · exact .inr h
end LC
namespace LC
open PySem PySem.Spec PyProof.Rows L2 C8 GX
section
variable {X : Cx} {K : PySem.W.Frag}
theorem pien {e : Expr} {ta : TA} {p pos tpos : Pos} {elts : List Expr} {kk : Nat} (eK : X.K = K) (hg : Gl X "enumerate") (hm : X.mg "enumerate" = none) (ha : PA X [e] ta) (hs : starEach [e] X.env = [(false, eval e X.env)] := by rfl) :
    PI X (.Tuple elts kk tpos) (.Call (.Name "enumerate" p) [e] [] pos) (iEnum K ta) := by subst eK; exact pi_enum hg hm ha hs
end
end LC
set_option Elab.async false
set_option maxRecDepth 100000
set_option maxHeartbeats 2000000
namespace SG
open PySem L2 C8 GX LC SP
/-! rules of all kinds: the data -/
inductive Kd where
  | rule | choose | deny
  deriving DecidableEq
structure Rl where
  kd : Kd
  h : Nat
  b : List Cond
def kR : Kd → Str
  | .rule => "rule"
  | .choose => "choose"
  | .deny => "deny"
def hV (r : Rl) : V := match r.kd with
  | .deny => .non
  | _ => .int (r.h : Int)
def CnsAt (K : PySem.W.Frag) (M : Vol) (b : List Cond) (q : Addr) (H : Hp) : Prop := ∃ zs : List (Cond × V), LstL K M H q (zs.map Prod.snd) ∧ zs.map Prod.fst = b ∧ ∀ z ∈ zs, CondAt K M z.1 z.2 H
def RlAt (K : PySem.W.Frag) (M : Vol) (r : Rl) (v : V) (H : Hp) : Prop := ∃ p q, v = .ref p ∧ TupL K M H p [.str (kR r.kd), hV r, .ref q] ∧ CnsAt K M r.b q H
def RzAt (K : PySem.W.Frag) (M : Vol) (zs : List (Rl × V)) (q : Addr) (H : Hp) : Prop := LstL K M H q (zs.map Prod.snd) ∧ ∀ z ∈ zs, RlAt K M z.1 z.2 H
/-- a program of n atoms, its rules and its cost rows -/
def ProgAt (K : PySem.W.Frag) (M : Vol) (n : Nat) (rs : List Rl) (costs : List Row) (p : Addr) (H : Hp) : Prop := ∃ (at_ rl cq : Addr) (ys : List V) (zs : List (Rl × V)), TupL K M H p [.str "program", .ref at_, .ref rl, .ref cq] ∧ LstL K M H at_ ys ∧ ys.length = n ∧ zs.map Prod.fst = rs ∧ RzAt K M zs rl H ∧ RowsAt K M costs cq H
section
variable {K : PySem.W.Frag} {M M' : Vol} {A B : Hp}
theorem CnsAt.kx {b : List Cond} {q : Addr} (h : CnsAt K M b q A) (k : Kx M A B) : CnsAt K M b q B := by
  obtain ⟨zs, h1, h2, h3⟩ := h; exact ⟨zs, h1.kx k, h2, fun z hz => (h3 z hz).kx k⟩
theorem CnsAt.anti {b : List Cond} {q : Addr} (h : CnsAt K M' b q A) (i : ∀ b, M b → M' b) : CnsAt K M b q A := by
  obtain ⟨zs, h1, h2, h3⟩ := h; exact ⟨zs, h1.anti i, h2, fun z hz => (h3 z hz).anti i⟩
theorem RlAt.kx {r : Rl} {v : V} (h : RlAt K M r v A) (k : Kx M A B) : RlAt K M r v B := by
  obtain ⟨p, q, e, h1, h2⟩ := h; exact ⟨p, q, e, h1.kx k, h2.kx k⟩
theorem RlAt.anti {r : Rl} {v : V} (h : RlAt K M' r v A) (i : ∀ b, M b → M' b) : RlAt K M r v A := by
  obtain ⟨p, q, e, h1, h2⟩ := h; exact ⟨p, q, e, h1.anti i, h2.anti i⟩
theorem RzAt.kx {zs : List (Rl × V)} {q : Addr} (h : RzAt K M zs q A) (k : Kx M A B) : RzAt K M zs q B := ⟨h.1.kx k, fun z hz => (h.2 z hz).kx k⟩
theorem ProgAt.kx {n : Nat} {rs : List Rl} {cs : List Row} {q : Addr} (h : ProgAt K M n rs cs q A) (k : Kx M A B) : ProgAt K M n rs cs q B := by
  obtain ⟨at_, rl, cq, ys, zs, h1, h2, h3, h4, h5, h6⟩ := h; exact ⟨at_, rl, cq, ys, zs, h1.kx k, h2.kx k, h3, h4, h5.kx k, h6.kx k⟩
end
/-! the mathematics -/
def bodyH (fs cs : List Nat) (b : List Cond) : Bool := b.all (met fs cs)
def may (cs : List Nat) (r : Rl) : Bool := match r.kd with
  | .rule => true
  | .choose => decide (r.h ∈ cs)
  | .deny => false
def Clo (rs : List Rl) (cs S : List Nat) : Prop := ∀ r ∈ rs, may cs r = true → bodyH S cs r.b = true → r.h ∈ S
def Least (rs : List Rl) (cs fs : List Nat) : Prop := Clo rs cs fs ∧ ∀ S, Clo rs cs S → ∀ a ∈ fs, a ∈ S
def Stable (rs : List Rl) (cs : List Nat) : Prop := Least rs cs cs ∧ ∀ r ∈ rs, r.kd = .deny → bodyH cs cs r.b = false
def awC : Cond → List Nat
  | .yes a => [a]
  | .least _ rows => rows.flatMap (·.yes)
  | _ => []
def awOf (b : List Cond) : List Nat := b.flatMap awC
/-- bounds of what a def is given -/
structure ROk (n : Nat) (r : Rl) : Prop where
  ok : ∀ c ∈ r.b, c.Ok n
  aw : (awOf r.b).length ≤ 20
  hd : r.kd ≠ .deny → r.h < 100
theorem rc_mono {fs gs cs : List Nat} (h : ∀ a ∈ fs, a ∈ gs) {r : Row} (e : rc fs cs r = true) : rc gs cs r = true := by
  unfold rc at e ⊢
  rw [Bool.and_eq_true, List.all_eq_true] at e
  rw [Bool.and_eq_true, List.all_eq_true]
  exact ⟨fun a ha => decide_eq_true (h a (of_decide_eq_true (e.1 a ha))), e.2⟩
theorem met_mono {n : Nat} {fs gs cs : List Nat} (h : ∀ a ∈ fs, a ∈ gs) {c : Cond} (ok : c.Ok n) (e : met fs cs c = true) : met gs cs c = true := by
  cases c with
  | yes a => exact decide_eq_true (h a (of_decide_eq_true e))
  | no a => exact e
  | below k rows => exact e
  | least k rows =>
    have e : k ≤ wt fs cs rows := of_decide_eq_true e
    have := sumOf_mono (f := rc fs cs) (g := rc gs cs) (rows := rows) (fun r hr => (ok.2 r hr).w0) fun r _ e => rc_mono h e
    exact decide_eq_true (Int.le_trans e this)
theorem body_mono {n : Nat} {fs gs cs : List Nat} (h : ∀ a ∈ fs, a ∈ gs) {b : List Cond} (ok : ∀ c ∈ b, c.Ok n) (e : bodyH fs cs b = true) : bodyH gs cs b = true := by
  unfold bodyH at e ⊢
  rw [List.all_eq_true] at e ⊢
  exact fun c hc => met_mono h (ok c hc) (e c hc)
theorem rc_same {fs cs : List Nat} {h : Nat} {r : Row} (hn : h ∉ r.yes) : rc (fs ++ [h]) cs r = rc fs cs r := by
  have e : ∀ a ∈ r.yes, decide (a ∈ fs ++ [h]) = decide (a ∈ fs) := fun a ha => by
    have hne : a ≠ h := fun z => hn (by rw [← z]; exact ha)
    simp [hne]
  unfold rc
  congr 1
  generalize r.yes = l at e hn
  induction l with
  | nil => rfl
  | cons x t ih => rw [List.all_cons, List.all_cons, e x List.mem_cons_self, ih (fun a ha => e a (List.mem_cons_of_mem _ ha)) fun h => hn (List.mem_cons_of_mem _ h)]
theorem wt_same {fs cs : List Nat} {h : Nat} : ∀ {rows : List Row}, h ∉ rows.flatMap (·.yes) → wt (fs ++ [h]) cs rows = wt fs cs rows
  | [], _ => rfl
  | r :: t, hn => by
    rw [List.flatMap_cons, List.mem_append, not_or] at hn
    have ih := wt_same (fs := fs) (cs := cs) hn.2
    unfold wt sumOf at ih ⊢
    rw [List.filter_cons, List.filter_cons, rc_same hn.1]
    split
    · rw [List.map_cons, List.map_cons, List.sum_cons, List.sum_cons, ih]
    · exact ih
theorem met_same {fs cs : List Nat} {h : Nat} {c : Cond} (hn : h ∉ awC c) : met (fs ++ [h]) cs c = met fs cs c := by
  cases c with
  | yes a =>
    have hne : a ≠ h := fun z => hn (by rw [← z]; exact List.mem_singleton.mpr rfl)
    show decide (a ∈ fs ++ [h]) = decide (a ∈ fs)
    simp [hne]
  | no a => rfl
  | below k rows => rfl
  | least k rows =>
    show decide (k ≤ wt (fs ++ [h]) cs rows) = decide (k ≤ wt fs cs rows)
    rw [wt_same hn]
theorem body_new {fs cs : List Nat} {h : Nat} {b : List Cond} (h1 : bodyH fs cs b = false) (h2 : bodyH (fs ++ [h]) cs b = true) : h ∈ awOf b := by
  by_cases hm : h ∈ awOf b
  · exact hm
  · have e : bodyH (fs ++ [h]) cs b = bodyH fs cs b := by
      unfold bodyH
      unfold awOf at hm
      induction b with
      | nil => rfl
      | cons x t ih =>
        rw [List.flatMap_cons, List.mem_append, not_or] at hm
        unfold bodyH at h1 h2
        rw [List.all_cons, List.all_cons, met_same hm.1]
        by_cases hx : met fs cs x = true
        · rw [List.all_cons, hx, Bool.true_and] at h1
          rw [List.all_cons, met_same hm.1, hx, Bool.true_and] at h2
          rw [ih h1 h2 hm.2]
        · rw [Bool.not_eq_true] at hx
          rw [hx, Bool.false_and, Bool.false_and]
    rw [e, h1] at h2; cases h2
end SG
set_option Elab.async false
set_option linter.all false
set_option maxRecDepth 100000
set_option maxHeartbeats 2000000
namespace LG
open PySem PySem.Spec PyProof.Rows L2 C8 SX GX LC SP SG
/-! data that repr shows in few signs -/
structure Gd (n k : Nat) (d : PyData) : Prop where
  len : d.shown.length ≤ n
  sh : d.showable = true
  nd : d.hasDict = false
  dp : d.depth ≤ k
theorem Gd.mono {n k n' k' : Nat} {d : PyData} (g : Gd n k d) (h : n ≤ n') (h' : k ≤ k') : Gd n' k' d := ⟨Nat.le_trans g.len h, g.sh, g.nd, Nat.le_trans g.dp h'⟩
theorem gd_all {n k : Nat} : ∀ {xs : List PyData}, (∀ x ∈ xs, Gd n k x) → ((PyData.shownAll xs).map (·.length)).sum ≤ xs.length * n ∧ (PyData.shownAll xs).length = xs.length ∧ PyData.showableAll xs = true ∧ PyData.hasDictAll xs = false ∧ PyData.depthAll xs ≤ k
  | [], _ => ⟨by simp [PyData.shownAll], by simp [PyData.shownAll], by simp [PyData.showableAll], by simp [PyData.hasDictAll], by simp [PyData.depthAll]⟩
  | x :: r, h => by
    obtain ⟨h1, h2, h3, h4, h5⟩ := gd_all (xs := r) fun y hy => h y (List.mem_cons_of_mem _ hy)
    have g := h x List.mem_cons_self
    have gl := g.len
    refine ⟨?_, ?_, ?_, ?_, ?_⟩
    · rw [PyData.shownAll, List.map_cons, List.sum_cons, List.length_cons, Nat.succ_mul]; omega
    · rw [PyData.shownAll, List.length_cons, List.length_cons, h2]
    · rw [PyData.showableAll, g.sh, h3]; rfl
    · rw [PyData.hasDictAll, g.nd, h4]; rfl
    · rw [PyData.depthAll]; exact Nat.max_le.mpr ⟨g.dp, h5⟩
theorem gd_list {n k m : Nat} {xs : List PyData} (h : ∀ x ∈ xs, Gd n k x) (hm : xs.length ≤ m) : Gd (m * (n + 2) + 3) (k + 1) (.list xs) := by
  obtain ⟨h1, h2, h3, h4, h5⟩ := gd_all h
  have hl := listText_len_le (PyData.shownAll xs)
  have hmn : xs.length * n ≤ m * n := Nat.mul_le_mul_right _ hm
  refine ⟨?_, by rw [PyData.showable]; exact h3, by rw [PyData.hasDict]; exact h4, by rw [PyData.depth]; omega⟩
  rw [PyData.shown, Nat.mul_add]
  omega
theorem gd_tup {n k m : Nat} {xs : List PyData} (h : ∀ x ∈ xs, Gd n k x) (hm : xs.length ≤ m) : Gd (m * (n + 2) + 3) (k + 1) (.tuple xs) := by
  obtain ⟨h1, h2, h3, h4, h5⟩ := gd_all h
  have hl := tupleText_len_le (PyData.shownAll xs)
  have hmn : xs.length * n ≤ m * n := Nat.mul_le_mul_right _ hm
  refine ⟨?_, by rw [PyData.showable]; exact h3, by rw [PyData.hasDict]; exact h4, by rw [PyData.depth]; omega⟩
  rw [PyData.shown, Nat.mul_add]
  omega
/-- small whole numbers -/
def Few (i : Int) : Prop := i = -1 ∨ (0 ≤ i ∧ i < 100000)
theorem gd_int {i : Int} (h : Few i) : Gd 6 1 (.int i) := by
  rcases h with rfl | ⟨h0, h1⟩
  · exact ⟨by decide +kernel, by decide +kernel, by simp [PyData.hasDict], by simp [PyData.depth]⟩
  · obtain ⟨n, rfl⟩ : ∃ n : Nat, i = n := ⟨i.toNat, by omega⟩
    have hn : n < 100000 := by omega
    refine ⟨?_, ?_, by simp [PyData.hasDict], by simp [PyData.depth]⟩
    · rw [PyData.shown]
      show (Str.ofString (toString ((n : Nat) : Int))).length ≤ 6
      rw [num_S, S_len]
      exact Nat.le_trans (TL.numL_len (k := 5) (by decide) (by simpa using hn)) (by decide)
    · rw [PyData.showable, decide_eq_true_eq, Int.natAbs_natCast]
      by_cases z : n = 0
      · subst z; decide
      · exact Nat.lt_of_lt_of_le ((Nat.log2_lt z).mpr (show n < 2 ^ 17 by omega)) (by decide)
theorem gd_nat {n : Nat} (h : n < 100000) : Gd 6 1 (.int (n : Int)) := gd_int (.inr ⟨by omega, by omega⟩)
theorem gd_non : Gd 6 1 .none := ⟨by decide +kernel, by simp [PyData.showable], by simp [PyData.hasDict], by simp [PyData.depth]⟩
def NmOk (s : Str) : Prop := (PyData.str s).shown.length ≤ 12
theorem gd_str {s : Str} (h : NmOk s) : Gd 12 1 (.str s) := ⟨h, by simp [PyData.showable], by simp [PyData.hasDict], by simp [PyData.depth]⟩
/-! programs as data -/
def natD (n : Nat) : PyData := .int (n : Int)
def rowD (r : SP.Row) : PyData := .tuple [.int r.w, .tuple (r.yes.map natD), .tuple (r.no.map natD)]
def condD : Cond → PyData
  | .yes a => .tuple [.str "yes", natD a]
  | .no a => .tuple [.str "no", natD a]
  | .least k rs => .tuple [.str "least", .int k, .list (rs.map rowD)]
  | .below k rs => .tuple [.str "below", .int k, .list (rs.map rowD)]
def hD (r : Rl) : PyData := match r.kd with
  | .deny => .none
  | _ => natD r.h
def ruleD (r : Rl) : PyData := .tuple [.str (kR r.kd), hD r, .list (r.b.map condD)]
def atomD (s : Str) : PyData := .tuple [.str s, .tuple []]
def progD (names : List Str) (rs : List Rl) (co : List SP.Row) : PyData := .tuple [.str "program", .list (names.map atomD), .list (rs.map ruleD), .list (co.map rowD)]
/-- bounds -/
structure RwS (r : SP.Row) : Prop where
  w : Few r.w
  y : r.yes.length ≤ 2
  n : r.no.length ≤ 2
  ym : ∀ a ∈ r.yes, a < 1000
  nm : ∀ a ∈ r.no, a < 1000
def CnS : Cond → Prop
  | .yes a => a < 1000
  | .no a => a < 1000
  | .least k rs => Few k ∧ rs.length ≤ 3 ∧ ∀ r ∈ rs, RwS r
  | .below k rs => Few k ∧ rs.length ≤ 3 ∧ ∀ r ∈ rs, RwS r
structure RlS (r : Rl) : Prop where
  b : r.b.length ≤ 3
  h : r.kd ≠ .deny → r.h < 1000
  c : ∀ c ∈ r.b, CnS c
theorem gd_nats {xs : List Nat} (h : xs.length ≤ 2) (m : ∀ a ∈ xs, a < 1000) : Gd 19 2 (.tuple (xs.map natD)) := gd_tup (n := 6) (k := 1) (m := 2) (fun x hx => by
  obtain ⟨a, ha, rfl⟩ := List.mem_map.mp hx
  exact gd_nat (by have := m a ha; omega)) (by rw [List.length_map]; exact h)
theorem gd_row {r : SP.Row} (h : RwS r) : Gd 66 3 (rowD r) := gd_tup (n := 19) (k := 2) (m := 3) (fun x hx => by
  rcases List.mem_cons.mp hx with rfl | hx
  · exact (gd_int h.w).mono (by decide) (by decide)
  rcases List.mem_cons.mp hx with rfl | hx
  · exact gd_nats h.y h.ym
  rcases List.mem_cons.mp hx with rfl | hx
  · exact gd_nats h.n h.nm
  cases hx) (by simp)
theorem gd_rows {m : Nat} {rs : List SP.Row} (h : ∀ r ∈ rs, RwS r) (l : rs.length ≤ m) : Gd (m * 68 + 3) 4 (.list (rs.map rowD)) := gd_list (n := 66) (k := 3) (fun x hx => by
  obtain ⟨a, ha, rfl⟩ := List.mem_map.mp hx
  exact gd_row (h a ha)) (by rw [List.length_map]; exact l)
theorem nm_yes : NmOk "yes" := by unfold NmOk; decide +kernel
theorem nm_no : NmOk "no" := by unfold NmOk; decide +kernel
theorem nm_least : NmOk "least" := by unfold NmOk; decide +kernel
theorem nm_below : NmOk "below" := by unfold NmOk; decide +kernel
theorem nm_prog : NmOk "program" := by unfold NmOk; decide +kernel
theorem nm_kd (k : Kd) : NmOk (kR k) := by unfold NmOk; cases k <;> decide +kernel
theorem gd_cond {c : Cond} (h : CnS c) : Gd 630 5 (condD c) := by
  have two : ∀ (s : Str) (a : Nat), NmOk s → a < 1000 → Gd 630 5 (.tuple [.str s, natD a]) := fun s a hs ha => (gd_tup (n := 12) (k := 1) (m := 2) (fun x hx => by
    rcases List.mem_cons.mp hx with rfl | hx
    · exact gd_str hs
    rcases List.mem_cons.mp hx with rfl | hx
    · exact (gd_nat (by omega)).mono (by decide) (by decide)
    cases hx) (by simp)).mono (by decide) (by decide)
  have sum : ∀ (s : Str) (k : Int) (rs : List SP.Row), NmOk s → Few k → rs.length ≤ 3 → (∀ r ∈ rs, RwS r) → Gd 630 5 (.tuple [.str s, .int k, .list (rs.map rowD)]) := fun s k rs hs hk hl hr => (gd_tup (n := 207) (k := 4) (m := 3) (fun x hx => by
    rcases List.mem_cons.mp hx with rfl | hx
    · exact (gd_str hs).mono (by decide) (by decide)
    rcases List.mem_cons.mp hx with rfl | hx
    · exact (gd_int hk).mono (by decide) (by decide)
    rcases List.mem_cons.mp hx with rfl | hx
    · exact (gd_rows hr hl).mono (by decide) (by decide)
    cases hx) (by simp)).mono (by decide) (by decide)
  cases c with
  | yes a => exact two _ _ nm_yes h
  | no a => exact two _ _ nm_no h
  | least k rs => exact sum _ _ _ nm_least h.1 h.2.1 h.2.2
  | below k rs => exact sum _ _ _ nm_below h.1 h.2.1 h.2.2
theorem gd_rule {r : Rl} (h : RlS r) : Gd 5706 7 (ruleD r) := gd_tup (n := 1899) (k := 6) (m := 3) (fun x hx => by
  rcases List.mem_cons.mp hx with rfl | hx
  · exact (gd_str (nm_kd _)).mono (by decide) (by decide)
  rcases List.mem_cons.mp hx with rfl | hx
  · unfold hD
    cases e : r.kd with
    | deny => exact gd_non.mono (by decide) (by decide)
    | rule => exact (gd_nat (by have := h.h (by rw [e]; exact fun z => nomatch z); omega)).mono (by decide) (by decide)
    | choose => exact (gd_nat (by have := h.h (by rw [e]; exact fun z => nomatch z); omega)).mono (by decide) (by decide)
  rcases List.mem_cons.mp hx with rfl | hx
  · exact gd_list (n := 630) (k := 5) (m := 3) (fun x hx => by
      obtain ⟨a, ha, rfl⟩ := List.mem_map.mp hx
      exact gd_cond (h.c a ha)) (by rw [List.length_map]; exact h.b)
  cases hx) (by simp)
theorem gd_atom {s : Str} (h : NmOk s) : Gd 31 3 (atomD s) := gd_tup (n := 12) (k := 2) (m := 2) (fun x hx => by
  rcases List.mem_cons.mp hx with rfl | hx
  · exact (gd_str h).mono (by decide) (by decide)
  rcases List.mem_cons.mp hx with rfl | hx
  · exact (gd_tup (n := 0) (k := 0) (m := 0) (fun x hx => by cases hx) (by simp)).mono (by decide) (by decide)
  cases hx) (by simp)
theorem gd_prog {names : List Str} {rs : List Rl} {co : List SP.Row} (h1 : names.length ≤ 200) (h2 : ∀ s ∈ names, NmOk s) (h3 : rs.length ≤ 400) (h4 : ∀ r ∈ rs, RlS r) (h5 : co.length ≤ 200) (h6 : ∀ r ∈ co, RwS r) : Gd 10000000 60 (progD names rs co) :=
  (gd_tup (n := 2283203) (k := 8) (m := 4) (fun x hx => by
    rcases List.mem_cons.mp hx with rfl | hx
    · exact (gd_str nm_prog).mono (by decide) (by decide)
    rcases List.mem_cons.mp hx with rfl | hx
    · exact (gd_list (n := 31) (k := 3) (m := 200) (fun x hx => by
        obtain ⟨a, ha, rfl⟩ := List.mem_map.mp hx
        exact gd_atom (h2 a ha)) (by rw [List.length_map]; exact h1)).mono (by decide) (by decide)
    rcases List.mem_cons.mp hx with rfl | hx
    · exact (gd_list (n := 5706) (k := 7) (m := 400) (fun x hx => by
        obtain ⟨a, ha, rfl⟩ := List.mem_map.mp hx
        exact gd_rule (h4 a ha)) (by rw [List.length_map]; exact h3)).mono (by decide) (by decide)
    rcases List.mem_cons.mp hx with rfl | hx
    · exact (gd_rows h6 h5).mono (by decide) (by decide)
    cases hx) (by simp)).mono (by decide) (by decide)
/-! data in the heap -/
section
variable {K : PySem.W.Frag} {M : Vol} {H : Hp}
theorem dp_all {α : Type} {f : α → PyData} : ∀ {zs : List (α × V)}, (∀ z ∈ zs, Dp K H z.2 (f z.1)) → DpAll K H (zs.map Prod.snd) ((zs.map Prod.fst).map f)
  | [], _ => .nil
  | z :: r, h => .cons (h z List.mem_cons_self) (dp_all fun y hy => h y (List.mem_cons_of_mem _ hy))
theorem dp_nats : ∀ (xs : List Nat), DpAll K H (xs.map vN) (xs.map natD)
  | [] => .nil
  | x :: r => .cons (.int _) (dp_nats r)
theorem dp_row {r : SP.Row} {v : V} (h : RowAt K M r v H) : Dp K H v (rowD r) := by
  obtain ⟨a, y, n, rfl, h1, h2, h3⟩ := h
  exact .tup h1.2 (.cons (.int _) (.cons (.tup h2.2 (dp_nats _)) (.cons (.tup h3.2 (dp_nats _)) .nil)))
theorem dp_rows {rs : List SP.Row} {q : Addr} (h : RowsAt K M rs q H) : Dp K H (.ref q) (.list (rs.map rowD)) := by
  obtain ⟨zs, h1, rfl, h3⟩ := h
  exact .lst h1.2 (dp_all fun z hz => dp_row (h3 z hz))
theorem dp_cond {c : Cond} {v : V} (h : CondAt K M c v H) : Dp K H v (condD c) := by
  cases c with
  | yes a => obtain ⟨p, rfl, h1⟩ := h; exact .tup h1.2 (.cons (.str _) (.cons (.int _) .nil))
  | no a => obtain ⟨p, rfl, h1⟩ := h; exact .tup h1.2 (.cons (.str _) (.cons (.int _) .nil))
  | least k rs => obtain ⟨p, q, rfl, h1, h2⟩ := h; exact .tup h1.2 (.cons (.str _) (.cons (.int _) (.cons (dp_rows h2) .nil)))
  | below k rs => obtain ⟨p, q, rfl, h1, h2⟩ := h; exact .tup h1.2 (.cons (.str _) (.cons (.int _) (.cons (dp_rows h2) .nil)))
theorem dp_rule {r : Rl} {v : V} (h : RlAt K M r v H) : Dp K H v (ruleD r) := by
  obtain ⟨p, q, rfl, h1, zs, h2, h3, h4⟩ := h
  refine .tup h1.2 (.cons (.str _) (.cons ?_ (.cons ?_ .nil)))
  · unfold hV hD
    cases r.kd
    · exact .int _
    · exact .int _
    · exact .non
  · rw [← h3]; exact .lst h2.2 (dp_all fun z hz => dp_cond (h4 z hz))
def AtAt (K : PySem.W.Frag) (M : Vol) (s : Str) (v : V) (H : Hp) : Prop := ∃ p e, v = .ref p ∧ TupL K M H p [.str s, .ref e] ∧ TupL K M H e []
theorem AtAt.kx {A B : Hp} {s : Str} {v : V} (h : AtAt K M s v A) (k : Kx M A B) : AtAt K M s v B := by
  obtain ⟨p, e, h0, h1, h2⟩ := h; exact ⟨p, e, h0, h1.kx k, h2.kx k⟩
theorem AtAt.anti {M' : Vol} {A : Hp} {s : Str} {v : V} (h : AtAt K M' s v A) (i : ∀ b, M b → M' b) : AtAt K M s v A := by
  obtain ⟨p, e, h0, h1, h2⟩ := h; exact ⟨p, e, h0, h1.anti i, h2.anti i⟩
theorem dp_atom {s : Str} {v : V} (h : AtAt K M s v H) : Dp K H v (atomD s) := by
  obtain ⟨p, e, rfl, h1, h2⟩ := h
  exact .tup h1.2 (.cons (.str _) (.cons (.tup h2.2 .nil) .nil))
/-- what repr shows of a thing, now and as long as what is apart stands -/
def Shw (K : PySem.W.Frag) (M : Vol) (p : Addr) (H : Hp) : Prop := ∃ d, Gd 10000000 60 d ∧ ∀ H', Kx M H H' → Dp K H' (.ref p) d
theorem Shw.kx {A B : Hp} {p : Addr} (h : Shw K M p A) (k : Kx M A B) : Shw K M p B := by
  obtain ⟨d, g, f⟩ := h; exact ⟨d, g, fun H' k' => f H' (k.trans k')⟩
theorem shw_prog {p at_ rl cq : Addr} {az : List (Str × V)} {zs : List (Rl × V)} {co : List SP.Row} (h1 : TupL K M H p [.str "program", .ref at_, .ref rl, .ref cq]) (h2 : LstL K M H at_ (az.map Prod.snd)) (h3 : ∀ z ∈ az, AtAt K M z.1 z.2 H) (h4 : RzAt K M zs rl H) (h5 : RowsAt K M co cq H)
    (g1 : az.length ≤ 200) (g2 : ∀ z ∈ az, NmOk z.1) (g3 : zs.length ≤ 400) (g4 : ∀ z ∈ zs, RlS z.1) (g5 : co.length ≤ 200) (g6 : ∀ r ∈ co, RwS r) : Shw K M p H :=
  ⟨progD (az.map Prod.fst) (zs.map Prod.fst) co, gd_prog (by rw [List.length_map]; exact g1) (fun s hs => by
    obtain ⟨z, hz, rfl⟩ := List.mem_map.mp hs
    exact g2 z hz) (by rw [List.length_map]; exact g3) (fun r hr => by
    obtain ⟨z, hz, rfl⟩ := List.mem_map.mp hr
    exact g4 z hz) g5 g6, fun H' k => .tup (h1.kx k).2 (.cons (.str _) (.cons (.lst (h2.kx k).2 (dp_all fun z hz => dp_atom ((h3 z hz).kx k))) (.cons (.lst (h4.1.kx k).2 (dp_all fun z hz => dp_rule ((h4.2 z hz).kx k))) (.cons (dp_rows (h5.kx k)) .nil))))⟩
end
end LG
set_option Elab.async false
set_option maxRecDepth 100000
set_option maxHeartbeats 2000000
namespace SG
open PySem PySem.Spec PyProof.Rows L2 C8 GX LC SP
def nD (n : Nat) : PyData := .int (n : Int)
theorem nDs_shaped (xs : List Nat) : SeqAt.shaped (.list (xs.map nD)) = true := by
  have h1 : PyData.canLayAll0 (xs.map nD) = true := by
    induction xs with
    | nil => rfl
    | cons x r ih => rw [List.map_cons, PyData.canLayAll0, ih]; rfl
  have h2 : PyData.depthAll (xs.map nD) ≤ 1 := by
    clear h1
    induction xs with
    | nil => exact Nat.zero_le _
    | cons x r ih =>
      rw [List.map_cons, PyData.depthAll]
      have : (nD x).depth ≤ 1 := by unfold nD; rw [PyData.depth]; omega
      exact Nat.max_le.mpr ⟨this, ih⟩
  unfold SeqAt.shaped
  rw [PyData.canLay0, h1, PyData.depth]
  simp only [Bool.true_and, decide_eq_true_eq]
  omega
theorem nDs_eqv : ∀ (xs ys : List Nat), PyData.eqvAll (xs.map nD) (ys.map nD) = decide (xs = ys)
  | [], [] => by simp [PyData.eqvAll]
  | [], _ :: _ => by simp [PyData.eqvAll]
  | _ :: _, [] => by simp [PyData.eqvAll]
  | x :: r, y :: t => by
    rw [List.map_cons, List.map_cons, PyData.eqvAll, nDs_eqv r t]
    have e : PyData.eqv (nD x) (nD y) = decide (x = y) := by
      unfold nD
      simp only [PyData.eqv]
      by_cases h : x = y
      · subst h; simp
      · have : ¬ (x : Int) = (y : Int) := by omega
        simp [h, this]
    rw [e]
    by_cases h1 : x = y <;> by_cases h2 : r = t <;> simp [h1, h2]
theorem nDs_dp {K : PySem.W.Frag} {H : Hp} : ∀ xs : List Nat, DpAll K H (xs.map vN) (xs.map nD)
  | [] => .nil
  | x :: r => .cons (.int _) (nDs_dp r)
theorem ne_lists {K : PySem.W.Frag} {H : Hp} {a b : Addr} {xs ys : List Nat} {Q : VK} (h1 : SqL K H a (xs.map vN)) (h2 : SqL K H b (ys.map vN)) (k : Q (.bl (!decide (xs = ys))) H) : rNeD K (.ref a) (.ref b) H Q := by
  refine ⟨_, _, .lst h1 (nDs_dp xs), .lst h2 (nDs_dp ys), nDs_shaped xs, nDs_shaped ys, ?_⟩
  rw [PyData.eqv, nDs_eqv]
  exact k
end SG
namespace SG
theorem sorted_ext : ∀ {xs ys : List Nat}, xs.Pairwise (· < ·) → ys.Pairwise (· < ·) → (∀ a, a ∈ xs ↔ a ∈ ys) → xs = ys
  | [], [], _, _, _ => rfl
  | [], y :: r, _, _, h => absurd ((h y).mpr List.mem_cons_self) (by simp)
  | x :: r, [], _, _, h => absurd ((h x).mp List.mem_cons_self) (by simp)
  | x :: r, y :: t, h1, h2, h => by
    rw [List.pairwise_cons] at h1 h2
    have e : x = y := by
      rcases List.mem_cons.mp ((h x).mp List.mem_cons_self) with e | e
      · exact e
      · rcases List.mem_cons.mp ((h y).mpr List.mem_cons_self) with e2 | e2
        · exact e2.symm
        · have := h2.1 x e; have := h1.1 y e2; omega
    subst e
    refine congrArg (x :: ·) (sorted_ext h1.2 h2.2 fun a => ⟨fun ha => ?_, fun ha => ?_⟩)
    · rcases List.mem_cons.mp ((h a).mp (List.mem_cons_of_mem _ ha)) with e | e
      · have := h1.1 a ha; omega
      · exact e
    · rcases List.mem_cons.mp ((h a).mpr (List.mem_cons_of_mem _ ha)) with e | e
      · have := h2.1 a ha; omega
      · exact e
end SG
namespace SG
open PySem L2 C8 LC SP
theorem eq_lists {K : PySem.W.Frag} {H : Hp} {a b : Addr} {xs ys : List Nat} {Q : VK} (h1 : SqL K H a (xs.map vN)) (h2 : SqL K H b (ys.map vN)) (k : Q (.bl (decide (xs = ys))) H) : rEqD K (.ref a) (.ref b) H Q := by
  refine ⟨_, _, .lst h1 (nDs_dp xs), .lst h2 (nDs_dp ys), nDs_shaped xs, nDs_shaped ys, ?_⟩
  rw [PyData.eqv, nDs_eqv]
  exact k
end SG
set_option Elab.async false
set_option linter.all false
set_option maxRecDepth 100000
set_option maxHeartbeats 2000000
namespace LG
open PySem PySem.Spec PyProof.Rows L2 C8 SX GX LC SP SG
theorem bDs_lay (xs : List Bool) : PyData.canLay0 (.list (xs.map PyData.bool)) = true := by
  rw [PyData.canLay0]
  induction xs with
  | nil => rfl
  | cons x r ih => rw [List.map_cons, PyData.canLayAll0, ih]; rfl
theorem bDs_shaped (xs : List Bool) : SeqAt.shaped (.list (xs.map PyData.bool)) = true := by
  have h2 : PyData.depthAll (xs.map PyData.bool) ≤ 1 := by
    induction xs with
    | nil => exact Nat.zero_le _
    | cons x r ih =>
      rw [List.map_cons, PyData.depthAll]
      have : (PyData.bool x).depth ≤ 1 := by rw [PyData.depth]; omega
      exact Nat.max_le.mpr ⟨this, ih⟩
  unfold SeqAt.shaped
  rw [bDs_lay, PyData.depth]
  simp only [Bool.true_and, decide_eq_true_eq]
  omega
theorem bDs_dp {K : PySem.W.Frag} {H : Hp} : ∀ xs : List Bool, DpAll K H (xs.map V.bl) (xs.map PyData.bool)
  | [] => .nil
  | x :: r => .cons (.bl _) (bDs_dp r)
theorem ne_bools {K : PySem.W.Frag} {H : Hp} {a b : Addr} {bs : List Bool} {Q : VK} (h1 : SqL K H a (bs.map V.bl)) (h2 : SqL K H b (bs.map V.bl)) (k : Q (.bl false) H) : rNeD K (.ref a) (.ref b) H Q := by
  refine ⟨_, _, .lst h1 (bDs_dp bs), .lst h2 (bDs_dp bs), bDs_shaped bs, bDs_shaped bs, ?_⟩
  rw [show PyData.eqv _ _ = true from SeqAt.eqv_refl _ (bDs_lay bs)]
  exact k
theorem cut_from {xs : List V} {n : Nat} : cutV xs (some (n : Int)) none = xs.drop n := by
  unfold cutV
  rw [HT.sIx_nat, HT.sIx_none]
  by_cases h : n ≤ xs.length
  · rw [Nat.min_eq_left h, List.take_of_length_le (by rw [List.length_drop]; omega)]
  · rw [Nat.min_eq_right (by omega), List.drop_eq_nil_of_le (Nat.le_refl _), List.drop_eq_nil_of_le (by omega), List.take_nil]
theorem cut_to {xs : List V} {n : Nat} : cutV xs none (some (n : Int)) = xs.take n := by
  unfold cutV
  rw [HT.sIx_nat, HT.sIx_none, List.drop_zero, Nat.sub_zero]
  by_cases h : n ≤ xs.length
  · rw [Nat.min_eq_left h]
  · rw [Nat.min_eq_right (by omega), List.take_of_length_le (Nat.le_refl _), List.take_of_length_le (by omega)]
end LG
set_option Elab.async false
set_option linter.all false
set_option maxRecDepth 100000
set_option maxHeartbeats 4000000
namespace LR
open PySem PySem.Spec PyProof.Rows L2 C8
/-! sorted(d, key=rank): a dict with whole numbers and texts as keys; rank gives (0, number) or (1, text) -/
def tagK : Key → Int
  | .inl _ => 0
  | .inr _ => 1
def itK : Key → Int ⊕ List Nat
  | .inl i => .inl i
  | .inr x => .inr x.cps.toList
/-- numbers first, then texts, each in their own order -/
def leK (a b : Key) : Prop := itemLt (itK b) (itK a) = false
theorem itK_inj : ∀ {a b : Key}, itK a = itK b → a = b
  | .inl i, .inl j, h => by rw [Sum.inl.inj h]
  | .inl i, .inr y, h => nomatch h
  | .inr x, .inl j, h => nomatch h
  | .inr x, .inr y, h => by
    have e := Array.toList_inj.mp (Sum.inr.inj h)
    cases x; cases y
    simp only at e
    rw [e]
/-- the object at v is the rank of k -/
def RankAt (h : Heap) (v : Value) (k : Key) : Prop := ∃ (p : Addr) (ob : Obj) (its : Array Value) (n : Nat) (t : Tok) (u : Value), v = .ref p ∧ h.get? p = some ob ∧ ob.cls = .type "tuple" ∧ ob.data = .seq its n ∧ its.toList = [.int (tagK k) t, u] ∧ RelV (kV k) u
theorem rel_key : ∀ {k l : Key} {u : Value}, RelV (kV k) u → RelV (kV l) u → k = l
  | .inl i, .inl j, u, h1, h2 => by
    obtain ⟨t, e⟩ := (show ∃ t, u = Value.int i t from h1)
    obtain ⟨t', e'⟩ := (show ∃ t, u = Value.int j t from h2)
    rw [e] at e'; cases e'; rfl
  | .inl i, .inr y, u, h1, h2 => by
    obtain ⟨t, e⟩ := (show ∃ t, u = Value.int i t from h1)
    obtain ⟨t', e'⟩ := (show ∃ t, u = Value.str y t from h2)
    rw [e] at e'; cases e'
  | .inr x, .inl j, u, h1, h2 => by
    obtain ⟨t, e⟩ := (show ∃ t, u = Value.str x t from h1)
    obtain ⟨t', e'⟩ := (show ∃ t, u = Value.int j t from h2)
    rw [e] at e'; cases e'
  | .inr x, .inr y, u, h1, h2 => by
    obtain ⟨t, e⟩ := (show ∃ t, u = Value.str x t from h1)
    obtain ⟨t', e'⟩ := (show ∃ t, u = Value.str y t from h2)
    rw [e] at e'; cases e'; rfl
theorem RankAt.one {h : Heap} {v : Value} {k l : Key} (a : RankAt h v k) (b : RankAt h v l) : k = l := by
  obtain ⟨p, ob, its, n, t, u, rfl, e1, _, d1, l1, r1⟩ := a
  obtain ⟨q, ob2, its2, n2, t2, u2, ev, e2, _, d2, l2, r2⟩ := b
  cases ev
  rw [e1] at e2; cases e2
  rw [d1] at d2; cases d2
  rw [l1] at l2
  have eu : u = u2 := by
    have := (List.cons.inj (List.cons.inj l2).2).1
    exact this
  subst eu
  exact rel_key r1 r2
theorem RankAt.keep {h h' : Heap} {v : Value} {k : Key} (a : RankAt h v k) (kp : ∀ b o, o.cls = .type "tuple" → h.get? b = some o → h'.get? b = some o) : RankAt h' v k := by
  obtain ⟨p, ob, its, n, t, u, rfl, e1, c1, rest⟩ := a
  exact ⟨p, ob, its, n, t, u, rfl, kp p ob c1 e1, c1, rest⟩
noncomputable def rankKind (h : Heap) : KeyKind where
  toKeyOrd := itemOrd
  keyOf v := open Classical in if q : ∃ k, RankAt h v k then some (itK q.choose) else none
  dflt := .inl 0
theorem rank_some {h : Heap} {v : Value} {k : Key} (r : RankAt h v k) : (rankKind h).keyOf v = some (itK k) := by
  have q : ∃ k, RankAt h v k := ⟨k, r⟩
  show (open Classical in if q : ∃ k, RankAt h v k then some (itK q.choose) else none) = _
  rw [dif_pos q, q.choose_spec.one r]
theorem rank_inv {h : Heap} {v : Value} {a : Int ⊕ List Nat} (e : (rankKind h).keyOf v = some a) : ∃ k, RankAt h v k ∧ a = itK k := by
  by_cases q : ∃ k, RankAt h v k
  · obtain ⟨k, r⟩ := id q
    rw [rank_some r] at e
    exact ⟨k, r, (Option.some.inj e).symm⟩
  · have e' : (rankKind h).keyOf v = none := by
      show (open Classical in if q : ∃ k, RankAt h v k then some (itK q.choose) else none) = _
      rw [dif_neg q]; rfl
    rw [e'] at e; cases e
section
variable {P : Program} {w : World} {A : Around} {s : Shared}
theorem rank_ltAt : H.LtAt P w A s (rankKind s.heap) (tuples' true) := by
  intro E x y a b Q hx hy hq
  obtain ⟨k, rx, rfl⟩ := rank_inv hx
  obtain ⟨l, ry, rfl⟩ := rank_inv hy
  obtain ⟨p, o, xs, n, t1, u1, rfl, ho, hc, hd, hl, r1⟩ := rx
  obtain ⟨q, o2, ys, m, t2, u2, rfl, ho2, hc2, hd2, hl2, r2⟩ := ry
  have sx : xs.size = 2 := by rw [← Array.length_toList, hl]; rfl
  have sy : ys.size = 2 := by rw [← Array.length_toList, hl2]; rfl
  have fin : decide (xs.size < ys.size) = false := by rw [sx, sy]; rfl
  refine PySem.W.kat_lt ho hd ho2 hd2 ?_
  rw [hl, hl2, fin]
  have hq : Q (itemLt (itK k) (itK l)) s := hq
  show PySem.W.KatLex P w A true false Q [(.int (tagK k) t1, .int (tagK l) t2), (u1, u2)] 0 s
  refine PySem.W.kat_cons (wpAny_eqBool_int ?_)
  cases k with
  | inl i =>
    obtain ⟨z1, rfl⟩ := (show ∃ t, u1 = Value.int i t from r1)
    cases l with
    | inl j =>
      obtain ⟨z2, rfl⟩ := (show ∃ t, u2 = Value.int j t from r2)
      have hq : Q (decide (i < j)) s := hq
      refine PySem.W.kat_go (fun _ => PySem.W.kat_yes ?_) (fun e => absurd e (by simp [tagK]))
      refine PySem.W.kat_cons (wpAny_eqBool_int ?_)
      refine PySem.W.kat_go (fun e => PySem.W.kat_yes (PySem.W.kat_nil ?_)) (fun e => PySem.W.kat_no (oneLt_any_int hq))
      have e : i = j := by simpa using e
      subst e
      rw [decide_eq_false (by omega)] at hq
      exact hq
    | inr y =>
      have hq : Q true s := hq
      refine PySem.W.kat_go (fun e => absurd e (by simp [tagK])) (fun _ => PySem.W.kat_no (oneLt_any_int hq))
  | inr x =>
    obtain ⟨z1, rfl⟩ := (show ∃ t, u1 = Value.str x t from r1)
    cases l with
    | inl j =>
      have hq : Q false s := hq
      refine PySem.W.kat_go (fun e => absurd e (by simp [tagK])) (fun _ => PySem.W.kat_no (oneLt_any_int hq))
    | inr y =>
      obtain ⟨z2, rfl⟩ := (show ∃ t, u2 = Value.str y t from r2)
      have hq : Q (decide (x.cps.toList < y.cps.toList)) s := hq
      refine PySem.W.kat_go (fun _ => PySem.W.kat_yes ?_) (fun e => absurd e (by simp [tagK]))
      refine PySem.W.kat_cons (wpAny_eqBool_str ?_)
      refine PySem.W.kat_go (fun e => PySem.W.kat_yes (PySem.W.kat_nil ?_)) (fun e => PySem.W.kat_no (oneLt_any_str hq))
      have e : x = y := of_decide_eq_true e
      subst e
      rw [decide_eq_false (List.lt_irrefl _)] at hq
      exact hq
theorem rank_firsts {h : Heap} : ∀ {vs : List Value} {ks : List Key}, PySem.W.EachIs (RankAt h) vs ks → ∃ fs, PySem.W.KatTups h vs fs ∧ fs.length = vs.length ∧ ∀ f ∈ fs, ∃ i t, f = Value.int i t
  | _, _, .nil => ⟨[], PySem.W.KatTups.nil, rfl, fun f hf => nomatch hf⟩
  | _, _, .cons r t => by
    obtain ⟨fs, h1, h2, h3⟩ := rank_firsts t
    obtain ⟨p, o, xs, n, t1, u1, rfl, ho, hc, hd, hl, _⟩ := r
    refine ⟨_ :: fs, PySem.W.KatTups.cons ho hc hd (f := .int _ t1) (by rw [← Array.getElem?_toList, hl]; rfl) h1, by simp [h2], fun f hf => ?_⟩
    rcases List.mem_cons.mp hf with e | hf
    · exact ⟨_, _, e⟩
    · exact h3 f hf
theorem each_left {α β : Type} {R : α → β → Prop} : ∀ {as : List α} {bs : List β}, PySem.W.EachIs R as bs → ∀ a ∈ as, ∃ b ∈ bs, R a b
  | _, _, .nil, a, h => nomatch h
  | _, _, .cons r t, a, h => by
    rcases List.mem_cons.mp h with e | h
    · subst e; exact ⟨_, List.mem_cons_self, r⟩
    · obtain ⟨b, hb, rb⟩ := each_left t a h
      exact ⟨b, List.mem_cons_of_mem _ hb, rb⟩
theorem rank_sorts {vs : List Value} {ks : List Key} (e : PySem.W.EachIs (RankAt s.heap) vs ks) : PySem.W.SortsAt P w A s (rankKind s.heap) vs := by
  refine ⟨fun v hv => ?_, tuples' true, rank_ltAt, fun h2 E Q hq => ?_⟩
  · obtain ⟨k, _, r⟩ := each_left e v hv
    exact ⟨_, rank_some r⟩
  · obtain ⟨fs, h1, hl, h3⟩ := rank_firsts e
    have eq1 : (Value.type "int" != Value.type "tuple") = true := by first | rfl | decide
    refine PySem.W.kat_kind (T := Value.type "int") h1 (by omega) (fun v hv => ?_) rfl (by rw [eq1]; exact hq)
    obtain ⟨i, t, rfl⟩ := h3 v hv
    exact PySem.W.Looks.of_pure rfl
end
/-- what stands for a key -/
def unK : Value → Key
  | .int i _ => .inl i
  | .str x _ => .inr x
  | _ => .inl 0
theorem unK_of : ∀ {k : Key} {v : Value}, RelV (kV k) v → unK v = k
  | .inl i, v, h => by
    obtain ⟨t, rfl⟩ := (show ∃ t, v = Value.int i t from h); rfl
  | .inr x, v, h => by
    obtain ⟨t, rfl⟩ := (show ∃ t, v = Value.str x t from h); rfl
theorem vals_unK : ∀ {out : List Value}, (∀ v ∈ out, RelV (kV (unK v)) v) → Vals ((out.map unK).map kV) out
  | [], _ => .nil
  | v :: r, h => .cons (h v List.mem_cons_self) (vals_unK fun u hu => h u (List.mem_cons_of_mem _ hu))
theorem zip_rel {h : Heap} : ∀ {kz vs : List Value} {ks : List Key}, PySem.W.EachIs (RankAt h) kz ks → Paired (fun k v => RelV (kV k) v) ks vs → ∀ p ∈ kz.zip vs, RankAt h p.1 (unK p.2) ∧ RelV (kV (unK p.2)) p.2
  | _, _, _, .nil, .nil, p, hp => nomatch hp
  | _, _, _, .cons r t, .cons q u, p, hp => by
    rcases List.mem_cons.mp hp with e | hp
    · subst e
      refine ⟨?_, ?_⟩
      · rw [unK_of q]; exact r
      · rw [unK_of q]; exact q
    · exact zip_rel t u p hp
theorem map_unK : ∀ {ks : List Key} {vs : List Value}, Paired (fun k v => RelV (kV k) v) ks vs → vs.map unK = ks
  | _, _, .nil => rfl
  | _, _, .cons q u => by rw [List.map_cons, unK_of q, map_unK u]
/-- the sorted list -/
theorem sorted_keys {h : Heap} {kz vs : List Value} {ks : List Key} (e : PySem.W.EachIs (RankAt h) kz ks) (q : Paired (fun k v => RelV (kV k) v) ks vs) :
    ∃ ys : List Key, ys.Perm ks ∧ ys.Pairwise leK ∧ Vals (ys.map kV) (PySem.W.sortVals (rankKind h) false kz vs) := by
  have hl : kz.length = vs.length := e.length.trans q.length
  have zr := zip_rel e q
  have pm : ((kz.zip vs).mergeSort (PySem.W.sortLe (rankKind h).toKeyOrd false fun p : Keyed => PySem.W.keyD (rankKind h) p.1)).Perm (kz.zip vs) := List.mergeSort_perm _ _
  generalize hps : (kz.zip vs).mergeSort (PySem.W.sortLe (rankKind h).toKeyOrd false fun p : Keyed => PySem.W.keyD (rankKind h) p.1) = ps at pm
  have eo : PySem.W.sortVals (rankKind h) false kz vs = ps.map Prod.snd := by unfold PySem.W.sortVals; rw [hps]
  have T := PySem.W.sortLe_total (rankKind h).toKeyOrd false (fun p : Keyed => PySem.W.keyD (rankKind h) p.1)
  have srt : ps.Pairwise fun p q => (PySem.W.sortLe (rankKind h).toKeyOrd false (fun p : Keyed => PySem.W.keyD (rankKind h) p.1)) p q = true := by
    rw [← hps]
    exact List.pairwise_mergeSort (fun a b c => T.trans a b c) (fun a b => by rw [Bool.or_eq_true]; exact T.total a b) _
  have mem : ∀ p ∈ ps, RankAt h p.1 (unK p.2) ∧ RelV (kV (unK p.2)) p.2 := fun p hp => zr p (pm.mem_iff.mp hp)
  refine ⟨(ps.map Prod.snd).map unK, ?_, ?_, ?_⟩
  · have h1 : (kz.zip vs).map Prod.snd = vs := List.map_snd_zip (by omega)
    have h2 := (pm.map Prod.snd).map unK
    rw [h1, map_unK q] at h2
    exact h2
  · rw [List.map_map, List.pairwise_map]
    refine srt.imp_of_mem fun {a b} ha hb hab => ?_
    have ka : PySem.W.keyD (rankKind h) a.1 = itK (unK a.2) := PySem.W.keyD_some (rank_some (mem a ha).1)
    have kb : PySem.W.keyD (rankKind h) b.1 = itK (unK b.2) := PySem.W.keyD_some (rank_some (mem b hb).1)
    have hab : (!itemLt (PySem.W.keyD (rankKind h) b.1) (PySem.W.keyD (rankKind h) a.1)) = true := hab
    rw [ka, kb] at hab
    show itemLt (itK (unK b.2)) (itK (unK a.2)) = false
    simpa using hab
  · rw [eo]
    refine vals_unK fun v hv => ?_
    obtain ⟨p, hp, rfl⟩ := List.mem_map.mp hv
    exact (mem p hp).2
end LR
set_option Elab.async false
set_option linter.all false
set_option maxRecDepth 100000
set_option maxHeartbeats 4000000
namespace LR
open PySem PySem.Spec PyProof.Rows L2 C8
/-- what the key def promises -/
def spRank (_K : PySem.W.Frag) : Sp := fun vs H Q _ => ∃ k : Key, vs = [kV k] ∧ ∀ t, H t = none → Q (.ref t) (upd H t (.tup [.int (tagK k), kV k]))
/-- sorted(d, key=f), d a dict of numbers and texts -/
def rSortRank (f : Addr) : List V → List V → Hp → VK → Prop := fun vs zs H Q => ∃ (a : Addr) (kvs : List (Key × V)), vs = [.ref a] ∧ zs = [.ref f] ∧ Rd H a (.dK kvs) ∧ kvs.length < sizeLine ∧
  ∀ (ys : List Key) (p : Addr) (H' : Hp), ys.Perm (kvs.map (·.1)) → ys.Pairwise leK → Same H H' → H p = none → H' p = some (.lst (ys.map kV)) → Q (.ref p) H'
/-- what a walk of a dict's keys has laid into an array -/
theorem keyVals {vs : List (Key × Value)} {arr : Array Value} (hn : arr.size = vs.length)
    (hat : ∀ (i : Nat) (u : Value), arr[i]? = some u → ∃ key val, vs[i]? = some (key, val) ∧ keyIs key u = true) : Paired (fun k v => RelV (kV k) v) (vs.map Prod.fst) arr.toList := by
  have go : ∀ (vs : List (Key × Value)) (us : List Value), us.length = vs.length → (∀ (i : Nat) (u : Value), us[i]? = some u → ∃ key val, vs[i]? = some (key, val) ∧ keyIs key u = true) → Paired (fun k v => RelV (kV k) v) (vs.map Prod.fst) us := by
    intro vs
    induction vs with
    | nil =>
      intro us hl _
      cases us with
      | nil => exact .nil
      | cons u r => cases hl
    | cons p r ih =>
      intro us hl h
      cases us with
      | nil => cases hl
      | cons u t =>
        refine .cons ?_ (ih t (Nat.succ.inj hl) fun i v hv => h (i + 1) v hv)
        obtain ⟨key, val, e, hk⟩ := h 0 u rfl
        have e : p = (key, val) := Option.some.inj e
        subst e
        rcases keyIs_shape hk with ⟨m, tok, em, eu⟩ | ⟨x, tok, em, eu⟩
        · subst em; exact (show ∃ t, u = Value.int m t from ⟨tok, eu⟩)
        · subst em; exact (show ∃ t, u = Value.str x t from ⟨tok, eu⟩)
  exact go vs arr.toList (by rw [Array.length_toList]; exact hn) fun i u hu => hat i u (by rw [← Array.getElem?_toList]; exact hu)
theorem each_snoc' {α β : Type} {R : α → β → Prop} : ∀ {as : List α} {bs : List β} {a : α} {b : β}, PySem.W.EachIs R as bs → R a b → PySem.W.EachIs R (as ++ [a]) (bs ++ [b])
  | _, _, _, _, .nil, h => .cons h .nil
  | _, _, _, _, .cons r t, h => .cons r (each_snoc' t h)
theorem paired_at {ks : List Key} {vs : List Value} (q : Paired (fun k v => RelV (kV k) v) ks vs) : ∀ {j : Nat} {v : Value}, vs[j]? = some v → ∃ k, ks[j]? = some k ∧ RelV (kV k) v := by
  induction q with
  | nil => intro j v h; simp at h
  | cons r t ih =>
    intro j v h
    cases j with
    | zero =>
      rw [List.getElem?_cons_zero] at h
      cases h
      exact ⟨_, rfl, r⟩
    | succ j => exact ih h
section
variable {X : Cx} {pins : List (Addr × Obj)} {σ : L2.St} {H : Hp} {n : Nat} {f : Addr} {fd : FuncData} {ps : List Str}
def RkH (H : Hp) (v : Value) (k : Key) : Prop := ∃ t, v = .ref t ∧ H t = some (.tup [.int (tagK k), kV k])
/-- what stands while the keys are made: the two lists of the sort, the keys so far -/
structure Made (X : Cx) (pins : List (Addr × Obj)) (σ : L2.St) (H : Hp) (a kS : Addr) (e1 : Nat) (ks : List Key) (s : Shared) : Prop where
  ex : ∃ (H' : Hp) (kA : Array Value) (e : Nat), Inv X pins σ H' s ∧ Same H H' ∧ FpOk X pins H' a ∧ FpOk X pins H' kS ∧ s.heap.get? kS = some (seqObj "list" kA e) ∧ s.heap.get? a = some (seqObj "list" #[] e1) ∧ PySem.W.EachIs (RkH H') kA.toList ks
theorem tup_rank {P : Program} {w : World} {H : Hp} {s : Shared} {t : Addr} {k : Key} {u : Value} (ok : HOk P w H s.heap) (e : H t = some (.tup [.int (tagK k), kV k])) (r : RelV (.ref t) u) : RankAt s.heap u k := by
  obtain ⟨_, its, rv, ob, e1, c1, n, d1⟩ := ok t _ e
  obtain rfl : u = Value.ref t := r
  obtain ⟨u1, u2, rfl, r1, r2⟩ := vals2 rv
  obtain ⟨tk, rfl⟩ := (show ∃ t, u1 = Value.int (tagK k) t from r1)
  exact ⟨t, ob, _, n, tk, u2, rfl, e1, c1, d1, by simp, r2⟩
theorem make_key (F : FnOk X.prog X.w X.K X.mg X.base C8.CX0 n f fd ps (spRank X.K)) (hb : Binds X.K fd ps []) {A : Around} (hA : ∀ {s H}, Inv X pins σ H s → Env0 X.prog X.w X.K X.mg X.base A X.stack s H) (hr : Room n A)
    {a kS : Addr} {e1 : Nat} {ks : List Key} {k : Key} {v : Value} {s : Shared} (hka : kS ≠ a) (fits : ks.length < sizeLine) (M : Made X pins σ H a kS e1 ks s) (rv : RelV (kV k) v) {E : Value → Shared → Prop} :
    wpAny (model X.prog X.w) A (call (.ref f) [v]) (fun u s' => ∃ (kA : Array Value) (e : Nat), s'.heap.get? kS = some (seqObj "list" kA e) ∧ kA.size ≤ sizeLine - 1 ∧ kA.size = ks.length ∧ Made X pins σ H a kS e1 (ks ++ [k]) { s' with heap := s'.heap.update kS (Obj.mapSeq (·.push u)) }) E s := by
  obtain ⟨H', kA, e, I, sm, fa, fk, nk, na, ev⟩ := M.ex
  have hlen : kA.size = ks.length := by rw [← Array.length_toList]; exact ev.length
  have b := hb s [v] I.kIn (by rw [← F.len [kV k] H' (fun _ _ => True) (fun _ _ _ => True) ⟨k, rfl, fun _ _ => trivial⟩]; rfl)
  rw [List.append_nil] at b
  refine wpAny_call (codeAny_mono (F.run A X.stack s H' ⟨[v], []⟩ [v] [kV k] (fun v' H2 => ∃ t, v' = .ref t ∧ H' t = none ∧ H2 = upd H' t (.tup [.int (tagK k), kV k])) (fun _ _ _ => False) hr (hA I) b (.cons rv .nil) ⟨k, rfl, fun t ht => ⟨t, rfl, ht, rfl⟩⟩) fun r s' hq => ?_)
  cases r with
  | error x => exact hq.elim
  | ok fl =>
    cases fl with
    | next => exact hq.elim
    | brk => exact hq.elim
    | cont => exact hq.elim
    | ret u =>
      obtain ⟨v', H2, eos, bare, un, hok, ru, t, rfl, ht, rfl⟩ := hq
      have nfr : ∀ {b}, FpOk X pins H' b → b ∉ frs X.stack := fun {b} fb hb => (List.mem_cons.mp (I.stkSub b hb)).elim fb.2.1 fb.2.2.1
      have nk' := un.keep kS _ nk fk.1 (nfr fk) (by simp)
      have na' := un.keep a _ na fa.1 (nfr fa) (by simp)
      have I2 : Inv X pins σ (upd H' t (.tup [.int (tagK k), kV k])) s' := I.call' (ch := []) eos un hok bare (fun b z => nomatch z)
      have ne : ∀ {b}, FpOk X pins H' b → (∃ o, s.heap.get? b = some o) → b ≠ t := fun {b} fb ⟨o, eo⟩ z => by
        have := un.free b o eo fb.1 (by simp)
        rw [z, upd_same] at this; cases this
      have fk2 : FpOk X pins (upd H' t (.tup [.int (tagK k), kV k])) kS := ⟨by rw [upd_ne (ne fk ⟨_, nk⟩)]; exact fk.1, fk.2⟩
      have fa2 : FpOk X pins (upd H' t (.tup [.int (tagK k), kV k])) a := ⟨by rw [upd_ne (ne fa ⟨_, na⟩)]; exact fa.1, fa.2⟩
      have sb := Heap.SameBut.update s'.heap kS (Obj.mapSeq (·.push u))
      obtain ⟨c2, hc2⟩ : ∃ c2, (s'.heap.update kS (Obj.mapSeq (·.push u))).get? kS = some (seqObj "list" (kA.push u) c2) := ⟨_, get?_update_seq nk' (·.push u)⟩
      refine ⟨kA, e, nk', by omega, hlen, ⟨_, kA.push u, c2, ?_, sm.trans (LC.same_new ht), fa2, fk2, hc2, (sb.2 a (Ne.symm hka)).trans na', ?_⟩⟩
      · exact I2.turnedL (t' := s'.toks) (ch := [kS]) (fun b o hb q => (sb.2 b (fun z => hb (by simp [z]))).trans q) (fun b hb => by rw [List.mem_singleton.mp hb]; exact fk2)
      · rw [Array.toList_push]
        obtain rfl : u = Value.ref t := ru
        exact each_snoc' (ev.mono fun v k ⟨p, e, hp⟩ => ⟨p, e, by rw [upd_ne (ne_of_none hp ht)]; exact hp⟩) ⟨t, rfl, upd_same⟩

theorem tree_one (q a : Addr) : Builtin.«list.sort» ⟨[.ref a], [(Str.ofString "key", .ref q)]⟩ = ksk_tree a (.ref q) false := PyProof.Rows.ksk_t1 q a
/-- the keys are there: the sort itself, the new list tracked -/
theorem sort_end {a kS : Addr} {e1 : Nat} {ks : List Key} {vs : List Value} {s : Shared} {A : Around} {Q : Fin → Shared → Prop} {E : Value → Shared → Prop} (hka : kS ≠ a) (M : Made X pins σ H a kS e1 ks s) (q : Paired (fun k v => RelV (kV k) v) ks vs) (fits : ks.length < sizeLine)
    (fin : ∀ (ys : List Key) (H' : Hp) (s' : Shared), ys.Perm ks → ys.Pairwise leK → Same H H' → H' a = some (.lst (ys.map kV)) → Inv X pins σ H' s' → Q (.done (.ret .none)) s') :
    wpAny (model X.prog X.w) A (Builtin.List.listItems (.ref kS) >>= fun keys => ksk_end a false vs.toArray e1 (.ref kS) keys) Q E s := by
  obtain ⟨H', kA, e, I, sm, fa, fk, nk, na, ev⟩ := M.ex
  have er : PySem.W.EachIs (RankAt s.heap) kA.toList ks := ev.mono fun v k ⟨t, ev, ht⟩ => by
    subst ev
    exact tup_rank I.hok ht (show Value.ref t = Value.ref t from rfl)
  have lk : kA.size = ks.length := by rw [← Array.length_toList]; exact ev.length
  have lv : ks.length = vs.length := q.length
  refine wpAny_bind (listItems_at nk rfl ?_)
  obtain ⟨G, g1, g2⟩ := restrict s.heap fun b => decide (b ≠ kS)
  have gk : ∀ b, b ≠ kS → G.get? b = s.heap.get? b := fun b hb => g1 b (decide_eq_true hb)
  have kp : PySem.W.KeepsBut a G s.heap := fun b o _ e => by
    by_cases z : b = kS
    · rw [z, g2 kS (decide_eq_false fun z => z rfl)] at e; cases e
    · rw [gk b z] at e; exact e
  obtain ⟨ys, h1, h2, h3⟩ := sorted_keys er q
  refine PySem.W.keyH_end (κ := rankKind s.heap) (vs := vs) (h₁ := G) kp (g2 kS (decide_eq_false fun z => z rfl)) nk na hka (rank_sorts er) (by omega) (by omega) fun h' tk c keep there => ?_
  have kb : ∀ b o, b ≠ a → b ≠ kS → s.heap.get? b = some o → h'.get? b = some o := fun b o n1 n2 e => keep b o n1 (by rw [gk b n2]; exact e)
  have nb : ∀ {b : Addr} {o : HO}, H' b = some o → b ≠ a ∧ b ≠ kS := fun {b o} e => ⟨(fun z => by rw [z, fa.1] at e; cases e), (fun z => by rw [z, fk.1] at e; cases e)⟩
  have up : ∀ b u, H' b = some u → upd H' a (.lst (ys.map kV)) b = some u := fun b u e => by rw [upd_ne (nb e).1]; exact e
  have new : ObjOk X.prog X.w (upd H' a (.lst (ys.map kV))) h' a (.lst (ys.map kV)) := ⟨by rw [List.length_map, h1.length_eq]; omega, _, c, h3, there⟩
  have inL : X.env.locals ≠ a ∧ X.env.locals ≠ kS := ⟨Ne.symm fa.2.1, Ne.symm fk.2.1⟩
  refine fin ys (upd H' a (.lst (ys.map kV))) { s with heap := h', toks := tk } h1 h2 (fun b o e => up b o (sm b o e)) upd_same ?_
  refine I.step (g' := s.gens) (d' := s.drawn) (ch := [a, kS]) (fun b hb => ?_) (fun b o _ _ hc e _ => kb b o (fun z => hc (by simp [z])) (fun z => hc (by simp [z])) e) (fun b o _ _ hc e _ => ⟨o.slots, kb b o (fun z => hc (by simp [z])) (fun z => hc (by simp [z])) e⟩)
    (fun b o hc _ n => by rw [upd_ne (fun z => hc (by simp [z]))]; exact n) (fun b o hc e => ⟨o, kb b o (fun z => hc (by simp [z])) (fun z => hc (by simp [z])) e⟩) (fun b _ e => up b _ e) (fun b _ _ e => up b _ e) (fun b ps e => ⟨#[], by rw [up b _ e]; simp⟩) (fun m hm => ?_) (fun b u e => ?_) I.bare
  · simp only [List.mem_cons, List.not_mem_nil, or_false] at hb
    rcases hb with z | z
    · rw [z]; exact ⟨fa.2.2.2.1, fa.2.1, fa.2.2.2.2.1, fa.2.2.2.2.2⟩
    · rw [z]; exact ⟨fk.2.2.2.1, fk.2.1, fk.2.2.2.2.1, fk.2.2.2.2.2⟩
  · obtain ⟨o, es, ep, ho, r⟩ := hm
    exact ⟨o, es, ep, kb _ o inL.1 inL.2 ho, r⟩
  · by_cases hb : b = a
    · rw [hb, upd_same] at e
      cases e
      rw [hb]
      exact new
    · rw [upd_ne hb] at e
      refine (I.hok b u e).stay (fun c v hc q => kb c v ?_ ?_ q) (fun c q => up c _ q) fun c _ q => up c _ q
      · rcases hc with z | z
        · rw [z]; exact hb
        · exact (nb z).1
      · rcases hc with z | z
        · rw [z]; exact (nb e).2
        · exact (nb z).2
theorem sort_rest (F : FnOk X.prog X.w X.K X.mg X.base C8.CX0 n f fd ps (spRank X.K)) (hb : Binds X.K fd ps []) {A : Around} (hA : ∀ {s H}, Inv X pins σ H s → Env0 X.prog X.w X.K X.mg X.base A X.stack s H) (hr : Room n A)
    {a kS : Addr} {e1 : Nat} {ks : List Key} {vs : List Value} {s : Shared} {Q : Fin → Shared → Prop} {E : Value → Shared → Prop} (hka : kS ≠ a) (M : Made X pins σ H a kS e1 [] s) (q : Paired (fun k v => RelV (kV k) v) ks vs) (fits : ks.length < sizeLine)
    (fin : ∀ (ys : List Key) (H' : Hp) (s' : Shared), ys.Perm ks → ys.Pairwise leK → Same H H' → H' a = some (.lst (ys.map kV)) → Inv X pins σ H' s' → Q (.done (.ret .none)) s') :
    wpAny (model X.prog X.w) A (ksk_rest a (.ref f) false vs.toArray e1 (.ref kS)) Q E s := by
  unfold ksk_rest
  refine wpAny_bind (wpAny_rule ?_)
  rw [List.forIn_toArray]
  refine wpAny_bind (ksk_fold (fun i s' => Made X pins σ H a kS e1 (ks.take i) s') vs 0 s (by rw [List.take_zero]; exact M) ?step ?done)
  case step =>
    intro j x s' hx hM
    simp only [Nat.zero_add] at hM ⊢
    obtain ⟨k, hk, rk⟩ := paired_at q hx
    have hj : j < ks.length := (List.getElem?_eq_some_iff.mp hk).1
    refine wpAny_bind (wpAny_attempt (wpAny_mono (make_key (E := fun _ _ => False) F hb hA hr hka (by rw [List.length_take]; omega) hM rk) (fun u s'' hm => ?_) fun _ _ z => z.elim))
    obtain ⟨kA, e, nk, z1, z2, M2⟩ := hm
    try dsimp only
    refine wpAny_bind (listUpdate_at nk rfl ?_ (by omega) (by rw [Array.size_push]; omega))
    refine wpAny_pure ⟨rfl, ?_⟩
    rw [List.take_add_one, hk]
    exact M2
  case done =>
    intro s' hM
    rw [Nat.zero_add, List.take_of_length_le (by rw [q.length]; omega)] at hM
    exact sort_end hka hM q fits fin
theorem cr_sortedRank (calm : X.calm = true) (F : FnOk X.prog X.w X.K X.mg X.base C8.CX0 n f fd ps (spRank X.K)) (hb : Binds X.K fd ps []) (hr : Room (n + 2) X.A) : CallRK X (.builtin "sorted") [Str.ofString "key"] (rSortRank f) := by
  rintro pins s σ H xs zs us ws Q I r rz ⟨d, table, rfl, rfl, rd, few, goal⟩
  obtain ⟨u0, rfl, r0⟩ := vals1 r
  cases r0
  obtain ⟨w0, rfl, r0⟩ := vals1 rz
  cases r0
  obtain ⟨fits, sysd, vs, kv, isd⟩ := dk_rd I.hok rd
  obtain ⟨epoch, dat⟩ := isd.dictAt
  have szv : table.length = vs.length := by simpa using congrArg List.length kv.keys
  show wpAny _ _ (call (.builtin "sorted") [.ref d] [(Str.ofString "key", .ref f)]) _ _ _
  refine PyProof.Rows.call_function_entry_kw kind_sorted plain_sorted entry_sorted (PyProof.Rows.ksk_s1 _ _) ?_
  show wpAny _ _ (Builtin.«sorted» _) _ _ _
  unfold Builtin.«sorted»
  refine wpAny_bind (m := checkCount "sorted" 1 1 _) (wpAny_pure (wpAny_bind (PySem.W.kdu_collect (A := X.A.in1) (PySem.W.kdl_dict (knd := mixKind X.prog X.w) (kvs := vs) (ep := epoch) sysd) (I.ok.hd calm) dat (szv ▸ fits) fun heap1 toks1 arr keep full => ?_)))
  have q := keyVals full.1 full.2
  rw [← kv.keys] at q
  have lenA : arr.toList.length = table.length := by rw [Array.length_toList, full.1, szv]
  have I1 : Inv X pins σ H { s with heap := heap1, toks := toks1 } := I.kept keep
  refine wpAny_bind (wpAny_newList ?_ (by omega))
  have made : (heap1.push (seqObj "list" arr.toList.toArray 0)).get? heap1.objs.size = some (seqObj "list" arr.toList.toArray 0) := Heap.get?_push_size _ rfl
  refine wpAny_bind (wpAny_holding (PyProof.Rows.wpAny_call_entry_kw (s := { s with heap := heap1.push (seqObj "list" arr.toList.toArray 0), toks := toks1 }) slot_list_sort ⟨_, made, rfl⟩ entry_list_sort ?_ (PyProof.Rows.ksk_l1 _ _)))
  rw [tree_one]
  unfold ksk_tree
  refine wpAny_bind (listItems_at made rfl ?_)
  refine wpAny_bind (listUpdate_at made rfl ?_ (by rw [List.size_toArray]; omega) (Nat.zero_le _))
  obtain ⟨e1, ho1⟩ : ∃ e1, ((heap1.push (seqObj "list" arr.toList.toArray 0)).update heap1.objs.size (Obj.mapSeq fun _ => (#[] : Array Value))).get? heap1.objs.size = some (seqObj "list" #[] e1) := ⟨_, get?_update_seq made fun _ => #[]⟩
  refine wpAny_bind (seqEpoch_at ho1 rfl ?_)
  refine wpAny_bind (wpAny_newTuple ?_ (by show arr.toList.toArray.toList.length ≤ sizeLine; simp only [Array.length_toList, List.size_toArray] at lenA ⊢; omega))
  refine wpAny_bind (wpAny_newList ?_ (Nat.zero_le _))
  refine wpAny_holding ?_
  have na1 : H heap1.objs.size = none := I1.hok.fresh (Nat.le_refl _)
  have hr2 : Room n X.A.in1.in1 := (show Room (n + 1) X.A.in1 from Room.in1 hr).in1
  have sz4 : (((heap1.push (seqObj "list" arr.toList.toArray 0)).update heap1.objs.size (Obj.mapSeq fun _ => (#[] : Array Value))).push (seqObj "tuple" arr.toList.toArray 0)).objs.size = heap1.objs.size + 2 := by rw [size_push', Heap.size_update, size_push']
  have kp : ∀ b u, heap1.get? b = some u → ((((heap1.push (seqObj "list" arr.toList.toArray 0)).update heap1.objs.size (Obj.mapSeq fun _ => (#[] : Array Value))).push (seqObj "tuple" arr.toList.toArray 0)).push (seqObj "list" #[] 0)).get? b = some u := fun b u e => by
    refine Heap.get?_push_of_some _ (Heap.get?_push_of_some _ ?_)
    rw [Heap.get?_update_ne _ _ _ _ (Nat.ne_of_lt (Heap.lt_size e))]
    exact Heap.get?_push_of_some _ e
  refine sort_rest (X := X) (pins := pins) (σ := σ) (H := H) (ks := table.map (·.1)) F hb (fun {s H} I => I.env0.in1.in1) hr2 (show (((heap1.push (seqObj "list" arr.toList.toArray 0)).update heap1.objs.size (Obj.mapSeq fun _ => (#[] : Array Value))).push (seqObj "tuple" arr.toList.toArray 0)).objs.size ≠ heap1.objs.size by rw [sz4]; omega) ⟨H, #[], 0, I1.kept kp, fun _ _ e => e, I1.fpOk (Nat.le_refl _) na1, I1.fpOk ?_ (I1.hok.fresh ?_), Heap.get?_push_size _ rfl, Heap.get?_push_of_some _ (Heap.get?_push_of_some _ ho1), .nil⟩ q (by rw [List.length_map]; exact few)
    (fun ys H' s' h1 h2 h3 h4 I' => ⟨_, rfl, wpAny_pure ⟨_, rfl, .ref _, H', I', rfl, goal ys _ H' h1 h2 h3 na1 h4⟩⟩)
  · show heap1.objs.size ≤ (((heap1.push (seqObj "list" arr.toList.toArray 0)).update heap1.objs.size (Obj.mapSeq fun _ => (#[] : Array Value))).push (seqObj "tuple" arr.toList.toArray 0)).objs.size
    rw [sz4]; omega
  · show heap1.objs.size ≤ (((heap1.push (seqObj "list" arr.toList.toArray 0)).update heap1.objs.size (Obj.mapSeq fun _ => (#[] : Array Value))).push (seqObj "tuple" arr.toList.toArray 0)).objs.size
    rw [sz4]; omega
end
end LR
set_option Elab.async false
set_option linter.all false
set_option maxRecDepth 100000
set_option maxHeartbeats 2000000
namespace SU
open PySem PySem.Spec PyProof.Rows L2 C8 LC LR LG
/-! statements as data, and what they hold -/
inductive Tm where
  | var (x : Str) | int (n : Int) | sym (x : Str) | op (s : Str) (l r : Tm)
namespace Tm
def d : Tm → PyData
  | var x => .tuple [.str "var", .str x]
  | int n => .tuple [.str "int", .int n]
  | sym x => .tuple [.str "sym", .str x]
  | op s l r => .tuple [.str "op", .str s, l.d, r.d]
def dep : Tm → Nat
  | op _ l r => max l.dep r.dep + 1
  | _ => 0
def lvs : Tm → Nat
  | op _ l r => l.lvs + r.lvs
  | _ => 1
/-- constants -/
def cs : Tm → List Key
  | var _ => []
  | int n => [.inl n]
  | sym x => [.inr x]
  | op _ l r => l.cs ++ r.cs
/-- variables -/
def vs : Tm → List Str
  | var x => [x]
  | op _ l r => l.vs ++ r.vs
  | _ => []
theorem cs_le : ∀ t : Tm, t.cs.length ≤ t.lvs
  | var _ => by simp [cs, lvs]
  | int _ => by simp [cs, lvs]
  | sym _ => by simp [cs, lvs]
  | op _ l r => by rw [cs, lvs, List.length_append]; have := l.cs_le; have := r.cs_le; omega
theorem vs_le : ∀ t : Tm, t.vs.length ≤ t.lvs
  | var _ => by simp [vs, lvs]
  | int _ => by simp [vs, lvs]
  | sym _ => by simp [vs, lvs]
  | op _ l r => by rw [vs, lvs, List.length_append]; have := l.vs_le; have := r.vs_le; omega
end Tm
structure Atm where
  nm : Str
  ts : List Tm
def Atm.d (a : Atm) : PyData := .tuple [.str "atom", .str a.nm, .list (a.ts.map Tm.d)]
def Atm.cs (a : Atm) : List Key := a.ts.flatMap Tm.cs
def Atm.vs (a : Atm) : List Str := a.ts.flatMap Tm.vs
inductive Cnd where
  | yes (a : Atm) | no (a : Atm) | cmp (s : Str) (l r : Tm)
namespace Cnd
def d : Cnd → PyData
  | yes a => .tuple [.str "yes", a.d]
  | no a => .tuple [.str "no", a.d]
  | cmp s l r => .tuple [.str "compare", .str s, l.d, r.d]
def cs : Cnd → List Key
  | yes a => a.cs
  | no a => a.cs
  | cmp _ l r => l.cs ++ r.cs
def vs : Cnd → List Str
  | yes a => a.vs
  | no a => a.vs
  | cmp _ l r => l.vs ++ r.vs
end Cnd
def csD (b : List Cnd) : PyData := .list (b.map Cnd.d)
/-- a member of a sum: its weight, its conditions -/
structure Mem where
  w : Tm
  b : List Cnd
def Mem.d (m : Mem) : PyData := .tuple [.str "member", m.w.d, csD m.b]
def Mem.cs (m : Mem) : List Key := m.b.flatMap Cnd.cs
def msD (ms : List Mem) : PyData := .list (ms.map Mem.d)
/-- a part of a body -/
inductive Prt where
  | c (c : Cnd) | sum (s : Str) (ms : List Mem) (limit : Tm)
namespace Prt
def d : Prt → PyData
  | c x => x.d
  | sum s ms t => .tuple [.str "sum", .str s, msD ms, t.d]
def cs : Prt → List Key
  | c x => x.cs
  | sum _ ms _ => ms.flatMap Mem.cs
def vs : Prt → List Str
  | c x => x.vs
  | sum _ _ t => t.vs
end Prt
def bdD (b : List Prt) : PyData := .list (b.map Prt.d)
structure Cho where
  a : Atm
  b : List Cnd
def Cho.d (x : Cho) : PyData := .tuple [.str "choice", x.a.d, csD x.b]
def Cho.cs (x : Cho) : List Key := x.a.cs ++ x.b.flatMap Cnd.cs
def chD (b : List Cho) : PyData := .list (b.map Cho.d)
def oD : Option Int → PyData
  | none => .none
  | some i => .int i
inductive Stm where
  | rule (a : Atm) (b : List Prt) | deny (b : List Prt) | choose (lo hi : Option Int) (ch : List Cho) (b : List Prt) | range (x y : Int) | minim (ms : List Mem)
/-- the whole numbers from x to y -/
def rng (x y : Int) : List Int := (List.range (y + 1 - x).toNat).map fun i => x + (i : Nat)
namespace Stm
def d : Stm → PyData
  | rule a b => .tuple [.str "rule", a.d, bdD b]
  | deny b => .tuple [.str "deny", bdD b]
  | choose lo hi ch b => .tuple [.str "choose", oD lo, chD ch, oD hi, bdD b]
  | range x y => .tuple [.str "range", .int x, .int y]
  | minim ms => .tuple [.str "minimize", msD ms]
def cs : Stm → List Key
  | rule a b => a.cs ++ b.flatMap Prt.cs
  | deny b => b.flatMap Prt.cs
  | choose _ _ ch b => ch.flatMap Cho.cs ++ b.flatMap Prt.cs
  | range x y => (rng x y).map Sum.inl
  | minim ms => ms.flatMap Mem.cs
/-- the body -/
def bd : Stm → List Prt
  | rule _ b => b
  | deny b => b
  | choose _ _ _ b => b
  | _ => []
def hd : Stm → List Str
  | rule a _ => a.vs
  | _ => []
def vs (s : Stm) : List Str := s.hd ++ s.bd.flatMap Prt.vs
end Stm
/-- each once, in the order of their first places -/
def once {α : Type} [DecidableEq α] (xs : List α) : List α := xs.foldl (fun acc x => if x ∈ acc then acc else acc ++ [x]) []
/-! bounds -/
theorem flat_len {α β : Type} {f : α → List β} {k : Nat} : ∀ {xs : List α}, (∀ x ∈ xs, (f x).length ≤ k) → (xs.flatMap f).length ≤ xs.length * k
  | [], _ => by simp
  | x :: r, h => by
    have ih := flat_len (f := f) (k := k) (xs := r) fun y hy => h y (List.mem_cons_of_mem _ hy)
    have hx := h x List.mem_cons_self
    rw [List.flatMap_cons, List.length_append, List.length_cons, Nat.succ_mul]; omega
theorem flat_len2 {α β : Type} {f : α → List β} {k m : Nat} {xs : List α} (h : ∀ x ∈ xs, (f x).length ≤ k) (hm : xs.length ≤ m) : (xs.flatMap f).length ≤ m * k := Nat.le_trans (flat_len h) (Nat.mul_le_mul_right _ hm)
def Tm.Ok (t : Tm) : Prop := t.lvs ≤ 4 ∧ t.dep ≤ 3
def Atm.Ok (a : Atm) : Prop := a.ts.length ≤ 4 ∧ ∀ t ∈ a.ts, t.Ok
def Cnd.Ok : Cnd → Prop
  | .yes a => a.Ok
  | .no a => a.Ok
  | .cmp _ l r => l.Ok ∧ r.Ok
def CsOk (b : List Cnd) : Prop := b.length ≤ 8 ∧ ∀ c ∈ b, c.Ok
def Mem.Ok (m : Mem) : Prop := m.w.Ok ∧ CsOk m.b
def MsOk (ms : List Mem) : Prop := ms.length ≤ 8 ∧ ∀ m ∈ ms, m.Ok
def Prt.Ok : Prt → Prop
  | .c x => x.Ok
  | .sum _ ms t => MsOk ms ∧ t.Ok
def BdOk (b : List Prt) : Prop := b.length ≤ 8 ∧ ∀ p ∈ b, p.Ok
def Cho.Ok (x : Cho) : Prop := x.a.Ok ∧ CsOk x.b
def ChOk (b : List Cho) : Prop := b.length ≤ 8 ∧ ∀ p ∈ b, p.Ok
def Stm.Ok : Stm → Prop
  | .rule a b => a.Ok ∧ BdOk b
  | .deny b => BdOk b
  | .choose _ _ ch b => ChOk ch ∧ BdOk b
  | .range x y => 0 ≤ x ∧ x ≤ 9 ∧ 0 ≤ y ∧ y ≤ 9
  | .minim ms => MsOk ms
theorem Atm.cs_le {a : Atm} (h : a.Ok) : a.cs.length ≤ 16 := flat_len2 (k := 4) (m := 4) (fun t ht => Nat.le_trans t.cs_le (h.2 t ht).1) h.1
theorem Atm.vs_le {a : Atm} (h : a.Ok) : a.vs.length ≤ 16 := flat_len2 (k := 4) (m := 4) (fun t ht => Nat.le_trans t.vs_le (h.2 t ht).1) h.1
theorem Cnd.cs_le {c : Cnd} (h : c.Ok) : c.cs.length ≤ 16 := by
  cases c with
  | yes a => exact Atm.cs_le h
  | no a => exact Atm.cs_le h
  | cmp s l r => have := l.cs_le; have := r.cs_le; have := h.1.1; have := h.2.1; rw [Cnd.cs, List.length_append]; omega
theorem Cnd.vs_le {c : Cnd} (h : c.Ok) : c.vs.length ≤ 16 := by
  cases c with
  | yes a => exact Atm.vs_le h
  | no a => exact Atm.vs_le h
  | cmp s l r => have := l.vs_le; have := r.vs_le; have := h.1.1; have := h.2.1; rw [Cnd.vs, List.length_append]; omega
theorem cs_le {b : List Cnd} (h : CsOk b) : (b.flatMap Cnd.cs).length ≤ 128 := flat_len2 (k := 16) (m := 8) (fun c hc => Cnd.cs_le (h.2 c hc)) h.1
theorem vs_le {b : List Cnd} (h : CsOk b) : (b.flatMap Cnd.vs).length ≤ 128 := flat_len2 (k := 16) (m := 8) (fun c hc => Cnd.vs_le (h.2 c hc)) h.1
theorem ms_le {ms : List Mem} (h : MsOk ms) : (ms.flatMap Mem.cs).length ≤ 1024 := flat_len2 (k := 128) (m := 8) (fun c hc => cs_le (h.2 c hc).2) h.1
theorem Prt.cs_le {p : Prt} (h : p.Ok) : p.cs.length ≤ 1024 := by
  cases p with
  | c x => exact Nat.le_trans (Cnd.cs_le h) (by decide)
  | sum s ms t => exact ms_le h.1
theorem Prt.vs_le {p : Prt} (h : p.Ok) : p.vs.length ≤ 16 := by
  cases p with
  | c x => exact Cnd.vs_le h
  | sum s ms t => exact Nat.le_trans (Nat.le_trans t.vs_le h.2.1) (by decide)
theorem bd_cs {b : List Prt} (h : BdOk b) : (b.flatMap Prt.cs).length ≤ 8192 := flat_len2 (k := 1024) (m := 8) (fun c hc => Prt.cs_le (h.2 c hc)) h.1
theorem bd_vs {b : List Prt} (h : BdOk b) : (b.flatMap Prt.vs).length ≤ 128 := flat_len2 (k := 16) (m := 8) (fun c hc => Prt.vs_le (h.2 c hc)) h.1
theorem Cho.cs_le {x : Cho} (h : x.Ok) : x.cs.length ≤ 144 := by
  rw [Cho.cs, List.length_append]; have := Atm.cs_le h.1; have := SU.cs_le h.2; omega
theorem ch_cs {b : List Cho} (h : ChOk b) : (b.flatMap Cho.cs).length ≤ 1152 := flat_len2 (k := 144) (m := 8) (fun c hc => Cho.cs_le (h.2 c hc)) h.1
theorem Stm.cs_le {s : Stm} (h : s.Ok) : s.cs.length ≤ 10000 := by
  cases s with
  | rule a b => rw [Stm.cs, List.length_append]; have := Atm.cs_le h.1; have := bd_cs h.2; omega
  | deny b => rw [Stm.cs]; have := bd_cs h; omega
  | choose lo hi ch b => rw [Stm.cs, List.length_append]; have := ch_cs h.1; have := bd_cs h.2; omega
  | range x y =>
    obtain ⟨h1, h2, h3, h4⟩ := h
    rw [Stm.cs, List.length_map, rng, List.length_map, List.length_range]; omega
  | minim ms => rw [Stm.cs]; have := ms_le h; omega
theorem Stm.bd_ok {s : Stm} (h : s.Ok) : BdOk s.bd := by
  cases s with
  | rule a b => exact h.2
  | deny b => exact h
  | choose lo hi ch b => exact h.2
  | range x y => exact ⟨Nat.zero_le _, fun _ z => nomatch z⟩
  | minim ms => exact ⟨Nat.zero_le _, fun _ z => nomatch z⟩
/-! data in the heap -/
section
variable {K : PySem.W.Frag} {H H' : Hp}
theorem sqT_same {a : Addr} {xs : List V} (s : Same H H') (h : SqT K H a xs) : SqT K H' a xs := by
  rcases h with (h | ⟨o, h⟩) | h
  · exact .inl (.inl (s _ _ h))
  · exact .inl (.inr ⟨o, s _ _ h⟩)
  · exact .inr h
theorem sqL_same {a : Addr} {xs : List V} (s : Same H H') (h : SqL K H a xs) : SqL K H' a xs := s.seq h
mutual
theorem dp_same (s : Same H H') : ∀ {d : PyData} {v : V}, Dp K H v d → Dp K H' v d
  | .none, _, h => by cases h; exact .non
  | .bool b, _, h => by cases h; exact .bl b
  | .int i, _, h => by cases h; exact .int i
  | .str x, _, h => by cases h; exact .str x
  | .list ds, _, h => by
    cases h with
    | lst h1 h2 => exact .lst (sqL_same s h1) (dpAll_same s h2)
  | .tuple ds, _, h => by
    cases h with
    | tup h1 h2 => exact .tup (sqT_same s h1) (dpAll_same s h2)
  | .dict kvs, _, h => by cases h
theorem dpAll_same (s : Same H H') : ∀ {ds : List PyData} {vs : List V}, DpAll K H vs ds → DpAll K H' vs ds
  | [], _, h => by cases h; exact .nil
  | d :: ds, _, h => by
    cases h with
    | cons h1 h2 => exact .cons (dp_same s h1) (dpAll_same s h2)
end
theorem dp_str {v : V} {x : Str} (h : Dp K H v (.str x)) : v = .str x := by cases h; rfl
theorem dp_int {v : V} {x : Int} (h : Dp K H v (.int x)) : v = .int x := by cases h; rfl
theorem dp_lst {v : V} {ds : List PyData} (h : Dp K H v (.list ds)) : ∃ a xs, v = .ref a ∧ SqL K H a xs ∧ DpAll K H xs ds := by
  cases h with
  | lst h1 h2 => exact ⟨_, _, rfl, h1, h2⟩
theorem dp_tup {v : V} {ds : List PyData} (h : Dp K H v (.tuple ds)) : ∃ a xs, v = .ref a ∧ SqT K H a xs ∧ DpAll K H xs ds := by
  cases h with
  | tup h1 h2 => exact ⟨_, _, rfl, h1, h2⟩
theorem dp_t2 {v : V} {d1 d2 : PyData} (h : Dp K H v (.tuple [d1, d2])) : ∃ a v1 v2, v = .ref a ∧ SqT K H a [v1, v2] ∧ Dp K H v1 d1 ∧ Dp K H v2 d2 := by
  obtain ⟨a, xs, rfl, h1, h2⟩ := dp_tup h
  cases h2 with
  | cons p r => cases r with
    | cons q r => cases r; exact ⟨_, _, _, rfl, h1, p, q⟩
theorem dp_t3 {v : V} {d1 d2 d3 : PyData} (h : Dp K H v (.tuple [d1, d2, d3])) : ∃ a v1 v2 v3, v = .ref a ∧ SqT K H a [v1, v2, v3] ∧ Dp K H v1 d1 ∧ Dp K H v2 d2 ∧ Dp K H v3 d3 := by
  obtain ⟨a, xs, rfl, h1, h2⟩ := dp_tup h
  cases h2 with
  | cons p r => cases r with
    | cons q r => cases r with
      | cons u r => cases r; exact ⟨_, _, _, _, rfl, h1, p, q, u⟩
theorem dp_t4 {v : V} {d1 d2 d3 d4 : PyData} (h : Dp K H v (.tuple [d1, d2, d3, d4])) : ∃ a v1 v2 v3 v4, v = .ref a ∧ SqT K H a [v1, v2, v3, v4] ∧ Dp K H v1 d1 ∧ Dp K H v2 d2 ∧ Dp K H v3 d3 ∧ Dp K H v4 d4 := by
  obtain ⟨a, xs, rfl, h1, h2⟩ := dp_tup h
  cases h2 with
  | cons p r => cases r with
    | cons q r => cases r with
      | cons u r => cases r with
        | cons w r => cases r; exact ⟨_, _, _, _, _, rfl, h1, p, q, u, w⟩
theorem dp_t5 {v : V} {d1 d2 d3 d4 d5 : PyData} (h : Dp K H v (.tuple [d1, d2, d3, d4, d5])) : ∃ a v1 v2 v3 v4 v5, v = .ref a ∧ SqT K H a [v1, v2, v3, v4, v5] ∧ Dp K H v1 d1 ∧ Dp K H v2 d2 ∧ Dp K H v3 d3 ∧ Dp K H v4 d4 ∧ Dp K H v5 d5 := by
  obtain ⟨a, xs, rfl, h1, h2⟩ := dp_tup h
  cases h2 with
  | cons p r => cases r with
    | cons q r => cases r with
      | cons u r => cases r with
        | cons w r => cases r with
          | cons z r => cases r; exact ⟨_, _, _, _, _, _, rfl, h1, p, q, u, w, z⟩
theorem dpAll_len : ∀ {xs : List V} {ds : List PyData}, DpAll K H xs ds → xs.length = ds.length
  | _, _, .nil => rfl
  | _, _, .cons _ t => congrArg (· + 1) (dpAll_len t)
theorem dpAll_at {α : Type} {f : α → PyData} : ∀ {as : List α} {xs : List V}, DpAll K H xs (as.map f) → ∀ {i : Nat} {x : V}, xs[i]? = some x → ∃ a, as[i]? = some a ∧ Dp K H x (f a)
  | [], _, h, i, x, e => by cases h; simp at e
  | a :: r, _, h, i, x, e => by
    cases h with
    | cons h1 h2 =>
      cases i with
      | zero => rw [List.getElem?_cons_zero] at e; cases e; exact ⟨a, rfl, h1⟩
      | succ i => rw [List.getElem?_cons_succ] at e; exact dpAll_at h2 e
/-- a list of data -/
theorem dp_lm {α : Type} {f : α → PyData} {as : List α} {v : V} (h : Dp K H v (.list (as.map f))) : ∃ a xs, v = .ref a ∧ SqL K H a xs ∧ xs.length = as.length ∧ ∀ {i : Nat} {x : V}, xs[i]? = some x → ∃ z, as[i]? = some z ∧ Dp K H x (f z) := by
  obtain ⟨a, xs, rfl, h1, h2⟩ := dp_lst h
  exact ⟨a, xs, rfl, h1, by rw [dpAll_len h2, List.length_map], fun e => dpAll_at h2 e⟩
end
/-! comprehensions over the lists that a call gives -/
section
variable {K : PySem.W.Frag} {α β : Type}
theorem flat_walk {J : It} {n : Nat} {G : Hp → Prop} {Y : Nat → Hp → V → Hp → Prop} {H0 : Hp} {D : Addr} {Qd : Hp → Prop} {B : V → Hp → (Hp → Prop) → Prop} (w : L2.Walk J n G Y) (f : α → List V) {as : List α} (hn : n = as.length) (hD : H0 D = none) (hG : ∀ H, Same H0 H → G H)
    (step : ∀ i x z H H' N, as[i]? = some z → Same H0 H → H D = some (.lst ((as.take i).flatMap f)) → Y i H x H' → (∀ H2, Same H0 H2 → H2 D = some (.lst ((as.take i).flatMap f ++ f z)) → N H2) → B x H' N)
    (done : ∀ H, Same H0 H → H D = some (.lst (as.flatMap f)) → Qd H) :
    ∃ W : Nat → Nat → Hp → Prop, (∃ m, W 0 m (upd H0 D (.lst []))) ∧ ∀ i m H, W i m H → (J.stop i H ∧ Qd H) ∨ (J.go i H ∧ ∃ Nx : Hp → Prop, (∀ H', Nx H' → ∃ m', m' < m ∧ W (i + 1) m' H') ∧ ∀ x H', J.yld i H x H' → B x H' Nx) := by
  refine it_turns w (fun i H => Same H0 H ∧ H D = some (.lst ((as.take i).flatMap f))) ⟨same_new hD, by rw [upd_same]; rfl⟩ (fun i H _ h => hG H h.1) (fun i x H H' hi h y => ?_) (fun H h => done H h.1 (by have := h.2; rw [hn, List.take_length] at this; exact this))
  have hz : as[i]? = some as[i] := List.getElem?_eq_getElem (by omega)
  refine step i x _ H H' _ hz h.1 h.2 y fun H2 s2 e2 => ⟨s2, ?_⟩
  rw [List.take_add_one, hz, List.flatMap_append]
  simpa using e2
theorem flat_in {r D : Addr} {ys acc : List V} {H4 H0 : Hp} {Nx : Hp → Prop} {B1 : V → Hp → (Hp → Prop) → Prop} (er : H4 r = some (.lst ys)) (eD : H4 D = some (.lst acc)) (ne : r ≠ D) (sm : Same H0 H4) (hD : H0 D = none) (len : acc.length + ys.length < sizeLine)
    (hB : ∀ y H' N a, H' D = some (.lst a) → a.length < sizeLine → N (upd H' D (.lst (a ++ [y]))) → B1 y H' N) (fin : ∀ H2, Same H0 H2 → H2 D = some (.lst (acc ++ ys)) → Nx H2) :
    ∃ W1 : Nat → Nat → Hp → Prop, (∃ m, W1 0 m H4) ∧ ∀ j k H, W1 j k H → ((Itl K r).stop j H ∧ Nx H) ∨ ((Itl K r).go j H ∧ ∃ Nx1 : Hp → Prop, (∀ H', Nx1 H' → ∃ k', k' < k ∧ W1 (j + 1) k' H') ∧ ∀ x H', (Itl K r).yld j H x H' → B1 x H' Nx1) := by
  refine it_turns (walk_list (K := K) (a := r) (xs := ys)) (fun j H => Same H0 H ∧ H r = some (.lst ys) ∧ H D = some (.lst (acc ++ ys.take j))) ⟨sm, er, by simpa using eD⟩ (fun j H _ h => SqL.of h.2.1) (fun j x H H' hj h y => ?_) (fun H h => fin H h.1 (by have := h.2.2; rw [List.take_length] at this; exact this))
  obtain ⟨rfl, hx⟩ := y
  refine hB x H' _ _ h.2.2 (by rw [List.length_append, List.length_take]; omega) ⟨same_put h.1 hD, by rw [upd_ne ne]; exact h.2.1, ?_⟩
  rw [upd_same, List.take_add_one, hx]
  simp
end
end SU
set_option maxRecDepth 100000
set_option maxHeartbeats 4000000
namespace K1
open PySem SX
def isLower (c : Nat) : Bool := decide (97 ≤ c) && decide (c ≤ 122)
def isUpper (c : Nat) : Bool := decide (65 ≤ c) && decide (c ≤ 90)
def isDigit (c : Nat) : Bool := decide (48 ≤ c) && decide (c ≤ 57)
def isWord (c : Nat) : Bool := isLower c || isUpper c || isDigit c || decide (c = 95)
theorem isLower_iff {c : Nat} : isLower c = true ↔ 97 ≤ c ∧ c ≤ 122 := by simp [isLower]
theorem isUpper_iff {c : Nat} : isUpper c = true ↔ 65 ≤ c ∧ c ≤ 90 := by simp [isUpper]
theorem isDigit_iff {c : Nat} : isDigit c = true ↔ 48 ≤ c ∧ c ≤ 57 := by simp [isDigit]
theorem isWord_iff {c : Nat} : isWord c = true ↔ (97 ≤ c ∧ c ≤ 122) ∨ (65 ≤ c ∧ c ≤ 90) ∨ (48 ≤ c ∧ c ≤ 57) ∨ c = 95 := by
  simp only [isWord, Bool.or_eq_true, isLower_iff, isUpper_iff, isDigit_iff, decide_eq_true_eq, or_assoc]
def run (f : Nat → Bool) : Nat → List Nat → Nat
  | 0, _ => 0
  | _ + 1, [] => 0
  | k + 1, c :: r => if f c = true then run f k r + 1 else 0
theorem run_le (f : Nat → Bool) : ∀ (k : Nat) (l : List Nat), run f k l ≤ k ∧ run f k l ≤ l.length
  | 0, l => by simp [run]
  | k + 1, [] => by simp [run]
  | k + 1, c :: r => by
    have h := run_le f k r
    unfold run
    split
    · simp only [List.length_cons]; omega
    · omega
theorem run_at (f : Nat → Bool) : ∀ (k : Nat) (l : List Nat) (j : Nat), j ≤ run f k l → (j < run f k l ↔ j < k ∧ ∃ c, l[j]? = some c ∧ f c = true)
  | 0, l, j, h => by simp [run] at h ⊢
  | k + 1, [], j, h => by simp [run] at h ⊢
  | k + 1, c :: r, j, h => by
    unfold run at h ⊢
    by_cases hc : f c = true
    · rw [if_pos hc] at h ⊢
      cases j with
      | zero => simp [hc]
      | succ j =>
        have ih := run_at f k r j (by omega)
        simp only [List.getElem?_cons_succ, Nat.add_lt_add_iff_right]
        exact ih
    · rw [if_neg hc] at h ⊢
      have : j = 0 := by omega
      subst this
      simp [hc]
/-- a run that is exactly w: all of w fits, and it ends behind w -/
theorem run_eq (f : Nat → Bool) : ∀ (k : Nat) (w rest : List Nat), (∀ c ∈ w, f c = true) → w.length ≤ k → (w.length = k ∨ ∀ c r, rest = c :: r → f c = false) → run f k (w ++ rest) = w.length
  | 0, w, rest, _, hk, _ => by
    have : w = [] := List.length_eq_zero_iff.mp (by omega)
    subst this; simp [run]
  | k + 1, [], rest, _, _, h => by
    cases rest with
    | nil => simp [run]
    | cons c r =>
      have hc : f c = false := by
        rcases h with h | h
        · simp at h
        · exact h c r rfl
      simp [run, hc]
  | k + 1, c :: w, rest, ha, hk, h => by
    have ih := run_eq f k w rest (fun c hc => ha c (List.mem_cons_of_mem _ hc)) (by simp only [List.length_cons] at hk; omega) (by
      rcases h with h | h
      · left; simp only [List.length_cons] at h; omega
      · exact .inr h)
    simp only [List.cons_append, run, ha c List.mem_cons_self, if_true, ih, List.length_cons]
/-- the signs, in the program's order -/
def sigs : List (List Nat) := [[58, 45], [33, 61], [60, 61], [62, 61], [61], [60], [62], [40], [41], [123], [125], [44], [59], [58], [46], [43], [45], [42]]
inductive Kind where
  | name | var | int | sign | fin
  deriving DecidableEq
def kStr : Kind → Str
  | .name => "name" | .var => "var" | .int => "int" | .sign => "sign" | .fin => "end"
def sigAt (l : List Nat) : Option (List Nat) := sigs.find? fun g => TL.pre g l
/-- the token that stands ahead -/
def wordLen (r : List Nat) : Nat := 1 + run isWord 19 r
def intLen (c : Nat) (r : List Nat) : Nat := if c = 48 then 1 else 1 + run isDigit 3 r
def tok1 : List Nat → Option (Kind × List Nat)
  | [] => none
  | c :: r =>
    if isLower c = true then some (.name, (c :: r).take (wordLen r))
    else if isUpper c = true then some (.var, (c :: r).take (wordLen r))
    else if isDigit c = true then some (.int, (c :: r).take (intLen c r))
    else (sigAt (c :: r)).map fun g => (.sign, g)
abbrev Tk := Kind × List Nat × Nat
inductive Lex : Nat → List Nat → List Tk → Prop
  | nil (n : Nat) : Lex n [] [(.fin, [], n)]
  | ws {n c : Nat} {r : List Nat} {ts : List Tk} : (c = 32 ∨ c = 10) → Lex (n + 1) r ts → Lex n (c :: r) ts
  | tok {n c : Nat} {r t : List Nat} {k : Kind} {ts : List Tk} : (c ≠ 32 ∧ c ≠ 10) → tok1 (c :: r) = some (k, t) → t ≠ [] → t.length ≤ r.length + 1 → Lex (n + t.length) ((c :: r).drop t.length) ts → Lex n (c :: r) ((k, t, n) :: ts)
/-- what a drawn token is -/
inductive Good : Kind → List Nat → Prop
  | name {c : Nat} {w : List Nat} : isLower c = true → (∀ x ∈ w, isWord x = true) → w.length ≤ 19 → Good .name (c :: w)
  | var {c : Nat} {w : List Nat} : isUpper c = true → (∀ x ∈ w, isWord x = true) → w.length ≤ 19 → Good .var (c :: w)
  | zero : Good .int [48]
  | int {c : Nat} {w : List Nat} : isDigit c = true → c ≠ 48 → (∀ x ∈ w, isDigit x = true) → w.length ≤ 3 → Good .int (c :: w)
  | sign {t : List Nat} : t ∈ sigs → Good .sign t
theorem Good.num {n : Nat} (h : n < 10000) : Good .int (TL.numL n) := by
  by_cases h1 : n < 10
  · rw [TL.numL_lt h1]
    by_cases h0 : n = 0
    · subst h0; exact .zero
    · exact .int (by simp [isDigit]; omega) (by omega) (by simp) (by simp)
  · rw [TL.numL_step (by omega)]
    by_cases h2 : n / 10 < 10
    · rw [TL.numL_lt h2]
      exact .int (by simp [isDigit]; omega) (by omega) (by simp [isDigit]; omega) (by simp)
    · rw [TL.numL_step (by omega)]
      by_cases h3 : n / 10 / 10 < 10
      · rw [TL.numL_lt h3]
        exact .int (by simp [isDigit]; omega) (by omega) (by simp [isDigit]; omega) (by simp)
      · rw [TL.numL_step (by omega), TL.numL_lt (by omega)]
        exact .int (by simp [isDigit]; omega) (by omega) (by simp [isDigit]; omega) (by simp)
theorem sig_heads : ∀ t ∈ sigs, ∃ c r, t = c :: r ∧ c ≠ 32 ∧ c ≠ 10 ∧ isWord c = false ∧ isLower c = false ∧ isUpper c = false ∧ isDigit c = false ∧ t.length ≤ 2 := by
  intro t ht
  simp only [sigs, List.mem_cons, List.not_mem_nil, or_false] at ht
  rcases ht with rfl | rfl | rfl | rfl | rfl | rfl | rfl | rfl | rfl | rfl | rfl | rfl | rfl | rfl | rfl | rfl | rfl | rfl <;> exact ⟨_, _, rfl, by decide, by decide, by decide, by decide, by decide, by decide, by decide⟩
theorem Good.head {k : Kind} {t : List Nat} (g : Good k t) : ∃ c r, t = c :: r ∧ c ≠ 32 ∧ c ≠ 10 := by
  cases g with
  | name h => exact ⟨_, _, rfl, by rw [isLower_iff] at h; omega, by rw [isLower_iff] at h; omega⟩
  | var h => exact ⟨_, _, rfl, by rw [isUpper_iff] at h; omega, by rw [isUpper_iff] at h; omega⟩
  | zero => exact ⟨_, _, rfl, by omega, by omega⟩
  | int h => exact ⟨_, _, rfl, by rw [isDigit_iff] at h; omega, by rw [isDigit_iff] at h; omega⟩
  | sign h => obtain ⟨c, r, e, h1, h2, _⟩ := sig_heads _ h; exact ⟨c, r, e, h1, h2⟩
theorem Good.len {k : Kind} {t : List Nat} (g : Good k t) : t.length ≤ 20 := by
  cases g with
  | name _ _ h => simp only [List.length_cons]; omega
  | var _ _ h => simp only [List.length_cons]; omega
  | zero => simp
  | int _ _ _ h => simp only [List.length_cons]; omega
  | sign h => obtain ⟨c, r, e, _, _, _, _, _, _, h2⟩ := sig_heads _ h; omega
/-- what may stand behind a token, so that it is read whole -/
def Stop (k : Kind) (t : List Nat) (c : Nat) : Prop := match k with
  | .name | .var => t.length = 20 ∨ isWord c = false
  | .int => t = [48] ∨ t.length = 4 ∨ isDigit c = false
  | .sign => c ≠ 45 ∧ c ≠ 61
  | .fin => True
def Follow (k : Kind) (t rest : List Nat) : Prop := ∀ c r, rest = c :: r → Stop k t c
theorem sig_follow : ∀ t ∈ sigs, ∀ rest, (∀ c r, rest = c :: r → c ≠ 45 ∧ c ≠ 61) → sigAt (t ++ rest) = some t := by
  intro t ht rest h
  simp only [sigs, List.mem_cons, List.not_mem_nil, or_false] at ht
  cases rest with
  | nil => rcases ht with rfl | rfl | rfl | rfl | rfl | rfl | rfl | rfl | rfl | rfl | rfl | rfl | rfl | rfl | rfl | rfl | rfl | rfl <;> rfl
  | cons c r =>
    obtain ⟨h1, h2⟩ := h c r rfl
    rcases ht with rfl | rfl | rfl | rfl | rfl | rfl | rfl | rfl | rfl | rfl | rfl | rfl | rfl | rfl | rfl | rfl | rfl | rfl <;> simp [sigAt, sigs, TL.pre, h1, h2]
theorem Good.read {k : Kind} {t rest : List Nat} (g : Good k t) (f : Follow k t rest) : tok1 (t ++ rest) = some (k, t) := by
  cases g with
  | @name c w h1 h2 h3 =>
    have e := run_eq isWord 19 w rest h2 h3 (by
      by_cases q : w.length = 19
      · exact .inl q
      · refine .inr fun d r er => ?_
        rcases f d r er with z | z
        · simp only [List.length_cons] at z; omega
        · exact z)
    simp only [List.cons_append, tok1, h1, if_true, wordLen, e]
    have : (c :: (w ++ rest)).take (1 + w.length) = c :: w := by rw [Nat.add_comm]; simp
    rw [this]
  | @var c w h1 h2 h3 =>
    have e := run_eq isWord 19 w rest h2 h3 (by
      by_cases q : w.length = 19
      · exact .inl q
      · refine .inr fun d r er => ?_
        rcases f d r er with z | z
        · simp only [List.length_cons] at z; omega
        · exact z)
    have nl : isLower c = false := by
      rw [isUpper_iff] at h1
      cases q : isLower c with
      | false => rfl
      | true => rw [isLower_iff] at q; omega
    simp only [List.cons_append, tok1, nl, h1, if_true, wordLen, e, Bool.false_eq_true, if_false]
    have : (c :: (w ++ rest)).take (1 + w.length) = c :: w := by rw [Nat.add_comm]; simp
    rw [this]
  | zero => simp [tok1, isLower, isUpper, isDigit, intLen]
  | @int c w h1 h0 h2 h3 =>
    have e := run_eq isDigit 3 w rest h2 h3 (by
      by_cases q : w.length = 3
      · exact .inl q
      · refine .inr fun d r er => ?_
        rcases f d r er with z | z | z
        · cases z; exact absurd rfl h0
        · simp only [List.length_cons] at z; omega
        · exact z)
    have nl : isLower c = false := by
      rw [isDigit_iff] at h1
      cases q : isLower c with
      | false => rfl
      | true => rw [isLower_iff] at q; omega
    have nu : isUpper c = false := by
      rw [isDigit_iff] at h1
      cases q : isUpper c with
      | false => rfl
      | true => rw [isUpper_iff] at q; omega
    simp only [List.cons_append, tok1, nl, nu, h1, if_true, intLen, h0, e, Bool.false_eq_true, if_false]
    have : (c :: (w ++ rest)).take (1 + w.length) = c :: w := by rw [Nat.add_comm]; simp
    rw [this]
  | sign h =>
    have e := sig_follow t h rest f
    obtain ⟨c, r, rfl, _, _, _, h1, h2, h3, _⟩ := sig_heads _ h
    rw [List.cons_append] at e ⊢
    simp only [tok1, h1, h2, h3, e, Bool.false_eq_true, if_false, Option.map_some]
/-- the law's own word for neighbours -/
def apart (k1 : Kind) (t1 : List Nat) (k2 : Kind) : Bool :=
  if k1 = .sign ∧ k2 = .sign then false
  else if k1 = .int ∧ k2 = .int then decide (t1 = [48]) || decide (t1.length = 4)
  else if (k1 = .name ∨ k1 = .var) ∧ k2 ≠ .sign then decide (t1.length = 20)
  else true
theorem stop_ws {k : Kind} {t : List Nat} {c : Nat} (h : c = 32 ∨ c = 10) : Stop k t c := by
  cases k
  · right; rcases h with rfl | rfl <;> decide
  · right; rcases h with rfl | rfl <;> decide
  · right; right; rcases h with rfl | rfl <;> decide
  · rcases h with rfl | rfl <;> exact ⟨by decide, by decide⟩
  · trivial
theorem apart_stop {k1 k2 : Kind} {t1 t2 : List Nat} (g1 : Good k1 t1) (g2 : Good k2 t2) (h : apart k1 t1 k2 = true) (rest : List Nat) : Follow k1 t1 (t2 ++ rest) := by
  intro c r e
  have hd : ∀ d v, t2 = d :: v → d = c := fun d v q => by rw [q, List.cons_append] at e; exact (List.cons.inj e).1
  have hw : ∀ x, (isLower x = true ∨ isUpper x = true ∨ isDigit x = true) → x ≠ 45 ∧ x ≠ 61 := fun x q => by
    simp only [isLower_iff, isUpper_iff, isDigit_iff] at q
    omega
  have lu : ∀ x, (isLower x = true ∨ isUpper x = true) → isDigit x = false := fun x q => by
    simp only [isLower_iff, isUpper_iff] at q
    cases z : isDigit x with
    | false => rfl
    | true => rw [isDigit_iff] at z; omega
  cases g1 with
  | name _ _ _ =>
    cases g2 with
    | sign h2 =>
      obtain ⟨d, v, q, _, _, hq, _⟩ := sig_heads _ h2
      right; rw [← hd d v q]; exact hq
    | name _ _ _ => left; simpa [apart] using h
    | var _ _ _ => left; simpa [apart] using h
    | zero => left; simpa [apart] using h
    | int _ _ _ _ => left; simpa [apart] using h
  | var _ _ _ =>
    cases g2 with
    | sign h2 =>
      obtain ⟨d, v, q, _, _, hq, _⟩ := sig_heads _ h2
      right; rw [← hd d v q]; exact hq
    | name _ _ _ => left; simpa [apart] using h
    | var _ _ _ => left; simpa [apart] using h
    | zero => left; simpa [apart] using h
    | int _ _ _ _ => left; simpa [apart] using h
  | zero => exact .inl rfl
  | int _ _ _ _ =>
    cases g2 with
    | sign h2 =>
      obtain ⟨d, v, q, _, _, _, _, _, hq, _⟩ := sig_heads _ h2
      right; right; rw [← hd d v q]; exact hq
    | name h2 _ _ => right; right; rw [← hd _ _ rfl]; exact lu _ (.inl h2)
    | var h2 _ _ => right; right; rw [← hd _ _ rfl]; exact lu _ (.inr h2)
    | zero => simp only [apart] at h; rcases (by simpa using h : _ ∨ _) with z | z; exact .inl (by simp [z]); exact .inr (.inl (by simpa using z))
    | int _ _ _ _ => simp only [apart] at h; rcases (by simpa using h : _ ∨ _) with z | z; exact .inl (by simp [z]); exact .inr (.inl (by simpa using z))
  | sign _ =>
    cases g2 with
    | sign h2 => simp [apart] at h
    | name h2 _ _ => rw [← hd _ _ rfl]; exact hw _ (.inl h2)
    | var h2 _ _ => rw [← hd _ _ rfl]; exact hw _ (.inr (.inl h2))
    | zero => rw [← hd _ _ rfl]; exact hw _ (.inr (.inr (by decide)))
    | int h2 _ _ _ => rw [← hd _ _ rfl]; exact hw _ (.inr (.inr h2))
theorem Lex.gap {ts : List Tk} {rest : List Nat} : ∀ (g : List Nat) (n : Nat), (∀ c ∈ g, c = 32 ∨ c = 10) → Lex (n + g.length) rest ts → Lex n (g ++ rest) ts
  | [], n, _, h => h
  | c :: g, n, hg, h => .ws (hg c List.mem_cons_self) (Lex.gap g (n + 1) (fun d hd => hg d (List.mem_cons_of_mem _ hd)) (by rw [List.length_cons] at h; rw [show n + 1 + g.length = n + (g.length + 1) by omega]; exact h))
/-- a text made so far, its tokens, and the last one -/
def Made (text : List Nat) (due : List Tk) (last : Option (Kind × List Nat)) : Prop :=
  (∀ k t, last = some (k, t) → Good k t) ∧ ∀ rest ts, (∀ k t, last = some (k, t) → Follow k t rest) → Lex text.length rest ts → Lex 0 (text ++ rest) (due ++ ts)
theorem Made.nil : Made [] [] none := ⟨fun _ _ h => (nomatch h), fun _ _ _ h => h⟩
theorem Made.step {text g t : List Nat} {due : List Tk} {last : Option (Kind × List Nat)} {k : Kind} (m : Made text due last) (hg : ∀ c ∈ g, c = 32 ∨ c = 10) (gd : Good k t)
    (h : g ≠ [] ∨ ∀ k1 t1, last = some (k1, t1) → apart k1 t1 k = true) : Made (text ++ g ++ t) (due ++ [(k, t, (text ++ g).length)]) (some (k, t)) := by
  refine ⟨fun _ _ e => by cases e; exact gd, fun rest ts hf hl => ?_⟩
  obtain ⟨c, r, e, hc1, hc2⟩ := gd.head
  have h1 : Lex (text ++ g).length (t ++ rest) ((k, t, (text ++ g).length) :: ts) := by
    have hr := gd.read (hf k t rfl)
    subst e
    rw [List.cons_append] at hr ⊢
    refine .tok ⟨hc1, hc2⟩ hr (by simp) (by simp) ?_
    have ed : (c :: (r ++ rest)).drop (c :: r).length = rest := by
      rw [← List.cons_append, List.drop_left]
    rw [ed]
    rw [List.length_append] at hl
    exact hl
  have h2 : Lex text.length (g ++ (t ++ rest)) ((k, t, (text ++ g).length) :: ts) := Lex.gap g _ hg (by rw [← List.length_append]; exact h1)
  have h3 := m.2 (g ++ (t ++ rest)) _ (fun k1 t1 e1 => by
    cases g with
    | nil =>
      rcases h with h | h
      · exact absurd rfl h
      · exact apart_stop (m.1 k1 t1 e1) gd (h k1 t1 e1) rest
    | cons d g' =>
      intro x y exy
      rw [List.cons_append] at exy
      have exd := (List.cons.inj exy).1
      exact stop_ws (by rw [← exd]; exact hg _ List.mem_cons_self)) h2
  rw [List.append_assoc, List.append_assoc, List.append_assoc, List.singleton_append]
  exact h3
theorem Made.done {text g : List Nat} {due : List Tk} {last : Option (Kind × List Nat)} (m : Made text due last) (hg : ∀ c ∈ g, c = 32 ∨ c = 10) : Lex 0 (text ++ g) (due ++ [(.fin, [], (text ++ g).length)]) := by
  refine m.2 g _ (fun k t _ => fun c r e => stop_ws (hg c (by rw [e]; exact List.mem_cons_self))) ?_
  have h := Lex.gap (rest := []) g text.length hg (.nil _)
  rw [List.append_nil] at h
  rw [List.length_append]
  exact h
end K1
set_option Elab.async false
set_option linter.all false
set_option maxRecDepth 100000
set_option maxHeartbeats 4000000
namespace PM
open PySem SX SU
/-! the parser as a plain function over tokens: what it reads, what is left, the most terms of an atom so far; or the place of the fault -/
abbrev Tk := K1.Tk
abbrev Kd := K1.Kind
structure PS where
  r : List Tk
  m : Nat
inductive Rs (α : Type) where
  | ok (a : α) (s : PS)
  | er (n : Nat)
abbrev Pr (α : Type) := PS → Option (Rs α)
def bind {α β : Type} (x : Option (Rs α)) (f : α → Pr β) : Option (Rs β) := match x with
  | none => none
  | some (.er n) => some (.er n)
  | some (.ok a s) => f a s
theorem bind_ok {α β : Type} {a : α} {s : PS} {f : α → Pr β} : bind (some (.ok a s)) f = f a s := rfl
def hd : List Tk → Tk
  | t :: _ => t
  | [] => (.fin, [], 0)
def PS.k (s : PS) : Kd := (hd s.r).1
def PS.x (s : PS) : List Nat := (hd s.r).2.1
def PS.at (s : PS) : Nat := (hd s.r).2.2
def PS.nx (s : PS) : PS := ⟨s.r.tail, s.m⟩
def er {α : Type} (s : PS) : Option (Rs α) := some (.er s.at)
def ok {α : Type} (a : α) (s : PS) : Option (Rs α) := some (.ok a s)
/-! the written signs and words -/
def gL : List Nat := [40]
def gR : List Nat := [41]
def gBL : List Nat := [123]
def gBR : List Nat := [125]
def gComma : List Nat := [44]
def gSemi : List Nat := [59]
def gColon : List Nat := [58]
def gIf : List Nat := [58, 45]
def gDot : List Nat := [46]
def gMul : List Nat := [42]
def gAdd : List Nat := [43]
def gSub : List Nat := [45]
def wNot : List Nat := [110, 111, 116]
def wSum : List Nat := [115, 117, 109]
def wMin : List Nat := [109, 105, 110, 105, 109, 105, 122, 101]
def wRange : List Nat := [114, 97, 110, 103, 101]
def KW : List (List Nat) := [wNot, wSum, wMin, wRange]
def RELS : List (List Nat) := [[61], [33, 61], [60], [60, 61], [62], [62, 61]]
def SRELS : List (List Nat) := [[62, 61], [60, 61]]
def OPS : List (List Nat) := [[43], [45], [42]]
def val (t : List Nat) : Int := (NumText.digitsVal t : Nat)
def skipM (x : List Nat) : Pr Unit := fun s => if s.x = x then ok () s.nx else er s
def oneM (xs : List (List Nat)) : Pr (List Nat) := fun s => if s.x ∈ xs then ok s.x s.nx else er s
def intM : Pr Int := fun s => if s.k = .int then ok (val s.x) s.nx else er s
def ointM : Pr (Option Int) := fun s => if s.k = .int then ok (some (val s.x)) s.nx else ok none s
def onName (s : PS) : Bool := decide (s.k = .name) && decide (s.x ∉ KW)
def nameM : Pr Str := fun s => if onName s then ok (S s.x) s.nx else er s
def factorM (tm : Pr Tm) : Pr Tm := fun s =>
  if s.k = .int then ok (.int (val s.x)) s.nx
  else if s.k = .var then ok (.var (S s.x)) s.nx
  else if s.x = gL then bind (tm s.nx) fun t s1 => bind (skipM gR s1) fun _ s2 => ok t s2
  else bind (nameM s) fun x s1 => ok (.sym x) s1
def mulM (fac : Pr Tm) : Nat → Tm → Pr Tm
  | 0, _ => fun _ => none
  | n + 1, l => fun s => if s.x = gMul then bind (fac s.nx) fun x s1 => mulM fac n (.op (S gMul) l x) s1 else ok l s
def productM (n : Nat) (fac : Pr Tm) : Pr Tm := fun s => bind (fac s) (mulM fac n)
def sumM (pr : Pr Tm) : Nat → Tm → Pr Tm
  | 0, _ => fun _ => none
  | n + 1, l => fun s => if s.x = gAdd ∨ s.x = gSub then bind (pr s.nx) fun x s1 => sumM pr n (.op (S s.x) l x) s1 else ok l s
def termM (n : Nat) : Nat → Pr Tm
  | 0 => fun _ => none
  | d + 1 => fun s => bind (productM n (factorM (termM n d)) s) (sumM (productM n (factorM (termM n d))) n)
def manyM {α : Type} (sep : List Nat) (item : Pr α) : Nat → List α → Pr (List α)
  | 0, _ => fun _ => none
  | n + 1, xs => fun s => if s.x = sep then bind (item s.nx) fun x s1 => manyM sep item n (xs ++ [x]) s1 else ok xs s
/-- with a sign ahead, or nothing -/
def optM {α : Type} (n : Nat) (st sep : List Nat) (item : Pr α) : Pr (List α) := fun s =>
  if s.x = st then bind (item s.nx) fun x s1 => manyM sep item n [x] s1 else ok [] s
/-- one or more in braces -/
def listM {α : Type} (n : Nat) (item : Pr α) : Pr (List α) := fun s =>
  bind (skipM gBL s) fun _ s1 => bind (item s1) fun x s2 => bind (manyM gSemi item n [x] s2) fun xs s3 => bind (skipM gBR s3) fun _ s4 => ok xs s4
def termsM (n : Nat) (tm : Pr Tm) : Pr (List Tm) := fun s =>
  if s.x = gL then bind (tm s.nx) fun t s1 => bind (manyM gComma tm n [t] s1) fun ts s2 => bind (skipM gR s2) fun _ s3 => ok ts s3 else ok [] s
def atomM (n : Nat) (tm : Pr Tm) : Pr Atm := fun s => bind (nameM s) fun x s1 => bind (termsM n tm s1) fun ts s2 => ok ⟨x, ts⟩ ⟨s2.r, max s2.m ts.length⟩
def onAtom (s : PS) : Bool := onName s && (decide (s.nx.x ∉ RELS) && decide (s.nx.x ∉ OPS))
def condM (n : Nat) (tm : Pr Tm) : Pr Cnd := fun s =>
  if s.x = wNot then bind (atomM n tm s.nx) fun a s1 => ok (.no a) s1
  else if onAtom s then bind (atomM n tm s) fun a s1 => ok (.yes a) s1
  else bind (tm s) fun l s1 => bind (oneM RELS s1) fun x s2 => bind (tm s2) fun r s3 => ok (.cmp (S x) l r) s3
def condsM (n : Nat) (tm : Pr Tm) : Pr (List Cnd) := optM n gColon gComma (condM n tm)
def choiceM (n : Nat) (tm : Pr Tm) : Pr Cho := fun s => bind (atomM n tm s) fun a s1 => bind (condsM n tm s1) fun b s2 => ok ⟨a, b⟩ s2
def memberM (n : Nat) (tm : Pr Tm) : Pr Mem := fun s => bind (tm s) fun a s1 => bind (condsM n tm s1) fun b s2 => ok ⟨a, b⟩ s2
def partM (n : Nat) (tm : Pr Tm) : Pr Prt := fun s =>
  if s.x = wSum then bind (listM n (memberM n tm) s.nx) fun ms s1 => bind (oneM SRELS s1) fun x s2 => bind (tm s2) fun t s3 => ok (.sum (S x) ms t) s3
  else bind (condM n tm s) fun c s1 => ok (.c c) s1
def bodyM (n : Nat) (tm : Pr Tm) : Pr (List Prt) := optM n gIf gComma (partM n tm)
def chooseM (n : Nat) (tm : Pr Tm) : Pr Stm := fun s => bind (ointM s) fun lo s1 => bind (listM n (choiceM n tm) s1) fun ch s2 => bind (ointM s2) fun hi s3 => bind (bodyM n tm s3) fun b s4 => ok (.choose lo hi ch b) s4
def bareM (n : Nat) (tm : Pr Tm) : Pr Stm := fun s =>
  if s.x = gIf then bind (bodyM n tm s) fun b s1 => ok (.deny b) s1
  else if s.x = wRange then bind (intM s.nx) fun x s1 => bind (intM s1) fun y s2 => ok (.range x y) s2
  else if s.x = wMin then bind (listM n (memberM n tm) s.nx) fun ms s1 => ok (.minim ms) s1
  else if s.x = gBL ∨ s.k = .int then chooseM n tm s
  else bind (atomM n tm s) fun a s1 => bind (bodyM n tm s1) fun b s2 => ok (.rule a b) s2
def stmM (n : Nat) (tm : Pr Tm) : Pr Stm := fun s => bind (bareM n tm s) fun x s1 => bind (skipM gDot s1) fun _ s2 => ok x s2
/-- the words among some tokens -/
def wordsN (ts : List Tk) : Nat := (ts.filter fun t => decide (t.1 ≠ .sign)).length
/-- the statements, and the most words of one -/
def stmsM (st : Pr Stm) : Nat → List Stm → Nat → Pr (List Stm × Nat)
  | 0, _, _ => fun _ => none
  | n + 1, xs, mw => fun s => if s.k = .fin then ok (xs, mw) s else
    bind (st s) fun x s1 => stmsM st n (xs ++ [x]) (max mw (wordsN (s.r.take (s.r.length - s1.r.length)))) s1
/-- the greatest depth of brackets; none of it while the level falls below 0 -/
def tooDeep : Int → List Tk → Bool
  | _, [] => false
  | l, t :: r =>
    let l1 := if t.2.1 = gL then l + 1 else if t.2.1 = gR then l - 1 else l
    decide (l1 > 10) || tooDeep l1 r
/-- all of it -/
def parseM (n d : Nat) (ts : List Tk) : Option (Except Nat (List Stm)) :=
  if tooDeep 0 ts = true then some (.error 0) else
  match stmsM (stmM n (termM n d)) n [] 0 ⟨ts, 0⟩ with
  | none => none
  | some (.er k) => some (.error k)
  | some (.ok (xs, mw) s) => if xs.length > 60 ∨ mw > 60 ∨ s.m > 4 then some (.error 0) else some (.ok xs)
/-! the written form in pieces -/
inductive Pc where
  | tok (k : Kd) (t : List Nat)
  | sp
  | nl
def sg (t : List Nat) : Pc := .tok .sign t
def nm (t : List Nat) : Pc := .tok .name t
abbrev Tw := Kd × List Nat
def tw : List Pc → List Tw
  | [] => []
  | .tok k t :: r => (k, t) :: tw r
  | _ :: r => tw r
theorem tw_app (a b : List Pc) : tw (a ++ b) = tw a ++ tw b := by
  induction a with
  | nil => rfl
  | cons p r ih => cases p <;> simp [tw, ih]
/-- the text of pieces, with what stands for a space -/
def txt (sep : List Nat) : List Pc → List Nat
  | [] => []
  | .tok _ t :: r => t ++ txt sep r
  | .sp :: r => sep ++ txt sep r
  | .nl :: r => 10 :: txt sep r
theorem txt_app (sep : List Nat) (a b : List Pc) : txt sep (a ++ b) = txt sep a ++ txt sep b := by
  induction a with
  | nil => rfl
  | cons p r ih => cases p <;> simp [txt, ih]
def isOp : Tm → Bool
  | .op _ _ _ => true
  | _ => false
def isSum : Tm → Bool
  | .op s _ _ => decide (s ≠ S gMul)
  | _ => false
def br (p : List Pc) : List Pc := sg gL :: (p ++ [sg gR])
def cl (x : Str) : List Nat := x.cps.toList
def wTm : Tm → List Pc
  | .var x => [.tok .var (cl x)]
  | .int n => [.tok .int (TL.numL n.toNat)]
  | .sym x => [.tok .name (cl x)]
  | .op s l r => (if s = S gMul ∧ isSum l = true then br (wTm l) else wTm l) ++ ([.sp, sg (cl s), .sp] ++ (if isOp r = true then br (wTm r) else wTm r))
/-- one after another, with what stands between -/
def jn (sep : List Pc) : List (List Pc) → List Pc
  | [] => []
  | [x] => x
  | x :: y :: r => x ++ (sep ++ jn sep (y :: r))
def cm : List Pc := [sg gComma, .sp]
def sm : List Pc := [sg gSemi, .sp]
def wAtm (a : Atm) : List Pc := nm (cl a.nm) :: (if a.ts = [] then [] else br (jn cm (a.ts.map wTm)))
def wCnd : Cnd → List Pc
  | .yes a => wAtm a
  | .no a => nm wNot :: .sp :: wAtm a
  | .cmp s l r => wTm l ++ ([.sp, sg (cl s), .sp] ++ wTm r)
def wCs (b : List Cnd) : List Pc := if b = [] then [] else [.sp, sg gColon, .sp] ++ jn cm (b.map wCnd)
def bc (p : List Pc) : List Pc := sg gBL :: (p ++ [sg gBR])
def wMem (m : Mem) : List Pc := wTm m.w ++ wCs m.b
def wCho (m : Cho) : List Pc := wAtm m.a ++ wCs m.b
def wMs (ms : List Mem) : List Pc := bc (jn sm (ms.map wMem))
def wChs (ms : List Cho) : List Pc := bc (jn sm (ms.map wCho))
def wPrt : Prt → List Pc
  | .c x => wCnd x
  | .sum s ms t => nm wSum :: .sp :: (wMs ms ++ ([.sp, sg (cl s), .sp] ++ wTm t))
/-- a body with the sign ahead -/
def wBd (b : List Prt) : List Pc := sg gIf :: .sp :: jn cm (b.map wPrt)
/-- behind a head -/
def wOb (b : List Prt) : List Pc := if b = [] then [] else .sp :: wBd b
def wInt (i : Int) : Pc := .tok .int (TL.numL i.toNat)
def wLo : Option Int → List Pc
  | none => []
  | some i => [wInt i, .sp]
def wHi : Option Int → List Pc
  | none => []
  | some i => [.sp, wInt i]
def wStm0 : Stm → List Pc
  | .rule a b => wAtm a ++ wOb b
  | .deny b => wBd b
  | .choose lo hi ch b => wLo lo ++ (wChs ch ++ (wHi hi ++ wOb b))
  | .range x y => [nm wRange, .sp, wInt x, .sp, wInt y]
  | .minim ms => nm wMin :: .sp :: wMs ms
def wStm (s : Stm) : List Pc := wStm0 s ++ [sg gDot]
def wSts (ss : List Stm) : List Pc := ss.flatMap fun s => wStm s ++ [.nl]
end PM
set_option Elab.async false
set_option linter.all false
set_option maxRecDepth 100000
set_option maxHeartbeats 4000000
namespace PM
open PySem SX SU
/-! the plain parser reads what is written -/
def fp (t : Tk) : Tw := (t.1, t.2.1)
theorem S_cl (x : Str) : S (cl x) = x := TL.ext_tl (by rfl)
theorem cl_S (t : List Nat) : cl (S t) = t := by simp [cl, S]
theorem fed {r : List Tk} {k : Kd} {t : List Nat} {w : List Tw} (h : r.map fp = (k, t) :: w) : ∃ n r1, r = (k, t, n) :: r1 ∧ r1.map fp = w := by
  cases r with
  | nil => cases h
  | cons a r1 =>
    obtain ⟨k1, t1, n⟩ := a
    rw [List.map_cons] at h
    obtain ⟨e1, e2⟩ := List.cons.inj h
    cases e1
    exact ⟨n, r1, rfl, e2⟩
theorem fedA {r : List Tk} {k : Kd} {t : List Nat} {w w' : List Tw} (h : r.map fp = ((k, t) :: w) ++ w') : ∃ n r1, r = (k, t, n) :: r1 ∧ r1.map fp = w ++ w' := fed h
/-- f reads w as x, where the rest is so; the atoms have so many terms -/
def Reads {α : Type} (n : Nat) (f : Pr α) (w : List Tw) (x : α) (mt : Nat) (Fo : List Tw → Prop) : Prop :=
  ∀ (r : List Tk) (m : Nat) (w' : List Tw), r.map fp = w ++ w' → Fo w' → r.length < n → ∃ r', r'.map fp = w' ∧ r'.length ≤ r.length ∧ f ⟨r, m⟩ = ok x ⟨r', max m mt⟩
def hx (w : List Tw) : List Nat := (w.headD (.fin, [])).2
def hk (w : List Tw) : Kd := (w.headD (.fin, [])).1
theorem hx_of {r : List Tk} {m : Nat} {w : List Tw} (h : r.map fp = w) : PS.x ⟨r, m⟩ = hx w := by
  cases r with
  | nil => cases h; rfl
  | cons a r => subst h; rfl
theorem hk_of {r : List Tk} {m : Nat} {w : List Tw} (h : r.map fp = w) : PS.k ⟨r, m⟩ = hk w := by
  cases r with
  | nil => cases h; rfl
  | cons a r => subst h; rfl
def Any : List Tw → Prop := fun _ => True
def FT : List Tw → Prop := fun w => hx w ∉ OPS
structure NmG (x : Str) : Prop where
  g : K1.Good .name (cl x)
  k : cl x ∉ KW
theorem NmG.hd {x : Str} (h : NmG x) : ∃ c w, cl x = c :: w ∧ K1.isLower c = true := by
  have g := h.g
  generalize cl x = t at g
  cases g with
  | name h1 _ _ => exact ⟨_, _, rfl, h1⟩
theorem lower_ne {t u : List Nat} {c : Nat} {w : List Nat} (e : t = c :: w) (h : K1.isLower c = true) (hu : ∀ d v, u = d :: v → ¬ (97 ≤ d ∧ d ≤ 122)) : t ≠ u := fun z => by
  rw [K1.isLower_iff] at h
  exact hu c w (z.symm.trans e) h
theorem NmG.ne {x : Str} (h : NmG x) {u : List Nat} (hu : (match u with | d :: _ => decide (97 ≤ d) && decide (d ≤ 122) | [] => false) = false := by decide) : cl x ≠ u := by
  obtain ⟨c, w, e, hc⟩ := h.hd
  refine lower_ne e hc fun d v z => ?_
  subst z
  simp at hu
  omega
/-- what is drawn as a term -/
def GoodT : Tm → Prop
  | .var x => K1.Good .var (cl x)
  | .int n => 0 ≤ n ∧ n < 10000
  | .sym x => NmG x
  | .op s l r => (s = S gMul ∨ s = S gAdd ∨ s = S gSub) ∧ GoodT l ∧ GoodT r
section
variable {n d : Nat}
theorem bind_okk {α β : Type} {x : Option (Rs α)} {a : α} {s : PS} {f : α → Pr β} (h : x = ok a s) : bind x f = f a s := by rw [h]; rfl
theorem max0 (m : Nat) : max m 0 = m := Nat.max_eq_left (Nat.zero_le _)
theorem nm_read {x : Str} (h : NmG x) : Reads n nameM [(.name, cl x)] x 0 Any := by
  intro r m w' e _ hl
  obtain ⟨k, r1, rfl, e1⟩ := fed e
  refine ⟨r1, e1, by simp, ?_⟩
  have e2 : onName ⟨(.name, cl x, k) :: r1, m⟩ = true := by simp [onName, PS.k, PS.x, hd, h.k]
  unfold nameM
  rw [if_pos e2, max0]
  show ok (S (cl x)) _ = _
  rw [S_cl]; rfl
theorem val_num (k : Nat) : val (TL.numL k) = k := by rw [val, TL.numL_val]
theorem leaf_read {tm : Pr Tm} {t : Tm} (g : GoodT t) (h : isOp t = false) : Reads n (factorM tm) (tw (wTm t)) t 0 Any := by
  intro r m w' e _ hl
  cases t with
  | var x =>
    obtain ⟨k, r1, rfl, e1⟩ := fed e
    refine ⟨r1, e1, by simp, ?_⟩
    show (if K1.Kind.var = K1.Kind.int then _ else if K1.Kind.var = K1.Kind.var then ok (Tm.var (S (cl x))) _ else _) = _
    rw [if_neg (by decide), if_pos rfl, S_cl, max0]; rfl
  | int i =>
    obtain ⟨k, r1, rfl, e1⟩ := fed e
    refine ⟨r1, e1, by simp, ?_⟩
    show (if K1.Kind.int = K1.Kind.int then ok (Tm.int (val (TL.numL i.toNat))) _ else _) = _
    rw [if_pos rfl, val_num, max0, Int.toNat_of_nonneg g.1]; rfl
  | sym x =>
    obtain ⟨r1, e1, l1, e2⟩ := nm_read (n := n) g r m w' e trivial hl
    refine ⟨r1, e1, l1, ?_⟩
    obtain ⟨k, r2, rfl, e3⟩ := fed e
    have g0 : NmG x := g
    unfold factorM
    show (if K1.Kind.name = K1.Kind.int then _ else if K1.Kind.name = K1.Kind.var then _ else if cl x = gL then _ else bind (nameM _) fun x s1 => ok (Tm.sym x) s1) = _
    rw [if_neg (by decide), if_neg (by decide), if_neg (g0.ne), bind_okk e2]
  | op s l r => cases h
theorem skip_read {x : List Nat} {k : Kd} : Reads n (skipM x) [(k, x)] () 0 Any := by
  intro r m w' e _ hl
  obtain ⟨k, r1, rfl, e1⟩ := fedA e
  refine ⟨r1, e1, by simp, ?_⟩
  show (if x = x then ok () _ else _) = _
  rw [if_pos rfl, max0]; rfl
theorem br_tw (p : List Pc) : tw (br p) = (.sign, gL) :: (tw p ++ [(.sign, gR)]) := by
  show (K1.Kind.sign, gL) :: tw (p ++ [sg gR]) = _
  rw [tw_app]; rfl
theorem ft_sign {k : Kd} {x : List Nat} {w : List Tw} (h : x ∉ OPS := by decide) : FT ((k, x) :: w) := h
theorem br_read {tm : Pr Tm} {t : Tm} {p : List Pc} (h : Reads n tm (tw p) t 0 FT) : Reads n (factorM tm) (tw (br p)) t 0 Any := by
  intro r m w' e _ hl
  rw [br_tw] at e
  obtain ⟨k, r1, rfl, e1⟩ := fedA e
  rw [List.append_assoc] at e1
  simp only [List.length_cons] at hl
  obtain ⟨r2, e2, l2, q2⟩ := h r1 m _ e1 (ft_sign) (by omega)
  obtain ⟨r3, e3, l3, q3⟩ := skip_read (n := n) (x := gR) (k := .sign) r2 m w' e2 trivial (by omega)
  refine ⟨r3, e3, by simp only [List.length_cons]; omega, ?_⟩
  unfold factorM
  show (if K1.Kind.sign = K1.Kind.int then _ else if K1.Kind.sign = K1.Kind.var then _ else if gL = gL then bind (tm ⟨r1, m⟩) _ else _) = _
  rw [max0] at q2 q3
  rw [if_neg (by decide), if_neg (by decide), if_pos rfl, bind_okk q2, bind_okk q3, max0]
theorem fac_read {tm : Pr Tm} {t : Tm} (g : GoodT t) (h : isOp t = true → Reads n tm (tw (wTm t)) t 0 FT) : Reads n (factorM tm) (tw (if isOp t = true then br (wTm t) else wTm t)) t 0 Any := by
  by_cases e : isOp t = true
  · rw [if_pos e]; exact br_read (h e)
  · rw [if_neg e]; exact leaf_read g (by simpa using e)
theorem op_tw (s : Str) (a b : List Pc) : tw (a ++ ([.sp, sg (cl s), .sp] ++ b)) = tw a ++ (.sign, cl s) :: tw b := by
  rw [tw_app, tw_app]; rfl
theorem dep_l (s : Str) (l r : Tm) : l.dep < (Tm.op s l r).dep := by simp only [Tm.dep]; omega
theorem dep_r (s : Str) (l r : Tm) : r.dep < (Tm.op s l r).dep := by simp only [Tm.dep]; omega
theorem isSum_op {t : Tm} (h : isSum t = true) : isOp t = true := by
  cases t with
  | op s l r => rfl
  | _ => cases h
theorem prod_read : ∀ (t : Tm), GoodT t → isSum t = false → (∀ t' : Tm, t'.dep < t.dep → GoodT t' → Reads n (termM n d) (tw (wTm t')) t' 0 FT) → ∀ (r : List Tk) (m : Nat) (w' : List Tw), r.map fp = tw (wTm t) ++ w' → r.length < n →
    ∃ n' r', r'.map fp = w' ∧ r'.length < n' ∧ r'.length ≤ r.length ∧ productM n (factorM (termM n d)) ⟨r, m⟩ = mulM (factorM (termM n d)) n' t ⟨r', m⟩ := by
  intro t
  have leaf : ∀ (t : Tm), GoodT t → isOp t = false → ∀ (r : List Tk) (m : Nat) (w' : List Tw), r.map fp = tw (wTm t) ++ w' → r.length < n →
      ∃ n' r', r'.map fp = w' ∧ r'.length < n' ∧ r'.length ≤ r.length ∧ productM n (factorM (termM n d)) ⟨r, m⟩ = mulM (factorM (termM n d)) n' t ⟨r', m⟩ := fun t g h r m w' e hl => by
    obtain ⟨r1, e1, l1, q1⟩ := leaf_read (n := n) (tm := termM n d) g h r m w' e trivial hl
    refine ⟨n, r1, e1, by omega, l1, ?_⟩
    unfold productM
    rw [bind_okk q1, max0]
  induction t with
  | var x => exact fun g _ _ => leaf _ g rfl
  | int x => exact fun g _ _ => leaf _ g rfl
  | sym x => exact fun g _ _ => leaf _ g rfl
  | op s l rt ihl ihr =>
    intro g hs ih r m w' e hl
    have hs : s = S gMul := by simpa [isSum] using hs
    obtain ⟨_, gl, gr⟩ := g
    unfold wTm at e
    rw [op_tw, List.append_assoc] at e
    have e0 : ∃ n1 r1, r1.map fp = (.sign, cl s) :: (tw (if isOp rt = true then br (wTm rt) else wTm rt) ++ w') ∧ r1.length < n1 ∧ r1.length ≤ r.length ∧ productM n (factorM (termM n d)) ⟨r, m⟩ = mulM (factorM (termM n d)) n1 l ⟨r1, m⟩ := by
      by_cases hb : isSum l = true
      · rw [if_pos ⟨hs, hb⟩] at e
        obtain ⟨r1, e1, l1, q1⟩ := br_read (n := n) (ih l (dep_l _ _ _) gl) r m _ e trivial hl
        refine ⟨n, r1, e1, by omega, l1, ?_⟩
        unfold productM
        rw [bind_okk q1, max0]
      · rw [if_neg (fun z => hb z.2)] at e
        exact ihl gl (by simpa using hb) (fun t' h => ih t' (Nat.lt_trans h (dep_l _ _ _))) r m _ e hl
    obtain ⟨n1, r1, e1, l1, l2, q1⟩ := e0
    obtain ⟨k, r2, rfl, e2⟩ := fed e1
    obtain ⟨n2, rfl⟩ : ∃ n2, n1 = n2 + 1 := ⟨n1 - 1, by omega⟩
    simp only [List.length_cons] at l1 l2
    obtain ⟨r3, e3, l3, q3⟩ := fac_read (n := n) (tm := termM n d) gr (fun _ => ih rt (dep_r _ _ _) gr) r2 m w' e2 trivial (by omega)
    refine ⟨n2, r3, e3, by omega, by omega, ?_⟩
    rw [q1]
    show (if cl s = gMul then bind (factorM (termM n d) ⟨r2, m⟩) (fun x s1 => mulM (factorM (termM n d)) n2 (.op (S gMul) l x) s1) else _) = _
    rw [if_pos (by rw [hs, cl_S]), bind_okk q3, max0, hs]
theorem sum_read : ∀ (t : Tm), GoodT t → (∀ t' : Tm, t'.dep < t.dep → GoodT t' → Reads n (termM n d) (tw (wTm t')) t' 0 FT) → ∀ (r : List Tk) (m : Nat) (w' : List Tw), r.map fp = tw (wTm t) ++ w' → hx w' ≠ gMul → r.length < n →
    ∃ n' r', r'.map fp = w' ∧ r'.length < n' ∧ r'.length ≤ r.length ∧ termM n (d + 1) ⟨r, m⟩ = sumM (productM n (factorM (termM n d))) n' t ⟨r', m⟩ := by
  intro t
  have base : ∀ (t : Tm), GoodT t → isSum t = false → (∀ t' : Tm, t'.dep < t.dep → GoodT t' → Reads n (termM n d) (tw (wTm t')) t' 0 FT) → ∀ (r : List Tk) (m : Nat) (w' : List Tw), r.map fp = tw (wTm t) ++ w' → hx w' ≠ gMul → r.length < n →
      ∃ n' r', r'.map fp = w' ∧ r'.length < n' ∧ r'.length ≤ r.length ∧ termM n (d + 1) ⟨r, m⟩ = sumM (productM n (factorM (termM n d))) n' t ⟨r', m⟩ := fun t g h ih r m w' e hw hl => by
    obtain ⟨n1, r1, e1, l1, l2, q1⟩ := prod_read t g h ih r m w' e hl
    refine ⟨n, r1, e1, by omega, l2, ?_⟩
    obtain ⟨n2, rfl⟩ : ∃ n2, n1 = n2 + 1 := ⟨n1 - 1, by omega⟩
    have q2 : productM n (factorM (termM n d)) ⟨r, m⟩ = ok t ⟨r1, m⟩ := by
      rw [q1]
      show (if PS.x ⟨r1, m⟩ = gMul then _ else ok t ⟨r1, m⟩) = _
      rw [hx_of e1, if_neg hw]
    show bind (productM n (factorM (termM n d)) ⟨r, m⟩) _ = _
    rw [bind_okk q2]
  induction t with
  | var x => exact fun g ih => base _ g rfl ih
  | int x => exact fun g ih => base _ g rfl ih
  | sym x => exact fun g ih => base _ g rfl ih
  | op s l rt ihl ihr =>
    intro g ih r m w' e hw hl
    by_cases hs : s = S gMul
    · exact base _ g (by simp [isSum, hs]) ih r m w' e hw hl
    obtain ⟨hs0, gl, gr⟩ := g
    have hs1 : s = S gAdd ∨ s = S gSub := hs0.resolve_left hs
    unfold wTm at e
    rw [op_tw, List.append_assoc, if_neg (fun z => hs z.1)] at e
    have hcl : cl s = gAdd ∨ cl s = gSub := hs1.imp (fun z => by rw [z, cl_S]) fun z => by rw [z, cl_S]
    obtain ⟨n1, r1, e1, l1, l2, q1⟩ := ihl gl (fun t' h => ih t' (Nat.lt_trans h (dep_l _ _ _))) r m _ e (by
      show cl s ≠ gMul
      rcases hcl with z | z <;> rw [z] <;> decide) hl
    obtain ⟨k, r2, rfl, e2⟩ := fed e1
    obtain ⟨n2, rfl⟩ : ∃ n2, n1 = n2 + 1 := ⟨n1 - 1, by omega⟩
    simp only [List.length_cons] at l1 l2
    obtain ⟨r3, e3, l3, q3⟩ := fac_read (n := n) (tm := termM n d) gr (fun _ => ih rt (dep_r _ _ _) gr) r2 m w' e2 trivial (by omega)
    refine ⟨n2, r3, e3, by omega, by omega, ?_⟩
    rw [q1]
    have q4 : productM n (factorM (termM n d)) ⟨r2, m⟩ = ok rt ⟨r3, m⟩ := by
      unfold productM
      rw [bind_okk q3, max0]
      obtain ⟨n3, hn3⟩ : ∃ n3, n = n3 + 1 := ⟨n - 1, by omega⟩
      have : ∀ f : Pr Tm, mulM f n rt ⟨r3, m⟩ = ok rt ⟨r3, m⟩ := fun f => by
        rw [hn3]
        show (if PS.x ⟨r3, m⟩ = gMul then _ else ok rt ⟨r3, m⟩) = _
        rw [hx_of e3, if_neg hw]
      exact this _
    show (if cl s = gAdd ∨ cl s = gSub then bind (productM n (factorM (termM n d)) ⟨r2, m⟩) (fun x s1 => sumM _ n2 (.op (S (cl s)) l x) s1) else _) = _
    rw [if_pos hcl, bind_okk q4, S_cl]
theorem term_read : ∀ (d : Nat) (t : Tm), t.dep < d → GoodT t → Reads n (termM n d) (tw (wTm t)) t 0 FT
  | 0, t, h, _ => absurd h (Nat.not_lt_zero _)
  | d + 1, t, h, g => by
    intro r m w' e fo hl
    have ft : hx w' ∉ OPS := fo
    obtain ⟨n1, r1, e1, l1, l2, q1⟩ := sum_read (n := n) (d := d) t g (fun t' h' g' => term_read d t' (by omega) g') r m w' e (fun z => ft (by rw [z]; decide)) hl
    refine ⟨r1, e1, l2, ?_⟩
    obtain ⟨n2, rfl⟩ : ∃ n2, n1 = n2 + 1 := ⟨n1 - 1, by omega⟩
    rw [q1, max0]
    show (if PS.x ⟨r1, m⟩ = gAdd ∨ PS.x ⟨r1, m⟩ = gSub then _ else ok t ⟨r1, m⟩) = _
    rw [hx_of e1, if_neg]
    rintro (z | z) <;> exact ft (by rw [z]; decide)
end
end PM
set_option Elab.async false
set_option linter.all false
set_option maxRecDepth 100000
set_option maxHeartbeats 4000000
namespace PM
open PySem SX SU
/-- f reads w as x, where the rest is so; atoms with more than four terms do not come -/
def Rd {α : Type} (n : Nat) (f : Pr α) (w : List Tw) (x : α) (Fo : List Tw → Prop) : Prop :=
  ∀ (r : List Tk) (m : Nat) (w' : List Tw), r.map fp = w ++ w' → Fo w' → r.length < n → m ≤ 4 → ∃ r' m', r'.map fp = w' ∧ r'.length ≤ r.length ∧ m' ≤ 4 ∧ f ⟨r, m⟩ = ok x ⟨r', m'⟩
section
variable {n d : Nat} {α : Type}
theorem Reads.rd {f : Pr α} {w : List Tw} {x : α} {Fo : List Tw → Prop} (h : Reads n f w x 0 Fo) : Rd n f w x Fo := fun r m w' e fo hl hm => by
  obtain ⟨r1, e1, l1, q1⟩ := h r m w' e fo hl
  rw [max0] at q1
  exact ⟨r1, m, e1, l1, hm, q1⟩
theorem Rd.mono {f : Pr α} {w : List Tw} {x : α} {Fo Fo' : List Tw → Prop} (h : Rd n f w x Fo) (i : ∀ w, Fo' w → Fo w) : Rd n f w x Fo' := fun r m w' e fo hl hm => h r m w' e (i _ fo) hl hm
/-- the items behind the first one -/
def tl (sep : List Nat) (wr : α → List Pc) (ys : List α) : List Tw := ys.flatMap fun y => (.sign, sep) :: tw (wr y)
theorem many_read {item : Pr α} {sep : List Nat} {wr : α → List Pc} {Fi : List Tw → Prop} (hF : ∀ w, Fi ((.sign, sep) :: w)) : ∀ (ys : List α), (∀ y ∈ ys, Rd n item (tw (wr y)) y Fi) → ∀ (acc : List α) (n' : Nat) (r : List Tk) (m : Nat) (w' : List Tw),
    r.map fp = tl sep wr ys ++ w' → hx w' ≠ sep → Fi w' → r.length < n' → r.length < n → m ≤ 4 → ∃ r' m', r'.map fp = w' ∧ r'.length ≤ r.length ∧ m' ≤ 4 ∧ manyM sep item n' acc ⟨r, m⟩ = ok (acc ++ ys) ⟨r', m'⟩
  | [], _, acc, n', r, m, w', e, hs, _, hl, _, hm => by
    obtain ⟨n2, rfl⟩ : ∃ n2, n' = n2 + 1 := ⟨n' - 1, by omega⟩
    refine ⟨r, m, e, Nat.le_refl _, hm, ?_⟩
    show (if PS.x ⟨r, m⟩ = sep then _ else ok acc ⟨r, m⟩) = _
    rw [hx_of e, List.append_nil]
    exact if_neg hs
  | y :: ys, h, acc, n', r, m, w', e, hs, hf, hl, hn, hm => by
    obtain ⟨n2, rfl⟩ : ∃ n2, n' = n2 + 1 := ⟨n' - 1, by omega⟩
    have e : r.map fp = ((.sign, sep) :: (tw (wr y))) ++ (tl sep wr ys ++ w') := by rw [e, tl, List.flatMap_cons, List.append_assoc]; rfl
    obtain ⟨k, r1, rfl, e1⟩ := fedA e
    simp only [List.length_cons] at hl hn
    have hf1 : Fi (tl sep wr ys ++ w') := by
      cases ys with
      | nil => exact hf
      | cons z zs => exact hF _
    obtain ⟨r2, m2, e2, l2, hm2, q2⟩ := h y List.mem_cons_self r1 m _ e1 hf1 (by omega) hm
    obtain ⟨r3, m3, e3, l3, hm3, q3⟩ := many_read hF ys (fun z hz => h z (List.mem_cons_of_mem _ hz)) (acc ++ [y]) n2 r2 m2 w' e2 hs hf (by omega) (by omega) hm2
    refine ⟨r3, m3, e3, by simp only [List.length_cons]; omega, hm3, ?_⟩
    show (if sep = sep then bind (item ⟨r1, m⟩) (fun x s1 => manyM sep item n2 (acc ++ [x]) s1) else _) = _
    rw [if_pos rfl, bind_okk q2, q3, List.append_assoc]; rfl
theorem jn_tw {sep : List Nat} {wr : α → List Pc} : ∀ (x : α) (ys : List α), tw (jn [sg sep, .sp] ((x :: ys).map wr)) = tw (wr x) ++ tl sep wr ys
  | x, [] => by simp [jn, tl]
  | x, y :: ys => by
    have ih := jn_tw (sep := sep) (wr := wr) y ys
    rw [List.map_cons, List.map_cons] at *
    show tw (wr x ++ ([sg sep, Pc.sp] ++ jn [sg sep, Pc.sp] (wr y :: ys.map wr))) = _
    rw [tw_app, tw_app, ih, tl, tl, List.flatMap_cons]; rfl
/-- one and more items -/
theorem some_read {item : Pr α} {sep : List Nat} {wr : α → List Pc} {Fi : List Tw → Prop} (hF : ∀ w, Fi ((.sign, sep) :: w)) {x : α} {ys : List α} (h : ∀ y ∈ x :: ys, Rd n item (tw (wr y)) y Fi) {r : List Tk} {m : Nat} {w' : List Tw}
    (e : r.map fp = tw (jn [sg sep, .sp] ((x :: ys).map wr)) ++ w') (hs : hx w' ≠ sep) (hf : Fi w') (hl : r.length < n) (hm : m ≤ 4) :
    ∃ r' m', r'.map fp = w' ∧ r'.length ≤ r.length ∧ m' ≤ 4 ∧ bind (item ⟨r, m⟩) (fun x s1 => manyM sep item n [x] s1) = ok (x :: ys) ⟨r', m'⟩ := by
  rw [jn_tw, List.append_assoc] at e
  have hf1 : Fi (tl sep wr ys ++ w') := by
    cases ys with
    | nil => exact hf
    | cons z zs => exact hF _
  obtain ⟨r1, m1, e1, l1, hm1, q1⟩ := h x List.mem_cons_self r m _ e hf1 hl hm
  obtain ⟨r2, m2, e2, l2, hm2, q2⟩ := many_read hF ys (fun z hz => h z (List.mem_cons_of_mem _ hz)) [x] n r1 m1 w' e1 hs hf (by omega) (by omega) hm1
  exact ⟨r2, m2, e2, by omega, hm2, by rw [bind_okk q1, q2]; rfl⟩
theorem skip_rd {x : List Nat} {k : Kd} {r : List Tk} {m : Nat} {w' : List Tw} (e : r.map fp = (k, x) :: w') : ∃ r', r'.map fp = w' ∧ r'.length < r.length ∧ skipM x ⟨r, m⟩ = ok () ⟨r', m⟩ := by
  obtain ⟨k, r1, rfl, e1⟩ := fed e
  refine ⟨r1, e1, by simp, ?_⟩
  show (if x = x then ok () _ else _) = _
  rw [if_pos rfl]; rfl
theorem one_rd {xs : List (List Nat)} {x : List Nat} {k : Kd} {r : List Tk} {m : Nat} {w' : List Tw} (e : r.map fp = (k, x) :: w') (h : x ∈ xs) : ∃ r', r'.map fp = w' ∧ r'.length < r.length ∧ oneM xs ⟨r, m⟩ = ok x ⟨r', m⟩ := by
  obtain ⟨k, r1, rfl, e1⟩ := fed e
  refine ⟨r1, e1, by simp, ?_⟩
  show (if x ∈ xs then ok x _ else _) = _
  rw [if_pos h]; rfl
theorem int_rd {i : Int} (h : 0 ≤ i) {r : List Tk} {m : Nat} {w' : List Tw} (e : r.map fp = (.int, TL.numL i.toNat) :: w') : ∃ r', r'.map fp = w' ∧ r'.length < r.length ∧ intM ⟨r, m⟩ = ok i ⟨r', m⟩ := by
  obtain ⟨k, r1, rfl, e1⟩ := fed e
  refine ⟨r1, e1, by simp, ?_⟩
  show (if K1.Kind.int = K1.Kind.int then ok (val (TL.numL i.toNat)) _ else _) = _
  rw [if_pos rfl, val_num, Int.toNat_of_nonneg h]; rfl
/-! atoms -/
def FA : List Tw → Prop := fun w => hx w ≠ gL
def GoodA (a : Atm) : Prop := NmG a.nm ∧ (∀ t ∈ a.ts, GoodT t ∧ t.dep < d) ∧ a.ts.length ≤ 4
theorem atom_tw (a : Atm) : tw (wAtm a) = (.name, cl a.nm) :: tw (if a.ts = [] then [] else br (jn cm (a.ts.map wTm))) := rfl
theorem terms_read {ts : List Tm} (g : ∀ t ∈ ts, GoodT t ∧ t.dep < d) : Rd n (termsM n (termM n d)) (tw (if ts = [] then [] else br (jn cm (ts.map wTm)))) ts FA := by
  intro r m w' e fo hl hm
  cases ts with
  | nil =>
    rw [if_pos rfl] at e
    refine ⟨r, m, e, Nat.le_refl _, hm, ?_⟩
    show (if PS.x ⟨r, m⟩ = gL then _ else ok [] ⟨r, m⟩) = _
    rw [hx_of e]; exact if_neg fo
  | cons t ts =>
    rw [if_neg (fun z => nomatch z), br_tw] at e
    obtain ⟨k, r1, rfl, e1⟩ := fedA e
    rw [List.append_assoc] at e1
    simp only [List.length_cons] at hl
    obtain ⟨r2, m2, e2, l2, hm2, q2⟩ := some_read (n := n) (item := termM n d) (sep := gComma) (wr := wTm) (Fi := FT) (fun w => ft_sign) (fun y hy => (term_read d y (g y hy).2 (g y hy).1).rd) (m := m) e1 (by decide : gR ≠ gComma) (ft_sign) (by omega) hm
    obtain ⟨r3, e3, l3, q3⟩ := skip_rd (m := m2) e2
    refine ⟨r3, m2, e3, by simp only [List.length_cons]; omega, hm2, ?_⟩
    show (if gL = gL then bind (termM n d ⟨r1, m⟩) (fun t s1 => bind (manyM gComma (termM n d) n [t] s1) fun ts s2 => bind (skipM gR s2) fun _ s3 => ok ts s3) else _) = _
    rw [if_pos rfl]
    have q4 : bind (termM n d ⟨r1, m⟩) (fun t s1 => bind (manyM gComma (termM n d) n [t] s1) fun ts s2 => bind (skipM gR s2) fun _ s3 => ok ts s3) = bind (bind (termM n d ⟨r1, m⟩) (fun x s1 => manyM gComma (termM n d) n [x] s1)) fun ts s2 => bind (skipM gR s2) fun _ s3 => ok ts s3 := by
      cases termM n d ⟨r1, m⟩ with
      | none => rfl
      | some z => cases z <;> rfl
    rw [q4, bind_okk q2, bind_okk q3]
theorem atom_read {a : Atm} (g : GoodA (d := d) a) : Rd n (atomM n (termM n d)) (tw (wAtm a)) a FA := by
  intro r m w' e fo hl hm
  rw [atom_tw] at e
  obtain ⟨r1, e1, l1, q1⟩ := nm_read (n := n) g.1 r m _ e trivial hl
  obtain ⟨r2, m2, e2, l2, hm2, q2⟩ := terms_read (n := n) (d := d) g.2.1 r1 m w' e1 fo (by omega) hm
  refine ⟨r2, max m2 a.ts.length, e2, by omega, Nat.max_le.mpr ⟨hm2, g.2.2⟩, ?_⟩
  unfold atomM
  rw [max0] at q1
  rw [bind_okk q1, bind_okk q2]
/-! conditions -/
def FC : List Tw → Prop := fun w => hx w ∉ OPS ∧ hx w ∉ RELS ∧ hx w ≠ gL
def GoodC : Cnd → Prop
  | .yes a => GoodA (d := d) a
  | .no a => GoodA (d := d) a
  | .cmp s l r => cl s ∈ RELS ∧ (GoodT l ∧ l.dep < d) ∧ GoodT r ∧ r.dep < d
def Fst (w : List Tw) : Prop := ∃ k x v, w = (k, x) :: v ∧ x ∉ KW ∧ x ∉ [gBL, gIf, gDot] ∧ (k = .name → v = [] ∨ ∃ k2 x2 v2, v = (k2, x2) :: v2 ∧ x2 ∈ OPS)
theorem upper_ne {t : List Nat} (g : K1.Good .var t) : t ∉ KW ∧ t ∉ [gBL, gIf, gDot] := by
  cases g with
  | var h _ _ =>
    rw [K1.isUpper_iff] at h
    constructor
    · intro z
      simp only [KW, wNot, wSum, wMin, wRange, List.mem_cons, List.cons.injEq, List.not_mem_nil, or_false] at z
      rcases z with z | z | z | z <;> omega
    · intro z
      simp only [gBL, gIf, gDot, List.mem_cons, List.cons.injEq, List.not_mem_nil, or_false] at z
      rcases z with z | z | z <;> omega
theorem num_ne (k : Nat) : TL.numL k ∉ KW ∧ TL.numL k ∉ [gBL, gIf, gDot] := by
  have hd : ∀ c v, TL.numL k = c :: v → 48 ≤ c ∧ c ≤ 57 := fun c v z => by
    have := TL.numL_digits k
    rw [z] at this
    exact this c List.mem_cons_self
  constructor
  · intro z
    simp only [KW, wNot, wSum, wMin, wRange, List.mem_cons, List.not_mem_nil, or_false] at z
    rcases z with z | z | z | z <;> have := hd _ _ z <;> omega
  · intro z
    simp only [gBL, gIf, gDot, List.mem_cons, List.not_mem_nil, or_false] at z
    rcases z with z | z | z <;> have := hd _ _ z <;> omega
theorem nm_ne {x : Str} (g : NmG x) : cl x ∉ [gBL, gIf, gDot] := by
  intro z
  simp only [List.mem_cons, List.not_mem_nil, or_false] at z
  rcases z with z | z | z
  · exact g.ne (u := gBL) (by decide) z
  · exact g.ne (u := gIf) (by decide) z
  · exact g.ne (u := gDot) (by decide) z
theorem tm_fst : ∀ (t : Tm), GoodT t → Fst (tw (wTm t))
  | .var x, g => ⟨.var, cl x, [], rfl, (upper_ne g).1, (upper_ne g).2, fun z => nomatch z⟩
  | .int i, g => ⟨.int, TL.numL i.toNat, [], rfl, (num_ne _).1, (num_ne _).2, fun z => nomatch z⟩
  | .sym x, g => ⟨.name, cl x, [], rfl, NmG.k g, nm_ne g, fun _ => .inl rfl⟩
  | .op s l r, g => by
    unfold wTm
    rw [op_tw]
    split
    · rw [br_tw]
      exact ⟨.sign, gL, _, rfl, by decide, by decide, fun z => nomatch z⟩
    · obtain ⟨k, x, v, e, h1, h1b, h2⟩ := tm_fst l g.2.1
      rw [e]
      refine ⟨k, x, _, rfl, h1, h1b, fun z => .inr ?_⟩
      rcases h2 z with e2 | ⟨k2, x2, v2, e2, h3⟩
      · refine ⟨.sign, cl s, _, by rw [e2]; rfl, ?_⟩
        rcases g.1 with q | q | q <;> rw [q, cl_S] <;> decide
      · exact ⟨k2, x2, _, by rw [e2]; rfl, h3⟩
theorem cond_read {c : Cnd} (g : GoodC (d := d) c) : Rd n (condM n (termM n d)) (tw (wCnd c)) c FC := by
  intro r m w' e fo hl hm
  cases c with
  | no a =>
    obtain ⟨k, r1, rfl, e1⟩ := fedA (k := .name) (t := wNot) (w := tw (wAtm a)) e
    simp only [List.length_cons] at hl
    obtain ⟨r2, m2, e2, l2, hm2, q2⟩ := atom_read (n := n) (d := d) g r1 m w' e1 fo.2.2 (by omega) hm
    refine ⟨r2, m2, e2, by simp only [List.length_cons]; omega, hm2, ?_⟩
    show (if wNot = wNot then bind (atomM n (termM n d) ⟨r1, m⟩) _ else _) = _
    rw [if_pos rfl, bind_okk q2]
  | yes a =>
    obtain ⟨r2, m2, e2, l2, hm2, q2⟩ := atom_read (n := n) (d := d) g r m w' e fo.2.2 hl hm
    refine ⟨r2, m2, e2, l2, hm2, ?_⟩
    obtain ⟨k, r1, rfl, e1⟩ := fedA (k := .name) (t := cl a.nm) (w := tw (if a.ts = [] then [] else br (jn cm (a.ts.map wTm)))) e
    have hn : cl a.nm ≠ wNot := fun z => g.1.k (by rw [z]; decide)
    have h1 : onName ⟨(.name, cl a.nm, k) :: r1, m⟩ = true := by simp [onName, PS.k, PS.x, hd, g.1.k]
    have h2 : PS.x ⟨r1, m⟩ ∉ RELS ∧ PS.x ⟨r1, m⟩ ∉ OPS := by
      rw [hx_of e1]
      by_cases z : a.ts = []
      · rw [if_pos z]; exact ⟨fo.2.1, fo.1⟩
      · rw [if_neg z, br_tw]; exact ⟨(by decide : gL ∉ RELS), (by decide : gL ∉ OPS)⟩
    have h3 : onAtom ⟨(.name, cl a.nm, k) :: r1, m⟩ = true := by
      unfold onAtom
      rw [h1]
      show (true && (decide (PS.x ⟨r1, m⟩ ∉ RELS) && decide (PS.x ⟨r1, m⟩ ∉ OPS))) = true
      rw [decide_eq_true h2.1, decide_eq_true h2.2]; rfl
    unfold condM
    show (if cl a.nm = wNot then _ else if onAtom _ = true then bind (atomM n (termM n d) _) _ else _) = _
    rw [if_neg hn, if_pos h3, bind_okk q2]
  | cmp s l r' =>
    obtain ⟨g1, ⟨g2, g3⟩, g4, g5⟩ := g
    have e : r.map fp = tw (wTm l) ++ ((.sign, cl s) :: tw (wTm r') ++ w') := by
      rw [e]
      show tw (wTm l ++ ([Pc.sp, sg (cl s), Pc.sp] ++ wTm r')) ++ w' = _
      rw [op_tw, List.append_assoc]
    have hrel : ∀ x ∈ RELS, x ∉ OPS := by decide
    obtain ⟨r1, e1, l1, q1⟩ := term_read (n := n) d l g3 g2 r m _ e (hrel _ g1) hl
    obtain ⟨r2, e2, l2, q2⟩ := one_rd (m := m) e1 g1
    obtain ⟨r3, e3, l3, q3⟩ := term_read (n := n) d r' g5 g4 r2 m w' e2 fo.1 (by omega)
    refine ⟨r3, m, e3, by omega, hm, ?_⟩
    rw [max0] at q1 q3
    obtain ⟨k, x, v, ew, h1, _, h2⟩ := tm_fst l g2
    rw [ew] at e
    obtain ⟨p, r0, rfl, e0⟩ := fedA e
    have hx1 : x ≠ wNot := fun z => h1 (by rw [z]; decide)
    have h3 : onAtom ⟨(k, x, p) :: r0, m⟩ = false := by
      unfold onAtom
      by_cases hk : k = .name
      · have h4 : PS.x ⟨r0, m⟩ ∈ OPS ∨ PS.x ⟨r0, m⟩ ∈ RELS := by
          rw [hx_of e0]
          rcases h2 hk with z | ⟨k2, x2, v2, z, h5⟩
          · rw [z]; exact .inr g1
          · rw [z]; exact .inl h5
        show (_ && (decide (PS.x ⟨r0, m⟩ ∉ RELS) && decide (PS.x ⟨r0, m⟩ ∉ OPS))) = false
        rcases h4 with h4 | h4
        · rw [decide_eq_false (p := PS.x ⟨r0, m⟩ ∉ OPS) (fun z => z h4), Bool.and_false, Bool.and_false]
        · rw [decide_eq_false (p := PS.x ⟨r0, m⟩ ∉ RELS) (fun z => z h4), Bool.false_and, Bool.and_false]
      · have : onName ⟨(k, x, p) :: r0, m⟩ = false := by simp [onName, PS.k, hd, hk]
        rw [this, Bool.false_and]
    unfold condM
    show (if x = wNot then _ else if onAtom _ = true then _ else bind (termM n d _) _) = _
    rw [if_neg hx1, if_neg (by rw [h3]; decide), bind_okk q1, bind_okk q2, bind_okk q3, S_cl]
def FCs : List Tw → Prop := fun w => FC w ∧ hx w ≠ gComma ∧ hx w ≠ gColon
theorem fc_comma (w : List Tw) : FC ((.sign, gComma) :: w) := ⟨(by decide : gComma ∉ OPS), (by decide : gComma ∉ RELS), (by decide : gComma ≠ gL)⟩
theorem conds_read {b : List Cnd} (g : ∀ c ∈ b, GoodC (d := d) c) : Rd n (condsM n (termM n d)) (tw (wCs b)) b FCs := by
  intro r m w' e fo hl hm
  cases b with
  | nil =>
    have e : r.map fp = w' := e
    refine ⟨r, m, e, Nat.le_refl _, hm, ?_⟩
    show (if PS.x ⟨r, m⟩ = gColon then _ else ok [] ⟨r, m⟩) = _
    rw [hx_of e, if_neg fo.2.2]
  | cons c b =>
    obtain ⟨k, r1, rfl, e1⟩ := fedA (k := .sign) (t := gColon) (w := tw (jn cm ((c :: b).map wCnd))) e
    simp only [List.length_cons] at hl
    obtain ⟨r2, m2, e2, l2, hm2, q2⟩ := some_read (n := n) (item := condM n (termM n d)) (sep := gComma) (wr := wCnd) (Fi := FC) fc_comma (fun y hy => cond_read (g y hy)) (m := m) e1 fo.2.1 fo.1 (by omega) hm
    refine ⟨r2, m2, e2, by simp only [List.length_cons]; omega, hm2, ?_⟩
    show (if gColon = gColon then bind (condM n (termM n d) ⟨r1, m⟩) (fun x s1 => manyM gComma (condM n (termM n d)) n [x] s1) else ok [] ⟨(.sign, gColon, k) :: r1, m⟩) = _
    rw [if_pos rfl, q2]
theorem cs_fst (b : List Cnd) (w : List Tw) (h : hx w ∉ OPS ∧ hx w ≠ gL) : hx (tw (wCs b) ++ w) ∉ OPS ∧ hx (tw (wCs b) ++ w) ≠ gL := by
  cases b with
  | nil => exact h
  | cons c b => exact ⟨(by decide : gColon ∉ OPS), (by decide : gColon ≠ gL)⟩
/-! members, choices -/
def GoodM (m : Mem) : Prop := (GoodT m.w ∧ m.w.dep < d) ∧ ∀ c ∈ m.b, GoodC (d := d) c
def GoodH (m : Cho) : Prop := GoodA (d := d) m.a ∧ ∀ c ∈ m.b, GoodC (d := d) c
theorem member_read {m : Mem} (g : GoodM (d := d) m) : Rd n (memberM n (termM n d)) (tw (wMem m)) m FCs := by
  intro r k w' e fo hl hm
  rw [wMem, tw_app, List.append_assoc] at e
  obtain ⟨r1, e1, l1, q1⟩ := term_read (n := n) d m.w g.1.2 g.1.1 r k _ e (cs_fst _ _ ⟨fo.1.1, fo.1.2.2⟩).1 hl
  rw [max0] at q1
  obtain ⟨r2, m2, e2, l2, hm2, q2⟩ := conds_read (n := n) (d := d) g.2 r1 k w' e1 fo (by omega) hm
  refine ⟨r2, m2, e2, by omega, hm2, ?_⟩
  unfold memberM
  rw [bind_okk q1, bind_okk q2]
theorem choice_read {m : Cho} (g : GoodH (d := d) m) : Rd n (choiceM n (termM n d)) (tw (wCho m)) m FCs := by
  intro r k w' e fo hl hm
  rw [wCho, tw_app, List.append_assoc] at e
  obtain ⟨r1, m1, e1, l1, hm1, q1⟩ := atom_read (n := n) (d := d) g.1 r k _ e (cs_fst _ _ ⟨fo.1.1, fo.1.2.2⟩).2 hl hm
  obtain ⟨r2, m2, e2, l2, hm2, q2⟩ := conds_read (n := n) (d := d) g.2 r1 m1 w' e1 fo (by omega) hm1
  refine ⟨r2, m2, e2, by omega, hm2, ?_⟩
  unfold choiceM
  rw [bind_okk q1, bind_okk q2]
theorem fcs_of {x : List Nat} (h : x = gSemi ∨ x = gBR) (w : List Tw) : FCs ((.sign, x) :: w) := by
  rcases h with rfl | rfl
  · exact ⟨⟨(by decide : gSemi ∉ OPS), (by decide : gSemi ∉ RELS), (by decide : gSemi ≠ gL)⟩, (by decide : gSemi ≠ gComma), (by decide : gSemi ≠ gColon)⟩
  · exact ⟨⟨(by decide : gBR ∉ OPS), (by decide : gBR ∉ RELS), (by decide : gBR ≠ gL)⟩, (by decide : gBR ≠ gComma), (by decide : gBR ≠ gColon)⟩
theorem bc_tw (p : List Pc) : tw (bc p) = (.sign, gBL) :: (tw p ++ [(.sign, gBR)]) := by
  show (K1.Kind.sign, gBL) :: tw (p ++ [sg gBR]) = _
  rw [tw_app]; rfl
theorem list_read {item : Pr α} {wr : α → List Pc} {xs : List α} (h : ∀ y ∈ xs, Rd n item (tw (wr y)) y FCs) (ne : xs ≠ []) : Rd n (listM n item) (tw (bc (jn sm (xs.map wr)))) xs Any := by
  intro r m w' e _ hl hm
  cases xs with
  | nil => exact absurd rfl ne
  | cons x ys =>
    rw [bc_tw, List.cons_append, List.append_assoc] at e
    obtain ⟨r1, e1, l1, q1⟩ := skip_rd (m := m) e
    obtain ⟨r2, m2, e2, l2, hm2, q2⟩ := some_read (n := n) (item := item) (sep := gSemi) (wr := wr) (Fi := FCs) (fun w => fcs_of (.inl rfl) w) h (m := m) e1 (by decide : gBR ≠ gSemi) (fcs_of (.inr rfl) _) (by omega) hm
    obtain ⟨r3, e3, l3, q3⟩ := skip_rd (m := m2) e2
    refine ⟨r3, m2, e3, by omega, hm2, ?_⟩
    unfold listM
    rw [bind_okk q1]
    have q4 : bind (item ⟨r1, m⟩) (fun x s2 => bind (manyM gSemi item n [x] s2) fun xs s3 => bind (skipM gBR s3) fun _ s4 => ok xs s4) = bind (bind (item ⟨r1, m⟩) (fun x s1 => manyM gSemi item n [x] s1)) fun xs s3 => bind (skipM gBR s3) fun _ s4 => ok xs s4 := by
      cases item ⟨r1, m⟩ with
      | none => rfl
      | some z => cases z <;> rfl
    rw [q4, bind_okk q2, bind_okk q3]
/-! parts -/
def GoodP : Prt → Prop
  | .c x => GoodC (d := d) x
  | .sum s ms t => cl s ∈ SRELS ∧ (ms ≠ [] ∧ ∀ m ∈ ms, GoodM (d := d) m) ∧ GoodT t ∧ t.dep < d
theorem cnd_fst {c : Cnd} (g : GoodC (d := d) c) (w : List Tw) : hx (tw (wCnd c) ++ w) ≠ wSum := by
  cases c with
  | yes a => exact fun z => g.1.k (by rw [show cl a.nm = wSum from z]; decide)
  | no a => exact (by decide : wNot ≠ wSum)
  | cmp s l r =>
    obtain ⟨k, x, v, ew, h1, _, _⟩ := tm_fst l g.2.1.1
    show hx (tw (wTm l ++ ([Pc.sp, sg (cl s), Pc.sp] ++ wTm r)) ++ w) ≠ _
    rw [op_tw, ew]
    exact fun z => h1 (by rw [show x = wSum from z]; decide)
theorem part_read {p : Prt} (g : GoodP (d := d) p) : Rd n (partM n (termM n d)) (tw (wPrt p)) p FC := by
  intro r m w' e fo hl hm
  cases p with
  | c x =>
    obtain ⟨r1, m1, e1, l1, hm1, q1⟩ := cond_read (n := n) (d := d) g r m w' e fo hl hm
    refine ⟨r1, m1, e1, l1, hm1, ?_⟩
    show (if PS.x ⟨r, m⟩ = wSum then _ else bind (condM n (termM n d) ⟨r, m⟩) _) = _
    rw [hx_of e]
    rw [if_neg (show hx (tw (wPrt (.c x)) ++ w') ≠ wSum from cnd_fst g w'), bind_okk q1]
  | sum s ms t =>
    obtain ⟨g1, ⟨g2, g3⟩, g4, g5⟩ := g
    have e : r.map fp = ((.name, wSum) :: tw (wMs ms ++ ([.sp, sg (cl s), .sp] ++ wTm t))) ++ w' := e
    obtain ⟨k, r1, rfl, e1⟩ := fedA e
    rw [op_tw, List.append_assoc] at e1
    simp only [List.length_cons] at hl
    obtain ⟨r2, m2, e2, l2, hm2, q2⟩ := list_read (n := n) (fun y hy => member_read (g3 y hy)) g2 r1 m _ e1 trivial (by omega) hm
    obtain ⟨r3, e3, l3, q3⟩ := one_rd (m := m2) e2 g1
    obtain ⟨r4, e4, l4, q4⟩ := term_read (n := n) d t g5 g4 r3 m2 w' e3 fo.1 (by omega)
    rw [max0] at q4
    refine ⟨r4, m2, e4, by simp only [List.length_cons]; omega, hm2, ?_⟩
    show (if wSum = wSum then bind (listM n (memberM n (termM n d)) ⟨r1, m⟩) _ else _) = _
    rw [if_pos rfl, bind_okk q2, bind_okk q3, bind_okk q4, S_cl]
def FB : List Tw → Prop := fun w => FC w ∧ hx w ≠ gComma
theorem body_read {b : List Prt} (g : ∀ c ∈ b, GoodP (d := d) c) (ne : b ≠ []) : Rd n (bodyM n (termM n d)) (tw (wBd b)) b FB := by
  intro r m w' e fo hl hm
  cases b with
  | nil => exact absurd rfl ne
  | cons c b =>
    obtain ⟨k, r1, rfl, e1⟩ := fedA (k := .sign) (t := gIf) (w := tw (jn cm ((c :: b).map wPrt))) e
    simp only [List.length_cons] at hl
    obtain ⟨r2, m2, e2, l2, hm2, q2⟩ := some_read (n := n) (item := partM n (termM n d)) (sep := gComma) (wr := wPrt) (Fi := FC) fc_comma (fun y hy => part_read (g y hy)) (m := m) e1 fo.2 fo.1 (by omega) hm
    refine ⟨r2, m2, e2, by simp only [List.length_cons]; omega, hm2, ?_⟩
    show (if gIf = gIf then bind (partM n (termM n d) ⟨r1, m⟩) (fun x s1 => manyM gComma (partM n (termM n d)) n [x] s1) else ok [] ⟨(.sign, gIf, k) :: r1, m⟩) = _
    rw [if_pos rfl, q2]
theorem obody_read {b : List Prt} (g : ∀ c ∈ b, GoodP (d := d) c) : Rd n (bodyM n (termM n d)) (tw (wOb b)) b (fun w => FB w ∧ hx w ≠ gIf) := by
  intro r m w' e fo hl hm
  cases b with
  | nil =>
    have e : r.map fp = w' := e
    refine ⟨r, m, e, Nat.le_refl _, hm, ?_⟩
    show (if PS.x ⟨r, m⟩ = gIf then _ else ok [] ⟨r, m⟩) = _
    rw [hx_of e, if_neg fo.2]
  | cons c b => exact body_read (n := n) (d := d) g (fun z => nomatch z) r m w' e fo.1 hl hm
end
end PM
set_option Elab.async false
set_option linter.all false
set_option maxRecDepth 100000
set_option maxHeartbeats 4000000
namespace PM
open PySem SX SU
/-! statements -/
def FD : List Tw → Prop := fun w => ∃ w', w = (.sign, gDot) :: w'
theorem FD.fb {w : List Tw} (h : FD w) : FB w ∧ hx w ≠ gIf := by
  obtain ⟨w', rfl⟩ := h
  exact ⟨⟨⟨(by decide : gDot ∉ OPS), (by decide : gDot ∉ RELS), (by decide : gDot ≠ gL)⟩, (by decide : gDot ≠ gComma)⟩, (by decide : gDot ≠ gIf)⟩
def GoodO : Option Int → Prop
  | none => True
  | some i => 0 ≤ i ∧ i < 10000
section
variable {n d : Nat}
def GoodS : Stm → Prop
  | .rule a b => GoodA (d := d) a ∧ ∀ p ∈ b, GoodP (d := d) p
  | .deny b => b ≠ [] ∧ ∀ p ∈ b, GoodP (d := d) p
  | .choose lo hi ch b => GoodO lo ∧ GoodO hi ∧ (ch ≠ [] ∧ ∀ x ∈ ch, GoodH (d := d) x) ∧ ∀ p ∈ b, GoodP (d := d) p
  | .range x y => (0 ≤ x ∧ x < 10000) ∧ 0 ≤ y ∧ y < 10000
  | .minim ms => ms ≠ [] ∧ ∀ m ∈ ms, GoodM (d := d) m
theorem ob_hd {b : List Prt} {w : List Tw} (h : FD w) : (hx (tw (wOb b) ++ w) = gIf ∨ hx (tw (wOb b) ++ w) = gDot) ∧ hk (tw (wOb b) ++ w) = .sign := by
  cases b with
  | nil => obtain ⟨w', rfl⟩ := h; exact ⟨.inr rfl, rfl⟩
  | cons p b => exact ⟨.inl rfl, rfl⟩
theorem oint_rd {o : Option Int} (h : GoodO o) {wr : Option Int → List Pc} (h1 : wr none = []) (h2 : ∀ i, tw (wr (some i)) = [(.int, TL.numL i.toNat)]) {r : List Tk} {m : Nat} {w' : List Tw} (e : r.map fp = tw (wr o) ++ w') (hw : hk w' ≠ .int) :
    ∃ r', r'.map fp = w' ∧ r'.length ≤ r.length ∧ ointM ⟨r, m⟩ = ok o ⟨r', m⟩ := by
  cases o with
  | none =>
    rw [h1] at e
    refine ⟨r, e, Nat.le_refl _, ?_⟩
    show (if PS.k ⟨r, m⟩ = .int then _ else ok none ⟨r, m⟩) = _
    have e : r.map fp = w' := e
    rw [hk_of e, if_neg hw]
  | some i =>
    rw [h2 i] at e
    obtain ⟨k, r1, rfl, e1⟩ := fedA e
    refine ⟨r1, e1, by simp, ?_⟩
    show (if K1.Kind.int = K1.Kind.int then ok (some (val (TL.numL i.toNat))) _ else _) = _
    rw [if_pos rfl, val_num, Int.toNat_of_nonneg h.1]; rfl
theorem choose_read {lo hi : Option Int} {ch : List Cho} {b : List Prt} (g : GoodS (d := d) (.choose lo hi ch b)) : Rd n (chooseM n (termM n d)) (tw (wStm0 (.choose lo hi ch b))) (.choose lo hi ch b) FD := by
  obtain ⟨g1, g2, ⟨g3, g4⟩, g5⟩ := g
  intro r m w' e fo hl hm
  have e : r.map fp = tw (wLo lo) ++ (tw (wChs ch) ++ (tw (wHi hi) ++ (tw (wOb b) ++ w'))) := by
    rw [e, wStm0, tw_app, tw_app, tw_app]; simp only [List.append_assoc]
  obtain ⟨r1, e1, l1, q1⟩ := oint_rd (m := m) (wr := wLo) g1 rfl (fun i => rfl) e (by rw [wChs, bc_tw]; exact fun z => nomatch z)
  obtain ⟨r2, m2, e2, l2, hm2, q2⟩ := list_read (n := n) (fun y hy => choice_read (g4 y hy)) g3 r1 m _ e1 trivial (by omega) hm
  obtain ⟨r3, e3, l3, q3⟩ := oint_rd (m := m2) (wr := wHi) g2 rfl (fun i => rfl) e2 (by rw [(ob_hd fo).2]; exact fun z => nomatch z)
  obtain ⟨r4, m4, e4, l4, hm4, q4⟩ := obody_read (n := n) (d := d) g5 r3 m2 w' e3 fo.fb (by omega) hm2
  refine ⟨r4, m4, e4, by omega, hm4, ?_⟩
  unfold chooseM
  rw [bind_okk q1, bind_okk q2, bind_okk q3, bind_okk q4]
theorem if2 {α : Type} {p : Prop} [Decidable p] {a b : α} (h : ¬ p) : (if p then a else b) = b := if_neg h
theorem bare_read {s : Stm} (g : GoodS (d := d) s) : Rd n (bareM n (termM n d)) (tw (wStm0 s)) s FD := by
  intro r m w' e fo hl hm
  cases s with
  | rule a b =>
    obtain ⟨g1, g2⟩ := g
    have e : r.map fp = tw (wAtm a) ++ (tw (wOb b) ++ w') := by rw [e, wStm0, tw_app, List.append_assoc]
    obtain ⟨r1, m1, e1, l1, hm1, q1⟩ := atom_read (n := n) (d := d) g1 r m _ e (by
      show hx _ ≠ gL
      rcases (ob_hd (b := b) fo).1 with z | z <;> rw [z] <;> decide) hl hm
    obtain ⟨r2, m2, e2, l2, hm2, q2⟩ := obody_read (n := n) (d := d) g2 r1 m1 w' e1 fo.fb (by omega) hm1
    refine ⟨r2, m2, e2, by omega, hm2, ?_⟩
    have hxx : PS.x ⟨r, m⟩ = cl a.nm := by rw [hx_of e]; rfl
    have hkk : PS.k ⟨r, m⟩ = .name := by rw [hk_of e]; rfl
    unfold bareM
    rw [hxx, hkk, if2 (g1.1.ne), if2 (fun z => g1.1.k (by rw [z]; decide)), if2 (fun z => g1.1.k (by rw [z]; decide)), if2 (fun z => z.elim (g1.1.ne) (fun z => nomatch z)), bind_okk q1, bind_okk q2]
  | deny b =>
    obtain ⟨g1, g2⟩ := g
    obtain ⟨r2, m2, e2, l2, hm2, q2⟩ := body_read (n := n) (d := d) g2 g1 r m w' e fo.fb.1 hl hm
    refine ⟨r2, m2, e2, by omega, hm2, ?_⟩
    have hxx : PS.x ⟨r, m⟩ = gIf := by rw [hx_of e]; rfl
    unfold bareM
    rw [hxx, if_pos rfl, bind_okk q2]
  | choose lo hi ch b =>
    obtain ⟨r2, m2, e2, l2, hm2, q2⟩ := choose_read (n := n) g r m w' e fo hl hm
    refine ⟨r2, m2, e2, by omega, hm2, ?_⟩
    have hh : (PS.x ⟨r, m⟩ = gBL ∨ PS.k ⟨r, m⟩ = .int) ∧ PS.x ⟨r, m⟩ ≠ gIf ∧ PS.x ⟨r, m⟩ ≠ wRange ∧ PS.x ⟨r, m⟩ ≠ wMin := by
      rw [hx_of e, hk_of e]
      cases lo with
      | none => exact ⟨.inl rfl, (by decide : gBL ≠ gIf), (by decide : gBL ≠ wRange), (by decide : gBL ≠ wMin)⟩
      | some i =>
        have h := num_ne i.toNat
        exact ⟨.inr rfl, fun z => h.2 (by rw [show TL.numL i.toNat = gIf from z]; decide), fun z => h.1 (by rw [show TL.numL i.toNat = wRange from z]; decide), fun z => h.1 (by rw [show TL.numL i.toNat = wMin from z]; decide)⟩
    unfold bareM
    rw [if2 hh.2.1, if2 hh.2.2.1, if2 hh.2.2.2, if_pos hh.1, q2]
  | range x y =>
    obtain ⟨g1, g2⟩ := g
    have e : r.map fp = ((.name, wRange) :: [(.int, TL.numL x.toNat), (.int, TL.numL y.toNat)]) ++ w' := e
    obtain ⟨k, r1, rfl, e1⟩ := fedA e
    obtain ⟨r2, e2, l2, q2⟩ := int_rd (m := m) g1.1 e1
    obtain ⟨r3, e3, l3, q3⟩ := int_rd (m := m) g2.1 e2
    refine ⟨r3, m, e3, by simp only [List.length_cons]; omega, hm, ?_⟩
    have hxx : PS.x ⟨(.name, wRange, k) :: r1, m⟩ = wRange := rfl
    unfold bareM
    rw [hxx, if2 (by decide), if_pos rfl]
    show bind (intM ⟨r1, m⟩) _ = _
    rw [bind_okk q2, bind_okk q3]
  | minim ms =>
    obtain ⟨g1, g2⟩ := g
    have e : r.map fp = ((.name, wMin) :: tw (wMs ms)) ++ w' := e
    obtain ⟨k, r1, rfl, e1⟩ := fedA e
    simp only [List.length_cons] at hl
    obtain ⟨r2, m2, e2, l2, hm2, q2⟩ := list_read (n := n) (fun y hy => member_read (g2 y hy)) g1 r1 m _ e1 trivial (by omega) hm
    refine ⟨r2, m2, e2, by simp only [List.length_cons]; omega, hm2, ?_⟩
    have hxx : PS.x ⟨(.name, wMin, k) :: r1, m⟩ = wMin := rfl
    unfold bareM
    rw [hxx, if2 (by decide), if2 (by decide), if_pos rfl]
    show bind (listM n (memberM n (termM n d)) ⟨r1, m⟩) _ = _
    rw [bind_okk q2]
theorem stm_read {s : Stm} (g : GoodS (d := d) s) : Rd n (stmM n (termM n d)) (tw (wStm s)) s Any := by
  intro r m w' e _ hl hm
  rw [wStm, tw_app, List.append_assoc] at e
  obtain ⟨r1, m1, e1, l1, hm1, q1⟩ := bare_read (n := n) g r m _ e ⟨w', rfl⟩ hl hm
  obtain ⟨r2, e2, l2, q2⟩ := skip_rd (m := m1) e1
  refine ⟨r2, m1, e2, by omega, hm1, ?_⟩
  unfold stmM
  rw [bind_okk q1, bind_okk q2]
/-- the words -/
def wc (w : List Tw) : Nat := (w.filter fun t => decide (t.1 ≠ .sign)).length
theorem words_wc (ts : List Tk) : wordsN ts = wc (ts.map fp) := by
  unfold wordsN wc
  rw [List.filter_map, List.length_map]; rfl
theorem take_of {r r' : List Tk} {w w' : List Tw} (e : r.map fp = w ++ w') (e' : r'.map fp = w') : (r.take (r.length - r'.length)).map fp = w := by
  have h1 : r.length = w.length + w'.length := by rw [← List.length_append, ← e, List.length_map]
  have h2 : r'.length = w'.length := by rw [← e', List.length_map]
  rw [List.map_take, e, h1, h2, Nat.add_sub_cancel]
  exact List.take_left
theorem stm_hk {s : Stm} (w : List Tw) : hk (tw (wStm s) ++ w) ≠ .fin := by
  cases s with
  | rule a b => exact fun z => nomatch z
  | deny b => exact fun z => nomatch z
  | choose lo hi ch b =>
    cases lo with
    | none => exact fun z => nomatch z
    | some i => exact fun z => nomatch z
  | range x y => exact fun z => nomatch z
  | minim ms => exact fun z => nomatch z
theorem stms_read : ∀ (ss : List Stm), (∀ s ∈ ss, GoodS (d := d) s ∧ wc (tw (wStm s)) ≤ 60) → ∀ (acc : List Stm) (mw n' : Nat) (r : List Tk) (m : Nat), r.map fp = ss.flatMap (fun s => tw (wStm s)) ++ [(.fin, [])] → r.length < n' → r.length < n → m ≤ 4 → mw ≤ 60 →
    ∃ r' m' mw', m' ≤ 4 ∧ mw' ≤ 60 ∧ stmsM (stmM n (termM n d)) n' acc mw ⟨r, m⟩ = ok (acc ++ ss, mw') ⟨r', m'⟩
  | [], _, acc, mw, n', r, m, e, hl, _, hm, hw => by
    obtain ⟨n2, rfl⟩ : ∃ n2, n' = n2 + 1 := ⟨n' - 1, by omega⟩
    refine ⟨r, m, mw, hm, hw, ?_⟩
    show (if PS.k ⟨r, m⟩ = .fin then ok (acc, mw) ⟨r, m⟩ else _) = _
    rw [hk_of e, List.append_nil]; rfl
  | s :: ss, h, acc, mw, n', r, m, e, hl, hn, hm, hw => by
    obtain ⟨n2, rfl⟩ : ∃ n2, n' = n2 + 1 := ⟨n' - 1, by omega⟩
    rw [List.flatMap_cons, List.append_assoc] at e
    obtain ⟨g, hwc⟩ := h s List.mem_cons_self
    obtain ⟨r1, m1, e1, l1, hm1, q1⟩ := stm_read (n := n) g r m _ e trivial hn hm
    have hlt : r1.length < r.length := by
      have a1 : r.length = (r.map fp).length := (List.length_map _).symm
      have a2 : r1.length = (r1.map fp).length := (List.length_map _).symm
      have a3 := congrArg List.length e
      have a4 := congrArg List.length e1
      rw [List.length_append (as := tw (wStm s))] at a3
      have : 0 < (tw (wStm s)).length := by rw [wStm, tw_app, List.length_append]; show 0 < _ + 1; omega
      omega
    have hwd : wordsN (r.take (r.length - r1.length)) ≤ 60 := by rw [words_wc, take_of e e1]; exact hwc
    obtain ⟨r2, m2, mw2, hm2, hw2, q2⟩ := stms_read ss (fun z hz => h z (List.mem_cons_of_mem _ hz)) (acc ++ [s]) (max mw (wordsN (r.take (r.length - r1.length)))) n2 r1 m1 e1 (by omega) (by omega) hm1 (Nat.max_le.mpr ⟨hw, hwd⟩)
    refine ⟨r2, m2, mw2, hm2, hw2, ?_⟩
    show (if PS.k ⟨r, m⟩ = .fin then _ else bind (stmM n (termM n d) ⟨r, m⟩) (fun x s1 => stmsM (stmM n (termM n d)) n2 (acc ++ [x]) (max mw (wordsN (r.take (r.length - s1.r.length)))) s1)) = _
    rw [hk_of e, if_neg (stm_hk _), bind_okk q1]
    show stmsM _ n2 (acc ++ [s]) (max mw (wordsN (r.take (r.length - r1.length)))) ⟨r1, m1⟩ = _
    rw [q2, List.append_assoc]; rfl
/-! brackets -/
def deepW : Int → List Tw → Bool
  | _, [] => false
  | l, t :: r =>
    let l1 := if t.2 = gL then l + 1 else if t.2 = gR then l - 1 else l
    decide (l1 > 10) || deepW l1 r
theorem deep_of : ∀ (ts : List Tk) (l : Int), tooDeep l ts = deepW l (ts.map fp)
  | [], _ => rfl
  | t :: r, l => by
    show (_ || tooDeep _ r) = (_ || deepW _ (r.map fp))
    rw [deep_of r]; rfl
/-- brackets come in pairs, at most h deep -/
def Bal (h : Nat) (w : List Tw) : Prop := ∀ (l : Int) (rest : List Tw), l + h ≤ 10 → deepW l (w ++ rest) = deepW l rest
theorem Bal.nil (h : Nat) : Bal h [] := fun _ _ _ => rfl
theorem Bal.app {h : Nat} {a b : List Tw} (ha : Bal h a) (hb : Bal h b) : Bal h (a ++ b) := fun l rest hl => by rw [List.append_assoc, ha l _ hl, hb l _ hl]
theorem Bal.mono {h h' : Nat} {a : List Tw} (ha : Bal h a) (i : h ≤ h') : Bal h' a := fun l rest hl => ha l rest (by omega)
theorem Bal.one {h : Nat} {k : Kd} {x : List Nat} (h1 : x ≠ gL) (h2 : x ≠ gR) : Bal h [(k, x)] := fun l rest hl => by
  show (decide ((if x = gL then l + 1 else if x = gR then l - 1 else l) > 10) || deepW (if x = gL then l + 1 else if x = gR then l - 1 else l) rest) = _
  rw [if_neg h1, if_neg h2, decide_eq_false (by omega)]; rfl
theorem Bal.cons {h : Nat} {k : Kd} {x : List Nat} {w : List Tw} (h1 : x ≠ gL) (h2 : x ≠ gR) (hw : Bal h w) : Bal h ((k, x) :: w) := Bal.app (a := [(k, x)]) (Bal.one h1 h2) hw
theorem Bal.br {h : Nat} {p : List Pc} (hp : Bal h (tw p)) : Bal (h + 1) (tw (br p)) := fun l rest hl => by
  rw [br_tw]
  show (decide ((if gL = gL then l + 1 else _) > 10) || deepW (if gL = gL then l + 1 else _) ((tw p ++ [(.sign, gR)]) ++ rest)) = _
  rw [if_pos rfl, decide_eq_false (by omega), Bool.false_or, List.append_assoc, hp (l + 1) _ (by omega)]
  show (decide ((if gR = gL then l + 1 + 1 else if gR = gR then l + 1 - 1 else l + 1) > 10) || deepW (if gR = gL then l + 1 + 1 else if gR = gR then l + 1 - 1 else l + 1) rest) = _
  rw [if_neg (by decide), if_pos rfl, decide_eq_false (by omega), show l + 1 - 1 = l by omega]; rfl
theorem good_nb {k : Kd} {t : List Nat} (g : K1.Good k t) (hk : k ≠ .sign) : t ≠ gL ∧ t ≠ gR := by
  have hd : ∀ c w, t = c :: w → (K1.isLower c = true ∨ K1.isUpper c = true ∨ K1.isDigit c = true) → t ≠ gL ∧ t ≠ gR := fun c w e h => by
    simp only [K1.isLower_iff, K1.isUpper_iff, K1.isDigit_iff] at h
    subst e
    exact ⟨fun z => by have := (List.cons.inj z).1; omega, fun z => by have := (List.cons.inj z).1; omega⟩
  cases g with
  | name h _ _ => exact hd _ _ rfl (.inl h)
  | var h _ _ => exact hd _ _ rfl (.inr (.inl h))
  | zero => exact ⟨by decide, by decide⟩
  | int h _ _ _ => exact hd _ _ rfl (.inr (.inr h))
  | sign _ => exact absurd rfl hk
theorem nm_nb {x : Str} (g : NmG x) : cl x ≠ gL ∧ cl x ≠ gR := good_nb g.g (by decide)
theorem num_good {i : Int} (h0 : 0 ≤ i) (h1 : i < 10000) : K1.Good .int (TL.numL i.toNat) := K1.Good.num (by omega)
theorem op_nb {s : Str} (h : s = S gMul ∨ s = S gAdd ∨ s = S gSub) : cl s ≠ gL ∧ cl s ≠ gR := by
  rcases h with h | h | h <;> rw [h, cl_S] <;> exact ⟨by decide, by decide⟩
theorem tm_bal : ∀ (t : Tm), GoodT t → Bal t.dep (tw (wTm t))
  | .var x, g => Bal.one (good_nb g (by decide)).1 (good_nb g (by decide)).2
  | .int i, g => Bal.one (good_nb (num_good g.1 g.2) (by decide)).1 (good_nb (num_good g.1 g.2) (by decide)).2
  | .sym x, g => Bal.one (nm_nb g).1 (nm_nb g).2
  | .op s l r, g => by
    have hl := tm_bal l g.2.1
    have hr := tm_bal r g.2.2
    unfold wTm
    rw [op_tw]
    have dl := dep_l s l r
    have dr := dep_r s l r
    refine Bal.app ?_ (Bal.cons (op_nb g.1).1 (op_nb g.1).2 ?_)
    · split
      · exact hl.br.mono dl
      · exact hl.mono (Nat.le_of_lt dl)
    · split
      · exact hr.br.mono dr
      · exact hr.mono (Nat.le_of_lt dr)
theorem jn_bal {α : Type} {h : Nat} {wr : α → List Pc} {sep : List Nat} (hs : sep ≠ gL ∧ sep ≠ gR) : ∀ (xs : List α), (∀ x ∈ xs, Bal h (tw (wr x))) → Bal h (tw (jn [sg sep, .sp] (xs.map wr)))
  | [], _ => Bal.nil _
  | [x], hx => hx x List.mem_cons_self
  | x :: y :: r, hx => by
    have ih := jn_bal hs (y :: r) fun z hz => hx z (List.mem_cons_of_mem _ hz)
    show Bal h (tw (wr x ++ ([sg sep, Pc.sp] ++ jn [sg sep, Pc.sp] ((y :: r).map wr))))
    rw [tw_app, tw_app]
    exact Bal.app (hx x List.mem_cons_self) (Bal.cons hs.1 hs.2 ih)
theorem bc_bal {h : Nat} {p : List Pc} (hp : Bal h (tw p)) : Bal h (tw (bc p)) := by
  rw [bc_tw]
  exact Bal.cons (by decide) (by decide) (Bal.app hp (Bal.one (by decide) (by decide)))
theorem atom_bal {a : Atm} (g : GoodA (d := d) a) : Bal d (tw (wAtm a)) := by
  rw [atom_tw]
  refine Bal.cons (nm_nb g.1).1 (nm_nb g.1).2 ?_
  by_cases z : a.ts = []
  · rw [if_pos z]; exact Bal.nil _
  · rw [if_neg z]
    have h0 : 0 < d := by
      obtain ⟨t, ht⟩ := List.exists_mem_of_ne_nil _ z
      have := (g.2.1 t ht).2
      omega
    have := (jn_bal (h := d - 1) (wr := wTm) (sep := gComma) ⟨by decide, by decide⟩ a.ts fun t ht => (tm_bal t (g.2.1 t ht).1).mono (by have := (g.2.1 t ht).2; omega)).br
    exact this.mono (by omega)
theorem rel_nb : ∀ {x : List Nat}, x ∈ RELS → x ≠ gL ∧ x ≠ gR := by
  have : ∀ x ∈ RELS, x ≠ gL ∧ x ≠ gR := by decide
  exact fun {x} h => this x h
theorem cond_bal {c : Cnd} (g : GoodC (d := d) c) : Bal d (tw (wCnd c)) := by
  cases c with
  | yes a => exact atom_bal g
  | no a => exact Bal.cons (w := tw (wAtm a)) (by decide : wNot ≠ gL) (by decide) (atom_bal g)
  | cmp s l r =>
    obtain ⟨g1, ⟨g2, g3⟩, g4, g5⟩ := g
    show Bal d (tw (wTm l ++ ([Pc.sp, sg (cl s), Pc.sp] ++ wTm r)))
    rw [op_tw]
    exact Bal.app ((tm_bal l g2).mono (by omega)) (Bal.cons (rel_nb g1).1 (rel_nb g1).2 ((tm_bal r g4).mono (by omega)))
theorem cs_bal {b : List Cnd} (g : ∀ c ∈ b, GoodC (d := d) c) : Bal d (tw (wCs b)) := by
  unfold wCs
  split
  · exact Bal.nil _
  · exact Bal.cons (w := tw (jn cm (b.map wCnd))) (by decide : gColon ≠ gL) (by decide) (jn_bal ⟨by decide, by decide⟩ b fun c hc => cond_bal (g c hc))
theorem ms_bal {ms : List Mem} (g : ∀ m ∈ ms, GoodM (d := d) m) : Bal d (tw (wMs ms)) := bc_bal (jn_bal ⟨by decide, by decide⟩ ms fun m hm => by
  rw [wMem, tw_app]
  exact Bal.app ((tm_bal _ (g m hm).1.1).mono (by have := (g m hm).1.2; omega)) (cs_bal (g m hm).2))
theorem chs_bal {ms : List Cho} (g : ∀ m ∈ ms, GoodH (d := d) m) : Bal d (tw (wChs ms)) := bc_bal (jn_bal ⟨by decide, by decide⟩ ms fun m hm => by
  rw [wCho, tw_app]
  exact Bal.app (atom_bal (g m hm).1) (cs_bal (g m hm).2))
theorem prt_bal {p : Prt} (g : GoodP (d := d) p) : Bal d (tw (wPrt p)) := by
  cases p with
  | c x => exact cond_bal g
  | sum s ms t =>
    obtain ⟨g1, ⟨g2, g3⟩, g4, g5⟩ := g
    refine Bal.cons (w := tw (wMs ms ++ ([Pc.sp, sg (cl s), Pc.sp] ++ wTm t))) (by decide : wSum ≠ gL) (by decide) ?_
    rw [op_tw]
    have : cl s ∈ RELS := by
      have : ∀ x ∈ SRELS, x ∈ RELS := by decide
      exact this _ g1
    exact Bal.app (ms_bal g3) (Bal.cons (rel_nb this).1 (rel_nb this).2 ((tm_bal t g4).mono (by omega)))
theorem bd_bal {b : List Prt} (g : ∀ c ∈ b, GoodP (d := d) c) : Bal d (tw (wBd b)) := Bal.cons (w := tw (jn cm (b.map wPrt))) (by decide : gIf ≠ gL) (by decide) (jn_bal ⟨by decide, by decide⟩ b fun c hc => prt_bal (g c hc))
theorem ob_bal {b : List Prt} (g : ∀ c ∈ b, GoodP (d := d) c) : Bal d (tw (wOb b)) := by
  unfold wOb
  split
  · exact Bal.nil _
  · exact bd_bal g
theorem int_bal {i : Int} (h : 0 ≤ i ∧ i < 10000) {w : List Tw} (hw : Bal d w) : Bal d ((.int, TL.numL i.toNat) :: w) := Bal.cons (good_nb (num_good h.1 h.2) (by decide)).1 (good_nb (num_good h.1 h.2) (by decide)).2 hw
theorem stm_bal {s : Stm} (g : GoodS (d := d) s) : Bal d (tw (wStm s)) := by
  rw [wStm, tw_app]
  refine Bal.app ?_ (Bal.one (by decide) (by decide))
  cases s with
  | rule a b => rw [wStm0, tw_app]; exact Bal.app (atom_bal g.1) (ob_bal g.2)
  | deny b => exact bd_bal g.2
  | choose lo hi ch b =>
    rw [wStm0, tw_app, tw_app, tw_app]
    refine Bal.app ?_ (Bal.app (chs_bal g.2.2.1.2) (Bal.app ?_ (ob_bal g.2.2.2)))
    · cases lo with
      | none => exact Bal.nil _
      | some i => exact int_bal g.1 (Bal.nil _)
    · cases hi with
      | none => exact Bal.nil _
      | some i => exact int_bal g.2.1 (Bal.nil _)
  | range x y => exact Bal.cons (by decide : wRange ≠ gL) (by decide) (int_bal g.1 (int_bal g.2 (Bal.nil _)))
  | minim ms => exact Bal.cons (w := tw (wMs ms)) (by decide : wMin ≠ gL) (by decide) (ms_bal g.2)
theorem tw_sts (ss : List Stm) : tw (wSts ss) = ss.flatMap fun s => tw (wStm s) := by
  induction ss with
  | nil => rfl
  | cons s r ih =>
    show tw ((wStm s ++ [Pc.nl]) ++ wSts r) = _
    rw [tw_app, ih, tw_app, List.flatMap_cons]
    show (tw (wStm s) ++ []) ++ _ = _
    rw [List.append_nil]
/-- what is written is read -/
theorem parse_read {ss : List Stm} {ts : List Tk} (hn : ts.length < n) (hs : ss.length ≤ 60) (g : ∀ s ∈ ss, GoodS (d := d) s ∧ wc (tw (wStm s)) ≤ 60) (g2 : ∀ s ∈ ss, GoodS (d := 10) s) (e : ts.map fp = tw (wSts ss) ++ [(.fin, [])]) : parseM n d ts = some (.ok ss) := by
  rw [tw_sts] at e
  have hb : tooDeep 0 ts = false := by
    rw [deep_of, e]
    have : ∀ xs : List Stm, (∀ s ∈ xs, GoodS (d := 10) s) → Bal 10 (xs.flatMap fun s => tw (wStm s)) := fun xs => by
      induction xs with
      | nil => exact fun _ => Bal.nil _
      | cons s r ih => exact fun h => by rw [List.flatMap_cons]; exact Bal.app (stm_bal (h s List.mem_cons_self)) (ih fun z hz => h z (List.mem_cons_of_mem _ hz))
    rw [this ss g2 0 _ (by omega)]; rfl
  obtain ⟨r', m', mw', hm, hw, q⟩ := stms_read (n := n) (d := d) ss g [] 0 n ts 0 e hn hn (by decide) (by decide)
  unfold parseM
  rw [hb, if_neg (by decide), q]
  show (if ([] ++ ss).length > 60 ∨ mw' > 60 ∨ m' > 4 then _ else some (Except.ok ([] ++ ss))) = _
  rw [List.nil_append, if_neg (by omega)]
end
end PM
set_option Elab.async false
set_option linter.all false
set_option maxRecDepth 100000
set_option maxHeartbeats 4000000
namespace PM
open PySem SX SU
/-! what is written is read as its tokens; the words in it are counted by their runs -/
/-- signs that stand directly at others -/
def PL : List (List Nat) := [gL, gR, gBL, gBR, gComma, gSemi, gColon, gDot, gIf]
/-- behind it stands nothing, a space, a newline, or such a sign -/
def Fin (rest : List Nat) : Prop := rest = [] ∨ ∃ c r, rest = c :: r ∧ c ∈ [32, 10, 40, 41, 123, 125, 44, 59, 58, 46]
theorem fin_char {c : Nat} (h : c ∈ [32, 10, 40, 41, 123, 125, 44, 59, 58, 46]) : K1.isWord c = false ∧ K1.isDigit c = false ∧ c ≠ 45 ∧ c ≠ 61 := by
  simp only [List.mem_cons, List.not_mem_nil, or_false] at h
  rcases h with h | h | h | h | h | h | h | h | h | h <;> subst h <;> decide
theorem Fin.follow {rest : List Nat} (h : Fin rest) (k : Kd) (t : List Nat) : K1.Follow k t rest := by
  rintro c r e
  rcases h with h | ⟨c', r', h, hc⟩
  · rw [h] at e; cases e
  · rw [h] at e
    cases e
    obtain ⟨h1, h2, h3, h4⟩ := fin_char hc
    cases k with
    | name => exact .inr h1
    | var => exact .inr h1
    | int => exact .inr (.inr h2)
    | sign => exact ⟨h3, h4⟩
    | fin => trivial
/-- the number of runs of word signs -/
def runs : Bool → List Nat → Nat
  | _, [] => 0
  | i, c :: r => if K1.isWord c = true then (if i = true then 0 else 1) + runs true r else runs false r
theorem fin_runs {rest : List Nat} (h : Fin rest) : runs true rest = runs false rest := by
  rcases h with h | ⟨c, r, h, hc⟩
  · rw [h]; rfl
  · rw [h]
    have := (fin_char hc).1
    simp only [runs, this]; rfl
def Ws (sep : List Nat) : Prop := sep ≠ [] ∧ ∀ c ∈ sep, c = 32 ∨ c = 10
structure SolX (sep : List Nat) (a : List Pc) : Prop where
  lex : ∀ n rest ts, Fin rest → K1.Lex (n + (txt sep a).length) rest ts → ∃ ts', ts'.map fp = tw a ∧ K1.Lex n (txt sep a ++ rest) (ts' ++ ts)
  hd : ∃ c r, txt sep a = c :: r ∧ c ≠ 45 ∧ c ≠ 61
  rn : ∀ rest, Fin rest → runs false (txt sep a ++ rest) = wc (tw a) + runs false rest
  asc : ∀ c ∈ txt sep a, c < 128
theorem wc_app (a b : List Tw) : wc (a ++ b) = wc a + wc b := by unfold wc; rw [List.filter_append, List.length_append]
theorem lex_tok {k : Kd} {t : List Nat} (g : K1.Good k t) {n : Nat} {rest : List Nat} {ts : List Tk} (f : K1.Follow k t rest) (h : K1.Lex (n + t.length) rest ts) : K1.Lex n (t ++ rest) ((k, t, n) :: ts) := by
  have hr := g.read f
  obtain ⟨c, r, e, h1, h2⟩ := g.head
  subst e
  rw [List.cons_append] at hr ⊢
  refine .tok ⟨h1, h2⟩ hr (by simp) (by simp) ?_
  have ed : (c :: (r ++ rest)).drop (c :: r).length = rest := by
    rw [← List.cons_append, List.drop_left]
  rw [ed]
  exact h
theorem run_word : ∀ (w rest : List Nat) (i : Bool), (∀ c ∈ w, K1.isWord c = true) → w ≠ [] → runs i (w ++ rest) = (if i = true then 0 else 1) + runs true rest
  | [], _, _, _, h => absurd rfl h
  | [c], rest, i, h, _ => by
    show (if K1.isWord c = true then _ else _) = _
    rw [if_pos (h c List.mem_cons_self)]; rfl
  | c :: d :: r, rest, i, h, _ => by
    have ih := run_word (d :: r) rest true (fun x hx => h x (List.mem_cons_of_mem _ hx)) (by simp)
    show (if K1.isWord c = true then (if i = true then 0 else 1) + runs true ((d :: r) ++ rest) else _) = _
    rw [if_pos (h c List.mem_cons_self), ih]
    simp
theorem good_word {k : Kd} {t : List Nat} (g : K1.Good k t) (hk : k ≠ .sign) : (∀ c ∈ t, K1.isWord c = true) ∧ t ≠ [] ∧ (∀ c ∈ t, c < 128) ∧ ∃ c r, t = c :: r ∧ c ≠ 45 ∧ c ≠ 61 := by
  have wd : ∀ c, K1.isWord c = true → c < 128 := fun c h => by rw [K1.isWord_iff] at h; omega
  have hw : (∀ c ∈ t, K1.isWord c = true) ∧ t ≠ [] := by
    cases g with
    | name h1 h2 _ =>
      refine ⟨fun c hc => ?_, by simp⟩
      rcases List.mem_cons.mp hc with e | hc
      · rw [e, K1.isWord, h1]; rfl
      · exact h2 c hc
    | var h1 h2 _ =>
      refine ⟨fun c hc => ?_, by simp⟩
      rcases List.mem_cons.mp hc with e | hc
      · rw [e, K1.isWord, h1]; simp
      · exact h2 c hc
    | zero => exact ⟨by decide, by simp⟩
    | int h1 _ h2 _ =>
      refine ⟨fun c hc => ?_, by simp⟩
      rcases List.mem_cons.mp hc with e | hc
      · rw [e, K1.isWord, h1]; simp
      · rw [K1.isWord, h2 c hc]; simp
    | sign _ => exact absurd rfl hk
  refine ⟨hw.1, hw.2, fun c hc => wd c (hw.1 c hc), ?_⟩
  cases t with
  | nil => exact absurd rfl hw.2
  | cons c r =>
    have := hw.1 c List.mem_cons_self
    rw [K1.isWord_iff] at this
    exact ⟨c, r, rfl, by omega, by omega⟩
section
variable {sep : List Nat}
theorem SolX.w {k : Kd} {t : List Nat} (g : K1.Good k t) (hk : k ≠ .sign) : SolX sep [.tok k t] := by
  obtain ⟨h1, h2, h3, h4⟩ := good_word g hk
  have e : txt sep [.tok k t] = t := by simp [txt]
  refine ⟨fun n rest ts hf hl => ?_, by rw [e]; exact h4, fun rest hf => ?_, by rw [e]; exact h3⟩
  · rw [e] at hl ⊢
    exact ⟨[(k, t, n)], rfl, lex_tok g (hf.follow k t) hl⟩
  · rw [e, run_word _ _ _ h1 h2, fin_runs hf]
    have : wc (tw [Pc.tok k t]) = 1 := by simp [wc, tw, hk]
    rw [this]; rfl
theorem sig_char : ∀ t ∈ K1.sigs, t ≠ [] ∧ ∀ c ∈ t, K1.isWord c = false ∧ c < 128 := by decide
theorem run_sign : ∀ (w rest : List Nat) (i : Bool), (∀ c ∈ w, K1.isWord c = false) → w ≠ [] → runs i (w ++ rest) = runs false rest
  | [], _, _, _, h => absurd rfl h
  | [c], rest, i, h, _ => by
    show (if K1.isWord c = true then _ else _) = _
    rw [if_neg (by rw [h c List.mem_cons_self]; decide)]; rfl
  | c :: d :: r, rest, i, h, _ => by
    have ih := run_sign (d :: r) rest false (fun x hx => h x (List.mem_cons_of_mem _ hx)) (by simp)
    show (if K1.isWord c = true then _ else runs false ((d :: r) ++ rest)) = _
    rw [if_neg (by rw [h c List.mem_cons_self]; decide), ih]
theorem pl_sig : ∀ t ∈ PL, t ∈ K1.sigs ∧ (∃ c r, t = c :: r ∧ c ∈ [32, 10, 40, 41, 123, 125, 44, 59, 58, 46]) := by
  intro t ht
  refine ⟨by revert t; decide, ?_⟩
  simp only [PL, List.mem_cons, List.not_mem_nil, or_false] at ht
  rcases ht with h | h | h | h | h | h | h | h | h <;> subst h <;> exact ⟨_, _, rfl, by decide⟩
theorem SolX.g {t : List Nat} (h : t ∈ PL) : SolX sep [sg t] := by
  obtain ⟨h1, c, r, e0, hc⟩ := pl_sig t h
  have e : txt sep [sg t] = t := by simp [txt, sg]
  have h2 := sig_char t h1
  have hcc := fin_char hc
  refine ⟨fun n rest ts hf hl => ?_, by rw [e]; exact ⟨c, r, e0, hcc.2.2⟩, fun rest hf => ?_, by rw [e]; exact fun c hc => (h2.2 c hc).2⟩
  · rw [e] at hl ⊢
    exact ⟨[(.sign, t, n)], rfl, lex_tok (.sign h1) (hf.follow _ _) hl⟩
  · rw [e, run_sign _ _ _ (fun c hc => (h2.2 c hc).1) h2.1]
    have : wc (tw [sg t]) = 0 := by simp [wc, tw, sg]
    rw [this, Nat.zero_add]
/-- the second begins with a sign that stands directly at others -/
theorem SolX.app {a b : List Pc} (ha : SolX sep a) (hb : SolX sep b) (hf : Fin (txt sep b)) : SolX sep (a ++ b) := by
  have hF : ∀ rest, Fin (txt sep b ++ rest) := fun rest => by
    obtain ⟨c, r, e, _⟩ := hb.hd
    rcases hf with h | ⟨c', r', h, hc⟩
    · rw [h] at e; cases e
    · exact .inr ⟨c', r' ++ rest, by rw [h]; rfl, hc⟩
  refine ⟨fun n rest ts hfr hl => ?_, ?_, fun rest hfr => ?_, fun c hc => ?_⟩
  · rw [txt_app, List.length_append, ← Nat.add_assoc] at hl
    obtain ⟨t2, e2, l2⟩ := hb.lex _ rest ts hfr hl
    obtain ⟨t1, e1, l1⟩ := ha.lex n _ _ (hF rest) l2
    exact ⟨t1 ++ t2, by rw [List.map_append, e1, e2, tw_app], by rw [txt_app, List.append_assoc, List.append_assoc]; exact l1⟩
  · obtain ⟨c, r, e, h⟩ := ha.hd
    exact ⟨c, r ++ txt sep b, by rw [txt_app, e]; rfl, h⟩
  · rw [txt_app, List.append_assoc, ha.rn _ (hF rest), hb.rn _ hfr, tw_app, wc_app, Nat.add_assoc]
  · rw [txt_app] at hc
    exact (List.mem_append.mp hc).elim (ha.asc c) (hb.asc c)
theorem run_ws : ∀ (w rest : List Nat) (i : Bool), (∀ c ∈ w, c = 32 ∨ c = 10) → w ≠ [] → runs i (w ++ rest) = runs false rest := fun w rest i h hn => run_sign w rest i (fun c hc => by rcases h c hc with z | z <;> rw [z] <;> decide) hn
theorem fin_ws {w : List Nat} (h : Ws w) (rest : List Nat) : Fin (w ++ rest) := by
  obtain ⟨h1, h2⟩ := h
  cases w with
  | nil => exact absurd rfl h1
  | cons c r => exact .inr ⟨c, r ++ rest, rfl, by rcases h2 c List.mem_cons_self with z | z <;> rw [z] <;> decide⟩
theorem ws_asc {w : List Nat} (h : Ws w) : ∀ c ∈ w, c < 128 := fun c hc => by rcases h.2 c hc with z | z <;> omega
/-- pieces, white space, pieces -/
theorem SolX.gap {a b g : List Pc} (hg : Ws (txt sep g)) (hg2 : tw g = []) (ha : SolX sep a) (hb : SolX sep b) : SolX sep (a ++ (g ++ b)) := by
  refine ⟨fun n rest ts hfr hl => ?_, ?_, fun rest hfr => ?_, fun c hc => ?_⟩
  · rw [txt_app, txt_app, List.length_append, List.length_append, ← Nat.add_assoc, ← Nat.add_assoc] at hl
    obtain ⟨t2, e2, l2⟩ := hb.lex _ rest ts hfr hl
    have l3 := K1.Lex.gap (txt sep g) _ hg.2 l2
    obtain ⟨t1, e1, l1⟩ := ha.lex n _ _ (fin_ws hg _) l3
    exact ⟨t1 ++ t2, by rw [List.map_append, e1, e2, tw_app, tw_app, hg2]; rfl, by rw [txt_app, txt_app, List.append_assoc, List.append_assoc, List.append_assoc]; exact l1⟩
  · obtain ⟨c, r, e, h⟩ := ha.hd
    exact ⟨c, r ++ _, by rw [txt_app, e]; rfl, h⟩
  · rw [txt_app, txt_app, List.append_assoc, List.append_assoc, ha.rn _ (fin_ws hg _), run_ws _ _ _ hg.2 hg.1, hb.rn _ hfr, tw_app, tw_app, hg2, List.nil_append, wc_app, Nat.add_assoc]
  · rw [txt_app, txt_app] at hc
    rcases List.mem_append.mp hc with hc | hc
    · exact ha.asc c hc
    · exact (List.mem_append.mp hc).elim (ws_asc hg c) (hb.asc c)
theorem SolX.gapEnd {a g : List Pc} (hg : Ws (txt sep g)) (hg2 : tw g = []) (ha : SolX sep a) : SolX sep (a ++ g) := by
  refine ⟨fun n rest ts hfr hl => ?_, ?_, fun rest hfr => ?_, fun c hc => ?_⟩
  · rw [txt_app, List.length_append, ← Nat.add_assoc] at hl
    have l3 := K1.Lex.gap (txt sep g) _ hg.2 hl
    obtain ⟨t1, e1, l1⟩ := ha.lex n _ _ (fin_ws hg _) l3
    exact ⟨t1, by rw [e1, tw_app, hg2, List.append_nil], by rw [txt_app, List.append_assoc]; exact l1⟩
  · obtain ⟨c, r, e, h⟩ := ha.hd
    exact ⟨c, r ++ _, by rw [txt_app, e]; rfl, h⟩
  · rw [txt_app, List.append_assoc, ha.rn _ (fin_ws hg _), run_ws _ _ _ hg.2 hg.1, tw_app, hg2, List.append_nil]
  · rw [txt_app] at hc
    exact (List.mem_append.mp hc).elim (ha.asc c) (ws_asc hg c)
/-- a sign directly ahead -/
theorem SolX.gw {t : List Nat} {b : List Pc} (h : t ∈ PL) (hb : SolX sep b) : SolX sep (sg t :: b) := by
  obtain ⟨h1, c, r, e0, hc⟩ := pl_sig t h
  have h2 := sig_char t h1
  have hcc := fin_char hc
  have e : txt sep (sg t :: b) = t ++ txt sep b := rfl
  refine ⟨fun n rest ts hf hl => ?_, ?_, fun rest hf => ?_, fun c hc => ?_⟩
  · rw [e] at hl ⊢
    rw [List.length_append, ← Nat.add_assoc] at hl
    obtain ⟨t2, e2, l2⟩ := hb.lex _ rest ts hf hl
    refine ⟨(.sign, t, n) :: t2, by rw [List.map_cons, e2]; rfl, ?_⟩
    rw [List.append_assoc]
    refine lex_tok (.sign h1) (fun c1 r1 e1 => ?_) l2
    obtain ⟨c2, r2, e3, h3⟩ := hb.hd
    rw [e3] at e1
    cases e1
    exact h3
  · rw [e, e0]; exact ⟨c, _, rfl, hcc.2.2⟩
  · rw [e, List.append_assoc, run_sign _ _ _ (fun c hc => (h2.2 c hc).1) h2.1, hb.rn _ hf]
    have : wc (tw (sg t :: b)) = wc (tw b) := by simp [wc, tw, sg]
    rw [this]
  · rw [e] at hc
    exact (List.mem_append.mp hc).elim (fun z => (h2.2 c z).2) (hb.asc c)
theorem sp_ws (h : Ws sep) : Ws (txt sep [.sp]) ∧ tw [Pc.sp] = [] := ⟨by simpa [txt] using h, rfl⟩
theorem nl_ws : Ws (txt sep [.nl]) ∧ tw [Pc.nl] = [] := ⟨⟨by simp [txt], by simp [txt]⟩, rfl⟩
/-- an operation's sign with spaces -/
theorem SolX.op {a b : List Pc} {t : List Nat} (hs : Ws sep) (h : t ∈ K1.sigs) (ha : SolX sep a) (hb : SolX sep b) : SolX sep (a ++ ([.sp, sg t, .sp] ++ b)) := by
  have h2 := sig_char t h
  have e : txt sep (a ++ ([.sp, sg t, .sp] ++ b)) = txt sep a ++ (sep ++ (t ++ (sep ++ txt sep b))) := by
    rw [txt_app]
    show txt sep a ++ (sep ++ (t ++ (sep ++ txt sep b))) = _
    rfl
  have ew : tw (a ++ ([.sp, sg t, .sp] ++ b)) = tw a ++ ((.sign, t) :: tw b) := by rw [tw_app]; rfl
  refine ⟨fun n rest ts hf hl => ?_, ?_, fun rest hf => ?_, fun c hc => ?_⟩
  · rw [e] at hl ⊢
    simp only [List.length_append] at hl
    obtain ⟨t2, e2, l2⟩ := hb.lex (n + (txt sep a).length + sep.length + t.length + sep.length) rest ts hf (by
      have : n + (txt sep a).length + sep.length + t.length + sep.length + (txt sep b).length = n + ((txt sep a).length + (sep.length + (t.length + (sep.length + (txt sep b).length)))) := by omega
      rw [this]; exact hl)
    have l3 := K1.Lex.gap sep _ hs.2 l2
    have l4 := lex_tok (k := .sign) (t := t) (.sign h) (rest := sep ++ (txt sep b ++ rest)) ((fin_ws hs _).follow _ _) l3
    have l5 := K1.Lex.gap sep _ hs.2 l4
    obtain ⟨t1, e1, l1⟩ := ha.lex n _ _ (fin_ws hs _) l5
    refine ⟨t1 ++ ((.sign, t, n + (txt sep a).length + sep.length) :: t2), by rw [List.map_append, List.map_cons, e1, e2, ew]; rfl, ?_⟩
    simp only [List.append_assoc, List.cons_append] at l1 ⊢
    exact l1
  · obtain ⟨c, r, e1, h⟩ := ha.hd
    exact ⟨c, r ++ _, by rw [e, e1]; rfl, h⟩
  · rw [e]
    simp only [List.append_assoc]
    rw [ha.rn _ (fin_ws hs _), run_ws _ _ _ hs.2 hs.1, run_sign _ _ _ (fun c hc => (h2.2 c hc).1) h2.1, run_ws _ _ _ hs.2 hs.1, hb.rn _ hf, ew, wc_app]
    have : wc ((K1.Kind.sign, t) :: tw b) = wc (tw b) := by simp [wc]
    rw [this, Nat.add_assoc]
  · rw [e] at hc
    rcases List.mem_append.mp hc with hc | hc
    · exact ha.asc c hc
    · rcases List.mem_append.mp hc with hc | hc
      · exact ws_asc hs c hc
      · rcases List.mem_append.mp hc with hc | hc
        · exact (h2.2 c hc).2
        · exact (List.mem_append.mp hc).elim (ws_asc hs c) (hb.asc c)
theorem SolX.br {p : List Pc} (h : SolX sep p) : SolX sep (PM.br p) := by
  refine SolX.gw (by decide) (h.app (SolX.g (by decide)) (.inr ⟨41, [], by rfl, by decide⟩))
theorem SolX.bc {p : List Pc} (h : SolX sep p) : SolX sep (PM.bc p) := by
  refine SolX.gw (by decide) (h.app (SolX.g (by decide)) (.inr ⟨125, [], by rfl, by decide⟩))
theorem jn_sol {α : Type} {wr : α → List Pc} {s : List Nat} (hs : Ws sep) (hp : s ∈ PL) : ∀ (xs : List α), xs ≠ [] → (∀ x ∈ xs, SolX sep (wr x)) → SolX sep (jn [sg s, .sp] (xs.map wr))
  | [], h, _ => absurd rfl h
  | [x], _, hx => hx x List.mem_cons_self
  | x :: y :: r, _, hx => by
    have ih := jn_sol hs hp (y :: r) (by simp) fun z hz => hx z (List.mem_cons_of_mem _ hz)
    show SolX sep (wr x ++ ([sg s] ++ ([Pc.sp] ++ jn [sg s, Pc.sp] ((y :: r).map wr))))
    have h2 := SolX.gap (sp_ws hs).1 (sp_ws hs).2 (SolX.g hp) ih
    refine (hx x List.mem_cons_self).app h2 ?_
    obtain ⟨_, c, r1, e0, hc⟩ := pl_sig s hp
    exact .inr ⟨c, r1 ++ txt sep ([Pc.sp] ++ jn [sg s, Pc.sp] ((y :: r).map wr)), by show s ++ _ = _; rw [e0]; rfl, hc⟩
theorem op_sig {s : Str} (h : s = S gMul ∨ s = S gAdd ∨ s = S gSub) : cl s ∈ K1.sigs := by
  rcases h with h | h | h <;> rw [h, cl_S] <;> decide
theorem rel_sig : ∀ {x : List Nat}, x ∈ RELS → x ∈ K1.sigs := by
  have : ∀ x ∈ RELS, x ∈ K1.sigs := by decide
  exact fun {x} h => this x h
theorem srel_sig : ∀ {x : List Nat}, x ∈ SRELS → x ∈ K1.sigs := by
  have : ∀ x ∈ SRELS, x ∈ K1.sigs := by decide
  exact fun {x} h => this x h
variable {d : Nat} (hs : Ws sep)
include hs
theorem tm_sol : ∀ (t : Tm), GoodT t → SolX sep (wTm t)
  | .var x, g => SolX.w g (by decide)
  | .int i, g => SolX.w (num_good g.1 g.2) (by decide)
  | .sym x, g => SolX.w (NmG.g g) (by decide)
  | .op s l r, g => by
    have hl := tm_sol l g.2.1
    have hr := tm_sol r g.2.2
    unfold wTm
    refine SolX.op hs (op_sig g.1) ?_ ?_
    · split
      · exact hl.br
      · exact hl
    · split
      · exact hr.br
      · exact hr
theorem br_fin (p : List Pc) : Fin (txt sep (br p)) := .inr ⟨40, _, by rfl, by decide⟩
theorem atom_sol {a : Atm} (g : GoodA (d := d) a) : SolX sep (wAtm a) := by
  have h1 : SolX sep [nm (cl a.nm)] := SolX.w g.1.g (by decide)
  unfold wAtm
  by_cases z : a.ts = []
  · rw [if_pos z]; exact h1
  · rw [if_neg z]
    exact h1.app (jn_sol hs (by decide) a.ts z fun t ht => tm_sol hs t (g.2.1 t ht).1).br (br_fin hs _)
theorem kw_sol {t : List Nat} (h : t ∈ KW) : SolX sep [nm t] := by
  refine SolX.w ?_ (by decide)
  simp only [KW, List.mem_cons, List.not_mem_nil, or_false] at h
  rcases h with h | h | h | h <;> subst h <;> exact .name (by decide) (by decide) (by decide)
theorem cond_sol {c : Cnd} (g : GoodC (d := d) c) : SolX sep (wCnd c) := by
  cases c with
  | yes a => exact atom_sol hs g
  | no a => exact SolX.gap (a := [nm wNot]) (g := [.sp]) (sp_ws hs).1 (sp_ws hs).2 (kw_sol hs (by decide)) (atom_sol hs g)
  | cmp s l r => exact SolX.op hs (rel_sig g.1) (tm_sol hs l g.2.1.1) (tm_sol hs r g.2.2.1)
theorem cs_sol {a : List Pc} {b : List Cnd} (ha : SolX sep a) (g : ∀ c ∈ b, GoodC (d := d) c) : SolX sep (a ++ wCs b) := by
  unfold wCs
  by_cases z : b = []
  · rw [if_pos z, List.append_nil]; exact ha
  · rw [if_neg z]
    exact SolX.op hs (by decide) ha (jn_sol hs (by decide) b z fun c hc => cond_sol hs (g c hc))
theorem ms_sol {ms : List Mem} (ne : ms ≠ []) (g : ∀ m ∈ ms, GoodM (d := d) m) : SolX sep (wMs ms) := (jn_sol hs (by decide) ms ne fun m hm => cs_sol hs (tm_sol hs _ (g m hm).1.1) (g m hm).2).bc
theorem chs_sol {ms : List Cho} (ne : ms ≠ []) (g : ∀ m ∈ ms, GoodH (d := d) m) : SolX sep (wChs ms) := (jn_sol hs (by decide) ms ne fun m hm => cs_sol hs (atom_sol hs (g m hm).1) (g m hm).2).bc
theorem prt_sol {p : Prt} (g : GoodP (d := d) p) : SolX sep (wPrt p) := by
  cases p with
  | c x => exact cond_sol hs g
  | sum s ms t =>
    obtain ⟨g1, ⟨g2, g3⟩, g4, g5⟩ := g
    exact SolX.gap (a := [nm wSum]) (g := [.sp]) (sp_ws hs).1 (sp_ws hs).2 (kw_sol hs (by decide)) (SolX.op hs (srel_sig g1) (ms_sol hs g2 g3) (tm_sol hs t g4))
theorem bd_sol {b : List Prt} (ne : b ≠ []) (g : ∀ c ∈ b, GoodP (d := d) c) : SolX sep (wBd b) := SolX.gap (a := [sg gIf]) (g := [.sp]) (sp_ws hs).1 (sp_ws hs).2 (SolX.g (by decide)) (jn_sol hs (by decide) b ne fun c hc => prt_sol hs (g c hc))
theorem ob_sol {a : List Pc} {b : List Prt} (ha : SolX sep a) (g : ∀ c ∈ b, GoodP (d := d) c) : SolX sep (a ++ wOb b) := by
  unfold wOb
  by_cases z : b = []
  · rw [if_pos z, List.append_nil]; exact ha
  · rw [if_neg z]
    exact SolX.gap (g := [.sp]) (sp_ws hs).1 (sp_ws hs).2 ha (bd_sol hs z g)
theorem int_sol {i : Int} (h : 0 ≤ i ∧ i < 10000) : SolX sep [wInt i] := SolX.w (num_good h.1 h.2) (by decide)
theorem stm_sol {s : Stm} (g : GoodS (d := d) s) : SolX sep (wStm s) := by
  have dot : ∀ a, SolX sep a → SolX sep (a ++ [sg gDot]) := fun a ha => ha.app (SolX.g (by decide)) (.inr ⟨46, [], by rfl, by decide⟩)
  refine dot _ ?_
  cases s with
  | rule a b => exact ob_sol hs (atom_sol hs g.1) g.2
  | deny b => exact bd_sol hs g.1 g.2
  | choose lo hi ch b =>
    obtain ⟨g1, g2, ⟨g3, g4⟩, g5⟩ := g
    have h1 : SolX sep (wLo lo ++ wChs ch) := by
      cases lo with
      | none => exact chs_sol hs g3 g4
      | some i => exact SolX.gap (a := [wInt i]) (g := [.sp]) (sp_ws hs).1 (sp_ws hs).2 (int_sol hs g1) (chs_sol hs g3 g4)
    have h2 : SolX sep ((wLo lo ++ wChs ch) ++ wHi hi) := by
      cases hi with
      | none => rw [wHi, List.append_nil]; exact h1
      | some i => exact SolX.gap (g := [.sp]) (sp_ws hs).1 (sp_ws hs).2 h1 (int_sol hs g2)
    have h3 := ob_sol hs h2 g5
    have e : wStm0 (.choose lo hi ch b) = (wLo lo ++ wChs ch) ++ wHi hi ++ wOb b := by
      rw [wStm0]; simp only [List.append_assoc]
    rw [e]; exact h3
  | range x y => exact SolX.gap (a := [nm wRange]) (g := [.sp]) (sp_ws hs).1 (sp_ws hs).2 (kw_sol hs (by decide)) (SolX.gap (a := [wInt x]) (g := [.sp]) (sp_ws hs).1 (sp_ws hs).2 (int_sol hs g.1) (int_sol hs g.2))
  | minim ms => exact SolX.gap (a := [nm wMin]) (g := [.sp]) (sp_ws hs).1 (sp_ws hs).2 (kw_sol hs (by decide)) (ms_sol hs g.1 g.2)
/-- the tokens of what is written -/
theorem sts_lex : ∀ (ss : List Stm), (∀ s ∈ ss, GoodS (d := d) s) → ∀ n, ∃ ts, ts.map fp = tw (wSts ss) ++ [(.fin, [])] ∧ K1.Lex n (txt sep (wSts ss)) ts
  | [], _, n => ⟨[(.fin, [], n)], rfl, .nil n⟩
  | s :: ss, g, n => by
    obtain ⟨t2, e2, l2⟩ := sts_lex ss (fun z hz => g z (List.mem_cons_of_mem _ hz)) (n + (txt sep (wStm s)).length + 1)
    have e : wSts (s :: ss) = wStm s ++ ([Pc.nl] ++ wSts ss) := by
      show (wStm s ++ [Pc.nl]) ++ wSts ss = _
      rw [List.append_assoc]
    have l3 : K1.Lex (n + (txt sep (wStm s)).length) (10 :: txt sep (wSts ss)) t2 := .ws (.inr rfl) l2
    obtain ⟨t1, e1, l1⟩ := (stm_sol hs (g s List.mem_cons_self)).lex n _ _ (.inr ⟨10, _, rfl, by decide⟩) l3
    refine ⟨t1 ++ t2, by rw [List.map_append, e1, e2, e, tw_app, tw_app, List.append_assoc]; rfl, ?_⟩
    rw [e, txt_app]
    exact l1
/-- the words of a statement, counted in its text -/
theorem stm_runs {s : Stm} (g : GoodS (d := d) s) : runs false (txt sep (wStm s)) = wc (tw (wStm s)) := by
  have := (stm_sol hs g).rn [] (.inl rfl)
  rw [List.append_nil] at this
  rw [this]; rfl
end
theorem lex_len : ∀ {n : Nat} {l : List Nat} {ts : List Tk}, K1.Lex n l ts → ts.length ≤ l.length + 1
  | _, _, _, .nil _ => Nat.le_refl _
  | _, _, _, .ws _ h => by have := lex_len h; rw [List.length_cons]; omega
  | _, _, _, .tok _ _ h3 h4 h => by
    have := lex_len h
    rw [List.length_drop] at this
    have : 0 < _ := List.length_pos_iff.mpr h3
    simp only [List.length_cons] at *
    omega
end PM
set_option Elab.async false
set_option linter.all false
set_option maxRecDepth 100000
set_option maxHeartbeats 4000000
namespace PM
open PySem SX SU
/-! what is read gets shorter -/
def Shr {α : Type} (f : Pr α) : Prop := ∀ s x s', f s = some (.ok x s') → s'.r.length ≤ s.r.length
theorem bind_some {α β : Type} {x : Option (Rs α)} {f : α → Pr β} {res : Rs β} (h : bind x f = some res) : (∃ k, x = some (.er k) ∧ res = .er k) ∨ ∃ a s, x = some (.ok a s) ∧ f a s = some res := by
  cases x with
  | none => cases h
  | some r =>
    cases r with
    | er k => exact .inl ⟨k, rfl, (Option.some.inj h).symm⟩
    | ok a s => exact .inr ⟨a, s, rfl, h⟩
theorem bind_okS {α β : Type} {x : Option (Rs α)} {f : α → Pr β} {y : β} {s' : PS} (h : bind x f = some (.ok y s')) : ∃ a s, x = some (.ok a s) ∧ f a s = some (.ok y s') := by
  rcases bind_some h with ⟨k, _, e⟩ | h
  · cases e
  · exact h
theorem nx_le (s : PS) : s.nx.r.length ≤ s.r.length := by show s.r.tail.length ≤ _; rw [List.length_tail]; omega
theorem ok_inj {α : Type} {x y : α} {s s' : PS} (h : ok x s = some (.ok y s')) : x = y ∧ s = s' := by
  have := Option.some.inj h
  injection this with a b
  exact ⟨a, b⟩
theorem ok_le {α : Type} {x y : α} {s s' t : PS} (h : ok x s = some (.ok y s')) (l : s.r.length ≤ t.r.length) : s'.r.length ≤ t.r.length := by rw [← (ok_inj h).2]; exact l
theorem er_no {α : Type} {y : α} {s s' : PS} (h : er s = some (.ok y s')) : False := by
  have := Option.some.inj h
  cases this
theorem Shr.ite {α : Type} {c : PS → Prop} [∀ s, Decidable (c s)] {f g : Pr α} (hf : Shr f) (hg : Shr g) : Shr fun s => if c s then f s else g s := fun s x s' h => by
  dsimp only at h
  split at h
  · exact hf s x s' h
  · exact hg s x s' h
theorem skip_sh (x : List Nat) : Shr (skipM x) := fun s y s' h => by
  unfold skipM at h
  split at h
  · exact ok_le h (nx_le s)
  · exact (er_no h).elim
theorem one_sh (x : List (List Nat)) : Shr (oneM x) := fun s y s' h => by
  unfold oneM at h
  split at h
  · exact ok_le h (nx_le s)
  · exact (er_no h).elim
theorem int_sh : Shr intM := fun s y s' h => by
  unfold intM at h
  split at h
  · exact ok_le h (nx_le s)
  · exact (er_no h).elim
theorem oint_sh : Shr ointM := fun s y s' h => by
  unfold ointM at h
  split at h
  · exact ok_le h (nx_le s)
  · exact ok_le h (Nat.le_refl _)
theorem name_sh : Shr nameM := fun s y s' h => by
  unfold nameM at h
  split at h
  · exact ok_le h (nx_le s)
  · exact (er_no h).elim
theorem factor_sh {tm : Pr Tm} (h0 : Shr tm) : Shr (factorM tm) := fun s y s' h => by
  unfold factorM at h
  split at h
  · exact ok_le h (nx_le s)
  split at h
  · exact ok_le h (nx_le s)
  split at h
  · obtain ⟨a, s1, e1, h⟩ := bind_okS h
    obtain ⟨b, s2, e2, h⟩ := bind_okS h
    have l1 := h0 _ _ _ e1
    have l2 := skip_sh _ _ _ _ e2
    have l3 := nx_le s
    exact ok_le h (by omega)
  · obtain ⟨a, s1, e1, h⟩ := bind_okS h
    have l1 := name_sh _ _ _ e1
    exact ok_le h (by omega)
theorem mul_sh {fac : Pr Tm} (h0 : Shr fac) : ∀ (n : Nat) (l : Tm), Shr (mulM fac n l)
  | 0, _ => fun s x s' h => nomatch h
  | n + 1, l => fun s x s' h => by
    unfold mulM at h
    split at h
    · obtain ⟨a, s1, e1, h⟩ := bind_okS h
      have l1 := h0 _ _ _ e1
      have l2 := mul_sh h0 n _ _ _ _ h
      have l3 := nx_le s
      omega
    · exact ok_le h (Nat.le_refl _)
theorem product_sh {fac : Pr Tm} (h0 : Shr fac) (n : Nat) : Shr (productM n fac) := fun s x s' h => by
  obtain ⟨a, s1, e1, h⟩ := bind_okS h
  have l1 := h0 _ _ _ e1
  have l2 := mul_sh h0 n _ _ _ _ h
  omega
theorem sum_sh {fac : Pr Tm} (h0 : Shr fac) : ∀ (n : Nat) (l : Tm), Shr (sumM fac n l)
  | 0, _ => fun s x s' h => nomatch h
  | n + 1, l => fun s x s' h => by
    unfold sumM at h
    split at h
    · obtain ⟨a, s1, e1, h⟩ := bind_okS h
      have l1 := h0 _ _ _ e1
      have l2 := sum_sh h0 n _ _ _ _ h
      have l3 := nx_le s
      omega
    · exact ok_le h (Nat.le_refl _)
theorem term_sh (n : Nat) : ∀ d, Shr (termM n d)
  | 0 => fun s x s' h => nomatch h
  | d + 1 => fun s x s' h => by
    obtain ⟨a, s1, e1, h⟩ := bind_okS h
    have l1 := product_sh (factor_sh (term_sh n d)) n _ _ _ e1
    have l2 := sum_sh (product_sh (factor_sh (term_sh n d)) n) n _ _ _ _ h
    omega
theorem many_sh {α : Type} {sep : List Nat} {item : Pr α} (h0 : Shr item) : ∀ (n : Nat) (l : List α), Shr (manyM sep item n l)
  | 0, _ => fun s x s' h => nomatch h
  | n + 1, l => fun s x s' h => by
    unfold manyM at h
    split at h
    · obtain ⟨a, s1, e1, h⟩ := bind_okS h
      have l1 := h0 _ _ _ e1
      have l2 := many_sh h0 n _ _ _ _ h
      have l3 := nx_le s
      omega
    · exact ok_le h (Nat.le_refl _)
theorem opt_sh {α : Type} {n : Nat} {st sep : List Nat} {item : Pr α} (h0 : Shr item) : Shr (optM n st sep item) := fun s x s' h => by
  unfold optM at h
  split at h
  · obtain ⟨a, s1, e1, h⟩ := bind_okS h
    have l1 := h0 _ _ _ e1
    have l2 := many_sh h0 n _ _ _ _ h
    have l3 := nx_le s
    omega
  · exact ok_le h (Nat.le_refl _)
theorem list_sh {α : Type} {n : Nat} {item : Pr α} (h0 : Shr item) : Shr (listM n item) := fun s x s' h => by
  unfold listM at h
  obtain ⟨a, s1, e1, h⟩ := bind_okS h
  obtain ⟨b, s2, e2, h⟩ := bind_okS h
  obtain ⟨c, s3, e3, h⟩ := bind_okS h
  obtain ⟨d, s4, e4, h⟩ := bind_okS h
  have l1 := skip_sh _ _ _ _ e1
  have l2 := h0 _ _ _ e2
  have l3 := many_sh h0 n _ _ _ _ e3
  have l4 := skip_sh _ _ _ _ e4
  exact ok_le h (by omega)
theorem terms_sh {n : Nat} {tm : Pr Tm} (h0 : Shr tm) : Shr (termsM n tm) := fun s x s' h => by
  unfold termsM at h
  split at h
  · obtain ⟨a, s1, e1, h⟩ := bind_okS h
    obtain ⟨b, s2, e2, h⟩ := bind_okS h
    obtain ⟨c, s3, e3, h⟩ := bind_okS h
    have l1 := h0 _ _ _ e1
    have l2 := many_sh h0 n _ _ _ _ e2
    have l3 := skip_sh _ _ _ _ e3
    have l4 := nx_le s
    exact ok_le h (by omega)
  · exact ok_le h (Nat.le_refl _)
theorem atom_sh {n : Nat} {tm : Pr Tm} (h0 : Shr tm) : Shr (atomM n tm) := fun s x s' h => by
  unfold atomM at h
  obtain ⟨a, s1, e1, h⟩ := bind_okS h
  obtain ⟨b, s2, e2, h⟩ := bind_okS h
  have l1 := name_sh _ _ _ e1
  have l2 := terms_sh h0 _ _ _ e2
  exact ok_le h (show s2.r.length ≤ s.r.length by omega)
theorem cond_sh {n : Nat} {tm : Pr Tm} (h0 : Shr tm) : Shr (condM n tm) := fun s x s' h => by
  unfold condM at h
  split at h
  · obtain ⟨a, s1, e1, h⟩ := bind_okS h
    have l1 := atom_sh h0 _ _ _ e1
    have l4 := nx_le s
    exact ok_le h (by omega)
  split at h
  · obtain ⟨a, s1, e1, h⟩ := bind_okS h
    have l1 := atom_sh h0 _ _ _ e1
    exact ok_le h (by omega)
  · obtain ⟨a, s1, e1, h⟩ := bind_okS h
    obtain ⟨b, s2, e2, h⟩ := bind_okS h
    obtain ⟨c, s3, e3, h⟩ := bind_okS h
    have l1 := h0 _ _ _ e1
    have l2 := one_sh _ _ _ _ e2
    have l3 := h0 _ _ _ e3
    exact ok_le h (by omega)
theorem conds_sh {n : Nat} {tm : Pr Tm} (h0 : Shr tm) : Shr (condsM n tm) := opt_sh (cond_sh h0)
theorem choice_sh {n : Nat} {tm : Pr Tm} (h0 : Shr tm) : Shr (choiceM n tm) := fun s x s' h => by
  unfold choiceM at h
  obtain ⟨a, s1, e1, h⟩ := bind_okS h
  obtain ⟨b, s2, e2, h⟩ := bind_okS h
  have l1 := atom_sh h0 _ _ _ e1
  have l2 := conds_sh h0 _ _ _ e2
  exact ok_le h (by omega)
theorem member_sh {n : Nat} {tm : Pr Tm} (h0 : Shr tm) : Shr (memberM n tm) := fun s x s' h => by
  unfold memberM at h
  obtain ⟨a, s1, e1, h⟩ := bind_okS h
  obtain ⟨b, s2, e2, h⟩ := bind_okS h
  have l1 := h0 _ _ _ e1
  have l2 := conds_sh h0 _ _ _ e2
  exact ok_le h (by omega)
theorem part_sh {n : Nat} {tm : Pr Tm} (h0 : Shr tm) : Shr (partM n tm) := fun s x s' h => by
  unfold partM at h
  split at h
  · obtain ⟨a, s1, e1, h⟩ := bind_okS h
    obtain ⟨b, s2, e2, h⟩ := bind_okS h
    obtain ⟨c, s3, e3, h⟩ := bind_okS h
    have l1 := list_sh (member_sh h0) _ _ _ e1
    have l2 := one_sh _ _ _ _ e2
    have l3 := h0 _ _ _ e3
    have l4 := nx_le s
    exact ok_le h (by omega)
  · obtain ⟨a, s1, e1, h⟩ := bind_okS h
    have l1 := cond_sh h0 _ _ _ e1
    exact ok_le h (by omega)
theorem body_sh {n : Nat} {tm : Pr Tm} (h0 : Shr tm) : Shr (bodyM n tm) := opt_sh (part_sh h0)
theorem choose_sh {n : Nat} {tm : Pr Tm} (h0 : Shr tm) : Shr (chooseM n tm) := fun s x s' h => by
  unfold chooseM at h
  obtain ⟨a, s1, e1, h⟩ := bind_okS h
  obtain ⟨b, s2, e2, h⟩ := bind_okS h
  obtain ⟨c, s3, e3, h⟩ := bind_okS h
  obtain ⟨d, s4, e4, h⟩ := bind_okS h
  have l1 := oint_sh _ _ _ e1
  have l2 := list_sh (choice_sh h0) _ _ _ e2
  have l3 := oint_sh _ _ _ e3
  have l4 := body_sh h0 _ _ _ e4
  exact ok_le h (by omega)
theorem bare_sh {n : Nat} {tm : Pr Tm} (h0 : Shr tm) : Shr (bareM n tm) := fun s x s' h => by
  unfold bareM at h
  have l4 := nx_le s
  split at h
  · obtain ⟨a, s1, e1, h⟩ := bind_okS h
    have l1 := body_sh h0 _ _ _ e1
    exact ok_le h (by omega)
  split at h
  · obtain ⟨a, s1, e1, h⟩ := bind_okS h
    obtain ⟨b, s2, e2, h⟩ := bind_okS h
    have l1 := int_sh _ _ _ e1
    have l2 := int_sh _ _ _ e2
    exact ok_le h (by omega)
  split at h
  · obtain ⟨a, s1, e1, h⟩ := bind_okS h
    have l1 := list_sh (member_sh h0) _ _ _ e1
    exact ok_le h (by omega)
  split at h
  · exact choose_sh h0 _ _ _ h
  · obtain ⟨a, s1, e1, h⟩ := bind_okS h
    obtain ⟨b, s2, e2, h⟩ := bind_okS h
    have l1 := atom_sh h0 _ _ _ e1
    have l2 := body_sh h0 _ _ _ e2
    exact ok_le h (by omega)
theorem skip_lt {x : List Nat} {s s' : PS} {u : Unit} (hx : x ≠ []) (h : skipM x s = some (.ok u s')) : s'.r.length < s.r.length := by
  unfold skipM at h
  split at h
  · rename_i e
    rw [← (ok_inj h).2]
    obtain ⟨r, m⟩ := s
    cases r with
    | nil => exact absurd e.symm hx
    | cons t r => show r.length < (t :: r).length; rw [List.length_cons]; omega
  · exact (er_no h).elim
theorem stm_lt {n : Nat} {tm : Pr Tm} (h0 : Shr tm) {s s' : PS} {x : Stm} (h : stmM n tm s = some (.ok x s')) : s'.r.length < s.r.length := by
  unfold stmM at h
  obtain ⟨a, s1, e1, h⟩ := bind_okS h
  obtain ⟨b, s2, e2, h⟩ := bind_okS h
  have l1 := bare_sh h0 _ _ _ e1
  have l2 := skip_lt (by decide) e2
  rw [← (ok_inj h).2]
  omega
end PM
set_option Elab.async false
set_option linter.all false
set_option maxRecDepth 100000
set_option maxHeartbeats 2000000
namespace SU
open PySem PySem.Spec PyProof.Rows L2 C8 LC LR LG
section
variable {α : Type} [DecidableEq α]
theorem once_snoc {xs : List α} {x : α} : once (xs ++ [x]) = if x ∈ once xs then once xs else once xs ++ [x] := by
  unfold once; rw [List.foldl_append]; rfl
theorem snocRec {motive : List α → Prop} (nil : motive []) (snoc : ∀ xs x, motive xs → motive (xs ++ [x])) : ∀ xs, motive xs := by
  intro xs
  generalize e : xs.reverse = ys
  induction ys generalizing xs with
  | nil => rw [List.reverse_eq_nil_iff] at e; rw [e]; exact nil
  | cons y r ih =>
    have : xs = r.reverse ++ [y] := by rw [← List.reverse_reverse xs, e, List.reverse_cons]
    rw [this]
    exact snoc _ _ (ih _ (by rw [List.reverse_reverse]))
theorem mem_once (xs : List α) : ∀ x, x ∈ once xs ↔ x ∈ xs := by
  refine snocRec (motive := fun xs => ∀ x, x ∈ once xs ↔ x ∈ xs) (fun x => Iff.rfl) (fun xs y ih x => ?_) xs
  rw [once_snoc]
  by_cases h : y ∈ once xs
  · rw [if_pos h, ih, List.mem_append, List.mem_singleton]
    exact ⟨.inl, fun z => z.elim id fun e => by rw [e]; exact (ih y).mp h⟩
  · rw [if_neg h, List.mem_append, List.mem_append, ih]
theorem nodup_once (xs : List α) : (once xs).Nodup := by
  refine snocRec (motive := fun xs => (once xs).Nodup) List.nodup_nil (fun xs y ih => ?_) xs
  rw [once_snoc]
  by_cases h : y ∈ once xs
  · rw [if_pos h]; exact ih
  · rw [if_neg h, List.nodup_append]
    refine ⟨ih, by simp, fun a ha b hb e => ?_⟩
    rw [List.mem_singleton.mp hb] at e
    exact h (e ▸ ha)
theorem once_le (xs : List α) : (once xs).length ≤ xs.length := by
  refine snocRec (motive := fun xs => (once xs).length ≤ xs.length) (Nat.le_refl _) (fun xs y ih => ?_) xs
  rw [once_snoc, List.length_append]
  split
  · omega
  · rw [List.length_append]; simp only [List.length_singleton]; omega
/-- put into a dict, one after another -/
theorem keys_once {kvs : List (Key × V)} {xs : List Key} {x : Key} {v : V} (h : kvs.map (·.1) = once xs) : (putK kvs x v).map (·.1) = once (xs ++ [x]) := by
  rw [once_snoc]
  by_cases z : x ∈ once xs
  · rw [if_pos z, keys_same (by rw [h]; exact z), h]
  · rw [if_neg z, keys_put (by rw [h]; exact z), h]
theorem keys_len {kvs : List (Key × V)} {xs : List Key} (h : kvs.map (·.1) = once xs) : kvs.length ≤ xs.length := by
  have := once_le xs
  rw [← h, List.length_map] at this; exact this
end
theorem once_map {α β : Type} [DecidableEq α] [DecidableEq β] {f : α → β} (inj : ∀ a b, f a = f b → a = b) (xs : List α) : once (xs.map f) = (once xs).map f := by
  refine snocRec (motive := fun xs => once (xs.map f) = (once xs).map f) rfl (fun xs y ih => ?_) xs
  rw [List.map_append, List.map_singleton, once_snoc, once_snoc, ih]
  by_cases h : y ∈ once xs
  · rw [if_pos h, if_pos (List.mem_map_of_mem h)]
  · rw [if_neg h, if_neg (fun z => ?_), List.map_append]; · rfl
    obtain ⟨a, ha, e⟩ := List.mem_map.mp z
    exact h (inj a y e ▸ ha)
theorem leK_trans {a b c : Key} (h1 : leK a b) (h2 : leK b c) : leK a c := by
  cases h : itemLt (itK c) (itK a) with
  | false => exact h
  | true =>
    rcases itemOrd.negTrans (itK c) (itK b) (itK a) h with z | z
    · exact absurd (z.symm.trans h2) (by decide)
    · exact absurd (z.symm.trans h1) (by decide)
theorem leK_anti {a b : Key} (h1 : leK a b) (h2 : leK b a) : a = b := itK_inj (itemOrd.total _ _ h2 h1)
/-- a sorted list without repeats is the only one with its members -/
theorem sorted_one : ∀ {xs ys : List Key}, xs.Pairwise leK → ys.Pairwise leK → xs.Nodup → ys.Nodup → (∀ k, k ∈ xs ↔ k ∈ ys) → xs = ys
  | [], [], _, _, _, _, _ => rfl
  | [], y :: r, _, _, _, _, h => absurd ((h y).mpr List.mem_cons_self) (by simp)
  | x :: r, [], _, _, _, _, h => absurd ((h x).mp List.mem_cons_self) (by simp)
  | x :: r, y :: t, h1, h2, n1, n2, h => by
    rw [List.pairwise_cons] at h1 h2
    rw [List.nodup_cons] at n1 n2
    have e : x = y := by
      rcases List.mem_cons.mp ((h x).mp List.mem_cons_self) with e | e
      · exact e
      · rcases List.mem_cons.mp ((h y).mpr List.mem_cons_self) with e2 | e2
        · exact e2.symm
        · exact leK_anti (h1.1 y e2) (h2.1 x e)
    subst e
    refine congrArg (x :: ·) (sorted_one h1.2 h2.2 n1.2 n2.2 fun a => ⟨fun ha => ?_, fun ha => ?_⟩)
    · rcases List.mem_cons.mp ((h a).mp (List.mem_cons_of_mem _ ha)) with e | e
      · exact absurd (e ▸ ha) n1.1
      · exact e
    · rcases List.mem_cons.mp ((h a).mpr (List.mem_cons_of_mem _ ha)) with e | e
      · exact absurd (e ▸ ha) n2.1
      · exact e
def stD (ss : List Stm) : PyData := .list (ss.map Stm.d)
def StOk (ss : List Stm) : Prop := ss.length ≤ 8 ∧ ∀ s ∈ ss, s.Ok
theorem st_cs {ss : List Stm} (h : StOk ss) : (ss.flatMap Stm.cs).length ≤ 80000 := flat_len2 (k := 10000) (m := 8) (fun c hc => Stm.cs_le (h.2 c hc)) h.1
end SU
set_option Elab.async false
set_option linter.all false
set_option maxRecDepth 100000
set_option maxHeartbeats 2000000
namespace SU
open PySem PySem.Spec PyProof.Rows L2 C8 LC LR LG
/-! what the law's own walks see -/
inductive Nd where
  | tm (t : Tm) | at (a : Atm) | cn (c : Cnd)
namespace Nd
def d : Nd → PyData
  | tm t => t.d
  | .at a => a.d
  | cn c => c.d
def cs : Nd → List Key
  | tm t => t.cs
  | .at a => a.cs
  | cn c => c.cs
def vs : Nd → List Str
  | tm t => t.vs
  | .at a => a.vs
  | cn c => c.vs
def lt : Nd → Nat → Prop
  | tm t, m => t.dep < m
  | .at a, m => 1 < m ∧ ∀ t ∈ a.ts, t.dep + 1 < m
  | cn (.yes a), m => 2 < m ∧ ∀ t ∈ a.ts, t.dep + 2 < m
  | cn (.no a), m => 2 < m ∧ ∀ t ∈ a.ts, t.dep + 2 < m
  | cn (.cmp _ l r), m => l.dep + 1 < m ∧ r.dep + 1 < m
theorem lt_zero : ∀ {n : Nd}, ¬ n.lt 0
  | tm t, h => Nat.not_lt_zero _ h
  | .at a, h => Nat.not_lt_zero _ h.1
  | cn (.yes a), h => Nat.not_lt_zero _ h.1
  | cn (.no a), h => Nat.not_lt_zero _ h.1
  | cn (.cmp _ l r), h => Nat.not_lt_zero _ h.1
end Nd
theorem Tm.lt6 {t : Tm} (h : t.Ok) : (Nd.tm t).lt 6 := Nat.lt_of_le_of_lt h.2 (by decide)
theorem Atm.lt6 {a : Atm} (h : a.Ok) : (Nd.at a).lt 6 := ⟨by decide, fun t ht => by have := (h.2 t ht).2; omega⟩
theorem Cnd.lt6 {c : Cnd} (h : c.Ok) : (Nd.cn c).lt 6 := by
  cases c with
  | yes a => exact ⟨by decide, fun t ht => by have := (h.2 t ht).2; omega⟩
  | no a => exact ⟨by decide, fun t ht => by have := (h.2 t ht).2; omega⟩
  | cmp s l r => exact ⟨by have := h.1.2; omega, by have := h.2.2; omega⟩
/-- a member or a choice -/
inductive LP where
  | m (x : Mem) | ch (x : Cho)
namespace LP
def d : LP → PyData
  | m x => x.d
  | ch x => x.d
def b : LP → List Cnd
  | m x => x.b
  | ch x => x.b
def own : LP → List Str
  | m x => x.w.vs
  | ch x => x.a.vs
def Ok : LP → Prop
  | m x => x.Ok
  | ch x => x.Ok
def inn : LP → List Key
  | m x => x.cs
  | ch x => x.cs
end LP
theorem LP.inn_le {p : LP} (h : p.Ok) : p.inn.length ≤ 144 := by
  cases p with
  | m x => exact Nat.le_trans (cs_le h.2) (by decide)
  | ch x => exact Cho.cs_le h
namespace Stm
def hc : Stm → List Key
  | rule a _ => a.cs
  | range x y => (rng x y).map Sum.inl
  | _ => []
def ps : Stm → List LP
  | choose _ _ ch _ => ch.map LP.ch
  | minim ms => ms.map LP.m
  | _ => []
end Stm
def Prt.nc : Prt → List Key
  | .c x => x.cs
  | .sum _ _ _ => []
def Prt.sm : Prt → List LP
  | .c _ => []
  | .sum _ ms _ => ms.map LP.m
def Stm.lps (s : Stm) : List LP := s.ps ++ s.bd.flatMap Prt.sm
def Stm.lw (s : Stm) : List Key := s.hc ++ s.bd.flatMap Prt.nc ++ s.lps.flatMap LP.inn
theorem bd_mem {b : List Prt} {k : Key} : (k ∈ b.flatMap Prt.nc ∨ k ∈ (b.flatMap Prt.sm).flatMap LP.inn) ↔ k ∈ b.flatMap Prt.cs := by
  induction b with
  | nil => simp
  | cons p r ih =>
    rw [List.flatMap_cons, List.flatMap_cons, List.flatMap_cons, List.flatMap_append, List.mem_append, List.mem_append, List.mem_append, ← ih]
    have e : (k ∈ p.nc ∨ k ∈ p.sm.flatMap LP.inn) ↔ k ∈ p.cs := by
      cases p with
      | c x => simp [Prt.nc, Prt.sm, Prt.cs]
      | sum s ms t =>
        have e : (ms.map LP.m).flatMap LP.inn = ms.flatMap Mem.cs := by rw [List.flatMap_map]; rfl
        simp [Prt.nc, Prt.sm, Prt.cs, e]
    rw [← e]
    constructor
    · rintro ((h | h) | (h | h))
      · exact .inl (.inl h)
      · exact .inr (.inl h)
      · exact .inl (.inr h)
      · exact .inr (.inr h)
    · rintro ((h | h) | (h | h))
      · exact .inl (.inl h)
      · exact .inr (.inl h)
      · exact .inl (.inr h)
      · exact .inr (.inr h)
theorem lw_mem (s : Stm) (k : Key) : k ∈ s.lw ↔ k ∈ s.cs := by
  rw [Stm.lw, Stm.lps, List.flatMap_append, List.mem_append, List.mem_append, List.mem_append]
  have hb := bd_mem (b := s.bd) (k := k)
  cases s with
  | rule a b =>
    have hb : _ ↔ k ∈ b.flatMap Prt.cs := hb
    rw [Stm.cs, List.mem_append, ← hb]
    simp only [Stm.hc, Stm.ps, Stm.bd, List.flatMap_nil, List.not_mem_nil, false_or]
    exact or_assoc
  | deny b =>
    have hb : _ ↔ k ∈ b.flatMap Prt.cs := hb
    rw [Stm.cs, ← hb]
    simp [Stm.hc, Stm.ps, Stm.bd]
  | choose lo hi ch b =>
    have hb : _ ↔ k ∈ b.flatMap Prt.cs := hb
    rw [Stm.cs, List.mem_append, ← hb]
    have e : (ch.map LP.ch).flatMap LP.inn = ch.flatMap Cho.cs := by rw [List.flatMap_map]; rfl
    simp only [Stm.hc, Stm.ps, Stm.bd, e, List.not_mem_nil, false_or]
    constructor
    · rintro (h | h | h)
      · exact .inr (.inl h)
      · exact .inl h
      · exact .inr (.inr h)
    · rintro (h | h | h)
      · exact .inr (.inl h)
      · exact .inl h
      · exact .inr (.inr h)
  | range x y => simp [Stm.hc, Stm.ps, Stm.bd, Stm.cs]
  | minim ms =>
    have e : (ms.map LP.m).flatMap LP.inn = ms.flatMap Mem.cs := by rw [List.flatMap_map]; rfl
    simp [Stm.hc, Stm.ps, Stm.bd, Stm.cs, e]
theorem nc_le {p : Prt} (h : p.Ok) : p.nc.length ≤ 16 := by
  cases p with
  | c x => exact Cnd.cs_le h
  | sum s ms t => exact Nat.zero_le _
theorem sm_le {p : Prt} (h : p.Ok) : p.sm.length ≤ 8 := by
  cases p with
  | c x => exact Nat.zero_le _
  | sum s ms t => rw [Prt.sm, List.length_map]; exact h.1.1
theorem sm_ok {p : Prt} (h : p.Ok) : ∀ x ∈ p.sm, x.Ok := by
  cases p with
  | c x => exact fun _ z => nomatch z
  | sum s ms t =>
    intro x hx
    obtain ⟨m, hm, rfl⟩ := List.mem_map.mp hx
    exact h.1.2 m hm
theorem ps_ok {s : Stm} (h : s.Ok) : s.ps.length ≤ 8 ∧ ∀ x ∈ s.ps, x.Ok := by
  cases s with
  | choose lo hi ch b =>
    refine ⟨by rw [Stm.ps, List.length_map]; exact h.1.1, fun x hx => ?_⟩
    obtain ⟨m, hm, rfl⟩ := List.mem_map.mp hx
    exact h.1.2 m hm
  | minim ms =>
    refine ⟨by rw [Stm.ps, List.length_map]; exact h.1, fun x hx => ?_⟩
    obtain ⟨m, hm, rfl⟩ := List.mem_map.mp hx
    exact h.2 m hm
  | _ => exact ⟨Nat.zero_le _, fun _ z => nomatch z⟩
theorem lps_ok {s : Stm} (h : s.Ok) : s.lps.length ≤ 72 ∧ ∀ x ∈ s.lps, x.Ok := by
  have hb := Stm.bd_ok h
  obtain ⟨h1, h2⟩ := ps_ok h
  refine ⟨?_, fun x hx => ?_⟩
  · rw [Stm.lps, List.length_append]
    have := flat_len2 (f := Prt.sm) (k := 8) (m := 8) (fun p hp => sm_le (hb.2 p hp)) hb.1
    omega
  · rcases List.mem_append.mp hx with hx | hx
    · exact h2 x hx
    · obtain ⟨p, hp, hx⟩ := List.mem_flatMap.mp hx
      exact sm_ok (hb.2 p hp) x hx
theorem hc_le {s : Stm} (h : s.Ok) : s.hc.length ≤ 16 := by
  cases s with
  | rule a b => exact Atm.cs_le h.1
  | range x y =>
    obtain ⟨h1, h2, h3, h4⟩ := h
    rw [Stm.hc, List.length_map, rng, List.length_map, List.length_range]; omega
  | _ => exact Nat.zero_le _
theorem lw_le {s : Stm} (h : s.Ok) : s.lw.length ≤ 12000 := by
  have hb := Stm.bd_ok h
  have h1 := hc_le h
  have h2 := flat_len2 (f := Prt.nc) (k := 16) (m := 8) (fun p hp => nc_le (hb.2 p hp)) hb.1
  have h3 := flat_len2 (f := LP.inn) (k := 144) (m := 72) (fun p hp => LP.inn_le ((lps_ok h).2 p hp)) (lps_ok h).1
  rw [Stm.lw, List.length_append, List.length_append]; omega
theorem stw_le {ss : List Stm} (h : StOk ss) : (ss.flatMap Stm.lw).length ≤ 96000 := flat_len2 (k := 12000) (m := 8) (fun c hc => lw_le (h.2 c hc)) h.1
theorem stw_mem (ss : List Stm) (k : Key) : k ∈ ss.flatMap Stm.lw ↔ k ∈ ss.flatMap Stm.cs := by
  rw [List.mem_flatMap, List.mem_flatMap]
  exact exists_congr fun s => and_congr_right fun _ => lw_mem s k
/-! data whose own lists and tuples lie in the heap, apart from what is volatile -/
mutual
inductive DM (M : Vol) (H : Hp) : V → PyData → Prop
  | non : DM M H .non .none
  | int (i : Int) : DM M H (.int i) (.int i)
  | str (x : Str) : DM M H (.str x) (.str x)
  | lst {a : Addr} {xs : List V} {ds : List PyData} : ¬ M a → H a = some (.lst xs) → DMs M H xs ds → DM M H (.ref a) (.list ds)
  | tup {a : Addr} {xs : List V} {ds : List PyData} : ¬ M a → H a = some (.tup xs) → DMs M H xs ds → DM M H (.ref a) (.tuple ds)
inductive DMs (M : Vol) (H : Hp) : List V → List PyData → Prop
  | nil : DMs M H [] []
  | cons {v : V} {vs : List V} {d : PyData} {ds : List PyData} : DM M H v d → DMs M H vs ds → DMs M H (v :: vs) (d :: ds)
end
section
variable {M M' : Vol} {A B H : Hp} {K : PySem.W.Frag}
mutual
theorem DM.kx (k : Kx M A B) : ∀ {d : PyData} {v : V}, DM M A v d → DM M B v d
  | .none, _, h => by cases h; exact .non
  | .bool b, _, h => by cases h
  | .int i, _, h => by cases h; exact .int i
  | .str x, _, h => by cases h; exact .str x
  | .list ds, _, h => by
    cases h with
    | lst h0 h1 h2 => exact .lst h0 (k _ _ h0 h1) (DMs.kx k h2)
  | .tuple ds, _, h => by
    cases h with
    | tup h0 h1 h2 => exact .tup h0 (k _ _ h0 h1) (DMs.kx k h2)
  | .dict kvs, _, h => by cases h
theorem DMs.kx (k : Kx M A B) : ∀ {ds : List PyData} {vs : List V}, DMs M A vs ds → DMs M B vs ds
  | [], _, h => by cases h; exact .nil
  | d :: ds, _, h => by
    cases h with
    | cons h1 h2 => exact .cons (DM.kx k h1) (DMs.kx k h2)
end
mutual
theorem DM.anti (i : ∀ b, M b → M' b) : ∀ {d : PyData} {v : V}, DM M' A v d → DM M A v d
  | .none, _, h => by cases h; exact .non
  | .bool b, _, h => by cases h
  | .int i, _, h => by cases h; exact .int i
  | .str x, _, h => by cases h; exact .str x
  | .list ds, _, h => by
    cases h with
    | lst h0 h1 h2 => exact .lst (fun z => h0 (i _ z)) h1 (DMs.anti i h2)
  | .tuple ds, _, h => by
    cases h with
    | tup h0 h1 h2 => exact .tup (fun z => h0 (i _ z)) h1 (DMs.anti i h2)
  | .dict kvs, _, h => by cases h
theorem DMs.anti (i : ∀ b, M b → M' b) : ∀ {ds : List PyData} {vs : List V}, DMs M' A vs ds → DMs M A vs ds
  | [], _, h => by cases h; exact .nil
  | d :: ds, _, h => by
    cases h with
    | cons h1 h2 => exact .cons (DM.anti i h1) (DMs.anti i h2)
end
mutual
theorem DM.dp : ∀ {d : PyData} {v : V}, DM M A v d → Dp K A v d
  | .none, _, h => by cases h; exact .non
  | .bool b, _, h => by cases h
  | .int i, _, h => by cases h; exact .int i
  | .str x, _, h => by cases h; exact .str x
  | .list ds, _, h => by
    cases h with
    | lst h0 h1 h2 => exact .lst (SqL.of h1) (DMs.dp h2)
  | .tuple ds, _, h => by
    cases h with
    | tup h0 h1 h2 => exact .tup (SqT.of h1) (DMs.dp h2)
  | .dict kvs, _, h => by cases h
theorem DMs.dp : ∀ {ds : List PyData} {vs : List V}, DMs M A vs ds → DpAll K A vs ds
  | [], _, h => by cases h; exact .nil
  | d :: ds, _, h => by
    cases h with
    | cons h1 h2 => exact .cons (DM.dp h1) (DMs.dp h2)
end
theorem dm_str {v : V} {x : Str} (h : DM M H v (.str x)) : v = .str x := by cases h; rfl
theorem dm_int {v : V} {x : Int} (h : DM M H v (.int x)) : v = .int x := by cases h; rfl
theorem dm_lst {v : V} {ds : List PyData} (h : DM M H v (.list ds)) : ∃ a xs, v = .ref a ∧ ¬ M a ∧ H a = some (.lst xs) ∧ DMs M H xs ds := by
  cases h with
  | lst h0 h1 h2 => exact ⟨_, _, rfl, h0, h1, h2⟩
theorem dm_tup {v : V} {ds : List PyData} (h : DM M H v (.tuple ds)) : ∃ a xs, v = .ref a ∧ ¬ M a ∧ H a = some (.tup xs) ∧ DMs M H xs ds := by
  cases h with
  | tup h0 h1 h2 => exact ⟨_, _, rfl, h0, h1, h2⟩
theorem dm_t2 {v : V} {d1 d2 : PyData} (h : DM M H v (.tuple [d1, d2])) : ∃ a v1 v2, v = .ref a ∧ H a = some (.tup [v1, v2]) ∧ DM M H v1 d1 ∧ DM M H v2 d2 := by
  obtain ⟨a, xs, rfl, _, h1, h2⟩ := dm_tup h
  cases h2 with
  | cons p r => cases r with
    | cons q r => cases r; exact ⟨_, _, _, rfl, h1, p, q⟩
theorem dm_t3 {v : V} {d1 d2 d3 : PyData} (h : DM M H v (.tuple [d1, d2, d3])) : ∃ a v1 v2 v3, v = .ref a ∧ H a = some (.tup [v1, v2, v3]) ∧ DM M H v1 d1 ∧ DM M H v2 d2 ∧ DM M H v3 d3 := by
  obtain ⟨a, xs, rfl, _, h1, h2⟩ := dm_tup h
  cases h2 with
  | cons p r => cases r with
    | cons q r => cases r with
      | cons u r => cases r; exact ⟨_, _, _, _, rfl, h1, p, q, u⟩
theorem dm_t4 {v : V} {d1 d2 d3 d4 : PyData} (h : DM M H v (.tuple [d1, d2, d3, d4])) : ∃ a v1 v2 v3 v4, v = .ref a ∧ H a = some (.tup [v1, v2, v3, v4]) ∧ DM M H v1 d1 ∧ DM M H v2 d2 ∧ DM M H v3 d3 ∧ DM M H v4 d4 := by
  obtain ⟨a, xs, rfl, _, h1, h2⟩ := dm_tup h
  cases h2 with
  | cons p r => cases r with
    | cons q r => cases r with
      | cons u r => cases r with
        | cons w r => cases r; exact ⟨_, _, _, _, _, rfl, h1, p, q, u, w⟩
theorem dm_t5 {v : V} {d1 d2 d3 d4 d5 : PyData} (h : DM M H v (.tuple [d1, d2, d3, d4, d5])) : ∃ a v1 v2 v3 v4 v5, v = .ref a ∧ H a = some (.tup [v1, v2, v3, v4, v5]) ∧ DM M H v1 d1 ∧ DM M H v2 d2 ∧ DM M H v3 d3 ∧ DM M H v4 d4 ∧ DM M H v5 d5 := by
  obtain ⟨a, xs, rfl, _, h1, h2⟩ := dm_tup h
  cases h2 with
  | cons p r => cases r with
    | cons q r => cases r with
      | cons u r => cases r with
        | cons w r => cases r with
          | cons z r => cases r; exact ⟨_, _, _, _, _, _, rfl, h1, p, q, u, w, z⟩
theorem dms_len : ∀ {xs : List V} {ds : List PyData}, DMs M H xs ds → xs.length = ds.length
  | _, _, .nil => rfl
  | _, _, .cons _ t => congrArg (· + 1) (dms_len t)
theorem dms_at {α : Type} {f : α → PyData} : ∀ {as : List α} {xs : List V}, DMs M H xs (as.map f) → ∀ {i : Nat} {x : V}, xs[i]? = some x → ∃ a, as[i]? = some a ∧ DM M H x (f a)
  | [], _, h, i, x, e => by cases h; simp at e
  | a :: r, _, h, i, x, e => by
    cases h with
    | cons h1 h2 =>
      cases i with
      | zero => rw [List.getElem?_cons_zero] at e; cases e; exact ⟨a, rfl, h1⟩
      | succ i => rw [List.getElem?_cons_succ] at e; exact dms_at h2 e
theorem dms_snoc {d : PyData} {v : V} : ∀ {xs : List V} {ds : List PyData}, DMs M H xs ds → DM M H v d → DMs M H (xs ++ [v]) (ds ++ [d])
  | _, _, .nil, h => .cons h .nil
  | _, _, .cons r t, h => .cons r (dms_snoc t h)
theorem dms_app : ∀ {xs ys : List V} {ds es : List PyData}, DMs M H xs ds → DMs M H ys es → DMs M H (xs ++ ys) (ds ++ es)
  | _, _, _, _, .nil, h => h
  | _, _, _, _, .cons r t, h => .cons r (dms_app t h)
theorem dm_lm {α : Type} {f : α → PyData} {as : List α} {v : V} (h : DM M H v (.list (as.map f))) : ∃ a xs, v = .ref a ∧ ¬ M a ∧ H a = some (.lst xs) ∧ DMs M H xs (as.map f) ∧ xs.length = as.length ∧ ∀ {i : Nat} {x : V}, xs[i]? = some x → ∃ z, as[i]? = some z ∧ DM M H x (f z) := by
  obtain ⟨a, xs, rfl, n, h1, h2⟩ := dm_lst h
  exact ⟨a, xs, rfl, n, h1, h2, by rw [dms_len h2, List.length_map], fun e => dms_at h2 e⟩
end
/-- nothing is volatile -/
def NoV : Vol := fun _ => False
theorem kx_same {A B : Hp} {M : Vol} (s : Same A B) : Kx M A B := Kx.of s
theorem DM.same {A B : Hp} {M : Vol} {d : PyData} {v : V} (s : Same A B) (h : DM M A v d) : DM M B v d := h.kx (Kx.of s)
theorem DMs.same {A B : Hp} {M : Vol} {ds : List PyData} {vs : List V} (s : Same A B) (h : DMs M A vs ds) : DMs M B vs ds := h.kx (Kx.of s)
end SU
set_option Elab.async false
set_option linter.all false
set_option maxRecDepth 100000
set_option maxHeartbeats 2000000
namespace SU
open PySem PySem.Spec PyProof.Rows L2 C8 LC LR LG
def intsOf (ks : List Key) : List Int := ks.filterMap fun k => match k with
  | .inl i => some i
  | .inr _ => none
def strsOf (ks : List Key) : List Str := ks.filterMap fun k => match k with
  | .inl _ => none
  | .inr x => some x
def iF : Key → List V
  | .inl i => [V.int i]
  | .inr _ => []
def sF : Key → List V
  | .inl _ => []
  | .inr x => [V.str x]
theorem iF_flat : ∀ ks : List Key, ks.flatMap iF = (intsOf ks).map V.int
  | [] => rfl
  | .inl i :: r => by rw [List.flatMap_cons, iF_flat r]; rfl
  | .inr x :: r => by rw [List.flatMap_cons, iF_flat r]; rfl
theorem sF_flat : ∀ ks : List Key, ks.flatMap sF = (strsOf ks).map V.str
  | [] => rfl
  | .inl i :: r => by rw [List.flatMap_cons, sF_flat r]; rfl
  | .inr x :: r => by rw [List.flatMap_cons, sF_flat r]; rfl
theorem intsOf_le (ks : List Key) : (intsOf ks).length ≤ ks.length := List.length_filterMap_le _ _
theorem strsOf_le (ks : List Key) : (strsOf ks).length ≤ ks.length := List.length_filterMap_le _ _
theorem mem_ints {ks : List Key} {i : Int} : i ∈ intsOf ks ↔ Sum.inl i ∈ ks := by
  induction ks with
  | nil => simp [intsOf]
  | cons k r ih =>
    have e : intsOf (k :: r) = (match k with | .inl i => [i] | .inr _ => []) ++ intsOf r := by cases k <;> rfl
    rw [e, List.mem_append, ih, List.mem_cons]
    cases k <;> simp
theorem mem_strs {ks : List Key} {x : Str} : x ∈ strsOf ks ↔ Sum.inr x ∈ ks := by
  induction ks with
  | nil => simp [strsOf]
  | cons k r ih =>
    have e : strsOf (k :: r) = (match k with | .inl _ => [] | .inr y => [y]) ++ strsOf r := by cases k <;> rfl
    rw [e, List.mem_append, ih, List.mem_cons]
    cases k <;> simp
theorem ints_nodup {ks : List Key} (h : ks.Nodup) : (intsOf ks).Nodup := by
  induction ks with
  | nil => exact List.nodup_nil
  | cons k r ih =>
    rw [List.nodup_cons] at h
    cases k with
    | inl i => exact List.nodup_cons.mpr ⟨fun z => h.1 (mem_ints.mp z), ih h.2⟩
    | inr x => exact ih h.2
theorem strs_nodup {ks : List Key} (h : ks.Nodup) : (strsOf ks).Nodup := by
  induction ks with
  | nil => exact List.nodup_nil
  | cons k r ih =>
    rw [List.nodup_cons] at h
    cases k with
    | inl i => exact ih h.2
    | inr x => exact List.nodup_cons.mpr ⟨fun z => h.1 (mem_strs.mp z), ih h.2⟩
theorem nodup_sub : ∀ {xs L : List Str}, xs.Nodup → (∀ x ∈ xs, x ∈ L) → xs.length ≤ L.length
  | [], _, _, _ => Nat.zero_le _
  | x :: r, L, h, s => by
    rw [List.nodup_cons] at h
    have hx := s x List.mem_cons_self
    have := nodup_sub (xs := r) (L := L.erase x) h.2 fun y hy => by
      have hyx : y ≠ x := fun e => h.1 (e ▸ hy)
      exact (List.mem_erase_of_ne hyx).mpr (s y (List.mem_cons_of_mem _ hy))
    rw [List.length_erase_of_mem hx] at this
    have : 0 < L.length := List.length_pos_of_mem hx
    rw [List.length_cons]; omega
theorem leK_int {a b : Int} (h : a ≤ b) : leK (.inl a) (.inl b) := by
  show decide (b < a) = false
  exact decide_eq_false (by omega)
theorem rising_leK : ∀ (p : Str) (xs : List Str), risingS p xs = true → (p :: xs).Pairwise fun a b => leK (.inr a) (.inr b)
  | p, [], _ => List.pairwise_singleton _ _
  | p, x :: r, h => by
    have h : (!ltCps x.cps.toList p.cps.toList && risingS x r) = true := h
    rw [Bool.and_eq_true] at h
    have ih := rising_leK x r h.2
    have h1 : leK (.inr p) (.inr x) := by
      have := h.1
      rw [ltCps_eq] at this
      show decide (x.cps.toList < p.cps.toList) = false
      cases hq : decide (x.cps.toList < p.cps.toList) with
      | false => rfl
      | true => rw [hq] at this; cases this
    refine List.pairwise_cons.mpr ⟨fun y hy => ?_, ih⟩
    rcases List.mem_cons.mp hy with e | hy
    · rw [e]; exact h1
    · exact leK_trans h1 ((List.pairwise_cons.mp ih).1 y hy)
theorem sortedS_leK {xs : List Str} (h : sortedS xs = true) : xs.Pairwise fun a b => leK (.inr a) (.inr b) := by
  cases xs with
  | nil => exact List.Pairwise.nil
  | cons x r => exact rising_leK x r h
/-- the law's universe -/
theorem two_sorted {ks : List Key} {ns : List Int} {xs : List Str} (hk : ks.Nodup) (h1 : ns.Perm (intsOf ks)) (h2 : ns.Pairwise (· ≤ ·)) (h3 : xs.Perm (strsOf ks)) (h4 : sortedS xs = true) :
    (ns.map Sum.inl ++ xs.map Sum.inr : List Key).Nodup ∧ (ns.map Sum.inl ++ xs.map Sum.inr : List Key).Pairwise leK ∧ ∀ k, k ∈ (ns.map Sum.inl ++ xs.map Sum.inr : List Key) ↔ k ∈ ks := by
  have n1 := h1.nodup_iff.mpr (ints_nodup hk)
  have n3 := h3.nodup_iff.mpr (strs_nodup hk)
  refine ⟨?_, ?_, fun k => ?_⟩
  · rw [List.nodup_append]
    refine ⟨List.pairwise_map.mpr (n1.imp fun h e => h (Sum.inl.inj e)), List.pairwise_map.mpr (n3.imp fun h e => h (Sum.inr.inj e)), fun a ha b hb e => ?_⟩
    obtain ⟨i, _, rfl⟩ := List.mem_map.mp ha
    obtain ⟨x, _, rfl⟩ := List.mem_map.mp hb
    cases e
  · rw [List.pairwise_append]
    refine ⟨List.pairwise_map.mpr (h2.imp fun h => leK_int h), List.pairwise_map.mpr (sortedS_leK h4), fun a ha b hb => ?_⟩
    obtain ⟨i, _, rfl⟩ := List.mem_map.mp ha
    obtain ⟨x, _, rfl⟩ := List.mem_map.mp hb
    rfl
  · rw [List.mem_append, List.mem_map, List.mem_map]
    cases k with
    | inl i =>
      constructor
      · rintro (⟨a, ha, e⟩ | ⟨a, ha, e⟩)
        · cases e; exact mem_ints.mp (h1.mem_iff.mp ha)
        · cases e
      · exact fun h => .inl ⟨i, h1.mem_iff.mpr (mem_ints.mpr h), rfl⟩
    | inr x =>
      constructor
      · rintro (⟨a, ha, e⟩ | ⟨a, ha, e⟩)
        · cases e
        · cases e; exact mem_strs.mp (h3.mem_iff.mp ha)
      · exact fun h => .inr ⟨x, h3.mem_iff.mpr (mem_strs.mpr h), rfl⟩
end SU
set_option Elab.async false
set_option linter.all false
set_option maxRecDepth 100000
set_option maxHeartbeats 2000000
namespace SU
open PySem PySem.Spec PyProof.Rows L2 C8 LC LR LG
/-! what the law draws, and that repr shows it in few signs -/
def VR : List Str := ["X", "Y", "Z", "W"]
def SY : List Str := ["a", "b9", "zb"]
def PR : List Str := ["p", "q", "r", "s"]
def SG : List Str := ["=", "!=", "<", "<=", ">", ">=", "+", "-", "*"]
theorem small_str {x : Str} (h : x ∈ VR ++ SY ++ PR ++ SG) : NmOk x ∧ SeqAt.shaped (.str x) = true := by
  have all : ∀ x ∈ VR ++ SY ++ PR ++ SG, (decide ((PyData.str x).shown.length ≤ 12) && SeqAt.shaped (.str x)) = true := by
    have : (VR ++ SY ++ PR ++ SG).all (fun x => decide ((PyData.str x).shown.length ≤ 12) && SeqAt.shaped (.str x)) = true := by decide +kernel
    exact List.all_eq_true.mp this
  have := all x h
  rw [Bool.and_eq_true, decide_eq_true_eq] at this
  exact this
theorem sm_vr {x : Str} (h : x ∈ VR) : NmOk x ∧ SeqAt.shaped (.str x) = true := small_str (by simp [h])
theorem sm_sy {x : Str} (h : x ∈ SY) : NmOk x ∧ SeqAt.shaped (.str x) = true := small_str (by simp [h])
theorem sm_pr {x : Str} (h : x ∈ PR) : NmOk x ∧ SeqAt.shaped (.str x) = true := small_str (by simp [h])
theorem sm_sg {x : Str} (h : x ∈ SG) : NmOk x ∧ SeqAt.shaped (.str x) = true := small_str (by simp [h])
def Tm.Sm : Tm → Prop
  | .var x => x ∈ VR
  | .int n => 0 ≤ n ∧ n < 100000
  | .sym x => x ∈ SY
  | .op s l r => s ∈ SG ∧ l.Sm ∧ r.Sm
def Atm.Sm (a : Atm) : Prop := a.nm ∈ PR ∧ ∀ t ∈ a.ts, t.Sm
def Cnd.Sm : Cnd → Prop
  | .yes a => a.Sm
  | .no a => a.Sm
  | .cmp s l r => s ∈ SG ∧ l.Sm ∧ r.Sm
def Mem.Sm (m : Mem) : Prop := m.w.Sm ∧ ∀ c ∈ m.b, c.Sm
def Prt.Sm : Prt → Prop
  | .c x => x.Sm
  | .sum s ms t => s ∈ SG ∧ (∀ m ∈ ms, m.Sm) ∧ t.Sm
def Cho.Sm (x : Cho) : Prop := x.a.Sm ∧ ∀ c ∈ x.b, c.Sm
def OSm (o : Option Int) : Prop := ∀ i, o = some i → 0 ≤ i ∧ i < 100000
def Stm.Sm : Stm → Prop
  | .rule a b => a.Sm ∧ ∀ p ∈ b, p.Sm
  | .deny b => ∀ p ∈ b, p.Sm
  | .choose lo hi ch b => OSm lo ∧ OSm hi ∧ (∀ x ∈ ch, x.Sm) ∧ ∀ p ∈ b, p.Sm
  | .range _ _ => True
  | .minim ms => ∀ m ∈ ms, m.Sm
/-! symbols and variables -/
theorem Tm.sy {t : Tm} (h : t.Sm) {x : Str} (m : Sum.inr x ∈ t.cs) : x ∈ SY := by
  induction t with
  | var y => cases m
  | int n => simp [Tm.cs] at m
  | sym y => simp [Tm.cs] at m; rw [m]; exact h
  | op s l r il ir =>
    rcases List.mem_append.mp m with m | m
    · exact il h.2.1 m
    · exact ir h.2.2 m
theorem Tm.vr {t : Tm} (h : t.Sm) {x : Str} (m : x ∈ t.vs) : x ∈ VR := by
  induction t with
  | var y => simp [Tm.vs] at m; rw [m]; exact h
  | int n => cases m
  | sym y => cases m
  | op s l r il ir =>
    rcases List.mem_append.mp m with m | m
    · exact il h.2.1 m
    · exact ir h.2.2 m
theorem Atm.sy {a : Atm} (h : a.Sm) {x : Str} (m : Sum.inr x ∈ a.cs) : x ∈ SY := by
  obtain ⟨t, ht, m⟩ := List.mem_flatMap.mp m; exact Tm.sy (h.2 t ht) m
theorem Atm.vr {a : Atm} (h : a.Sm) {x : Str} (m : x ∈ a.vs) : x ∈ VR := by
  obtain ⟨t, ht, m⟩ := List.mem_flatMap.mp m; exact Tm.vr (h.2 t ht) m
theorem Cnd.sy {c : Cnd} (h : c.Sm) {x : Str} (m : Sum.inr x ∈ c.cs) : x ∈ SY := by
  cases c with
  | yes a => exact Atm.sy h m
  | no a => exact Atm.sy h m
  | cmp s l r =>
    rcases List.mem_append.mp m with m | m
    · exact Tm.sy h.2.1 m
    · exact Tm.sy h.2.2 m
theorem Cnd.vr {c : Cnd} (h : c.Sm) {x : Str} (m : x ∈ c.vs) : x ∈ VR := by
  cases c with
  | yes a => exact Atm.vr h m
  | no a => exact Atm.vr h m
  | cmp s l r =>
    rcases List.mem_append.mp m with m | m
    · exact Tm.vr h.2.1 m
    · exact Tm.vr h.2.2 m
theorem Mem.sy {c : Mem} (h : c.Sm) {x : Str} (m : Sum.inr x ∈ c.cs) : x ∈ SY := by
  obtain ⟨t, ht, m⟩ := List.mem_flatMap.mp m; exact Cnd.sy (h.2 t ht) m
theorem Prt.sy {c : Prt} (h : c.Sm) {x : Str} (m : Sum.inr x ∈ c.cs) : x ∈ SY := by
  cases c with
  | c y => exact Cnd.sy h m
  | sum s ms t => obtain ⟨t, ht, m⟩ := List.mem_flatMap.mp m; exact Mem.sy (h.2.1 t ht) m
theorem Prt.vr {c : Prt} (h : c.Sm) {x : Str} (m : x ∈ c.vs) : x ∈ VR := by
  cases c with
  | c y => exact Cnd.vr h m
  | sum s ms t => exact Tm.vr h.2.2 m
theorem bd_sy {b : List Prt} (h : ∀ p ∈ b, p.Sm) {x : Str} (m : Sum.inr x ∈ b.flatMap Prt.cs) : x ∈ SY := by
  obtain ⟨t, ht, m⟩ := List.mem_flatMap.mp m; exact Prt.sy (h t ht) m
theorem Stm.sy {s : Stm} (h : s.Sm) {x : Str} (m : Sum.inr x ∈ s.cs) : x ∈ SY := by
  cases s with
  | rule a b =>
    rcases List.mem_append.mp m with m | m
    · exact Atm.sy h.1 m
    · exact bd_sy h.2 m
  | deny b => exact bd_sy h m
  | choose lo hi ch b =>
    rcases List.mem_append.mp m with m | m
    · obtain ⟨c, hc, m⟩ := List.mem_flatMap.mp m
      rcases List.mem_append.mp m with m | m
      · exact Atm.sy (h.2.2.1 c hc).1 m
      · obtain ⟨t, ht, m⟩ := List.mem_flatMap.mp m; exact Cnd.sy ((h.2.2.1 c hc).2 t ht) m
    · exact bd_sy h.2.2.2 m
  | range a b =>
    obtain ⟨i, _, e⟩ := List.mem_map.mp m
    cases e
  | minim ms => obtain ⟨t, ht, m⟩ := List.mem_flatMap.mp m; exact Mem.sy (h t ht) m
theorem Stm.vr {s : Stm} (h : s.Sm) {x : Str} (m : x ∈ s.vs) : x ∈ VR := by
  have hb : (∀ p ∈ s.bd, p.Sm) := by
    cases s with
    | rule a b => exact h.2
    | deny b => exact h
    | choose lo hi ch b => exact h.2.2.2
    | range a b => exact fun _ z => nomatch z
    | minim ms => exact fun _ z => nomatch z
  rcases List.mem_append.mp m with m | m
  · cases s with
    | rule a b => exact Atm.vr h.1 m
    | _ => cases m
  · obtain ⟨t, ht, m⟩ := List.mem_flatMap.mp m; exact Prt.vr (hb t ht) m
def LP.Sm : LP → Prop
  | .m x => x.Sm
  | .ch x => x.Sm
theorem LP.vr {p : LP} (h : p.Sm) {x : Str} (m : x ∈ p.own ++ p.b.flatMap Cnd.vs) : x ∈ VR := by
  cases p with
  | m y =>
    rcases List.mem_append.mp m with m | m
    · exact Tm.vr h.1 m
    · obtain ⟨t, ht, m⟩ := List.mem_flatMap.mp m; exact Cnd.vr (h.2 t ht) m
  | ch y =>
    rcases List.mem_append.mp m with m | m
    · exact Atm.vr h.1 m
    · obtain ⟨t, ht, m⟩ := List.mem_flatMap.mp m; exact Cnd.vr (h.2 t ht) m
theorem lps_sm {s : Stm} (h : s.Sm) : ∀ x ∈ s.lps, x.Sm := by
  intro x hx
  have hb : (∀ p ∈ s.bd, p.Sm) := by
    cases s with
    | rule a b => exact h.2
    | deny b => exact h
    | choose lo hi ch b => exact h.2.2.2
    | range a b => exact fun _ z => nomatch z
    | minim ms => exact fun _ z => nomatch z
  rcases List.mem_append.mp hx with hx | hx
  · cases s with
    | choose lo hi ch b => obtain ⟨c, hc, rfl⟩ := List.mem_map.mp hx; exact h.2.2.1 c hc
    | minim ms => obtain ⟨c, hc, rfl⟩ := List.mem_map.mp hx; exact h c hc
    | _ => cases hx
  · obtain ⟨p, hp, hx⟩ := List.mem_flatMap.mp hx
    have hq := hb p hp
    cases p with
    | c y => cases hx
    | sum sg ms t => obtain ⟨c, hc, rfl⟩ := List.mem_map.mp hx; exact hq.2.1 c hc
/-! repr -/
theorem gd_sums {k : Nat} {ns : List Nat} {xs : List PyData} (h : Paired (fun n x => Gd n k x) ns xs) : ((PyData.shownAll xs).map (·.length)).sum ≤ ns.sum ∧ (PyData.shownAll xs).length = ns.length ∧ PyData.showableAll xs = true ∧ PyData.hasDictAll xs = false ∧ PyData.depthAll xs ≤ k := by
  induction h with
  | nil => exact ⟨by simp [PyData.shownAll], by simp [PyData.shownAll], by simp [PyData.showableAll], by simp [PyData.hasDictAll], by simp [PyData.depthAll]⟩
  | cons g t ih =>
    obtain ⟨h1, h2, h3, h4, h5⟩ := ih
    have gl := g.len
    refine ⟨?_, ?_, ?_, ?_, ?_⟩
    · rw [PyData.shownAll, List.map_cons, List.sum_cons, List.sum_cons]; omega
    · rw [PyData.shownAll, List.length_cons, List.length_cons, h2]
    · rw [PyData.showableAll, g.sh, h3]; rfl
    · rw [PyData.hasDictAll, g.nd, h4]; rfl
    · rw [PyData.depthAll]; exact Nat.max_le.mpr ⟨g.dp, h5⟩
theorem gd_tupA {k N : Nat} {ns : List Nat} {xs : List PyData} (h : Paired (fun n x => Gd n k x) ns xs) (hN : ns.sum + 2 * ns.length + 3 ≤ N := by decide) : Gd N (k + 1) (.tuple xs) := by
  obtain ⟨h1, h2, h3, h4, h5⟩ := gd_sums h
  have hl := tupleText_len_le (PyData.shownAll xs)
  refine ⟨?_, by rw [PyData.showable]; exact h3, by rw [PyData.hasDict]; exact h4, by rw [PyData.depth]; omega⟩
  rw [PyData.shown]
  omega
def szT : Nat → Nat
  | 0 => 31
  | n + 1 => 35 + 2 * szT n
theorem szT_le {a b : Nat} (h : a ≤ b) : szT a ≤ szT b := by
  induction b with
  | zero => rw [Nat.le_zero.mp h]; exact Nat.le_refl _
  | succ b ih =>
    by_cases e : a = b + 1
    · rw [e]; exact Nat.le_refl _
    · have := ih (by omega); rw [szT]; omega
theorem nmS (s : Str) (h : (decide ((PyData.str s).shown.length ≤ 12)) = true := by decide +kernel) : NmOk s := show (PyData.str s).shown.length ≤ 12 from of_decide_eq_true h
theorem gdS {k : Nat} {s : Str} (h : NmOk s) : Gd 12 (k + 1) (.str s) := (gd_str h).mono (Nat.le_refl _) (by omega)
theorem gdI {k : Nat} {i : Int} (h0 : 0 ≤ i) (h1 : i < 100000) : Gd 12 (k + 1) (.int i) := (gd_int (.inr ⟨h0, h1⟩)).mono (by decide) (by omega)
theorem gd_tm : ∀ {t : Tm}, t.Sm → Gd (szT t.dep) (t.dep + 2) t.d
  | .var x, h => show Gd 31 2 _ from gd_tupA (ns := [12, 12]) (N := 31) (.cons (gdS (nmS _)) (.cons (gdS (sm_vr h).1) .nil))
  | .int n, h => show Gd 31 2 _ from gd_tupA (ns := [12, 12]) (N := 31) (.cons (gdS (nmS _)) (.cons (gdI h.1 h.2) .nil))
  | .sym x, h => show Gd 31 2 _ from gd_tupA (ns := [12, 12]) (N := 31) (.cons (gdS (nmS _)) (.cons (gdS (sm_sy h).1) .nil))
  | .op s l r, h => by
    have hl := (gd_tm h.2.1).mono (szT_le (Nat.le_max_left l.dep r.dep)) (by have := Nat.le_max_left l.dep r.dep; omega : _ ≤ max l.dep r.dep + 2)
    have hr := (gd_tm h.2.2).mono (szT_le (Nat.le_max_right l.dep r.dep)) (by have := Nat.le_max_right l.dep r.dep; omega : _ ≤ max l.dep r.dep + 2)
    refine (gd_tupA (ns := [12, 12, szT (max l.dep r.dep), szT (max l.dep r.dep)]) (N := szT (max l.dep r.dep + 1)) (.cons (gdS (nmS _)) (.cons (gdS (sm_sg h.1).1) (.cons hl (.cons hr .nil)))) ?_)
    simp only [List.sum_cons, List.sum_nil, List.length_cons, List.length_nil, szT]
    omega
theorem gd_tm' {t : Tm} (h : t.Sm) (o : t.Ok) : Gd 493 5 t.d := (gd_tm h).mono (Nat.le_trans (szT_le o.2) (by decide)) (by have := o.2; omega)
theorem gd_listM {α : Type} {f : α → PyData} {n k m N : Nat} {xs : List α} (h : ∀ x ∈ xs, Gd n k (f x)) (hm : xs.length ≤ m) (hN : m * (n + 2) + 3 ≤ N := by decide) : Gd N (k + 1) (.list (xs.map f)) := (gd_list (n := n) (k := k) (m := m) (fun x hx => by
  obtain ⟨a, ha, rfl⟩ := List.mem_map.mp hx
  exact h a ha) (by rw [List.length_map]; exact hm)).mono hN (Nat.le_refl _)
theorem gd_atm {a : Atm} (h : a.Sm) (o : a.Ok) : Gd 2016 7 a.d := gd_tupA (ns := [12, 12, 1983]) (.cons (gdS (nmS _)) (.cons (gdS (sm_pr h.1).1) (.cons (gd_listM (n := 493) (k := 5) (m := 4) (fun t ht => gd_tm' (h.2 t ht) (o.2 t ht)) o.1) .nil)))
theorem gd_cnd {c : Cnd} (h : c.Sm) (o : c.Ok) : Gd 2035 8 c.d := by
  cases c with
  | yes a => exact gd_tupA (ns := [12, 2016]) (.cons (gdS (nmS _)) (.cons (gd_atm h o) .nil))
  | no a => exact gd_tupA (ns := [12, 2016]) (.cons (gdS (nmS _)) (.cons (gd_atm h o) .nil))
  | cmp s l r => exact (gd_tupA (ns := [12, 12, 493, 493]) (k := 5) (N := 2035) (.cons (gdS (nmS _)) (.cons (gdS (sm_sg h.1).1) (.cons (gd_tm' h.2.1 o.1) (.cons (gd_tm' h.2.2 o.2) .nil))))).mono (Nat.le_refl _) (by decide)
theorem gd_cs {b : List Cnd} (h : ∀ c ∈ b, c.Sm) (o : CsOk b) : Gd 16299 9 (csD b) := gd_listM (n := 2035) (k := 8) (m := 8) (fun c hc => gd_cnd (h c hc) (o.2 c hc)) o.1
theorem gd_mem {m : Mem} (h : m.Sm) (o : m.Ok) : Gd 16813 10 m.d := gd_tupA (ns := [12, 493, 16299]) (.cons (gdS (nmS _)) (.cons ((gd_tm' h.1 o.1).mono (Nat.le_refl _) (by decide)) (.cons (gd_cs h.2 o.2) .nil)))
theorem gd_ms {ms : List Mem} (h : ∀ m ∈ ms, m.Sm) (o : MsOk ms) : Gd 134523 11 (msD ms) := gd_listM (n := 16813) (k := 10) (m := 8) (fun c hc => gd_mem (h c hc) (o.2 c hc)) o.1
theorem gd_prt {p : Prt} (h : p.Sm) (o : p.Ok) : Gd 135051 12 p.d := by
  cases p with
  | c x => exact (gd_cnd h o).mono (by decide) (by decide)
  | sum s ms t => exact gd_tupA (ns := [12, 12, 134523, 493]) (.cons (gdS (nmS _)) (.cons (gdS (sm_sg h.1).1) (.cons (gd_ms h.2.1 o.1) (.cons ((gd_tm' h.2.2 o.2).mono (Nat.le_refl _) (by decide)) .nil))))
theorem gd_bd {b : List Prt} (h : ∀ c ∈ b, c.Sm) (o : BdOk b) : Gd 1080427 13 (bdD b) := gd_listM (n := 135051) (k := 12) (m := 8) (fun c hc => gd_prt (h c hc) (o.2 c hc)) o.1
theorem gd_cho {c : Cho} (h : c.Sm) (o : c.Ok) : Gd 18336 10 c.d := gd_tupA (ns := [12, 2016, 16299]) (.cons (gdS (nmS _)) (.cons ((gd_atm h.1 o.1).mono (Nat.le_refl _) (by decide)) (.cons (gd_cs h.2 o.2) .nil)))
theorem gd_ch {b : List Cho} (h : ∀ c ∈ b, c.Sm) (o : ChOk b) : Gd 146707 11 (chD b) := gd_listM (n := 18336) (k := 10) (m := 8) (fun c hc => gd_cho (h c hc) (o.2 c hc)) o.1
theorem gd_o {o : Option Int} (h : OSm o) : Gd 12 13 (oD o) := by
  cases o with
  | none => exact gd_non.mono (by decide) (by decide)
  | some i => exact gdI (h i rfl).1 (h i rfl).2
theorem gd_stm {s : Stm} (h : s.Sm) (o : s.Ok) : Gd 1227200 14 s.d := by
  cases s with
  | rule a b => exact gd_tupA (ns := [12, 2016, 1080427]) (.cons (gdS (nmS _)) (.cons ((gd_atm h.1 o.1).mono (Nat.le_refl _) (by decide)) (.cons (gd_bd h.2 o.2) .nil)))
  | deny b => exact gd_tupA (ns := [12, 1080427]) (.cons (gdS (nmS _)) (.cons (gd_bd h o) .nil))
  | choose lo hi ch b => exact gd_tupA (ns := [12, 12, 146707, 12, 1080427]) (.cons (gdS (nmS _)) (.cons (gd_o h.1) (.cons ((gd_ch h.2.2.1 o.1).mono (Nat.le_refl _) (by decide)) (.cons (gd_o h.2.1) (.cons (gd_bd h.2.2.2 o.2) .nil)))))
  | range x y =>
    obtain ⟨o1, o2, o3, o4⟩ := o
    exact (gd_tupA (ns := [12, 12, 12]) (k := 1) (N := 100) (.cons (gdS (nmS _)) (.cons (gdI o1 (by omega)) (.cons (gdI o3 (by omega)) .nil)))).mono (by decide) (by decide)
  | minim ms => exact (gd_tupA (ns := [12, 134523]) (k := 11) (N := 200000) (.cons (gdS (nmS _)) (.cons (gd_ms h o) .nil))).mono (by decide) (by decide)
theorem gd_sts {ss : List Stm} (h : ∀ c ∈ ss, c.Sm) (o : StOk ss) : Gd 9900000 15 (stD ss) := gd_listM (n := 1227200) (k := 14) (m := 8) (fun c hc => gd_stm (h c hc) (o.2 c hc)) o.1
end SU
set_option Elab.async false
set_option linter.all false
set_option maxRecDepth 100000
set_option maxHeartbeats 2000000
namespace SU
open PySem PySem.Spec PyProof.Rows L2 C8 LC LR LG
section
variable {ts : Tbs} {st ca p : Addr} {M : Vol} {H H' : Hp} {xs : List V} {ds : List PyData}
theorem mk_tup (w : Wd ts st ca M H) (hp : H p = none) (h : DMs M H xs ds) : DM M (upd H p (.tup xs)) (.ref p) (.tuple ds) := .tup (w.fresh hp) upd_same (h.kx (Kx.new hp))
theorem mk_lst (w : Wd ts st ca M H) (hp : H p = none) (h : DMs M H xs ds) : DM M (upd H p (.lst xs)) (.ref p) (.list ds) := .lst (w.fresh hp) upd_same (h.kx (Kx.new hp))
theorem DM.ky {d : PyData} {v : V} (h : DM M H v d) (w : Wd ts st ca M H) (k : Ky ts st ca H H') : DM M H' v d := h.kx (w.ky k)
theorem DMs.ky {ds : List PyData} {vs : List V} (h : DMs M H vs ds) (w : Wd ts st ca M H) (k : Ky ts st ca H H') : DMs M H' vs ds := h.kx (w.ky k)
/-- a list of variables -/
structure Nm (M : Vol) (H : Hp) (a : Addr) (xs : List Str) : Prop where
  n : ¬ M a
  e : H a = some (.lst (xs.map V.str))
  l : xs.length ≤ 4
  v : ∀ x ∈ xs, x ∈ VR
theorem Nm.kx {A B : Hp} {a : Addr} {xs : List Str} (h : Nm M A a xs) (k : Kx M A B) : Nm M B a xs := ⟨h.n, k _ _ h.n h.e, h.l, h.v⟩
theorem Nm.ky {a : Addr} {xs : List Str} (h : Nm M H a xs) (w : Wd ts st ca M H) (k : Ky ts st ca H H') : Nm M H' a xs := h.kx (w.ky k)
theorem Nm.anti {M' : Vol} {a : Addr} {xs : List Str} (h : Nm M' H a xs) (i : ∀ b, M b → M' b) : Nm M H a xs := ⟨fun z => h.n (i _ z), h.e, h.l, h.v⟩
end
theorem at_mem {α : Type} {xs : List α} {d : Int} (h0 : 0 ≤ d) (h1 : d < xs.length) : ∃ x, x ∈ xs ∧ ∀ {β : Type} (f : α → β), atI (xs.map f) d = some (f x) := by
  obtain ⟨n, rfl⟩ : ∃ n : Nat, d = n := ⟨d.toNat, by omega⟩
  have hn : n < xs.length := by omega
  refine ⟨xs[n], List.getElem_mem hn, fun f => atI_nat ?_⟩
  rw [List.getElem?_map, List.getElem?_eq_getElem hn]; rfl
theorem at_fin {α : Type} {xs : List α} {d : Int} (h0 : 0 ≤ d) (h1 : d < xs.length) : ∃ x, x ∈ xs ∧ atI xs d = some x := by
  obtain ⟨n, rfl⟩ : ∃ n : Nat, d = n := ⟨d.toNat, by omega⟩
  have hn : n < xs.length := by omega
  exact ⟨xs[n], List.getElem_mem hn, atI_nat (List.getElem?_eq_getElem hn)⟩
end SU
set_option Elab.async false
set_option linter.all false
set_option maxRecDepth 100000
set_option maxHeartbeats 2000000
namespace SU
open PySem PySem.Spec PyProof.Rows L2 C8 LC LR LG GX
theorem pair_dms {α β : Type} {dat : α → PyData} {good : α → Prop} {M : Vol} {H : Hp} : ∀ {is : List β} {ys : List V}, Paired (fun _ y => ∃ x : α, good x ∧ DM M H y (dat x)) is ys → ∃ xs : List α, DMs M H ys (xs.map dat) ∧ xs.length = is.length ∧ ∀ x ∈ xs, good x
  | _, _, .nil => ⟨[], .nil, rfl, fun _ z => nomatch z⟩
  | _, _, .cons ⟨x, g, d⟩ t => by
    obtain ⟨xs, h1, h2, h3⟩ := pair_dms t
    refine ⟨x :: xs, .cons d h1, by rw [List.length_cons, List.length_cons, h2], fun y hy => ?_⟩
    rcases List.mem_cons.mp hy with e | hy
    · rw [e]; exact g
    · exact h3 y hy
/-- a comprehension over a range that draws -/
theorem lc_draw {α : Type} {dat : α → PyData} {good : α → Prop} {ts : Tbs} {st ca D : Addr} {M : Vol} {H : Hp} {n : Nat} {g : TG} {tt : TT} {te : TE} {vs : List Nat} {σ : L2.St} {Qd : Hp → Prop} (w : Wd ts st ca M H) (hD : H D = none) (hn : n ≤ 1000)
    (step : ∀ (i : Nat) H1, Wd ts st ca (addV M D) H1 → Ky ts st ca H H1 → ∀ (Qk : VK) (F : Hp → Prop), (∀ (x : α) y H2, Wd ts st ca (addV M D) H2 → Ky ts st ca H1 H2 → DM (addV M D) H2 y (dat x) → good x → Qk y H2) →
      g (V.int (0 + (i : Nat))) (wipe σ vs) H1 fun σ2 H2 => wipe σ2 vs = wipe σ vs ∧ tt σ2 H2 fun b H3 => if b = true then te σ2 H3 Qk else F H3)
    (k : ∀ (xs : List α) (ys : List V) H1, Wd ts st ca M H1 → Ky ts st ca H H1 → ¬ M D → H1 D = some (.lst ys) → DMs (addV M D) H1 ys (xs.map dat) → xs.length = n → (∀ x ∈ xs, good x) → Qd H1) :
    ∃ W : Nat → Nat → Hp → Prop, (∃ m, W 0 m (upd H D (.lst []))) ∧ ∀ i m H, W i m H →
      ((Itr 0 n).stop i H ∧ Qd H) ∨ ((Itr 0 n).go i H ∧ ∃ Nx : Hp → Prop, (∀ H', Nx H' → ∃ m', m' < m ∧ W (i + 1) m' H') ∧ ∀ x H', (Itr 0 n).yld i H x H' → g x (wipe σ vs) H' fun σ2 H2 => wipe σ2 vs = wipe σ vs ∧ tt σ2 H2 fun b H3 =>
        if b = true then te σ2 H3 fun y H4 => ∃ acc, H4 D = some (.lst acc) ∧ acc.length < sizeLine ∧ Nx (upd H4 D (.lst (acc ++ [y]))) else Nx H3) := by
  refine lc_walk (ts := ts) (st := st) (ca := ca) (M := M) (H := H) (keep := fun _ => true) (xs := List.range n) (f := fun i => V.int (0 + (i : Nat))) (Out := fun M' _ y A => ∃ x : α, good x ∧ DM (addV M' D) A y (dat x)) (fun M' A B x y k ⟨r, o, h⟩ => ⟨r, o, h.kx (k.mono fun _ z => .inl z)⟩) (fun M' M'' A x y i ⟨r, o, h⟩ => ⟨r, o, h.anti fun b z => z.elim (fun z => .inl (i b z)) .inr⟩) walk_r (fun _ _ => trivial) hY_r w hD (by rw [List.length_range]; exact Nat.lt_of_le_of_lt hn (by decide)) (fun x hx H3 w3 k3 Qk F hk hf => step x H3 w3 k3 Qk F fun z y H4 w4 k4 d4 g4 => hk rfl y H4 w4 k4 ⟨z, g4, d4.anti fun b z => z.elim id .inr⟩) (fun ys H3 w3 k3 nD eD pD => ?_)
  obtain ⟨xs, h1, h2, h3⟩ := pair_dms pD
  rw [filt_true, List.length_range] at h2
  exact k xs ys H3 w3 k3 nD eD h1 h2 h3
section
variable {ts : Tbs} {st ca D : Addr} {M : Vol} {H H1 : Hp}
theorem dm_of {α : Type} {dat : α → PyData} {xs : List α} {ys : List V} (n : ¬ M D) (e : H D = some (.lst ys)) (h : DMs (addV M D) H ys (xs.map dat)) : DM M H (.ref D) (.list (xs.map dat)) := .lst n e (h.anti fun _ z => .inl z)
theorem kyw {o : HO} (k : Ky ts st ca H H1) (hD : H D = none) : Ky ts st ca H (upd H1 D o) := ⟨fun b u n e t => by rw [upd_ne (ne_of_none e hD)]; exact k.keep b u n e t, fun b u e => by
  obtain ⟨v, e⟩ := k.alive b u e
  exact alive_upd e⟩
theorem Nm.add {na : Addr} {xs : List Str} (h : Nm M H na xs) (hD : H D = none) : Nm (addV M D) H na xs := ⟨(fun z => z.elim h.n fun z => absurd h.e (by rw [z, hD]; exact fun q => nomatch q)), h.e, h.l, h.v⟩
theorem DM.wr {o : HO} {v : V} {d : PyData} (h : DM (addV M D) H v d) : DM (addV M D) (upd H D o) v d := h.kx (Kx.put (.inr rfl))
theorem DMs.wr {o : HO} {v : List V} {d : List PyData} (h : DMs (addV M D) H v d) : DMs (addV M D) (upd H D o) v d := h.kx (Kx.put (.inr rfl))
theorem Nm.wr {o : HO} {na : Addr} {xs : List Str} (h : Nm (addV M D) H na xs) : Nm (addV M D) (upd H D o) na xs := h.kx (Kx.put (.inr rfl))
theorem dms_take {α : Type} {dat : α → PyData} : ∀ {xs : List α} {ys : List V} (i : Nat), DMs M H ys (xs.map dat) → DMs M H (ys.take i) ((xs.take i).map dat)
  | [], _, i, h => by cases h; simp; exact .nil
  | x :: r, _, 0, h => by simp; exact .nil
  | x :: r, _, i + 1, h => by
    cases h with
    | cons h1 h2 => exact .cons h1 (dms_take i h2)
theorem dms_drop {α : Type} {dat : α → PyData} : ∀ {xs : List α} {ys : List V} (i : Nat), DMs M H ys (xs.map dat) → DMs M H (ys.drop i) ((xs.drop i).map dat)
  | [], _, i, h => by cases h; simp; exact .nil
  | x :: r, _, 0, h => h
  | x :: r, _, i + 1, h => by
    cases h with
    | cons h1 h2 => exact dms_drop i h2
theorem dms_ins {α : Type} {dat : α → PyData} {xs : List α} {ys : List V} {x : α} {y : V} (i : Nat) (h : DMs M H ys (xs.map dat)) (hx : DM M H y (dat x)) : DMs M H (ys.take i ++ [y] ++ ys.drop i) ((xs.take i ++ [x] ++ xs.drop i).map dat) := by
  rw [List.map_append, List.map_append]
  exact dms_app (dms_app (dms_take i h) (.cons hx .nil)) (dms_drop i h)
end
end SU
set_option Elab.async false
set_option linter.all false
set_option maxRecDepth 100000
set_option maxHeartbeats 4000000
namespace PX
open PySem L2 C8 SX LC LR LG SU PM PySem.Spec PyProof.Rows GX
/-! the parser's object -/
def TokAt (H : Hp) (v : V) (t : Tk) : Prop := ∃ a, v = .ref a ∧ H a = some (.tup [.str (K1.kStr t.1), .str (S t.2.1), .int (t.2.2 : Nat)])
abbrev ToksAt (H : Hp) : List V → List Tk → Prop := Paired (TokAt H)
theorem toks_snoc {H : Hp} {v : V} {t : Tk} (hv : TokAt H v t) : ∀ {xs : List V} {ts : List Tk}, ToksAt H xs ts → ToksAt H (xs ++ [v]) (ts ++ [t])
  | _, _, .nil => .cons hv .nil
  | _, _, .cons h r => .cons h (toks_snoc hv r)
theorem pair_at {α β : Type} {F : α → β → Prop} : ∀ {xs : List α} {ys : List β}, Paired F xs ys → ∀ {i : Nat} {y : β}, ys[i]? = some y → ∃ x, xs[i]? = some x ∧ F x y
  | _, _, .nil, i, y, e => by simp at e
  | _, _, .cons h t, 0, y, e => by
    rw [List.getElem?_cons_zero] at e; cases e
    exact ⟨_, rfl, h⟩
  | _, _, .cons h t, i + 1, y, e => pair_at t (i := i) e
/-- what is known of a token -/
structure TkOk (t : Tk) : Prop where
  nf : t.1 ≠ .fin
  ne : t.2.1 ≠ []
  ln : t.2.1.length ≤ 20
  ps : t.2.2 ≤ 4000
  dg : t.1 = .int → t.2.1.all (fun c => decide (48 ≤ c) && decide (c ≤ 57)) = true
inductive Wt : List Tk → Prop
  | fin {n : Nat} : n ≤ 4000 → Wt [(.fin, [], n)]
  | cons {t : Tk} {r : List Tk} : TkOk t → Wt r → Wt (t :: r)
theorem Wt.ne {r : List Tk} (h : Wt r) : r ≠ [] := by cases h <;> simp
theorem run_all (f : Nat → Bool) : ∀ (k : Nat) (l : List Nat), ∀ c ∈ l.take (K1.run f k l), f c = true
  | 0, l, c, h => by simp [K1.run] at h
  | k + 1, [], c, h => by simp [K1.run] at h
  | k + 1, d :: r, c, h => by
    unfold K1.run at h
    by_cases hd : f d = true
    · rw [if_pos hd, List.take_succ_cons] at h
      rcases List.mem_cons.mp h with e | h
      · rw [e]; exact hd
      · exact run_all f k r c h
    · rw [if_neg hd] at h; simp at h
theorem sigs_len : ∀ t ∈ K1.sigs, t.length ≤ 2 := by decide
theorem lex_wt : ∀ {n : Nat} {l : List Nat} {ts : List Tk}, K1.Lex n l ts → n + l.length ≤ 4000 → Wt ts
  | _, _, _, .nil n, h => .fin h
  | _, _, _, .ws _ r, h => lex_wt r (by rw [List.length_cons] at h; omega)
  | n, c :: r0, _, .tok (t := t) (k := k) _ h1 h2 h3 r, h => by
    have h0 : n + t.length + ((c :: r0).drop t.length).length ≤ 4000 := by rw [List.length_drop]; simp only [List.length_cons] at *; omega
    refine .cons ?_ (lex_wt r h0)
    rw [List.length_cons] at h
    have hn : n ≤ 4000 := by omega
    have w1 := (K1.run_le K1.isWord 19 r0).1
    have w2 := (K1.run_le K1.isDigit 3 r0).1
    unfold K1.tok1 at h1
    dsimp only at h1
    split at h1
    · cases h1
      exact ⟨(nofun : K1.Kind.name ≠ .fin), h2, Nat.le_trans (List.length_take_le _ _) (by unfold K1.wordLen; omega), hn, nofun⟩
    split at h1
    · cases h1
      exact ⟨(nofun : K1.Kind.var ≠ .fin), h2, Nat.le_trans (List.length_take_le _ _) (by unfold K1.wordLen; omega), hn, nofun⟩
    split at h1
    · rename_i hd
      cases h1
      refine ⟨(nofun : K1.Kind.int ≠ .fin), h2, Nat.le_trans (List.length_take_le _ _) (by unfold K1.intLen; split <;> omega), hn, fun _ => ?_⟩
      rw [List.all_eq_true]
      intro x hx
      unfold K1.intLen at hx
      split at hx
      · rename_i hc
        simp [hc] at hx; rw [hx]; decide
      · rw [Nat.add_comm, List.take_succ_cons] at hx
        rcases List.mem_cons.mp hx with e | hx
        · rw [e]; exact hd
        · exact run_all K1.isDigit 3 r0 x hx
    · obtain ⟨g, hg, e⟩ := Option.map_eq_some_iff.mp h1
      cases e
      have hs : t ∈ K1.sigs := List.mem_of_find?_eq_some hg
      exact ⟨(nofun : K1.Kind.sign ≠ .fin), h2, Nat.le_trans (sigs_len t hs) (by decide), hn, nofun⟩
/-- all that is not volatile is kept, tables too -/
structure Kz (L : Vol) (H H' : Hp) : Prop where
  keep : ∀ (b : Addr) (o : HO) (_ : ¬ L b) (_ : H b = some o), H' b = some o
  alive : ∀ (b : Addr) (o : HO), H b = some o → ∃ u, H' b = some u
instance {L : Vol} {H H' : Hp} : CoeFun (Kz L H H') fun _ => ∀ (b : Addr) (o : HO) (_ : ¬ L b) (_ : H b = some o), H' b = some o := ⟨@Kz.keep L H H'⟩
theorem Kz.kx {L : Vol} {H H' : Hp} (k : Kz L H H') : LC.Kx L H H' := ⟨fun b o n e _ => k.keep b o n e, k.alive⟩
theorem Kz.refl {L : Vol} (H : Hp) : Kz L H H := ⟨fun _ _ _ h => h, fun _ o h => ⟨o, h⟩⟩
theorem Kz.trans {L : Vol} {A B C : Hp} (h : Kz L A B) (h' : Kz L B C) : Kz L A C := ⟨fun b o n e => h'.keep b o n (h.keep b o n e), fun b o e => by
  obtain ⟨u, e⟩ := h.alive b o e
  exact h'.alive b u e⟩
theorem Kz.mono {L L' : Vol} {A B : Hp} (h : Kz L A B) (i : ∀ b, L b → L' b) : Kz L' A B := ⟨fun b o n e => h.keep b o (fun z => n (i b z)) e, h.alive⟩
theorem Kz.of {L : Vol} {A B : Hp} (h : Same A B) : Kz L A B := ⟨fun b o _ e => h b o e, fun b o e => ⟨o, h b o e⟩⟩
theorem Kz.new {L : Vol} {H : Hp} {p : Addr} {o : HO} (h : H p = none) : Kz L H (upd H p o) := ⟨fun b u _ e => by rw [upd_ne (ne_of_none e h)]; exact e, fun _ _ e => alive_upd e⟩
theorem Kz.put {L : Vol} {H : Hp} {p : Addr} {o : HO} (h : L p) : Kz L H (upd H p o) := ⟨fun b u n e => by rw [upd_ne (fun z => n (by rw [z]; exact h))]; exact e, fun _ _ e => alive_upd e⟩
theorem Kz.none {L : Vol} {H H' : Hp} {p : Addr} (k : Kz L H H') (h : H' p = none) : H p = none := k.kx.none h
/-- what is new may change -/
theorem Kz.same {L : Vol} {H0 H H' : Hp} (k : Kz L H H') (s : Same H0 H) (n : ∀ b, L b → H0 b = Option.none) : Same H0 H' := fun b o e => k.keep b o (fun z => by rw [n b z] at e; cases e) (s b o e)
theorem _root_.SU.DM.kz {M : Vol} {A B : Hp} {d : PyData} {v : V} (h : DM M A v d) (k : Kz M A B) : DM M B v d := h.kx k.kx
theorem _root_.SU.DMs.kz {M : Vol} {A B : Hp} {d : List PyData} {v : List V} (h : DMs M A v d) (k : Kz M A B) : DMs M B v d := h.kx k.kx
/-! volatile: one object -/
def one (a : Addr) : Vol := fun b => b = a
def flds (l : Addr) (p m : Nat) : List (Str × V) := [("listed", .ref l), ("place", .int p), ("most_terms", .int m)]
theorem k1 : ¬ (("listed" : Str) = "place") := by decide +kernel
theorem k2 : ¬ (("listed" : Str) = "most_terms") := by decide +kernel
theorem k3 : ¬ (("place" : Str) = "most_terms") := by decide +kernel
theorem look_listed (l : Addr) (p m : Nat) : (flds l p m).lookup ("listed" : Str) = some (.ref l) := by unfold flds; rw [List.lookup_cons_self]
theorem look_place (l : Addr) (p m : Nat) : (flds l p m).lookup ("place" : Str) = some (.int p) := by
  unfold flds
  rw [List.lookup_cons, show (("place" : Str) == "listed") = false by rw [beq_eq_false_iff_ne]; exact Ne.symm k1, List.lookup_cons_self]
theorem look_most (l : Addr) (p m : Nat) : (flds l p m).lookup ("most_terms" : Str) = some (.int m) := by
  unfold flds
  rw [List.lookup_cons, show (("most_terms" : Str) == "listed") = false by rw [beq_eq_false_iff_ne]; exact Ne.symm k2, List.lookup_cons, show (("most_terms" : Str) == "place") = false by rw [beq_eq_false_iff_ne]; exact Ne.symm k3, List.lookup_cons_self]
theorem look_no {l : Addr} {p m : Nat} {x : Str} (h : (decide (x = "listed") || (decide (x = "place") || decide (x = "most_terms"))) = false) : (flds l p m).lookup x = none := by
  simp only [Bool.or_eq_false_iff, decide_eq_false_iff_not] at h
  unfold flds
  rw [List.lookup_cons, show (x == ("listed" : Str)) = false by rw [beq_eq_false_iff_ne]; exact h.1, List.lookup_cons, show (x == ("place" : Str)) = false by rw [beq_eq_false_iff_ne]; exact h.2.1, List.lookup_cons, show (x == ("most_terms" : Str)) = false by rw [beq_eq_false_iff_ne]; exact h.2.2]
  rfl
theorem put_place (l : Addr) (p m q : Nat) : putF "place" (.int (q : Nat)) (flds l p m) = flds l q m := by
  unfold flds
  show (if ("listed" : Str) = "place" then _ else (("listed" : Str), V.ref l) :: (if ("place" : Str) = "place" then (("place" : Str), V.int q) :: [(("most_terms" : Str), V.int m)] else _)) = _
  rw [if_neg k1, if_pos rfl]
theorem put_most (l : Addr) (p m q : Nat) : putF "most_terms" (.int (q : Nat)) (flds l p m) = flds l p q := by
  unfold flds
  show (if ("listed" : Str) = "most_terms" then _ else (("listed" : Str), V.ref l) :: (if ("place" : Str) = "most_terms" then _ else (("place" : Str), V.int p) :: (if ("most_terms" : Str) = "most_terms" then [(("most_terms" : Str), V.int q)] else _))) = _
  rw [if_neg k2, if_neg k3, if_pos rfl]
/-- the parser at a, its tokens' list at l -/
structure PAt (C : Addr) (H : Hp) (a l : Addr) (n : Nat) (s : PS) : Prop where
  ex : ∃ dx p tvs toks, H a = some (.ins C dx (flds l p s.m)) ∧ H l = some (.lst tvs) ∧ ToksAt H tvs toks ∧ toks.length = n ∧ toks.drop p = s.r
  wt : Wt s.r
  le : n ≤ 4001
section
variable {C a l : Addr} {n : Nat} {s : PS} {H H' : Hp} {K : PySem.W.Frag} {L : Vol}
theorem toks_kx {xs : List V} {ts : List Tk} (h : ToksAt H xs ts) (k : Kz L H H') (hL : ∀ b ys, L b → H b ≠ some (.tup ys)) : ToksAt H' xs ts := Paired.mapP h fun _ _ ⟨b, e, z⟩ => ⟨b, e, k b _ (fun q => hL b _ q z) z⟩
/-- what is written is another list -/
theorem PAt.kx (P : PAt C H a l n s) (k : Kz L H H') (h1 : ¬ L a) (h2 : ¬ L l) (hL : ∀ b ys, L b → H b ≠ some (.tup ys)) : PAt C H' a l n s := by
  obtain ⟨dx, p, tvs, toks, e1, e2, e3, e4, e5⟩ := P.ex
  exact ⟨⟨dx, p, tvs, toks, k a _ h1 e1, k l _ h2 e2, toks_kx e3 k hL, e4, e5⟩, P.wt, P.le⟩
theorem PAt.same (P : PAt C H a l n s) (k : Same H H') : PAt C H' a l n s := P.kx (L := fun _ => False) (Kz.of k) id id (fun _ _ z => z.elim)
theorem PAt.ne (P : PAt C H a l n s) : a ≠ l := by
  obtain ⟨dx, p, tvs, toks, e1, e2, _⟩ := P.ex
  exact ne_of e1 e2 (fun z => nomatch z)
/-- a list that is not the parser's own is written -/
theorem PAt.put {D : Addr} {ys : List V} {o : HO} (P : PAt C H a l n s) (e : H D = some (.lst ys)) (h : D ≠ l) : PAt C (upd H D o) a l n s := by
  obtain ⟨dx, p, tvs, toks, e1, _⟩ := id P.ex
  refine P.kx (L := one D) (Kz.put rfl) (fun z => ?_) (fun z => h z.symm) (fun b zs z q => ?_)
  · rw [← show a = D from z, e1] at e; cases e
  · rw [show b = D from z, e] at q; cases q
theorem PAt.alive (P : PAt C H a l n s) : (∃ o, H a = some o) ∧ ∃ o, H l = some o := by
  obtain ⟨dx, p, tvs, toks, e1, e2, _⟩ := P.ex
  exact ⟨⟨_, e1⟩, _, e2⟩
/-- the token that stands here -/
theorem PAt.tok (P : PAt C H a l n s) : ∃ dx p tvs b, H a = some (.ins C dx (flds l p s.m)) ∧ H l = some (.lst tvs) ∧ tvs[p]? = some (.ref b) ∧ H b = some (.tup [.str (K1.kStr s.k), .str (S s.x), .int (s.at : Nat)]) ∧ p + s.r.length = n := by
  obtain ⟨dx, p, tvs, toks, e1, e2, e3, e4, e5⟩ := P.ex
  have hw := P.wt
  obtain ⟨r, m⟩ := s
  cases r with
  | nil => exact absurd rfl hw.ne
  | cons t r =>
    have hp : toks[p]? = some t := by
      have : (toks.drop p)[0]? = some t := by rw [e5]; rfl
      rwa [List.getElem?_drop, Nat.add_zero] at this
    obtain ⟨v, hv, b, rfl, hb⟩ := pair_at e3 hp
    refine ⟨dx, p, tvs, b, e1, e2, hv, hb, ?_⟩
    have : (toks.drop p).length = (t :: r).length := by rw [e5]
    have hlt := (List.getElem?_eq_some_iff.mp hp).1
    rw [List.length_drop] at this
    show p + (t :: r).length = n
    omega
theorem int_at (p : Nat) {tvs : List V} {v : V} (h : tvs[p]? = some v) : atI tvs (p : Int) = some v := atI_nat h
/-- the object, for a call of its methods -/
theorem PAt.ob (P : PAt C H a l n s) : ∃ dx fs, H a = some (.ins C dx fs) ∧ ∀ {m : Str}, (decide (m = "listed") || (decide (m = "place") || decide (m = "most_terms"))) = false → fs.lookup m = none := by
  obtain ⟨dx, p, tvs, toks, e1, _⟩ := P.ex
  exact ⟨dx, _, e1, fun h => look_no h⟩
/-- one token on -/
theorem PAt.adv {i : Nat} {σ : L2.St} {D : Ends} (cl : Cls K C) (n2 : NoAttr K C "place") (P : PAt C H a l n s) (h0 : σ[i]? = some (some (.ref a))) (hk : s.k ≠ .fin)
    (q : ∀ H', Kz (one a) H H' → PAt C H' a l n s.nx → D.nx σ H') : sFldAug K (tVar i) (tC (.int 1)) rAdd "place" D σ H := by
  obtain ⟨dx, p, tvs, toks, e1, e2, e3, e4, e5⟩ := id P.ex
  refine ⟨_, h0, a, C, dx, _, _, rfl, e1, cl, n2, look_place _ _ _, _, _, rfl, rfl, dx, _, e1, (by decide : 3 < 1000), ?_⟩
  have eq : putF "place" (V.int ((p : Int) + 1)) (flds l p s.m) = flds l (p + 1) s.m := put_place l p s.m (p + 1)
  rw [eq]
  have hal : l ≠ a := P.ne.symm
  refine q _ (Kz.put rfl) ⟨⟨dx, p + 1, tvs, toks, upd_same, by rw [upd_ne hal]; exact e2, toks_kx e3 (L := one a) (Kz.put rfl) (fun b ys z q => ?_), e4, ?_⟩, ?_, P.le⟩
  · rw [show b = a from z, e1] at q; cases q
  · show toks.drop (p + 1) = s.r.tail
    rw [← e5, List.tail_drop]
  · have hw := P.wt
    obtain ⟨r, m⟩ := s
    show Wt r.tail
    cases hw with
    | fin => exact absurd rfl hk
    | cons _ h => exact h
end
theorem wt_x {s : PS} (h : Wt s.r) {x : List Nat} (hx : x ≠ []) (e : s.x = x) : s.k ≠ .fin := by
  obtain ⟨r, m⟩ := s
  cases h with
  | fin => exact absurd e.symm hx
  | cons h _ => exact h.nf
theorem wt_tk {s : PS} (h : Wt s.r) (hk : s.k ≠ .fin) : TkOk (s.k, s.x, s.at) := by
  obtain ⟨r, m⟩ := s
  cases h with
  | fin => exact absurd rfl hk
  | cons h _ => exact h
theorem wt_at {s : PS} (h : Wt s.r) : s.at ≤ 4000 ∧ s.x.length ≤ 20 := by
  obtain ⟨r, m⟩ := s
  cases h with
  | fin h => exact ⟨h, by show 0 ≤ 20; omega⟩
  | cons h _ => exact ⟨h.ps, h.ln⟩
/-! promises -/
def Alv (M : Vol) (H : Hp) : Prop := ∀ b, M b → ∃ o, H b = some o
theorem Alv.fresh {M : Vol} {H : Hp} (h : Alv M H) {p : Addr} (hp : H p = none) : ¬ M p := fun z => by
  obtain ⟨o, e⟩ := h p z; rw [hp] at e; cases e
theorem Alv.kx {M L : Vol} {H H' : Hp} (h : Alv M H) (k : Kz L H H') : Alv M H' := fun b z => by
  obtain ⟨o, e⟩ := h b z; exact k.alive b o e
theorem Alv.new {M : Vol} {H : Hp} (h : Alv M H) {p : Addr} {o : HO} : Alv M (upd H p o) := fun b z => by
  obtain ⟨u, e⟩ := h b z; exact alive_upd e
theorem Alv.add {M : Vol} {H : Hp} (h : Alv M H) {p : Addr} {o : HO} (e : H p = some o) : Alv (addV M p) H := fun b z => z.elim (h b) fun z => ⟨o, by rw [z]; exact e⟩
/-- a new value: for all that stood before, it lies apart from it -/
def Nw (H H' : Hp) (v : V) (d : PyData) : Prop := ∀ M, Alv M H → DM M H' v d
theorem Nw.str {H H' : Hp} (x : Str) : Nw H H' (.str x) (.str x) := fun _ _ => .str x
/-- what a method of the parser answers -/
def Out {α : Type} (C CT a l : Addr) (n : Nat) (H : Hp) (rel : Hp → V → α → Prop) (Q : VK) (E : XK) : Rs α → Prop
  | .ok x s' => ∀ v H', Kz (one a) H H' → PAt C H' a l n s' → rel H' v x → Q v H'
  | .er k => ∀ d H', Kz (one a) H H' → H' d = none → E (.ref CT) (some d) (upd H' d (.xd [("at", .int k)]))
/-- a method that reads -/
def spP {α : Type} (C CT : Addr) (f : Pr α) (rel : Hp → Hp → V → α → Prop) : Sp := fun vs H Q E => ∃ (a l : Addr) (n : Nat) (s : PS) (res : Rs α), vs = [.ref a] ∧ PAt C H a l n s ∧ f s = some res ∧ Out C CT a l n H (rel H) Q E res
/-- a method that asks -/
def spA (C : Addr) (f : PS → V) : Sp := fun vs H Q _ => ∃ (a l : Addr) (n : Nat) (s : PS), vs = [.ref a] ∧ PAt C H a l n s ∧ Q (f s) H
def spFail (C CT : Addr) : Sp := fun vs H _ E => ∃ (a l : Addr) (n : Nat) (s : PS), vs = [.ref a] ∧ PAt C H a l n s ∧ ∀ d, H d = none → E (.ref CT) (some d) (upd H d (.xd [("at", .int (s.at : Nat))]))
def spSkip (C CT : Addr) : Sp := fun vs H Q E => ∃ (a l : Addr) (n : Nat) (s : PS) (x : List Nat) (res : Rs Unit), vs = [.ref a, .str (S x)] ∧ x ≠ [] ∧ PAt C H a l n s ∧ skipM x s = some res ∧ Out C CT a l n H (fun _ _ _ => True) Q E res
def spPassed (C : Addr) : Sp := fun vs H Q _ => ∃ (a l : Addr) (n : Nat) (s : PS) (x : List Nat), vs = [.ref a, .str (S x)] ∧ x ≠ [] ∧ PAt C H a l n s ∧ (s.x ≠ x → Q (.bl false) H) ∧ (s.x = x → ∀ H', Kz (one a) H H' → PAt C H' a l n s.nx → Q (.bl true) H')
def spOne (K : PySem.W.Frag) (C CT : Addr) : Sp := fun vs H Q E => ∃ (a l b : Addr) (n : Nat) (s : PS) (xs : List (List Nat)) (res : Rs (List Nat)), vs = [.ref a, .ref b] ∧ (∀ x ∈ xs, x ≠ []) ∧ SqT K H b (xs.map fun x => V.str (S x)) ∧ PAt C H a l n s ∧ oneM xs s = some res ∧ Out C CT a l n H (fun _ v x => v = .str (S x)) Q E res
theorem S_inj {x y : List Nat} (h : S x = S y) : x = y := by rw [← cl_S x, ← cl_S y, h]
theorem S_eq (x y : List Nat) : decide (V.str (S x) = V.str (S y)) = decide (x = y) := by
  by_cases h : x = y
  · rw [h, decide_eq_true rfl, decide_eq_true rfl]
  · rw [decide_eq_false (fun z => h (S_inj (V.str.inj z))), decide_eq_false h]
theorem kS_eq (a b : Kd) : decide (V.str (K1.kStr a) = V.str (K1.kStr b)) = decide (a = b) := by
  cases a <;> cases b <;> decide +kernel
theorem inV_S (x : List Nat) : ∀ xs : List (List Nat), inV (.str (S x)) (xs.map fun y => V.str (S y)) = decide (x ∈ xs)
  | [] => by simp [inV]
  | y :: r => by
    have ih := inV_S x r
    show ((S y == S x) || inV (.str (S x)) (r.map fun y => V.str (S y))) = _
    rw [ih, S_beq]
    by_cases h : x = y
    · subst h; simp
    · have : (y == x) = false := by rw [beq_eq_false_iff_ne]; exact Ne.symm h
      rw [this, Bool.false_or]
      by_cases h2 : x ∈ r
      · rw [decide_eq_true h2, decide_eq_true (List.mem_cons_of_mem _ h2)]
      · rw [decide_eq_false h2, decide_eq_false (fun z => (List.mem_cons.mp z).elim h h2)]
theorem kx_new {L : Vol} {H H1 : Hp} {p : Addr} {o : HO} (k : Kz L H H1) (h : H1 p = none) : Kz L H (upd H1 p o) := k.trans (Kz.new h)
/-- a list that is new since H is written -/
theorem kx_put {L : Vol} {H H1 : Hp} {D : Addr} {o : HO} (k : Kz L H H1) (h : H D = none) : Kz L H (upd H1 D o) := ⟨fun b u n e => by rw [upd_ne (ne_of_none e h)]; exact k.keep b u n e, fun b u e => by
  obtain ⟨v, e⟩ := k.alive b u e
  exact alive_upd e⟩
end PX
set_option Elab.async false
set_option linter.all false
set_option maxRecDepth 100000
set_option maxHeartbeats 4000000
namespace PX
open PySem L2 C8 SX LC LR LG SU PM PySem.Spec PyProof.Rows GX
/-! new data, written signs, items read one after the other -/
theorem sL : Str.ofString "(" = S gL := by decide +kernel
theorem sR : Str.ofString ")" = S gR := by decide +kernel
theorem sBL : Str.ofString "{" = S gBL := by decide +kernel
theorem sBR : Str.ofString "}" = S gBR := by decide +kernel
theorem sComma : Str.ofString "," = S gComma := by decide +kernel
theorem sSemi : Str.ofString ";" = S gSemi := by decide +kernel
theorem sColon : Str.ofString ":" = S gColon := by decide +kernel
theorem sIf : Str.ofString ":-" = S gIf := by decide +kernel
theorem sDot : Str.ofString "." = S gDot := by decide +kernel
theorem sMul : Str.ofString "*" = S gMul := by decide +kernel
theorem sAdd : Str.ofString "+" = S gAdd := by decide +kernel
theorem sSub : Str.ofString "-" = S gSub := by decide +kernel
theorem sNot : Str.ofString "not" = S wNot := by decide +kernel
theorem sSum : Str.ofString "sum" = S wSum := by decide +kernel
theorem sMin : Str.ofString "minimize" = S wMin := by decide +kernel
theorem sRange : Str.ofString "range" = S wRange := by decide +kernel
theorem ar2 {a : Addr} {x y : Str} (h : x = y) : [V.ref a, V.str x] = [V.ref a, V.str y] := by rw [h]
theorem kS_t {a b : Kd} (h : decide (V.str (K1.kStr a) = V.str (K1.kStr b)) = true) : a = b := by rw [kS_eq, decide_eq_true_eq] at h; exact h
theorem kS_f {a b : Kd} (h : ¬ decide (V.str (K1.kStr a) = V.str (K1.kStr b)) = true) : a ≠ b := by rw [kS_eq, decide_eq_true_eq] at h; exact h
theorem kS_nt {a b : Kd} (h : (!decide (V.str (K1.kStr a) = V.str (K1.kStr b))) = true) : a ≠ b := by rw [kS_eq, Bool.not_eq_true', decide_eq_false_iff_not] at h; exact h
theorem kS_nf {a b : Kd} (h : ¬ (!decide (V.str (K1.kStr a) = V.str (K1.kStr b))) = true) : a = b := by rw [kS_eq, Bool.not_eq_true', decide_eq_false_iff_not, Decidable.not_not] at h; exact h
theorem S_t {x y : List Nat} {z : Str} (e : z = S y) (h : decide (V.str (S x) = V.str z) = true) : x = y := by rw [e, S_eq, decide_eq_true_eq] at h; exact h
theorem S_f {x y : List Nat} {z : Str} (e : z = S y) (h : ¬ decide (V.str (S x) = V.str z) = true) : x ≠ y := by rw [e, S_eq, decide_eq_true_eq] at h; exact h
theorem S_nt {x y : List Nat} {z : Str} (e : z = S y) (h : (!decide (V.str (S x) = V.str z)) = true) : x ≠ y := by rw [e, S_eq, Bool.not_eq_true', decide_eq_false_iff_not] at h; exact h
theorem S_nf {x y : List Nat} {z : Str} (e : z = S y) (h : ¬ (!decide (V.str (S x) = V.str z)) = true) : x = y := by rw [e, S_eq, Bool.not_eq_true', decide_eq_false_iff_not, Decidable.not_not] at h; exact h
section
variable {H H1 H2 : Hp} {v : V} {d : PyData} {a p D : Addr} {L : Vol} {xs ys : List V} {ds : List PyData}
theorem Nw.kx (h : Nw H H1 v d) (k : Kz (one a) H1 H2) (e : ∃ o, H a = some o) : Nw H H2 v d := fun M hM => by
  obtain ⟨o, e⟩ := e
  exact ((h (addV M a) (hM.add e)).kz (k.mono fun b z => .inr z)).anti fun b z => .inl z
theorem Nw.same (h : Nw H H1 v d) (s : Same H1 H2) : Nw H H2 v d := fun M hM => (h M hM).same s
/-- later made, so also apart from what stood earlier -/
theorem Nw.early (h : Nw H1 H2 v d) (k : Kz L H H1) : Nw H H2 v d := fun M hM => h M (hM.kx k)
theorem Nw.tup (k : Kz L H H1) (hp : H1 p = none) (h : ∀ M, Alv M H → DMs M H1 xs ds) : Nw H (upd H1 p (.tup xs)) (.ref p) (.tuple ds) := fun M hM => .tup ((hM.kx k).fresh hp) upd_same ((h M hM).kz (Kz.new hp))
theorem Nw.lst (k : Kz L H H1) (hp : H1 p = none) (h : ∀ M, Alv M H → DMs M H1 xs ds) : Nw H (upd H1 p (.lst xs)) (.ref p) (.list ds) := fun M hM => .lst ((hM.kx k).fresh hp) upd_same ((h M hM).kz (Kz.new hp))
/-- a list that is made item by item -/
structure Mk1 {α : Type} (dat : α → PyData) (H H' : Hp) (D : Addr) (xs : List α) : Prop where
  f : H D = none
  ex : ∃ ys, H' D = some (.lst ys) ∧ ys.length = xs.length ∧ ∀ M, Alv M H → DMs (addV M D) H' ys (xs.map dat)
theorem Mk1.nil {α : Type} {dat : α → PyData} (k : Kz L H H1) (h : H1 D = none) : Mk1 dat H (upd H1 D (.lst [])) D [] := ⟨k.none h, [], upd_same, rfl, fun _ _ => .nil⟩
theorem Mk1.kx {α : Type} {dat : α → PyData} {xs : List α} (h : Mk1 dat H H1 D xs) (k : Kz (one a) H1 H2) (e : ∃ o, H a = some o) : Mk1 dat H H2 D xs := by
  obtain ⟨o, e⟩ := e
  obtain ⟨ys, h1, h2, h3⟩ := h.ex
  have ne : D ≠ a := (ne_of_none e h.f).symm
  exact ⟨h.f, ys, k D _ ne h1, h2, fun M hM => ((h3 (addV M a) (hM.add e)).kz (k.mono fun b z => .inl (.inr z))).anti fun b z => z.elim (fun z => .inl (.inl z)) .inr⟩
theorem Mk1.same {α : Type} {dat : α → PyData} {xs : List α} (h : Mk1 dat H H1 D xs) (k : Same H1 H2) : Mk1 dat H H2 D xs := by
  obtain ⟨ys, h1, h2, h3⟩ := h.ex
  exact ⟨h.f, ys, k _ _ h1, h2, fun M hM => (h3 M hM).same k⟩
theorem alv_D {M : Vol} {α : Type} {dat : α → PyData} {xs : List α} (h : Mk1 dat H H1 D xs) (k : Kz L H H1) (hM : Alv M H) : Alv (addV M D) H1 := by
  obtain ⟨ys, h1, _⟩ := h.ex
  exact (hM.kx k).add h1
theorem Mk1.snoc {α : Type} {dat : α → PyData} {xs : List α} {x : α} (h : Mk1 dat H H2 D xs) (hv : ∀ M, Alv M H → DM (addV M D) H2 v (dat x)) : ∃ ys, H2 D = some (.lst ys) ∧ ys.length = xs.length ∧ Mk1 dat H (upd H2 D (.lst (ys ++ [v]))) D (xs ++ [x]) := by
  obtain ⟨ys, h1, h2, h3⟩ := h.ex
  refine ⟨ys, h1, h2, h.f, ys ++ [v], upd_same, by rw [List.length_append, List.length_append, h2]; rfl, fun M hM => ?_⟩
  rw [List.map_append]
  exact (dms_snoc (h3 M hM) (hv M hM)).kz (Kz.put (.inr rfl))
theorem Mk1.nw {α : Type} {dat : α → PyData} {xs : List α} (h : Mk1 dat H H1 D xs) : Nw H H1 (.ref D) (.list (xs.map dat)) := fun M hM => by
  obtain ⟨ys, h1, h2, h3⟩ := h.ex
  exact .lst (hM.fresh h.f) h1 ((h3 M hM).anti fun b z => .inl z)
end
/-- the value of an integer or None -/
def oI : Option Int → V
  | none => .non
  | some i => .int i
theorem Nw.oI {H H' : Hp} : ∀ (o : Option Int), Nw H H' (oI o) (oD o)
  | none => fun _ _ => .non
  | some i => fun _ _ => .int i
theorem iteT' {b : Bool} {p q : Prop} (h : b = true) (k : p) : if b = true then p else q := by rw [if_pos h]; exact k
theorem iteF' {b : Bool} {p q : Prop} (h : b = false) (k : q) : if b = true then p else q := by rw [h]; exact k
end PX
set_option Elab.async false
set_option linter.all false
set_option maxRecDepth 100000
set_option maxHeartbeats 4000000
namespace PX
open PySem L2 C8 SX LC LR LG SU PM PySem.Spec PyProof.Rows GX
/-! items, one after the other, into a list -/
section
variable {α : Type} {dat : α → PyData} {C CT a l D : Addr} {n nn j : Nat} {K : PySem.W.Frag} {sep : List Nat} {z : Str} {item : Pr α} {H H1 : Hp} {σ : L2.St} {ti : TE} {E : XK} {Dn : Ends} {acc : List α} {s : PM.PS}
/-- what a call of the item's method asks, at the slots σ -/
def ItemOk (C CT a l : Addr) (n : Nat) (E : XK) (σ : L2.St) (item : Pr α) (dat : α → PyData) (ti : TE) : Prop :=
  ∀ (H2 : Hp) (s2 : PM.PS) (r2 : Rs α) (Qk : VK), PAt C H2 a l n s2 → item s2 = some r2 → Out C CT a l n H2 (fun H' v x => Nw H2 H' v (dat x)) Qk E r2 → ti σ H2 Qk
theorem rd_one (it : ItemOk C CT a l n E σ item dat ti) (hj : σ[j]? = some (some (.ref D))) (k1 : Kz (one a) H H1) (hl : ∃ o, H l = some o) (ha : ∃ o, H a = some o) (W1 : PAt C H1 a l n s) (mk : Mk1 dat H H1 D acc) (hlen : acc.length ≤ 4001) {r1 : Rs α} (e : item s = some r1)
    (herr : ∀ k dd H2, r1 = .er k → Kz (one a) H H2 → H2 dd = none → E (.ref CT) (some dd) (upd H2 dd (.xd [("at", .int (k : Nat))])))
    (hok : ∀ x s2 H2, r1 = .ok x s2 → Kz (one a) H H2 → PAt C H2 a l n s2 → Mk1 dat H H2 D (acc ++ [x]) → Dn.nx σ H2) : tDrop (tBM K "list" rAppend (tVar j) (tCons ti tNil)) Dn σ H1 := by
  obtain ⟨ys, ey, ly, _⟩ := id mk.ex
  refine ⟨_, hj, .inl ⟨rfl, _, SqL.of ey⟩, ?_⟩
  refine it H1 s r1 _ W1 e ?_
  cases r1 with
  | er k => exact fun dd H2 k2 hd => herr k dd H2 rfl (k1.trans k2) hd
  | ok x s2 =>
    intro v H2 k2 W2 hv
    have mk2 := mk.kx k2 ha
    obtain ⟨ys2, e2, l2, m2⟩ := mk2.snoc (v := v) (x := x) fun M hM => hv (addV M D) (alv_D mk k1 hM)
    obtain ⟨o, eo⟩ := hl
    exact ⟨D, ys2, v, rfl, rfl, e2, Nat.lt_of_le_of_lt (show ys2.length ≤ 4001 by omega) (by decide), hok x s2 _ rfl (kx_put (k1.trans k2) mk.f) (W2.put e2 ((ne_of_none eo mk.f).symm)) m2⟩
theorem rd_many {y : Str} (hz : z = S sep) (hne : sep ≠ []) (sh : Shr item) (it : ItemOk C CT a l n E σ item dat ti) (h0 : σ[0]? = some (some (.ref a))) (hj : σ[j]? = some (some (.ref D))) (k1 : Kz (one a) H H1) (hl : ∃ o, H l = some o) (ha : ∃ o, H a = some o) (W1 : PAt C H1 a l n s) (mk : Mk1 dat H H1 D acc)
    (hlen : acc.length + s.r.length ≤ 4001) {r0 : Rs (List α)} (e : manyM sep item nn acc s = some r0) (hy : (decide (y = "listed") || (decide (y = "place") || decide (y = "most_terms"))) = false)
    (herr : ∀ k dd H2, r0 = .er k → Kz (one a) H H2 → H2 dd = none → E (.ref CT) (some dd) (upd H2 dd (.xd [("at", .int (k : Nat))])))
    (hok : ∀ xs s2 H2, r0 = .ok xs s2 → Kz (one a) H H2 → PAt C H2 a l n s2 → Mk1 dat H H2 D xs → xs.length ≤ 4001 → Dn.nx σ H2) :
    tWhile (tB (tMeth C y (spPassed C) [] C8.E0 (tVar 0) (tCons (tC (.str z)) tNil))) (tDrop (tBM K "list" rAppend (tVar j) (tCons ti tNil))) Dn σ H1 := by
  refine ⟨fun m σ' H' => ∃ (acc : List α) (s : PM.PS), σ' = σ ∧ Kz (one a) H H' ∧ PAt C H' a l n s ∧ Mk1 dat H H' D acc ∧ acc.length + s.r.length ≤ 4001 ∧ manyM sep item m acc s = some r0, ⟨nn, acc, s, rfl, k1, W1, mk, hlen, e⟩, ?_⟩
  rintro m σ' H2 ⟨acc, s, e0, k2, W2, mk, hlen, e⟩
  subst e0
  cases m with
  | zero => cases e
  | succ m =>
    unfold manyM at e
    obtain ⟨dx, fs, eo, no⟩ := W2.ob
    refine ⟨_, h0, a, dx, _, rfl, eo, no hy, a, l, n, s, sep, ar2 hz, hne, W2, fun h3 => ⟨_, rfl, iteF' rfl ?_⟩, fun h3 H3 k3 W3 => ⟨_, rfl, iteT' rfl ?_⟩⟩
    · rw [if_neg h3] at e
      exact hok _ _ _ (Option.some.inj e).symm k2 W2 mk (by omega)
    · rw [if_pos h3] at e
      have hr : 0 < s.r.length := List.length_pos_iff.mpr W2.wt.ne
      have hn : s.nx.r.length + 1 = s.r.length := by show s.r.tail.length + 1 = _; rw [List.length_tail]; omega
      refine ⟨_, fun _ _ z => z, ?_⟩
      rcases bind_some e with ⟨k, e3, rfl⟩ | ⟨x, s4, e3, e⟩
      · exact rd_one it hj (k2.trans k3) hl ha W3 (mk.kx k3 ha) (by omega) e3 (fun k' dd H4 e4 k4 hd => by cases e4; exact herr k dd H4 rfl k4 hd) (fun x s2 H4 z => nomatch z)
      · refine rd_one it hj (k2.trans k3) hl ha W3 (mk.kx k3 ha) (by omega) e3 (fun k' dd H4 z => nomatch z) (fun x' s2 H4 z k4 W4 mk4 => ?_)
        cases z
        have := sh _ _ _ e3
        exact ⟨m, Nat.lt_succ_self m, _, _, rfl, k4, W4, mk4, by rw [List.length_append, List.length_singleton]; omega, e⟩
end
section
variable {M : Vol} {H : Hp} {D : Addr}
mutual
/-- apart from what does not stand yet -/
theorem DM.off (h0 : H D = none) : ∀ {d : PyData} {v : V}, DM M H v d → DM (addV M D) H v d
  | .none, _, h => by cases h; exact .non
  | .bool b, _, h => by cases h
  | .int i, _, h => by cases h; exact .int i
  | .str x, _, h => by cases h; exact .str x
  | .list ds, _, h => by
    cases h with
    | lst g0 g1 g2 => exact .lst (fun z => z.elim g0 fun z => by rw [z, h0] at g1; cases g1) g1 (DMs.off h0 g2)
  | .tuple ds, _, h => by
    cases h with
    | tup g0 g1 g2 => exact .tup (fun z => z.elim g0 fun z => by rw [z, h0] at g1; cases g1) g1 (DMs.off h0 g2)
  | .dict kvs, _, h => by cases h
theorem DMs.off (h0 : H D = none) : ∀ {ds : List PyData} {vs : List V}, DMs M H vs ds → DMs (addV M D) H vs ds
  | [], _, h => by cases h; exact .nil
  | d :: ds, _, h => by
    cases h with
    | cons h1 h2 => exact .cons (DM.off h0 h1) (DMs.off h0 h2)
end
end
theorem Mk1.one {α : Type} {dat : α → PyData} {L : Vol} {H H2 : Hp} {D : Addr} {v : V} {x : α} (k : Kz L H H2) (hD : H2 D = none) (hv : Nw H H2 v (dat x)) : Mk1 dat H (upd H2 D (.lst [v])) D [x] :=
  ⟨k.none hD, [v], upd_same, rfl, fun M hM => .cons ((DM.off hD (hv M hM)).kz (Kz.new hD)) .nil⟩
section
variable {C a l : Addr} {n : Nat} {s : PM.PS} {H : Hp}
theorem PAt.most (P : PAt C H a l n s) : ∃ dx fs, H a = some (.ins C dx fs) ∧ fs.lookup ("most_terms" : Str) = some (.int s.m) ∧ fs.length < 1000 ∧ ∀ q : Nat, PAt C (upd H a (.ins C dx (putF "most_terms" (.int q) fs))) a l n ⟨s.r, q⟩ := by
  obtain ⟨dx, p, tvs, toks, e1, e2, e3, e4, e5⟩ := id P.ex
  refine ⟨dx, _, e1, look_most _ _ _, (by decide : 3 < 1000), fun q => ⟨⟨dx, p, tvs, toks, ?_, ?_, toks_kx e3 (L := PX.one a) (Kz.put rfl) (fun b ys z w => by rw [show b = a from z, e1] at w; cases w), e4, e5⟩, P.wt, P.le⟩⟩
  · rw [upd_same, put_most]
  · rw [upd_ne P.ne.symm]; exact e2
/-- the token behind -/
theorem PAt.tok2 (P : PAt C H a l n s) (hk : s.k ≠ .fin) : ∃ dx p tvs b, H a = some (.ins C dx (flds l p s.m)) ∧ H l = some (.lst tvs) ∧ tvs[p + 1]? = some (.ref b) ∧ H b = some (.tup [.str (K1.kStr s.nx.k), .str (S s.nx.x), .int (s.nx.at : Nat)]) := by
  obtain ⟨dx, p, tvs, toks, e1, e2, e3, e4, e5⟩ := P.ex
  have hw := P.wt
  obtain ⟨r, m⟩ := s
  have h1 : toks.drop (p + 1) = r.tail := by rw [← List.tail_drop]; exact congrArg List.tail e5
  have h2 : r.tail ≠ [] := by
    cases hw with
    | fin => exact absurd rfl hk
    | cons _ h => exact h.ne
  cases er : r.tail with
  | nil => exact absurd er h2
  | cons t r2 =>
    have hp : toks[p + 1]? = some t := by
      have : (toks.drop (p + 1))[0]? = some t := by rw [h1, er]; rfl
      rwa [List.getElem?_drop, Nat.add_zero] at this
    obtain ⟨v, hv, b, rfl, hb⟩ := pair_at e3 hp
    have en : PM.PS.nx ⟨r, m⟩ = ⟨t :: r2, m⟩ := by show (⟨r.tail, m⟩ : PM.PS) = _; rw [er]
    rw [en]
    exact ⟨dx, p, tvs, b, e1, e2, hv, hb⟩
end
end PX
set_option Elab.async false
set_option linter.all false
set_option maxRecDepth 100000
set_option maxHeartbeats 4000000
namespace PX
open PySem L2 C8 SX K1 LC LG PySem.Spec PyProof.Rows GX
/-! texts, for the tokens -/
theorem kS_inj {a b : K1.Kind} (h : K1.kStr a = K1.kStr b) : a = b := kS_t (by rw [h]; exact decide_eq_true rfl)
theorem tok_uniq {H : Hp} {v : V} {t u : PM.Tk} (h1 : TokAt H v t) (h2 : TokAt H v u) : t = u := by
  obtain ⟨a, rfl, e1⟩ := h1
  obtain ⟨b, e, e2⟩ := h2
  cases e
  rw [e1] at e2
  obtain ⟨k, x, n⟩ := t
  obtain ⟨k', x', n'⟩ := u
  have e3 := HO.tup.inj (Option.some.inj e2)
  have f1 := kS_inj (V.str.inj (List.cons.inj e3).1)
  have f2 := PX.S_inj (V.str.inj (List.cons.inj (List.cons.inj e3).2).1)
  have f3 : (n : Int) = (n' : Int) := V.int.inj (List.cons.inj (List.cons.inj (List.cons.inj e3).2).2).1
  rw [show k = k' from f1, show x = x' from f2, show n = n' by omega]
theorem toks_uniq {H : Hp} : ∀ {vs : List V} {ts us : List PM.Tk}, ToksAt H vs ts → ToksAt H vs us → ts = us
  | _, _, _, .nil, .nil => rfl
  | _, _, _, .cons h t, .cons h' t' => by rw [tok_uniq h h', toks_uniq t t']
/-- the place, by a known list of tokens -/
theorem PAt.place {C a l : Addr} {s : PM.PS} {H : Hp} {tvs : List V} {ts : List PM.Tk} (P : PAt C H a l ts.length s) (e : H l = some (.lst tvs)) (t : ToksAt H tvs ts) : ∃ dx p, H a = some (.ins C dx (flds l p s.m)) ∧ ts.drop p = s.r ∧ p + s.r.length = ts.length := by
  obtain ⟨dx, p, tvs', toks, e1, e2, e3, e4, e5⟩ := P.ex
  rw [e] at e2; cases e2
  have := toks_uniq t e3
  subst this
  refine ⟨dx, p, e1, e5, ?_⟩
  have h1 := congrArg List.length e5
  rw [List.length_drop] at h1
  have := List.length_pos_iff.mpr P.wt.ne
  omega
theorem cut_nn (xs : List V) {a b : Nat} (ha : a ≤ xs.length) (hb : b ≤ xs.length) : cutV xs (some (a : Int)) (some (b : Int)) = (xs.drop a).take (b - a) := by
  unfold cutV
  rw [HT.sIx_nat, HT.sIx_nat, Nat.min_eq_left ha, Nat.min_eq_left hb]
theorem pair_drop {α β : Type} {F : α → β → Prop} : ∀ {xs : List α} {ys : List β} (_ : Nat), Paired F xs ys → Paired F (xs.drop ‹Nat›) (ys.drop ‹Nat›)
  | _, _, 0, h => h
  | _, _, _ + 1, .nil => .nil
  | _, _, i + 1, .cons _ t => pair_drop i t
theorem pair_take {α β : Type} {F : α → β → Prop} : ∀ {xs : List α} {ys : List β} (_ : Nat), Paired F xs ys → Paired F (xs.take ‹Nat›) (ys.take ‹Nat›)
  | _, _, 0, _ => .nil
  | _, _, _ + 1, .nil => .nil
  | _, _, i + 1, .cons h t => .cons h (pair_take i t)
theorem sixty_len : (PySem.Str.ofString (toString (60 : Int))).length ≤ 5 := by decide +kernel
theorem four_len : (PySem.Str.ofString (toString (4 : Int))).length ≤ 5 := by decide +kernel

theorem sz {n : Nat} (h : n ≤ 4000) : n ≤ sizeLine := Nat.le_trans h (by decide)
theorem S_len4 {l : List Nat} (h : l.length ≤ 4000) : (S l).length ≤ sizeLine := by rw [S_len]; exact sz h
theorem le_sign {a c : Nat} {x : Str} (hx : x.cps.toList = [a]) : (!decide ((S [c]).cps.toList < x.cps.toList)) = decide (a ≤ c) := by
  have : (S [c]).cps.toList = [c] := rfl
  rw [this, hx]
  simp [List.cons_lt_cons_iff]
  rw [← decide_not]
  exact decide_eq_decide.mpr (by omega)
theorem sign_le {a c : Nat} {x : Str} (hx : x.cps.toList = [a]) : (!decide (x.cps.toList < (S [c]).cps.toList)) = decide (c ≤ a) := by
  have : (S [c]).cps.toList = [c] := rfl
  rw [this, hx]
  simp [List.cons_lt_cons_iff]
  rw [← decide_not]
  exact decide_eq_decide.mpr (by omega)
theorem eq_sign {a c : Nat} {x : Str} (hx : x = S [a]) : decide (V.str (S [c]) = V.str x) = decide (c = a) := by
  subst hx
  by_cases h : c = a
  · subst h; simp
  · rw [decide_eq_false h, decide_eq_false]
    intro z
    exact h (List.cons.inj (S_inj (V.str.inj z))).1
theorem at_nat {l : List Nat} {p c : Nat} (h : l[p]? = some c) : atI (S l).cps.toList (p : Int) = some c := atI_nat h
theorem cut_nat (l : List Nat) {a b : Nat} (ha : a ≤ l.length) (hb : b ≤ l.length) : cutS (S l) (some (a : Int)) (some (b : Int)) = S ((l.drop a).take (b - a)) := by
  unfold cutS
  rw [S_len, HT.sIx_nat, HT.sIx_nat, Nat.min_eq_left ha, Nat.min_eq_left hb]
theorem starts_at (l g : List Nat) {p : Nat} (hp : p < l.length) (hg : g.length ≤ 2) : Txt.startswith3 (S l) (S g) (p : Int) = TL.pre g (l.drop p) := by
  unfold Txt.startswith3 Builtin.Str.subAt TL.pre
  have e : fromIndex (S l).length (p : Int) = p := by
    unfold fromIndex; rw [if_neg (by omega)]; omega
  rw [e, S_len, S_len]
  have e2 : (S l).cps.extract p (p + g.length) = ((l.drop p).take g.length).toArray := by
    show l.toArray.extract p (p + g.length) = _
    rw [List.extract_toArray, List.extract_eq_drop_take]
    congr 2; omega
  rw [e2]
  have e3 : (((l.drop p).take g.length).toArray == (S g).cps) = ((l.drop p).take g.length == g) := by
    show (((l.drop p).take g.length).toArray == g.toArray) = _
    simp
  rw [e3]
  by_cases h : p + g.length ≤ l.length
  · rw [decide_eq_true h, Bool.true_and]
  · rw [decide_eq_false h, Bool.false_and]
    symm
    rw [beq_eq_false_iff_ne]
    intro z
    have := congrArg List.length z
    rw [List.length_take, List.length_drop] at this
    omega
/-- tuples stay -/
def KeepT (H H' : Hp) : Prop := ∀ b xs, H b = some (.tup xs) → H' b = some (.tup xs)
theorem KeepT.refl (H : Hp) : KeepT H H := fun _ _ h => h
theorem KeepT.trans {A B C : Hp} (h : KeepT A B) (h' : KeepT B C) : KeepT A C := fun b xs z => h' b xs (h b xs z)
theorem keepT_of {H H' : Hp} (s : Same H H') : KeepT H H' := fun b _ h => s b _ h
theorem KeepT.toks {H H' : Hp} (s : KeepT H H') {xs : List V} {ts : List Tk} (h : ToksAt H xs ts) : ToksAt H' xs ts := Paired.mapP h fun _ _ ⟨a, e, z⟩ => ⟨a, e, s _ _ z⟩
theorem Same.new {H : Hp} {a : Addr} {o : HO} (h : H a = none) : Same H (upd H a o) := fun b u e => by
  rw [upd_ne (ne_of_none e h)]; exact e
theorem Same.put {H0 H : Hp} {a : Addr} {o : HO} (s : Same H0 H) (h : H0 a = none) : Same H0 (upd H a o) := fun b u e => by
  rw [upd_ne (ne_of_none e h)]; exact s b u e
theorem KeepT.put {H0 H : Hp} {a : Addr} {o : HO} {xs : List V} (s : KeepT H0 H) (h : H a = some (.lst xs)) : KeepT H0 (upd H a o) := fun b u e => by
  have := s b u e
  rw [upd_ne (by intro z; subst z; rw [h] at this; cases this)]
  exact this
theorem inV_ws (c : Nat) : inV (.str (S [c])) [.str (Str.ofString " "), .str (Str.ofString "\n")] = decide (c = 32 ∨ c = 10) := by
  have e1 : Str.ofString " " = S [32] := by decide +kernel
  have e2 : Str.ofString "\n" = S [10] := by decide +kernel
  rw [e1, e2]
  show ((S [32] == S [c]) || ((S [10] == S [c]) || false)) = _
  rw [S_beq, S_beq]
  by_cases h1 : c = 32
  · subst h1; rfl
  · by_cases h2 : c = 10
    · subst h2; rfl
    · rw [decide_eq_false (by omega : ¬ (c = 32 ∨ c = 10))]
      have n1 : ([32] == [c]) = false := by
        rw [beq_eq_false_iff_ne]; intro z; exact h1 (List.cons.inj z).1.symm
      have n2 : ([10] == [c]) = false := by
        rw [beq_eq_false_iff_ne]; intro z; exact h2 (List.cons.inj z).1.symm
      rw [n1, n2]; rfl
end PX
set_option Elab.async false
set_option linter.all false
set_option maxRecDepth 100000
set_option maxHeartbeats 4000000
namespace PM
open PySem SX SU
/-! sizes of what is written -/
abbrev tx (p : List Pc) : List Nat := txt [32] p
theorem tx_app (a b : List Pc) : tx (a ++ b) = tx a ++ tx b := txt_app _ _ _
theorem joinL_tx {s : List Nat} : ∀ xs : List (List Pc), TL.joinL (s ++ [32]) (xs.map tx) = tx (jn [sg s, .sp] xs)
  | [] => rfl
  | [x] => rfl
  | x :: y :: r => by
    have ih := joinL_tx (s := s) (y :: r)
    rw [List.map_cons, List.map_cons] at *
    show tx x ++ ((s ++ [32]) ++ TL.joinL (s ++ [32]) (tx y :: r.map tx)) = tx (x ++ ([sg s, Pc.sp] ++ jn [sg s, Pc.sp] (y :: r)))
    rw [ih, tx_app, tx_app]
    simp [tx, txt, sg]
theorem jn_len {s : List Nat} (hs : s.length = 1) {B : Nat} : ∀ (xs : List (List Pc)), (∀ x ∈ xs, (tx x).length ≤ B) → (tx (jn [sg s, .sp] xs)).length ≤ xs.length * (B + 2)
  | [], _ => Nat.zero_le _
  | [x], h => by have := h x List.mem_cons_self; show (tx x).length ≤ 1 * (B + 2); omega
  | x :: y :: r, h => by
    have ih := jn_len hs (y :: r) fun z hz => h z (List.mem_cons_of_mem _ hz)
    have hx := h x List.mem_cons_self
    show (tx (x ++ ([sg s, Pc.sp] ++ jn [sg s, Pc.sp] (y :: r)))).length ≤ _
    rw [tx_app, tx_app, List.length_append, List.length_append]
    have e : (tx [sg s, Pc.sp]).length = 2 := by simp [tx, txt, sg, hs]
    rw [e, List.length_cons (a := x), Nat.succ_mul]; omega
theorem jn_le {α : Type} {s : List Nat} (hs : s.length = 1) {B m : Nat} {wr : α → List Pc} {xs : List α} (h : ∀ x ∈ xs, (tx (wr x)).length ≤ B) (hm : xs.length ≤ m) : (tx (jn [sg s, .sp] (xs.map wr))).length ≤ m * (B + 2) := by
  have := jn_len hs (xs.map wr) fun x hx => by
    obtain ⟨y, hy, rfl⟩ := List.mem_map.mp hx
    exact h y hy
  rw [List.length_map] at this
  exact Nat.le_trans this (Nat.mul_le_mul_right _ hm)
/-- the sum that a join asks for -/
theorem join_sum {α : Type} {B m k : Nat} {wr : α → List Nat} {xs : List α} (h : ∀ x ∈ xs, (wr x).length ≤ B) (hm : xs.length ≤ m) : ((xs.map fun x => S (wr x)).map (·.length)).sum + (xs.map fun x => S (wr x)).length * k ≤ m * (B + k) := by
  rw [List.length_map]
  have : ∀ ys : List α, (∀ x ∈ ys, (wr x).length ≤ B) → ((ys.map fun x => S (wr x)).map (·.length)).sum + ys.length * k ≤ ys.length * (B + k) := fun ys => by
    induction ys with
    | nil => intro _; simp
    | cons y r ih =>
      intro h
      have i := ih fun z hz => h z (List.mem_cons_of_mem _ hz)
      have hy := h y List.mem_cons_self
      simp only [List.map_cons, List.sum_cons, S_len, List.length_cons, Nat.succ_mul] at *
      omega
  exact Nat.le_trans (this xs h) (Nat.mul_le_mul_right _ hm)
theorem numL_len4 {i : Int} (h : 0 ≤ i ∧ i < 10000) : (TL.numL i.toNat).length ≤ 4 := TL.numL_len (k := 4) (by decide) (by omega)
theorem op_len {s : Str} (h : s = S gMul ∨ s = S gAdd ∨ s = S gSub) : (cl s).length = 1 := by
  rcases h with h | h | h <;> rw [h, cl_S] <;> rfl
theorem rel_len : ∀ {x : List Nat}, x ∈ RELS → x.length ≤ 2 := by
  have : ∀ x ∈ RELS, x.length ≤ 2 := by decide
  exact fun {x} h => this x h
theorem br_tx (p : List Pc) : tx (br p) = gL ++ (tx p ++ gR) := by
  show gL ++ txt [32] (p ++ [sg gR]) = _
  rw [txt_app]; rfl
theorem bc_tx (p : List Pc) : tx (bc p) = gBL ++ (tx p ++ gBR) := by
  show gBL ++ txt [32] (p ++ [sg gBR]) = _
  rw [txt_app]; rfl
theorem op_tx (s : Str) (a b : List Pc) : tx (a ++ ([.sp, sg (cl s), .sp] ++ b)) = tx a ++ ([32] ++ (cl s ++ ([32] ++ tx b))) := by
  rw [tx_app]; rfl
theorem tm_len : ∀ (t : Tm), GoodT t → (tx (wTm t)).length + 7 ≤ 27 * t.lvs
  | .var x, g => by
    have := K1.Good.len g
    have e : tx (wTm (.var x)) = cl x := by simp [tx, wTm, txt]
    rw [e]; show _ ≤ 27 * 1; omega
  | .int i, g => by
    have := numL_len4 g
    have e : tx (wTm (.int i)) = TL.numL i.toNat := by simp [tx, wTm, txt]
    rw [e]; show _ ≤ 27 * 1; omega
  | .sym x, g => by
    have := K1.Good.len (NmG.g g)
    have e : tx (wTm (.sym x)) = cl x := by simp [tx, wTm, txt]
    rw [e]; show _ ≤ 27 * 1; omega
  | .op s l r, g => by
    have hl := tm_len l g.2.1
    have hr := tm_len r g.2.2
    have hs := op_len g.1
    unfold wTm
    rw [op_tx]
    have h1 : ∀ (c : Prop) [Decidable c] (p : List Pc), (tx (if c then br p else p)).length ≤ (tx p).length + 2 := fun c _ p => by
      split
      · rw [br_tx]; simp [gL, gR]
      · omega
    have a1 := h1 (s = S gMul ∧ isSum l = true) (wTm l)
    have a2 := h1 (isOp r = true) (wTm r)
    simp only [List.length_append, hs, List.length_cons, List.length_nil, Tm.lvs]
    omega
/-! bounds of what is drawn -/
def BT (t : Tm) : Prop := GoodT t ∧ t.lvs ≤ 16 ∧ t.dep < 4
def BA (a : Atm) : Prop := NmG a.nm ∧ a.ts.length ≤ 4 ∧ ∀ t ∈ a.ts, BT t
def BC : Cnd → Prop
  | .yes a => BA a
  | .no a => BA a
  | .cmp s l r => cl s ∈ RELS ∧ BT l ∧ BT r
def BCs (b : List Cnd) : Prop := b.length ≤ 8 ∧ ∀ c ∈ b, BC c
def BM (m : Mem) : Prop := BT m.w ∧ BCs m.b
def BMs (ms : List Mem) : Prop := ms ≠ [] ∧ ms.length ≤ 8 ∧ ∀ m ∈ ms, BM m
def BH (m : Cho) : Prop := BA m.a ∧ BCs m.b
def BHs (ms : List Cho) : Prop := ms ≠ [] ∧ ms.length ≤ 8 ∧ ∀ m ∈ ms, BH m
def BP : Prt → Prop
  | .c x => BC x
  | .sum s ms t => cl s ∈ SRELS ∧ BMs ms ∧ BT t
def BB (b : List Prt) : Prop := b.length ≤ 8 ∧ ∀ p ∈ b, BP p
def BS : Stm → Prop
  | .rule a b => BA a ∧ BB b
  | .deny b => b ≠ [] ∧ BB b
  | .choose lo hi ch b => GoodO lo ∧ GoodO hi ∧ BHs ch ∧ BB b
  | .range x y => (0 ≤ x ∧ x < 10000) ∧ 0 ≤ y ∧ y < 10000
  | .minim ms => BMs ms
theorem bt_len {t : Tm} (h : BT t) : (tx (wTm t)).length ≤ 432 := by have := tm_len t h.1; have := h.2.1; omega
theorem ba_len {a : Atm} (h : BA a) : (tx (wAtm a)).length ≤ 1800 := by
  have h1 := K1.Good.len h.1.g
  have h2 := jn_le (s := gComma) (wr := wTm) rfl (fun t ht => bt_len (h.2.2 t ht)) h.2.1
  have e : tx (wAtm a) = cl a.nm ++ tx (if a.ts = [] then [] else br (jn cm (a.ts.map wTm))) := rfl
  rw [e, List.length_append]
  split
  · show _ + 0 ≤ _; omega
  · rw [br_tx]
    simp only [List.length_append, gL, gR, List.length_cons, List.length_nil]
    have : (tx (jn cm (a.ts.map wTm))).length ≤ 4 * (432 + 2) := h2
    omega
theorem bc_len {c : Cnd} (h : BC c) : (tx (wCnd c)).length ≤ 1810 := by
  cases c with
  | yes a => exact Nat.le_trans (ba_len h) (by decide)
  | no a =>
    have := ba_len (a := a) h
    have e : tx (wCnd (.no a)) = wNot ++ ([32] ++ tx (wAtm a)) := rfl
    rw [e, List.length_append, List.length_append]
    show 3 + (1 + _) ≤ _; omega
  | cmp s l r =>
    have h1 := bt_len h.2.1
    have h2 := bt_len h.2.2
    have h3 := rel_len h.1
    show (tx (wTm l ++ ([.sp, sg (cl s), .sp] ++ wTm r))).length ≤ _
    rw [op_tx]
    simp only [List.length_append, List.length_cons, List.length_nil]
    omega
theorem bcs_len {b : List Cnd} (h : BCs b) : (tx (wCs b)).length ≤ 14500 := by
  unfold wCs
  split
  · exact Nat.zero_le _
  · have h2 := jn_le (s := gComma) (wr := wCnd) rfl (fun t ht => bc_len (h.2 t ht)) h.1
    rw [tx_app, List.length_append]
    have : (tx (jn cm (b.map wCnd))).length ≤ 8 * (1810 + 2) := h2
    have e : (tx [.sp, sg gColon, .sp]).length = 3 := rfl
    omega
theorem bm_len {m : Mem} (h : BM m) : (tx (wMem m)).length ≤ 16300 := by
  rw [wMem, tx_app, List.length_append]
  have := bt_len h.1; have := bcs_len h.2; omega
theorem bh_len {m : Cho} (h : BH m) : (tx (wCho m)).length ≤ 16300 := by
  rw [wCho, tx_app, List.length_append]
  have := ba_len h.1; have := bcs_len h.2; omega
theorem bms_len {m : List Mem} (h : BMs m) : (tx (wMs m)).length ≤ 130500 := by
  have h2 := jn_le (s := gSemi) (wr := wMem) rfl (fun t ht => bm_len (h.2.2 t ht)) h.2.1
  rw [wMs, bc_tx]
  have : (tx (jn sm (m.map wMem))).length ≤ 8 * (16300 + 2) := h2
  simp only [List.length_append, gBL, gBR, List.length_cons, List.length_nil]
  omega
theorem bhs_len {m : List Cho} (h : BHs m) : (tx (wChs m)).length ≤ 130500 := by
  have h2 := jn_le (s := gSemi) (wr := wCho) rfl (fun t ht => bh_len (h.2.2 t ht)) h.2.1
  rw [wChs, bc_tx]
  have : (tx (jn sm (m.map wCho))).length ≤ 8 * (16300 + 2) := h2
  simp only [List.length_append, gBL, gBR, List.length_cons, List.length_nil]
  omega
theorem srel_rel : ∀ {x : List Nat}, x ∈ SRELS → x ∈ RELS := by
  have : ∀ x ∈ SRELS, x ∈ RELS := by decide
  exact fun {x} h => this x h
theorem bp_len {p : Prt} (h : BP p) : (tx (wPrt p)).length ≤ 131000 := by
  cases p with
  | c x => exact Nat.le_trans (bc_len (c := x) h) (by decide)
  | sum s ms t =>
    have h1 := bms_len h.2.1
    have h2 := bt_len h.2.2
    have h3 := rel_len (srel_rel h.1)
    have e : tx (wPrt (.sum s ms t)) = wSum ++ ([32] ++ tx (wMs ms ++ ([.sp, sg (cl s), .sp] ++ wTm t))) := rfl
    rw [e, op_tx]
    simp only [List.length_append, List.length_cons, List.length_nil]
    show 3 + (1 + _) ≤ _
    omega
theorem bb_len {b : List Prt} (h : BB b) : (tx (wBd b)).length ≤ 1048100 := by
  have h2 := jn_le (s := gComma) (wr := wPrt) rfl (fun t ht => bp_len (h.2 t ht)) h.1
  have e : tx (wBd b) = gIf ++ ([32] ++ tx (jn cm (b.map wPrt))) := rfl
  rw [e]
  have : (tx (jn cm (b.map wPrt))).length ≤ 8 * (131000 + 2) := h2
  simp only [List.length_append, List.length_cons, List.length_nil, gIf]
  omega
theorem bo_len {b : List Prt} (h : BB b) : (tx (wOb b)).length ≤ 1048101 := by
  unfold wOb
  split
  · exact Nat.zero_le _
  · have := bb_len h
    show (32 :: tx (wBd b)).length ≤ _
    rw [List.length_cons]; omega
theorem lo_len {o : Option Int} (h : GoodO o) : (tx (wLo o)).length ≤ 5 := by
  cases o with
  | none => exact Nat.zero_le _
  | some i =>
    have := numL_len4 h
    have e : tx (wLo (some i)) = TL.numL i.toNat ++ ([32] ++ []) := rfl
    rw [e, List.length_append]; show _ + 1 ≤ _; omega
theorem hi_len {o : Option Int} (h : GoodO o) : (tx (wHi o)).length ≤ 5 := by
  cases o with
  | none => exact Nat.zero_le _
  | some i =>
    have := numL_len4 h
    have e : tx (wHi (some i)) = [32] ++ (TL.numL i.toNat ++ []) := rfl
    rw [e, List.length_append, List.append_nil]; show 1 + _ ≤ _; omega
theorem bs_len {s : Stm} (h : BS s) : (tx (wStm s)).length ≤ 1180000 := by
  rw [wStm, tx_app, List.length_append]
  have e1 : (tx [sg gDot]).length = 1 := rfl
  rw [e1]
  cases s with
  | rule a b =>
    rw [wStm0, tx_app, List.length_append]
    have := ba_len h.1; have := bo_len h.2; omega
  | deny b => have := bb_len h.2; rw [wStm0]; omega
  | choose lo hi ch b =>
    rw [wStm0, tx_app, tx_app, tx_app, List.length_append, List.length_append, List.length_append]
    have := lo_len h.1; have := hi_len h.2.1; have := bhs_len h.2.2.1; have := bo_len h.2.2.2; omega
  | range x y =>
    have h1 := numL_len4 h.1
    have h2 := numL_len4 h.2
    have e : tx (wStm0 (.range x y)) = wRange ++ ([32] ++ (TL.numL x.toNat ++ ([32] ++ (TL.numL y.toNat ++ [])))) := rfl
    rw [e]
    simp only [List.length_append, List.length_cons, List.length_nil, wRange]
    omega
  | minim ms =>
    have := bms_len h
    have e : tx (wStm0 (.minim ms)) = wMin ++ ([32] ++ tx (wMs ms)) := rfl
    rw [e]
    simp only [List.length_append, List.length_cons, List.length_nil, wMin]
    omega
/-! these bounds make what is written good -/
theorem ba_good {d : Nat} (hd : 4 ≤ d) {a : Atm} (h : BA a) : GoodA (d := d) a := ⟨h.1, fun t ht => ⟨(h.2.2 t ht).1, by have := (h.2.2 t ht).2.2; omega⟩, h.2.1⟩
theorem bc_good {d : Nat} (hd : 4 ≤ d) {c : Cnd} (h : BC c) : GoodC (d := d) c := by
  cases c with
  | yes a => exact ba_good hd h
  | no a => exact ba_good hd h
  | cmp s l r => exact ⟨h.1, ⟨h.2.1.1, by have := h.2.1.2.2; omega⟩, h.2.2.1, by have := h.2.2.2.2; omega⟩
theorem bm_good {d : Nat} (hd : 4 ≤ d) {m : Mem} (h : BM m) : GoodM (d := d) m := ⟨⟨h.1.1, by have := h.1.2.2; omega⟩, fun c hc => bc_good hd (h.2.2 c hc)⟩
theorem bh_good {d : Nat} (hd : 4 ≤ d) {m : Cho} (h : BH m) : GoodH (d := d) m := ⟨ba_good hd h.1, fun c hc => bc_good hd (h.2.2 c hc)⟩
theorem bp_good {d : Nat} (hd : 4 ≤ d) {p : Prt} (h : BP p) : GoodP (d := d) p := by
  cases p with
  | c x => exact bc_good hd (c := x) h
  | sum s ms t => exact ⟨h.1, ⟨h.2.1.1, fun m hm => bm_good hd (h.2.1.2.2 m hm)⟩, h.2.2.1, by have := h.2.2.2.2; omega⟩
theorem bs_good {d : Nat} (hd : 4 ≤ d) {s : Stm} (h : BS s) : GoodS (d := d) s := by
  cases s with
  | rule a b => exact ⟨ba_good hd h.1, fun p hp => bp_good hd (h.2.2 p hp)⟩
  | deny b => exact ⟨h.1, fun p hp => bp_good hd (h.2.2 p hp)⟩
  | choose lo hi ch b => exact ⟨h.1, h.2.1, ⟨h.2.2.1.1, fun m hm => bh_good hd (h.2.2.1.2.2 m hm)⟩, fun p hp => bp_good hd (h.2.2.2.2 p hp)⟩
  | range x y => exact h
  | minim ms => exact ⟨h.1, fun m hm => bm_good hd (h.2.2 m hm)⟩
end PM
set_option Elab.async false
set_option linter.all false
set_option maxRecDepth 100000
set_option maxHeartbeats 4000000
namespace PX
open PySem L2 C8 SX LC LG SU PM PySem.Spec PyProof.Rows GX
/-! the written forms: texts made of data -/
theorem lc_strs {α : Type} {dat : α → PyData} {f : α → List Nat} {K : PySem.W.Frag} {a D : Addr} {ys : List V} {xs : List α} {g : TG} {te : TE} {vs : List Nat} {σ : L2.St} {H : Hp} {Qd : Hp → Prop} (hD : H D = none) (hs : SqL K H a ys) (hd : DpAll K H ys (xs.map dat)) (hl : xs.length ≤ 1000000)
    (step : ∀ x ∈ xs, ∀ y H1, Same H H1 → Dp K H1 y (dat x) → ∀ Qk : VK, (∀ H2, Same H1 H2 → Qk (.str (S (f x))) H2) → g y (wipe σ vs) H1 fun σ2 H2 => wipe σ2 vs = wipe σ vs ∧ te σ2 H2 Qk)
    (k : ∀ H1, Same H H1 → H1 D = some (.lst ((xs.map fun x => S (f x)).map V.str)) → Qd H1) :
    ∃ W : Nat → Nat → Hp → Prop, (∃ m, W 0 m (upd H D (.lst []))) ∧ ∀ i m H, W i m H →
      ((Itl K a).stop i H ∧ Qd H) ∨ ((Itl K a).go i H ∧ ∃ Nx : Hp → Prop, (∀ H', Nx H' → ∃ m', m' < m ∧ W (i + 1) m' H') ∧ ∀ x H', (Itl K a).yld i H x H' → g x (wipe σ vs) H' fun σ2 H2 => wipe σ2 vs = wipe σ vs ∧ tYes σ2 H2 fun b H3 =>
        if b = true then te σ2 H3 fun y H4 => ∃ acc, H4 D = some (.lst acc) ∧ acc.length < sizeLine ∧ Nx (upd H4 D (.lst (acc ++ [y]))) else Nx H3) := by
  have hlen : ys.length = xs.length := by rw [dpAll_len hd, List.length_map]
  have put : ∀ {H1 : Hp} {o : HO}, Same H H1 → Same H (upd H1 D o) := fun s b u e => by rw [upd_ne (ne_of_none e hD)]; exact s b u e
  refine lc_list (K := K) (a := a) (xs := ys) (fun i H1 => Same H H1 ∧ H1 D = some (.lst (((xs.take i).map fun x => S (f x)).map V.str))) ⟨put (Same.refl H), upd_same⟩ (fun i H1 _ ⟨s, _⟩ => sqL_same s hs) ?_ ?_
  · rintro i y H1 hy ⟨s, e⟩
    obtain ⟨x, hx, hdx⟩ := dpAll_at hd hy
    have hxm := List.mem_of_getElem? hx
    refine step x hxm y H1 s (dp_same s hdx) (fun y H4 => ∃ acc, H4 D = some (.lst acc) ∧ acc.length < sizeLine ∧ (Same H (upd H4 D (.lst (acc ++ [y]))) ∧ upd H4 D (.lst (acc ++ [y])) D = some (.lst (((xs.take (i + 1)).map fun x => S (f x)).map V.str)))) fun H2 s2 => ?_
    refine ⟨_, s2 _ _ e, ?_, put (s.trans s2), ?_⟩
    · rw [List.length_map, List.length_map, List.length_take]
      exact Nat.lt_of_le_of_lt (by omega : min i xs.length ≤ 1000000) (by decide)
    · rw [upd_same, List.take_add_one, hx, List.map_append, List.map_append]; rfl
  · rintro H1 ⟨s, e⟩
    rw [hlen, List.take_length] at e
    exact k H1 s e
/-! f-strings -/
section
variable {ts : List TE} {acc b : List Nat} {σ : L2.St} {H : Hp} {Q : Str → Hp → Prop} {z : Str} {i : Nat}
theorem txl {l : List Nat} (h : l.length ≤ 16777216) : (S l).length ≤ sizeLine := by rw [S_len, sizeLine_eq]; exact h
theorem js_go (q : tJs ts (S []) σ H Q) : tJs ts Str.empty σ H Q := q
theorem js_nil (q : Q (S acc) H) : tJs [] (S acc) σ H Q := q
theorem js_str (hz : z = S b) (hl : (acc ++ b).length ≤ 16777216) (q : tJs ts (S (acc ++ b)) σ H Q) : tJs (tC (.str z) :: ts) (S acc) σ H Q := by
  subst hz
  refine ⟨_, rfl, ?_, ?_⟩
  · rw [S_cat]; exact txl hl
  · rw [S_cat]; exact q
theorem js_var {v : Str} (h : σ[i]? = some (some (.str v))) (hv : v = S b) (hl : (acc ++ b).length ≤ 16777216) (q : tJs ts (S (acc ++ b)) σ H Q) : tJs (tFmt (tVar i) :: ts) (S acc) σ H Q := by
  subst hv
  refine ⟨_, h, .inl ⟨_, rfl, txl (by rw [List.length_append] at hl; omega), _, rfl, ?_, ?_⟩⟩
  · rw [S_cat]; exact txl hl
  · rw [S_cat]; exact q
theorem num_log {i : Int} (h : 0 ≤ i ∧ i < 10000) : i.natAbs.log2 < 1920 := by
  obtain ⟨n, rfl⟩ : ∃ n : Nat, i = n := ⟨i.toNat, by omega⟩
  rw [Int.natAbs_natCast]
  by_cases z : n = 0
  · subst z; decide
  · have : n.log2 < 14 := (Nat.log2_lt z).mpr (by omega)
    omega
theorem num_str {i : Int} (h : 0 ≤ i) : Str.ofString (toString i) = S (TL.numL i.toNat) := by
  obtain ⟨n, rfl⟩ : ∃ n : Nat, i = n := ⟨i.toNat, by omega⟩
  rw [num_S, Int.toNat_natCast]
theorem js_int {k : Int} (h : σ[i]? = some (some (.int k))) (hk : 0 ≤ k ∧ k < 10000) (hl : (acc ++ TL.numL k.toNat).length ≤ 16777216) (q : tJs ts (S (acc ++ TL.numL k.toNat)) σ H Q) : tJs (tFmt (tVar i) :: ts) (S acc) σ H Q := by
  refine ⟨_, h, .inr ⟨_, rfl, num_log hk, Str.ofString (toString k), rfl, ?_, ?_⟩⟩
  · rw [num_str hk.1, S_cat]; exact txl hl
  · rw [num_str hk.1, S_cat]; exact q
/-- a call that gives a text -/
theorem js_te {te : TE} (h : ∀ Qk : VK, (∀ H1, Same H H1 → Qk (.str (S b)) H1) → te σ H Qk) (hl : (acc ++ b).length ≤ 16777216) (q : ∀ H1, Same H H1 → tJs ts (S (acc ++ b)) σ H1 Q) : tJs (tFmt te :: ts) (S acc) σ H Q := by
  refine h _ fun H1 s1 => .inl ⟨_, rfl, txl (by rw [List.length_append] at hl; omega), _, rfl, ?_, ?_⟩
  · rw [S_cat]; exact txl hl
  · rw [S_cat]; exact q H1 s1
end
theorem sp1 : Str.ofString " " = S [32] := by decide +kernel
end PX
set_option Elab.async false
set_option linter.all false
set_option maxRecDepth 100000
set_option maxHeartbeats 4000000
namespace PM
open PySem SX SU LG
/-! what law k03 draws -/
def NMS : List Str := ["p", "q", "edge", "notes", "sum1", "a_B9", "colour_of_all_things"]
def VRS : List Str := ["X", "Y", "Long_Name9"]
def OPL : List Str := ["+", "-", "*"]
def REL : List Str := ["=", "!=", "<", "<=", ">", ">="]
def SREL : List Str := [">=", "<="]
def goodN (l : List Nat) : Bool := match l with
  | c :: w => K1.isLower c && w.all K1.isWord && decide (w.length ≤ 19) && decide ((c :: w) ∉ KW)
  | [] => false
def goodV (l : List Nat) : Bool := match l with
  | c :: w => K1.isUpper c && w.all K1.isWord && decide (w.length ≤ 19)
  | [] => false
theorem goodN_nm {x : Str} (h : goodN (cl x) = true) : NmG x := by
  unfold goodN at h
  cases e : cl x with
  | nil => rw [e] at h; cases h
  | cons c w =>
    rw [e] at h
    simp only [Bool.and_eq_true, decide_eq_true_eq, List.all_eq_true] at h
    exact ⟨by rw [e]; exact .name h.1.1.1 h.1.1.2 h.1.2, by rw [e]; exact h.2⟩
theorem goodV_nm {x : Str} (h : goodV (cl x) = true) : K1.Good .var (cl x) := by
  unfold goodV at h
  cases e : cl x with
  | nil => rw [e] at h; cases h
  | cons c w =>
    rw [e] at h
    simp only [Bool.and_eq_true, decide_eq_true_eq, List.all_eq_true] at h
    exact .var h.1.1 h.1.2 h.2
def NmL (s : Str) : Prop := (PyData.str s).shown.length ≤ 24
theorem nms_ok : ∀ x ∈ NMS, NmG x ∧ NmL x ∧ SeqAt.shaped (.str x) = true := by
  have : NMS.all (fun x => goodN (cl x) && (decide ((PyData.str x).shown.length ≤ 24) && SeqAt.shaped (.str x))) = true := by decide +kernel
  intro x hx
  have h := List.all_eq_true.mp this x hx
  simp only [Bool.and_eq_true, decide_eq_true_eq] at h
  exact ⟨goodN_nm h.1, h.2.1, h.2.2⟩
theorem vrs_ok : ∀ x ∈ VRS, K1.Good .var (cl x) ∧ NmL x ∧ SeqAt.shaped (.str x) = true := by
  have : VRS.all (fun x => goodV (cl x) && (decide ((PyData.str x).shown.length ≤ 24) && SeqAt.shaped (.str x))) = true := by decide +kernel
  intro x hx
  have h := List.all_eq_true.mp this x hx
  simp only [Bool.and_eq_true, decide_eq_true_eq] at h
  exact ⟨goodV_nm h.1, h.2.1, h.2.2⟩
theorem opl_ok : ∀ x ∈ OPL, (x = S gMul ∨ x = S gAdd ∨ x = S gSub) ∧ NmL x := by
  have : OPL.all (fun x => (decide (x = S gMul) || (decide (x = S gAdd) || decide (x = S gSub))) && decide ((PyData.str x).shown.length ≤ 24)) = true := by decide +kernel
  intro x hx
  have h := List.all_eq_true.mp this x hx
  simp only [Bool.and_eq_true, Bool.or_eq_true, decide_eq_true_eq] at h
  exact h
theorem rel_ok : ∀ x ∈ REL, cl x ∈ RELS ∧ NmL x := by
  have : REL.all (fun x => decide (cl x ∈ RELS) && decide ((PyData.str x).shown.length ≤ 24)) = true := by decide +kernel
  intro x hx
  have h := List.all_eq_true.mp this x hx
  simp only [Bool.and_eq_true, decide_eq_true_eq] at h
  exact h
theorem srel_ok : ∀ x ∈ SREL, cl x ∈ SRELS ∧ NmL x := by
  have : SREL.all (fun x => decide (cl x ∈ SRELS) && decide ((PyData.str x).shown.length ≤ 24)) = true := by decide +kernel
  intro x hx
  have h := List.all_eq_true.mp this x hx
  simp only [Bool.and_eq_true, decide_eq_true_eq] at h
  exact h
theorem lvs_le (t : Tm) : t.lvs ≤ 2 ^ t.dep := by
  induction t with
  | op s l r il ir =>
    have h1 : 2 ^ l.dep ≤ 2 ^ (max l.dep r.dep) := Nat.pow_le_pow_right (by decide) (Nat.le_max_left _ _)
    have h2 : 2 ^ r.dep ≤ 2 ^ (max l.dep r.dep) := Nat.pow_le_pow_right (by decide) (Nat.le_max_right _ _)
    show l.lvs + r.lvs ≤ 2 ^ (max l.dep r.dep + 1)
    rw [Nat.pow_succ]; omega
  | _ => exact Nat.le_refl _
def SmT : Tm → Prop
  | .var x => x ∈ VRS
  | .int n => 0 ≤ n ∧ n < 10000
  | .sym x => x ∈ NMS
  | .op s l r => s ∈ OPL ∧ SmT l ∧ SmT r
theorem smT_good : ∀ {t : Tm}, SmT t → GoodT t
  | .var x, h => (vrs_ok x h).1
  | .int n, h => h
  | .sym x, h => (nms_ok x h).1
  | .op s l r, h => ⟨(opl_ok s h.1).1, smT_good h.2.1, smT_good h.2.2⟩
/-- a drawn term of at most such a depth -/
def DT (m : Nat) (t : Tm) : Prop := SmT t ∧ t.dep ≤ m
theorem DT.bt {m : Nat} {t : Tm} (h : DT m t) (hm : m ≤ 3) : BT t := ⟨smT_good h.1, by
  have := lvs_le t
  have h2 : 2 ^ t.dep ≤ 2 ^ 3 := Nat.pow_le_pow_right (by decide) (by have := h.2; omega)
  have : (2 : Nat) ^ 3 = 8 := rfl
  omega, by have := h.2; omega⟩
theorem DT.mono {m n : Nat} {t : Tm} (h : DT m t) (i : m ≤ n) : DT n t := ⟨h.1, by have := h.2; omega⟩
def SmA (a : Atm) : Prop := a.nm ∈ NMS ∧ a.ts.length ≤ 2 ∧ ∀ t ∈ a.ts, DT 2 t
def SmC : Cnd → Prop
  | .yes a => SmA a
  | .no a => SmA a
  | .cmp s l r => s ∈ REL ∧ DT 2 l ∧ DT 2 r
def SmCs (b : List Cnd) : Prop := b.length ≤ 2 ∧ ∀ c ∈ b, SmC c
def SmM (m : Mem) : Prop := DT 1 m.w ∧ SmCs m.b
def SmMs (ms : List Mem) : Prop := ms ≠ [] ∧ ms.length ≤ 2 ∧ ∀ m ∈ ms, SmM m
def SmH (m : Cho) : Prop := SmA m.a ∧ SmCs m.b
def SmHs (ms : List Cho) : Prop := ms ≠ [] ∧ ms.length ≤ 2 ∧ ∀ m ∈ ms, SmH m
def SmP : Prt → Prop
  | .c x => SmC x
  | .sum s ms t => s ∈ SREL ∧ SmMs ms ∧ DT 1 t
def SmB (b : List Prt) : Prop := b.length ≤ 4 ∧ ∀ p ∈ b, SmP p
def SmS : Stm → Prop
  | .rule a b => SmA a ∧ SmB b
  | .deny b => (∃ c b', b = .c c :: b') ∧ SmB b
  | .choose lo hi ch b => GoodO lo ∧ GoodO hi ∧ SmHs ch ∧ SmB b
  | .range x y => (0 ≤ x ∧ x < 10000) ∧ 0 ≤ y ∧ y < 10000
  | .minim ms => SmMs ms
theorem SmA.b {a : Atm} (h : SmA a) : BA a := ⟨(nms_ok _ h.1).1, by have := h.2.1; omega, fun t ht => (h.2.2 t ht).bt (by decide)⟩
theorem SmC.b : ∀ {c : Cnd}, SmC c → BC c
  | .yes a, h => SmA.b h
  | .no a, h => SmA.b h
  | .cmp s l r, h => ⟨(rel_ok s h.1).1, h.2.1.bt (by decide), h.2.2.bt (by decide)⟩
theorem SmCs.b {b : List Cnd} (h : SmCs b) : BCs b := ⟨by have := h.1; omega, fun c hc => (h.2 c hc).b⟩
theorem SmM.b {m : Mem} (h : SmM m) : BM m := ⟨h.1.bt (by decide), h.2.b⟩
theorem SmMs.b {m : List Mem} (h : SmMs m) : BMs m := ⟨h.1, by have := h.2.1; omega, fun x hx => (h.2.2 x hx).b⟩
theorem SmH.b {m : Cho} (h : SmH m) : BH m := ⟨h.1.b, h.2.b⟩
theorem SmHs.b {m : List Cho} (h : SmHs m) : BHs m := ⟨h.1, by have := h.2.1; omega, fun x hx => (h.2.2 x hx).b⟩
theorem SmP.b : ∀ {p : Prt}, SmP p → BP p
  | .c x, h => SmC.b h
  | .sum s ms t, h => ⟨(srel_ok s h.1).1, h.2.1.b, h.2.2.bt (by decide)⟩
theorem SmB.b {b : List Prt} (h : SmB b) : BB b := ⟨by have := h.1; omega, fun p hp => (h.2 p hp).b⟩
theorem SmS.b : ∀ {s : Stm}, SmS s → BS s
  | .rule a b, h => ⟨h.1.b, h.2.b⟩
  | .deny b, h => ⟨(by obtain ⟨c, b2, e⟩ := h.1; rw [e]; exact (fun z => nomatch z)), h.2.b⟩
  | .choose lo hi ch b, h => ⟨h.1, h.2.1, h.2.2.1.b, h.2.2.2.b⟩
  | .range x y, h => h
  | .minim ms, h => SmMs.b h
/-! repr -/
theorem gdL {k : Nat} {s : Str} (h : NmL s) : Gd 24 (k + 1) (.str s) := ⟨h, by simp [PyData.showable], by simp [PyData.hasDict], by simp [PyData.depth]⟩
theorem gdN {k : Nat} {i : Int} (h : 0 ≤ i ∧ i < 10000) : Gd 12 (k + 1) (.int i) := gdI h.1 (by omega)
def szU : Nat → Nat
  | 0 => 43
  | n + 1 => 47 + 2 * szU n
theorem szU_le {a b : Nat} (h : a ≤ b) : szU a ≤ szU b := by
  induction b with
  | zero => rw [Nat.le_zero.mp h]; exact Nat.le_refl _
  | succ b ih =>
    by_cases e : a = b + 1
    · rw [e]; exact Nat.le_refl _
    · have := ih (by omega); rw [szU]; omega
theorem gd_tmU : ∀ {t : Tm}, SmT t → Gd (szU t.dep) (t.dep + 2) t.d
  | .var x, h => show Gd 43 2 _ from gd_tupA (ns := [12, 24]) (N := 43) (.cons (gdS (nmS _)) (.cons (gdL (vrs_ok x h).2.1) .nil))
  | .int n, h => show Gd 43 2 _ from gd_tupA (ns := [12, 12]) (N := 43) (.cons (gdS (nmS _)) (.cons (gdN h) .nil))
  | .sym x, h => show Gd 43 2 _ from gd_tupA (ns := [12, 24]) (N := 43) (.cons (gdS (nmS _)) (.cons (gdL (nms_ok x h).2.1) .nil))
  | .op s l r, h => by
    have hl := (gd_tmU h.2.1).mono (szU_le (Nat.le_max_left l.dep r.dep)) (by have := Nat.le_max_left l.dep r.dep; omega : _ ≤ max l.dep r.dep + 2)
    have hr := (gd_tmU h.2.2).mono (szU_le (Nat.le_max_right l.dep r.dep)) (by have := Nat.le_max_right l.dep r.dep; omega : _ ≤ max l.dep r.dep + 2)
    refine (gd_tupA (ns := [12, 24, szU (max l.dep r.dep), szU (max l.dep r.dep)]) (N := szU (max l.dep r.dep + 1)) (.cons (gdS (nmS _)) (.cons (gdL (opl_ok s h.1).2) (.cons hl (.cons hr .nil)))) ?_)
    simp only [List.sum_cons, List.sum_nil, List.length_cons, List.length_nil, szU]
    omega
theorem gd_dt {m : Nat} {t : Tm} (h : DT m t) (hm : m ≤ 3) : Gd 673 5 t.d := (gd_tmU h.1).mono (Nat.le_trans (szU_le (by have := h.2; omega : t.dep ≤ 3)) (by decide)) (by have := h.2; omega)
theorem gd_a {a : Atm} (h : SmA a) : Gd 1500 7 a.d := gd_tupA (ns := [12, 24, 1353]) (.cons (gdS (nmS _)) (.cons (gdL (nms_ok _ h.1).2.1) (.cons (gd_listM (n := 673) (k := 5) (m := 2) (fun t ht => gd_dt (h.2.2 t ht) (by decide)) h.2.1) .nil)))
theorem gd_c {c : Cnd} (h : SmC c) : Gd 1600 8 c.d := by
  cases c with
  | yes a => exact gd_tupA (ns := [12, 1500]) (.cons (gdS (nmS _)) (.cons (gd_a h) .nil))
  | no a => exact gd_tupA (ns := [12, 1500]) (.cons (gdS (nmS _)) (.cons (gd_a h) .nil))
  | cmp s l r => exact (gd_tupA (ns := [12, 24, 673, 673]) (k := 5) (N := 1600) (.cons (gdS (nmS _)) (.cons (gdL (rel_ok s h.1).2) (.cons (gd_dt h.2.1 (by decide)) (.cons (gd_dt h.2.2 (by decide)) .nil))))).mono (Nat.le_refl _) (by decide)
theorem gd_cs3 {b : List Cnd} (h : SmCs b) : Gd 3300 9 (csD b) := gd_listM (n := 1600) (k := 8) (m := 2) (fun c hc => gd_c (h.2 c hc)) h.1
theorem gd_m {m : Mem} (h : SmM m) : Gd 4000 10 m.d := gd_tupA (ns := [12, 673, 3300]) (.cons (gdS (nmS _)) (.cons ((gd_dt h.1 (by decide)).mono (Nat.le_refl _) (by decide)) (.cons (gd_cs3 h.2) .nil)))
theorem gd_ms3 {ms : List Mem} (h : SmMs ms) : Gd 8100 11 (msD ms) := gd_listM (n := 4000) (k := 10) (m := 2) (fun c hc => gd_m (h.2.2 c hc)) h.2.1
theorem gd_p {p : Prt} (h : SmP p) : Gd 8900 12 p.d := by
  cases p with
  | c x => exact (gd_c h).mono (by decide) (by decide)
  | sum s ms t => exact gd_tupA (ns := [12, 24, 8100, 673]) (.cons (gdS (nmS _)) (.cons (gdL (srel_ok s h.1).2) (.cons (gd_ms3 h.2.1) (.cons ((gd_dt h.2.2 (by decide)).mono (Nat.le_refl _) (by decide)) .nil))))
theorem gd_b {b : List Prt} (h : SmB b) : Gd 36000 13 (bdD b) := gd_listM (n := 8900) (k := 12) (m := 4) (fun c hc => gd_p (h.2 c hc)) h.1
theorem gd_h {c : Cho} (h : SmH c) : Gd 4900 10 c.d := gd_tupA (ns := [12, 1500, 3300]) (.cons (gdS (nmS _)) (.cons ((gd_a h.1).mono (Nat.le_refl _) (by decide)) (.cons (gd_cs3 h.2) .nil)))
theorem gd_hs {b : List Cho} (h : SmHs b) : Gd 9900 11 (chD b) := gd_listM (n := 4900) (k := 10) (m := 2) (fun c hc => gd_h (h.2.2 c hc)) h.2.1
theorem gd_o3 {o : Option Int} (h : GoodO o) : Gd 12 13 (oD o) := by
  cases o with
  | none => exact gd_non.mono (by decide) (by decide)
  | some i => exact gdN h
theorem gd_s {s : Stm} (h : SmS s) : Gd 50000 14 s.d := by
  cases s with
  | rule a b => exact gd_tupA (ns := [12, 1500, 36000]) (.cons (gdS (nmS _)) (.cons ((gd_a h.1).mono (Nat.le_refl _) (by decide)) (.cons (gd_b h.2) .nil)))
  | deny b => exact gd_tupA (ns := [12, 36000]) (.cons (gdS (nmS _)) (.cons (gd_b h.2) .nil))
  | choose lo hi ch b => exact gd_tupA (ns := [12, 12, 9900, 12, 36000]) (.cons (gdS (nmS _)) (.cons (gd_o3 h.1) (.cons ((gd_hs h.2.2.1).mono (Nat.le_refl _) (by decide)) (.cons (gd_o3 h.2.1) (.cons (gd_b h.2.2.2) .nil)))))
  | range x y => exact (gd_tupA (ns := [12, 12, 12]) (k := 1) (N := 100) (.cons (gdS (nmS _)) (.cons (gdN h.1) (.cons (gdN h.2) .nil)))).mono (by decide) (by decide)
  | minim ms => exact (gd_tupA (ns := [12, 8100]) (k := 11) (N := 20000) (.cons (gdS (nmS _)) (.cons (gd_ms3 h) .nil))).mono (by decide) (by decide)
theorem gd_sts3 {ss : List Stm} (h : ∀ c ∈ ss, SmS c) (o : ss.length ≤ 8) : Gd 500000 15 (stD ss) := gd_listM (n := 50000) (k := 14) (m := 8) (fun c hc => gd_s (h c hc)) o
end PM
set_option Elab.async false
set_option linter.all false
set_option maxRecDepth 100000
set_option maxHeartbeats 4000000
namespace PM
open PySem SX SU LG
/-! drawn data may be compared -/
def Lay (d : PyData) : Prop := PyData.canLay0 d = true
theorem lay_all : ∀ {xs : List PyData}, (∀ x ∈ xs, Lay x) → PyData.canLayAll0 xs = true
  | [], _ => rfl
  | a :: r, h => by
    have h1 : PyData.canLay0 a = true := h a List.mem_cons_self
    rw [PyData.canLayAll0, h1, lay_all fun x hx => h x (List.mem_cons_of_mem _ hx)]; rfl
theorem lay_tup {xs : List PyData} (h : ∀ x ∈ xs, Lay x) : Lay (.tuple xs) := by unfold Lay; rw [PyData.canLay0]; exact lay_all h
theorem lay_lst {α : Type} {dat : α → PyData} {xs : List α} (h : ∀ x ∈ xs, Lay (dat x)) : Lay (.list (xs.map dat)) := by
  unfold Lay; rw [PyData.canLay0]
  exact lay_all fun x hx => by obtain ⟨y, hy, rfl⟩ := List.mem_map.mp hx; exact h y hy
theorem lay_sh {x : Str} (h : SeqAt.shaped (.str x) = true) : Lay (.str x) := by
  unfold SeqAt.shaped at h
  rw [Bool.and_eq_true] at h
  exact h.1
theorem lay_int (i : Int) : Lay (.int i) := by simp [Lay, PyData.canLay0]
theorem lay_non : Lay .none := by simp [Lay, PyData.canLay0]
theorem m2 {a b : PyData} (h1 : Lay a) (h2 : Lay b) : ∀ x ∈ [a, b], Lay x := by
  intro x hx; rcases List.mem_cons.mp hx with e | hx
  · rw [e]; exact h1
  · rw [List.mem_singleton.mp hx]; exact h2
theorem mc {a : PyData} {r : List PyData} (h1 : Lay a) (h2 : ∀ x ∈ r, Lay x) : ∀ x ∈ a :: r, Lay x := by
  intro x hx; rcases List.mem_cons.mp hx with e | hx
  · rw [e]; exact h1
  · exact h2 x hx
def KSX : List Str := ["var", "int", "sym", "op", "atom", "yes", "no", "compare", "member", "sum", "choice", "rule", "deny", "choose", "range", "minimize", "+", "-", "*", "=", "!=", "<", "<=", ">", ">="]
theorem kx_lay : ∀ x ∈ KSX, Lay (.str x) := by
  have : KSX.all (fun x => PyData.canLay0 (.str x)) = true := by decide +kernel
  exact fun x hx => List.all_eq_true.mp this x hx
theorem lay_t : ∀ {t : Tm}, SmT t → Lay t.d
  | .var x, h => lay_tup (m2 (kx_lay _ (by decide)) (lay_sh (vrs_ok x h).2.2))
  | .int n, h => lay_tup (m2 (kx_lay _ (by decide)) (lay_int n))
  | .sym x, h => lay_tup (m2 (kx_lay _ (by decide)) (lay_sh (nms_ok x h).2.2))
  | .op s l r, h => lay_tup (mc (kx_lay _ (by decide)) (mc (kx_lay _ (by have : ∀ s ∈ OPL, s ∈ KSX := by decide
                                                                         exact this s h.1)) (m2 (lay_t h.2.1) (lay_t h.2.2))))
theorem lay_a {a : Atm} (h : SmA a) : Lay a.d := lay_tup (mc (kx_lay _ (by decide)) (m2 (lay_sh (nms_ok _ h.1).2.2) (lay_lst fun t ht => lay_t (h.2.2 t ht).1)))
theorem lay_c : ∀ {c : Cnd}, SmC c → Lay c.d
  | .yes a, h => lay_tup (m2 (kx_lay _ (by decide)) (lay_a h))
  | .no a, h => lay_tup (m2 (kx_lay _ (by decide)) (lay_a h))
  | .cmp s l r, h => lay_tup (mc (kx_lay _ (by decide)) (mc (kx_lay _ (by have : ∀ s ∈ REL, s ∈ KSX := by decide
                                                                          exact this s h.1)) (m2 (lay_t h.2.1.1) (lay_t h.2.2.1))))
theorem lay_cs {b : List Cnd} (h : SmCs b) : Lay (csD b) := lay_lst fun c hc => lay_c (h.2 c hc)
theorem lay_m {m : Mem} (h : SmM m) : Lay m.d := lay_tup (mc (kx_lay _ (by decide)) (m2 (lay_t h.1.1) (lay_cs h.2)))
theorem lay_ms {ms : List Mem} (h : SmMs ms) : Lay (msD ms) := lay_lst fun m hm => lay_m (h.2.2 m hm)
theorem lay_p : ∀ {p : Prt}, SmP p → Lay p.d
  | .c x, h => lay_c (c := x) h
  | .sum s ms t, h => lay_tup (mc (kx_lay _ (by decide)) (mc (kx_lay _ (by have : ∀ s ∈ SREL, s ∈ KSX := by decide
                                                                           exact this s h.1)) (m2 (lay_ms h.2.1) (lay_t h.2.2.1))))
theorem lay_b {b : List Prt} (h : SmB b) : Lay (bdD b) := lay_lst fun p hp => lay_p (h.2 p hp)
theorem lay_h {c : Cho} (h : SmH c) : Lay c.d := lay_tup (mc (kx_lay _ (by decide)) (m2 (lay_a h.1) (lay_cs h.2)))
theorem lay_hs {ms : List Cho} (h : SmHs ms) : Lay (chD ms) := lay_lst fun m hm => lay_h (h.2.2 m hm)
theorem lay_o (o : Option Int) : Lay (oD o) := by
  cases o with
  | none => exact lay_non
  | some i => exact lay_int i
theorem lay_s : ∀ {s : Stm}, SmS s → Lay s.d
  | .rule a b, h => lay_tup (mc (kx_lay _ (by decide)) (m2 (lay_a h.1) (lay_b h.2)))
  | .deny b, h => lay_tup (m2 (kx_lay _ (by decide)) (lay_b h.2))
  | .choose lo hi ch b, h => lay_tup (mc (kx_lay _ (by decide)) (mc (lay_o lo) (mc (lay_hs h.2.2.1) (m2 (lay_o hi) (lay_b h.2.2.2)))))
  | .range x y, h => lay_tup (mc (kx_lay _ (by decide)) (m2 (lay_int x) (lay_int y)))
  | .minim ms, h => lay_tup (m2 (kx_lay _ (by decide)) (lay_ms h))
theorem shape_of {n k : Nat} {d : PyData} (l : Lay d) (g : Gd n k d) (hk : k ≤ 40) : SeqAt.shaped d = true := by
  unfold SeqAt.shaped
  rw [show PyData.canLay0 d = true from l]
  have := g.dp
  simp only [Bool.true_and, decide_eq_true_eq]
  omega
theorem shaped_sts {ss : List Stm} (h : ∀ c ∈ ss, SmS c) (o : ss.length ≤ 8) : SeqAt.shaped (stD ss) = true := shape_of (lay_lst fun s hs => lay_s (h s hs)) (gd_sts3 h o) (by decide)
end PM
set_option Elab.async false
set_option linter.all false
set_option maxRecDepth 100000
set_option maxHeartbeats 4000000
namespace PX
open PySem L2 C8 SX LC LG SU PM PySem.Spec PyProof.Rows GX
/-! the written form with other white space -/
theorem tok1_gap {c : Nat} {r t : List Nat} {k : K1.Kind} (hc : c ≠ 32) (h : K1.tok1 (c :: r) = some (k, t)) : ∀ x ∈ t, x ≠ 32 := by
  have word : ∀ x ∈ (c :: r).take (K1.wordLen r), x ≠ 32 := fun x hx => by
    unfold K1.wordLen at hx
    rw [Nat.add_comm, List.take_succ_cons] at hx
    rcases List.mem_cons.mp hx with e | hx
    · rw [e]; exact hc
    · have := run_all K1.isWord 19 r x hx
      intro z; rw [z] at this; exact absurd this (by decide)
  unfold K1.tok1 at h
  dsimp only at h
  split at h
  · cases h; exact word
  split at h
  · cases h; exact word
  split at h
  · cases h
    intro x hx
    unfold K1.intLen at hx
    split at hx
    · rename_i hc
      simp [hc] at hx; rw [hx]; decide
    · rw [Nat.add_comm, List.take_succ_cons] at hx
      rcases List.mem_cons.mp hx with e | hx
      · rw [e]; exact hc
      · have := run_all K1.isDigit 3 r x hx
        intro z; rw [z] at this; exact absurd this (by decide)
  · obtain ⟨g, hg, e⟩ := Option.map_eq_some_iff.mp h
    cases e
    have hs : t ∈ K1.sigs := List.mem_of_find?_eq_some hg
    have : ∀ t ∈ K1.sigs, ∀ x ∈ t, x ≠ 32 := by decide
    exact this t hs
theorem lex_gap : ∀ {n : Nat} {l : List Nat} {ts : List Tk}, K1.Lex n l ts → ∀ t ∈ ts, ∀ x ∈ t.2.1, x ≠ 32
  | _, _, _, .nil _, t, ht => by
    rw [List.mem_singleton.mp ht]; intro x hx; cases hx
  | _, _, _, .ws _ h, t, ht => lex_gap h t ht
  | _, _, _, .tok h1 h2 _ _ h, t, ht => by
    rcases List.mem_cons.mp ht with e | ht
    · rw [e]; exact tok1_gap h1.1 h2
    · exact lex_gap h t ht
theorem repl_app {sep : List Nat} : ∀ (t r : List Nat), (∀ x ∈ t, x ≠ 32) → StrLaws.replL [32] sep (t ++ r) = t ++ StrLaws.replL [32] sep r
  | [], _, _ => rfl
  | c :: t, r, h => by
    have hc := h c List.mem_cons_self
    rw [List.cons_append, StrLaws.replL_miss (by simpa using hc), repl_app t r fun x hx => h x (List.mem_cons_of_mem _ hx)]; rfl
theorem repl_txt {sep : List Nat} : ∀ p : List Pc, (∀ w ∈ tw p, ∀ x ∈ w.2, x ≠ 32) → StrLaws.replL [32] sep (tx p) = txt sep p
  | [], _ => StrLaws.replL_nil
  | .tok k t :: r, h => by
    show StrLaws.replL [32] sep (t ++ tx r) = t ++ txt sep r
    rw [repl_app t _ (h (k, t) List.mem_cons_self), repl_txt r fun w hw => h w (List.mem_cons_of_mem _ hw)]
  | .sp :: r, h => by
    show StrLaws.replL [32] sep (32 :: tx r) = sep ++ txt sep r
    rw [StrLaws.replL_hit (by simp) (by simp), ← repl_txt r h]; rfl
  | .nl :: r, h => by
    show StrLaws.replL [32] sep (10 :: tx r) = 10 :: txt sep r
    rw [StrLaws.replL_miss (by simp), repl_txt r h]
theorem repl_sts {d : Nat} {sep : List Nat} {ss : List Stm} (g : ∀ s ∈ ss, GoodS (d := d) s) : Txt.replace (S (tx (wSts ss))) (S [32]) (S sep) = S (txt sep (wSts ss)) := by
  have hs : Ws [32] := ⟨by simp, fun c hc => .inl (List.mem_singleton.mp hc)⟩
  obtain ⟨ts, e, l⟩ := sts_lex hs ss g 0
  have hg := lex_gap l
  apply TL.ext_tl
  show (Txt.replace (S (tx (wSts ss))) (S [32]) (S sep)).cps.toList = (S (txt sep (wSts ss))).cps.toList
  rw [StrLaws.replace_list (by simp [S, Str.length])]
  show StrLaws.replL [32] sep (tx (wSts ss)) = txt sep (wSts ss)
  refine repl_txt _ fun w hw => ?_
  have : w ∈ ts.map fp := by rw [e]; exact List.mem_append_left _ hw
  obtain ⟨t, ht, rfl⟩ := List.mem_map.mp this
  exact hg t ht
theorem starts_app (a b : List Nat) : Txt.startswith (S (a ++ b)) (S a) = true := by
  unfold Txt.startswith Builtin.Str.subAt
  simp [S, Str.length]
/-! pairs of values and data -/
section
variable {α : Type} {dat : α → PyData} {M : Vol} {H : Hp}
theorem zip_len : ∀ {as : List α} {ys : List V}, ys.length = as.length → (ys.zip as).map Prod.fst = ys ∧ (ys.zip as).map Prod.snd = as
  | [], [], _ => ⟨rfl, rfl⟩
  | a :: as, y :: ys, h => by
    obtain ⟨h1, h2⟩ := zip_len (as := as) (ys := ys) (by simpa using h)
    rw [List.zip_cons_cons, List.map_cons, List.map_cons, h1, h2]; exact ⟨rfl, rfl⟩
theorem zip_at : ∀ {as : List α} {ys : List V}, DMs M H ys (as.map dat) → ∀ p ∈ ys.zip as, DM M H p.1 (dat p.2) ∧ p.2 ∈ as
  | [], ys, _, p, hp => by rw [List.zip_nil_right] at hp; cases hp
  | a :: as, _, h, p, hp => by
    cases h with
    | cons h1 h2 =>
      rw [List.zip_cons_cons] at hp
      rcases List.mem_cons.mp hp with e | hp
      · rw [e]; exact ⟨h1, List.mem_cons_self⟩
      · obtain ⟨g1, g2⟩ := zip_at h2 p hp
        exact ⟨g1, List.mem_cons_of_mem _ g2⟩
theorem zip_dms : ∀ (l : List (V × α)), (∀ p ∈ l, DM M H p.1 (dat p.2)) → DMs M H (l.map Prod.fst) ((l.map Prod.snd).map dat)
  | [], _ => .nil
  | p :: l, h => .cons (h p List.mem_cons_self) (zip_dms l fun q hq => h q (List.mem_cons_of_mem _ hq))
end
/-! reading what was written -/
theorem read_sts {sep : List Nat} (hs : Ws sep) {ss : List Stm} (hl : ss.length ≤ 60) (h : ∀ s ∈ ss, BS s ∧ wc (tw (wStm s)) ≤ 60) : ∃ ts nn, K1.Lex 0 (txt sep (wSts ss)) ts ∧ parseM nn 12 ts = some (.ok ss) := by
  have g : ∀ s ∈ ss, GoodS (d := 12) s := fun s hx => bs_good (by decide) (h s hx).1
  obtain ⟨ts, e, l⟩ := sts_lex hs ss g 0
  exact ⟨ts, ts.length + 1, l, parse_read (Nat.lt_succ_self _) hl (fun s hx => ⟨g s hx, (h s hx).2⟩) (fun s hx => bs_good (by decide) (h s hx).1) e⟩
theorem ws32 : Ws [32] := ⟨by simp, fun c hc => .inl (List.mem_singleton.mp hc)⟩
theorem read_one {s : Stm} (h : BS s ∧ wc (tw (wStm s)) ≤ 60) : ∃ ts nn, K1.Lex 0 (tx (wStm s)) ts ∧ parseM nn 12 ts = some (.ok [s]) := by
  have g : GoodS (d := 12) s := bs_good (by decide) h.1
  obtain ⟨ts, e, l⟩ := (stm_sol ws32 g).lex 0 [] [(.fin, [], (txt [32] (wStm s)).length)] (.inl rfl) (by
    have := K1.Lex.nil (0 + (txt [32] (wStm s)).length)
    rw [Nat.zero_add] at this ⊢
    exact this)
  rw [List.append_nil] at l
  have hin : ∀ x ∈ [s], x = s := fun x hx => List.mem_singleton.mp hx
  refine ⟨_, _, l, parse_read (ss := [s]) (d := 12) (Nat.lt_succ_self _) (by show 1 ≤ 60; decide) (fun x hx => by rw [hin x hx]; exact ⟨g, h.2⟩) (fun x hx => by rw [hin x hx]; exact bs_good (by decide) h.1) ?_⟩
  rw [List.map_append, e]
  have : tw (wSts [s]) = tw (wStm s) := by
    show tw ((wStm s ++ [.nl]) ++ []) = _
    rw [List.append_nil, tw_app]; exact List.append_nil _
  rw [this]; rfl
theorem wc_br (p : List Pc) : wc (tw (br p)) = wc (tw p) := by
  unfold br
  show wc ((.sign, gL) :: tw (p ++ [sg gR])) = _
  rw [tw_app]
  show wc ([(.sign, gL)] ++ (tw p ++ [(.sign, gR)])) = _
  rw [wc_app, wc_app]
  have e1 : wc [(K1.Kind.sign, gL)] = 0 := rfl
  have e2 : wc [(K1.Kind.sign, gR)] = 0 := rfl
  omega
theorem wc_tm : ∀ t : SU.Tm, wc (tw (wTm t)) = t.lvs
  | .var x => rfl
  | .int n => rfl
  | .sym x => rfl
  | .op s l r => by
    rw [wTm, tw_app, tw_app, wc_app, wc_app]
    have e0 : wc (tw [Pc.sp, sg (cl s), Pc.sp]) = 0 := rfl
    have e1 : wc (tw (if s = S gMul ∧ isSum l = true then br (wTm l) else wTm l)) = l.lvs := by
      split
      · rw [wc_br, wc_tm l]
      · exact wc_tm l
    have e2 : wc (tw (if isOp r = true then br (wTm r) else wTm r)) = r.lvs := by
      split
      · rw [wc_br, wc_tm r]
      · exact wc_tm r
    rw [e0, e1, e2, Nat.zero_add]; rfl
def oneS (t : SU.Tm) : Stm := .rule ⟨"p", [t]⟩ []
theorem one_ok {t : SU.Tm} (h : DT 3 t) : (BS (oneS t) ∧ wc (tw (wStm (oneS t))) ≤ 60) ∧ tx (wStm (oneS t)) = [112, 40] ++ tx (wTm t) ++ [41, 46] ∧ (tx (wStm (oneS t))).length ≤ 4000 ∧ SeqAt.shaped (stD [oneS t]) = true := by
  have bt := h.bt (by decide)
  have lp : cl (Str.ofString "p") = [112] := by decide +kernel
  have hp : NMS.head? = some "p" := rfl
  have hpm : Str.ofString "p" ∈ NMS := List.mem_cons_self
  have ep : wStm (oneS t) = [nm [112], sg gL] ++ (wTm t ++ [sg gR, sg gDot]) := by
    show (nm (cl (Str.ofString "p")) :: (br (wTm t))) ++ [] ++ [sg gDot] = _
    rw [lp]; unfold br; simp
  have et : tx (wStm (oneS t)) = [112, 40] ++ tx (wTm t) ++ [41, 46] := by
    rw [ep, tx_app, tx_app, ← List.append_assoc]; rfl
  refine ⟨⟨⟨⟨(nms_ok _ hpm).1, by show 1 ≤ 4; decide, fun x hx => by rw [List.mem_singleton.mp hx]; exact bt⟩, ⟨Nat.zero_le _, fun p hp => nomatch hp⟩⟩, ?_⟩, et, ?_, ?_⟩
  · rw [ep, tw_app, tw_app, wc_app, wc_app, wc_tm]
    have e1 : wc (tw [nm [112], sg gL]) = 1 := rfl
    have e2 : wc (tw [sg gR, sg gDot]) = 0 := rfl
    have := bt.2.1
    omega
  · rw [et]
    have := bt_len bt
    simp only [List.length_append, List.length_cons, List.length_nil]
    omega
  · have ga : Gd 1500 7 (Atm.d ⟨"p", [t]⟩) := gd_tupA (ns := [12, 24, 1353]) (.cons (gdS (nmS _)) (.cons (gdL (nms_ok _ hpm).2.1) (.cons (gd_listM (n := 673) (k := 5) (m := 2) (fun x hx => by rw [List.mem_singleton.mp hx]; exact gd_dt h (by decide)) (by show 1 ≤ 2; decide)) .nil)))
    have gb : Gd 36000 13 (bdD []) := gd_b (b := []) ⟨Nat.zero_le _, fun p hp => nomatch hp⟩
    have gs : Gd 50000 14 (oneS t).d := gd_tupA (ns := [12, 1500, 36000]) (.cons (gdS (nmS _)) (.cons (ga.mono (Nat.le_refl _) (by decide)) (.cons gb .nil)))
    have gl : Gd 500000 15 (stD [oneS t]) := gd_listM (n := 50000) (k := 14) (m := 8) (fun c hc => by rw [List.mem_singleton.mp hc]; exact gs) (by show 1 ≤ 8; decide)
    have la : Lay (Atm.d ⟨"p", [t]⟩) := lay_tup (mc (kx_lay _ (by decide)) (m2 (lay_sh (nms_ok _ hpm).2.2) (lay_lst fun x hx => by rw [List.mem_singleton.mp hx]; exact lay_t h.1)))
    have lb : Lay (bdD []) := lay_b (b := []) ⟨Nat.zero_le _, fun p hp => nomatch hp⟩
    have ls : Lay (oneS t).d := lay_tup (mc (kx_lay _ (by decide)) (m2 la lb))
    exact shape_of (lay_lst fun x hx => by rw [List.mem_singleton.mp hx]; exact ls) gl (by decide)
end PX
set_option Elab.async false
set_option linter.all false
set_option maxRecDepth 100000
set_option maxHeartbeats 4000000
namespace PX
open PySem PySem.Spec PyProof.Rows L2 CwR
/-! text.replace(" ", [.., .., ..][i]): the texts are objects of their own -/
def zL (z0 z1 z2 : Str) : HO := .lst [.str z0, .str z1, .str z2]
def tRep3 (to : TE) (y z0 z1 z2 : Str) (ti : TE) : TE := fun σ H Q => to σ H fun v H1 => ∃ x, v = .str x ∧ ∀ (l : Addr) (o : Obj), H1 l = none →
  ti σ (upd H1 l (.frz o (zL z0 z1 z2))) fun i H2 => ∃ (k : Nat) (z : Str), i = .int k ∧ [z0, z1, z2][k]? = some z ∧ H2 l = some (.frz o (zL z0 z1 z2)) ∧ x.length + (x.length + 1) * z.length ≤ 16777216 ∧ Q (.str (Txt.replace x y z)) H2
section
variable {X : Cx} {o ie : Expr} {to ti : TE} {y z0 z1 z2 : Str} {j j0 j1 j2 : Nat} {cp c0 c1 c2 apos pos lp sp : Pos}
theorem pet_rep3 (ho : PE X o to) (hi : PE X ie ti) (hs : PlainIx ie) (hyz : (y == z0) = false ∧ (y == z1) = false ∧ (y == z2) = false)
    (hst : starEach [.Constant (.str y) j cp, .Subscript (.List [.Constant (.str z0) j0 c0, .Constant (.str z1) j1 c1, .Constant (.str z2) j2 c2] lp) ie sp] X.env =
      [(false, eval (.Constant (.str y) j cp) X.env), (false, eval (.Subscript (.List [.Constant (.str z0) j0 c0, .Constant (.str z1) j1 c1, .Constant (.str z2) j2 c2] lp) ie sp) X.env)] := by rfl)
    (hbase : attributeBase o "replace" X.env (eval o X.env) = eval o X.env := by rfl) (hline : (apos.endLine == pos.line) = true := by rfl) :
    PET X (.Call (.Attribute o "replace" apos) [.Constant (.str y) j cp, .Subscript (.List [.Constant (.str z0) j0 c0, .Constant (.str z1) j1 c1, .Constant (.str z2) j2 c2] lp) ie sp] [] pos) (tRep3 to y z0 z1 z2 ti) := by
  intro pins s σ H Q h0 I h
  refine PySem.Call_method2 hbase hst hline (wpAny_mono (PySem.wpAny_toks (ho.run pins s σ H _ I h)) (fun v s1 q => ?_) fun _ _ z => z.2)
  obtain ⟨hk, v', H1, I1, r1, x, e1, q⟩ := q
  subst e1
  obtain ⟨tx, e2⟩ := r1
  subst e2
  refine ⟨"str", _, PySem.F.plainAttrs_str, PySem.F.slot_str_replace, PySem.F.type_str_replace, typeIs_str _ _ _, (fun _ e => nomatch e), Calls.callWith_builtin rfl (Calls.evalArgs_plain (Calls.spliced_cons ?_))⟩
  refine Calls.Constant_str (Calls.spliced_cons (Subscript_ (wpAny_List_spliced ?_)))
  show wpAny _ _ (spliced ((false, eval (.Constant (.str z0) j0 c0) X.env) :: backTo lp (starEach [.Constant (.str z1) j1 c1, .Constant (.str z2) j2 c2] X.env))) _ _ _
  refine Calls.spliced_cons (Calls.Constant_str ?_)
  show wpAny _ _ (spliced ((false, eval (.Constant (.str z1) j1 c1) X.env) :: backTo lp (starEach [.Constant (.str z2) j2 c2] X.env))) _ _ _
  refine Calls.spliced_cons (Calls.Constant_str ?_)
  show wpAny _ _ (spliced ((false, eval (.Constant (.str z2) j2 c2) X.env) :: backTo lp (starEach [] X.env))) _ _ _
  refine Calls.spliced_cons (Calls.Constant_str (Calls.spliced_nil ?_))
  have h3 : (3 : Nat) ≤ sizeLine := by decide
  refine ⟨h3, ?_⟩
  have hq := q s1.heap.objs.size { cls := .type "list", data := .seq #[.str z0 (s1.toks + 1), .str z1 (s1.toks + 1 + 1), .str z2 (s1.toks + 1 + 1 + 1)] 0 } (I1.hok.fresh (Nat.le_refl _))
  have I2 : Inv X pins σ (upd H1 s1.heap.objs.size (.frz { cls := .type "list", data := .seq #[.str z0 (s1.toks + 1), .str z1 (s1.toks + 1 + 1), .str z2 (s1.toks + 1 + 1 + 1)] 0 } (zL z0 z1 z2)))
      { s1 with heap := s1.heap.push { cls := .type "list", data := .seq #[.str z0 (s1.toks + 1), .str z1 (s1.toks + 1 + 1), .str z2 (s1.toks + 1 + 1 + 1)] 0 }, toks := s1.toks + 1 + 1 + 1 + 1 } :=
    I1.laid (t' := s1.toks + 1 + 1 + 1 + 1) (fun b u e => Heap.get?_push_of_some _ e) (Nat.le_refl _) ⟨Heap.get?_push_size _ rfl, h3, [.str z0 (s1.toks + 1), .str z1 (s1.toks + 1 + 1), .str z2 (s1.toks + 1 + 1 + 1)], 0, .cons ⟨_, rfl⟩ (.cons ⟨_, rfl⟩ (.cons ⟨_, rfl⟩ .nil)), Heap.get?_push_size _ rfl⟩
  refine thn (hi.run pins _ σ _ _ I2 hq) fun iv s3 ⟨i, H3, I3, r3, k, z, e3, ez, hz, hb, q4⟩ => ?_
  subst e3
  obtain ⟨t3, e4⟩ := r3
  subst e4
  have hl := (I3.hok _ _ hz).1
  have hl2 : s3.heap.IsList s1.heap.objs.size #[.str z0 (s1.toks + 1), .str z1 (s1.toks + 1 + 1), .str z2 (s1.toks + 1 + 1 + 1)] := ⟨_, hl, rfl, 0, rfl⟩
  have fin : ∀ (u : Tok), s1.toks + 1 ≤ u → (y == z) = false → wpAny (model X.prog X.w) X.A (call (.builtin "str.replace") [.str x tx, .str y s1.toks, .str z u]) (EP X pins σ Q) X.xe s3 := fun u hu hyz =>
    PySem.SC.replace (by show s1.toks ≠ 0; omega) (Nat.ne_of_gt (Nat.lt_of_lt_of_le (Nat.succ_pos _) hu)) (Nat.ne_of_lt hu) hyz hb fun t' k => ⟨.str (Txt.replace x y z), H3, I3.tok k, ⟨t', rfl⟩, q4⟩
  have h1 := fin (s1.toks + 1) (Nat.le_refl _)
  have h2 := fin (s1.toks + 1 + 1) (Nat.le_succ _)
  have h4 := fin (s1.toks + 1 + 1 + 1) (Nat.le_succ_of_le (Nat.le_succ _))
  cases k with
  | zero =>
    cases ez
    exact item_listR hl2 (by decide) (by decide) rfl (Calls.spliced_nil (h1 hyz.1)) (hs _ _)
  | succ k =>
    cases k with
    | zero =>
      cases ez
      exact item_listR hl2 (by decide) (by decide) rfl (Calls.spliced_nil (h2 hyz.2.1)) (hs _ _)
    | succ k =>
      cases k with
      | zero =>
        cases ez
        exact item_listR hl2 (by decide) (by decide) rfl (Calls.spliced_nil (h4 hyz.2.2)) (hs _ _)
      | succ k => cases ez
end
end PX
set_option Elab.async false
set_option linter.all false
set_option maxRecDepth 100000
set_option maxHeartbeats 4000000
namespace PX
open PySem PySem.Spec PyProof.Rows L2 CwR
/-! a token is out behind a test with a written text in it -/
def PEk (X : Cx) (e : Expr) (t : TE) : Prop :=
  ∀ (pins : List (Addr × Obj)) (s : Shared) (σ : L2.St) (H : Hp) (Q : VK), Inv X pins σ H s → t σ H Q → wpAny (model X.prog X.w) X.A (eval e X.env) (fun v s1 => 1 ≤ s1.toks ∧ EP X pins σ Q v s1) X.xe s
def PTk (X : Cx) (e : Expr) (t : TT) : Prop :=
  ∀ (pins : List (Addr × Obj)) (s : Shared) (σ : L2.St) (H : Hp) (Q : Bool → Hp → Prop), Inv X pins σ H s → t σ H Q → wpAny (model X.prog X.w) X.A (isTrue e X.env (eval e X.env)) (fun c s1 => 1 ≤ s1.toks ∧ TP X pins σ Q c s1) X.xe s
theorem up {α : Type} {t : Sem α} {Q : α → Shared → Prop} {M : Model} {A : Around} {E : Value → Shared → Prop} {s : Shared} (hn : 1 ≤ s.toks) (h : wpAny M A t Q E s) : wpAny M A t (fun a s' => 1 ≤ s'.toks ∧ Q a s') E s :=
  wpAny_mono (PySem.wpAny_toks_of hn h) (fun _ _ z => z) fun _ _ z => z.2
section
variable {X : Cx} {e : Expr} {es : List Expr} {t : TA} {name x : Str} {apos cpos cp : Pos} {T id : String} {j : Nat} {r : V → List V → Hp → VK → Prop}
theorem pek_bm (pa : PlainAttrs "str") (slot : Slot "str" name id) (hty : typeOf (.builtin id) = pure (.type "method_descriptor")) (hm : MtR X id r) (ha : PA X (e :: es) t)
    (hbase : attributeBase (.Constant (.str x) j cp) name X.env (eval (.Constant (.str x) j cp) X.env) = eval (.Constant (.str x) j cp) X.env := by rfl)
    (hfew : ((backTo cpos (starEach (e :: es) X.env)).all (fun x => !x.1) && (backToKw cpos (keywordEach [] X.env)).all (fun x => x.1.isSome)
      && decide ((e :: es).length + ([] : List Keyword).length + (if ([] : List Keyword).isEmpty then 0 else 1) < 30)) = true := by rfl)
    (hline : (apos.endLine == cpos.line) = true := by rfl) (hs : starEach (e :: es) X.env = (false, eval e X.env) :: starEach es X.env := by rfl) (hplain : (backTo cpos (starEach es X.env)).any (·.1) = false := by rfl) :
    PEk X (.Call (.Attribute (.Constant (.str x) j cp) name apos) (e :: es) [] cpos) (tBM X.K "str" r (tC (.str x)) t) := by
  intro pins s σ H Q I h
  refine wpAny_Call_method_late hbase hfew hline rfl (Calls.Constant_str ?_)
  obtain ⟨ty, q1⟩ := h
  have r1 : RelV (.str x) (.str x s.toks) := ⟨_, rfl⟩
  have I1 : Inv X pins σ H { s with toks := s.toks + 1 } := I.tok _
  obtain ⟨h1, h2⟩ := tyV_is I1 r1 ty
  refine ⟨"str", id, pa, slot, hty, h1, h2, ?_⟩
  have hA := ha.run cpos pins _ σ H _ I1 q1
  refine up (by show 1 ≤ s.toks + 1; omega) ?_
  rw [hs] at hA ⊢
  refine Calls.callWith_builtin (by show (false || (backTo cpos (starEach es X.env)).any (·.1)) = false; rw [hplain] <;> rfl) (Calls.evalArgs_plain ?_)
  exact thn hA fun us s2 ⟨vs, H2, I2, r2, q2⟩ => hm pins s2 σ H2 _ vs _ us Q I2 r1 r2 q2
variable {a b : Expr} {rest : List Expr} {ta tb : TE} {tA tB' : TT} {pos : Pos}
theorem ptk_cmpR {op : CmpOp} {r : R2} (ho : OpR X (compareOp op) r) (ha : PE X a ta) (hb : PEk X b tb) (hm : behindInMarks op b = false) : PTk X (.Compare a [op] [b] pos) (tTest (tOp r ta tb)) := by
  intro pins s σ H Q I h
  refine wpAny_isTrue_Compare1 (thn (ha.run pins s σ H _ I h) fun v s1 ⟨x, H1, I1, r1, q1⟩ => thn (hb pins s1 σ H1 _ I1 q1) fun u s2 ⟨k2, y, H2, I2, r2, q2⟩ =>
    thn (up k2 (ho pins s2 σ H2 x y v u _ I2 r1 r2 q2)) fun c s3 ⟨k3, z, H3, I3, r3, k, e, q3⟩ => ?_) hm
  subst e
  cases r3
  exact wpAny_truthy_bool ⟨k3, H3, I3, q3⟩
theorem ptk_or (ha : PTk X a tA) (hb : PW X (.BoolOp .Or (b :: rest) pos) tB') : PTk X (.BoolOp .Or (a :: b :: rest) pos) (tOr tA tB') := by
  intro pins s σ H Q I h
  refine isTrue_or (thn (ha pins s σ H _ I h) fun c s1 ⟨k1, H1, I1, q1⟩ => ?_)
  cases c with
  | true => exact ⟨k1, H1, I1, q1⟩
  | false => exact up k1 (hb.run _ pins s1 σ H1 Q I1 q1)
/-- behind such an if one is out -/
theorem pss_ifk {c : Expr} {as bs rest : List Stmt} {tc : TT} {t u v : TS} (hc : PTk X c tc) (ha : PSs X as t) (hb : PSs X bs u) (hr : PSsT X rest v) : PSs X (.If c as bs pos :: rest) (tSeq (tIfS tc t u) v) := by
  refine ⟨fun pins s σ H D I h => ?_⟩
  have h1 : wpAny (model X.prog X.w) X.A (exec (.If c as bs pos) X.env) (fun f s1 => 1 ≤ s1.toks ∧ SP X pins { D with nx := v D } f s1) X.xe s := by
    refine wpAny_If (thn (hc pins s σ H _ I h) fun d s1 ⟨k1, H1, I1, q1⟩ => ?_)
    cases d with
    | true => exact up k1 (ha.run pins s1 σ H1 _ I1 q1)
    | false => exact up k1 (hb.run pins s1 σ H1 _ I1 q1)
  refine wpAny_execs_cons (thn h1 fun f s1 q => ?_)
  obtain ⟨k1, q⟩ := q
  cases f with
  | next =>
    obtain ⟨σ', H', I', q⟩ := q
    exact hr pins s1 σ' H' D k1 I' q
  | ret v => exact q
  | brk => exact q
  | cont => exact q
theorem pst_set {i : Nat} {x : Str} {e : Expr} {te : TE} {pos' : Pos} (hN : X.N.Nodup) (hi : X.N[i]? = some x) (hx : Loc X.env.scope x) (he : PET X e te) (hs : swapsWith e (some (.Name x pos')) pos.line X.env = pure false := by rfl) (hf : X.fn x = true ∨ X.env.scope.names.lookup x = some .local := by first | exact .inl rfl | exact .inr rfl | assumption) :
    PST X (.Assign [.Name x pos'] e pos) (tAsg te (gName i)) := by
  intro pins s σ H D h0 I h
  refine wpAny_Assign_Name (thn (he pins s σ H _ h0 I h) fun v s1 ⟨y, H1, I1, r1, q1⟩ => ?_) hs
  exact store_ok I1 hN hi hx r1 (fun s2 I2 => ⟨_, H1, I2, q1⟩) hf
end
end PX
set_option Elab.async false
set_option linter.all false
set_option maxRecDepth 100000
set_option maxHeartbeats 4000000
namespace PX
open PySem PySem.Spec PyProof.Rows L2 SX PySem.Builtin PySem.Builtin.Str
/-! text * int -/
def rMulS : R2 := fun x y H Q => ∃ (z : Str) (n : Nat), x = .str z ∧ y = .int n ∧ n ≤ 1000 ∧ z.length ≤ 100 ∧ Q (.str (Txt.mul z n)) H
theorem mulOk {z : Str} {n : Nat} (hn : n ≤ 1000) (hz : z.length ≤ 100) : MulOk z (n : Int) := by
  have e : (2 : Int) ^ 63 = 9223372036854775808 := by decide
  refine ⟨?_, fun h1 _ => ?_, fun _ _ => ?_⟩
  · rw [decide_eq_false (by omega), decide_eq_false (by omega)]; rfl
  · have : (z.length : Int) ≤ (2 ^ 63 - 1) / (n : Int) := by
      rw [Int.le_ediv_iff_mul_le (by omega)]
      have : (z.length : Int) * (n : Int) ≤ 100 * 1000 := by
        have := Nat.mul_le_mul hz hn
        exact_mod_cast this
      omega
    omega
  · rw [Int.toNat_natCast]
    have := Nat.mul_le_mul hz hn
    have e2 : (2 : Nat) ^ 24 = 16777216 := by decide
    unfold tooLong sizeLine
    exact decide_eq_false (by omega)
theorem op_mulS {X : Cx} : OpR X (binaryOp .Mult) rMulS := by
  intro pins s σ H x y v u Q I rx ry h
  obtain ⟨z, n, rfl, rfl, hn, hz, q⟩ := h
  obtain ⟨t, rfl⟩ := rx
  obtain ⟨t2, rfl⟩ := ry
  exact PySem.SB.mul (mulOk hn hz) fun t' k => ⟨.str (Txt.mul z n), H, I.tok k, ⟨t', rfl⟩, q⟩
theorem fold_arr : ∀ (n : Nat) (a acc : Array Nat), (List.replicate n a).foldl (· ++ ·) acc = acc ++ ((List.replicate n a.toList).flatten).toArray
  | 0, a, acc => by simp
  | n + 1, a, acc => by
    rw [List.replicate_succ, List.foldl_cons, fold_arr n a, List.replicate_succ, List.flatten_cons]
    apply Array.ext'
    simp
theorem mul_S (l : List Nat) (n : Nat) : Txt.mul (S l) n = S ((List.replicate n l).flatten) := by
  unfold Txt.mul
  by_cases h1 : (n : Int) < 1
  · have : n = 0 := by omega
    subst this
    rw [if_pos h1]; rfl
  · rw [if_neg h1]
    by_cases h2 : (((n : Int) == 1) || ((S l).length == 0)) = true
    · rw [if_pos h2]
      rw [Bool.or_eq_true] at h2
      rcases h2 with h2 | h2
      · have : n = 1 := by have := eq_of_beq h2; omega
        subst this
        simp
      · have : l = [] := by
          have := eq_of_beq h2
          rw [S_len] at this
          exact List.eq_nil_of_length_eq_zero this
        subst this
        simp
    · rw [if_neg h2, Int.toNat_natCast, fold_arr]
      simp [S]
end PX
set_option Elab.async false
set_option linter.all false
set_option maxRecDepth 100000
set_option maxHeartbeats 4000000
namespace PM
open PySem SX SU
/-! what is left is an end of what was there -/
def Sfx {α : Type} (f : Pr α) : Prop := ∀ s x s', f s = some (.ok x s') → s'.r <:+ s.r
theorem nx_sf (s : PS) : s.nx.r <:+ s.r := List.tail_suffix _
theorem ok_sf {α : Type} {x y : α} {s s' t : PS} (h : ok x s = some (.ok y s')) (l : s.r <:+ t.r) : s'.r <:+ t.r := by rw [← (ok_inj h).2]; exact l
theorem Sfx.ite {α : Type} {c : PS → Prop} [∀ s, Decidable (c s)] {f g : Pr α} (hf : Sfx f) (hg : Sfx g) : Sfx fun s => if c s then f s else g s := fun s x s' h => by
  dsimp only at h
  split at h
  · exact hf s x s' h
  · exact hg s x s' h
theorem skip_sf (x : List Nat) : Sfx (skipM x) := fun s y s' h => by
  unfold skipM at h
  split at h
  · exact ok_sf h (nx_sf s)
  · exact (er_no h).elim
theorem one_sf (x : List (List Nat)) : Sfx (oneM x) := fun s y s' h => by
  unfold oneM at h
  split at h
  · exact ok_sf h (nx_sf s)
  · exact (er_no h).elim
theorem int_sf : Sfx intM := fun s y s' h => by
  unfold intM at h
  split at h
  · exact ok_sf h (nx_sf s)
  · exact (er_no h).elim
theorem oint_sf : Sfx ointM := fun s y s' h => by
  unfold ointM at h
  split at h
  · exact ok_sf h (nx_sf s)
  · exact ok_sf h (List.suffix_refl _)
theorem name_sf : Sfx nameM := fun s y s' h => by
  unfold nameM at h
  split at h
  · exact ok_sf h (nx_sf s)
  · exact (er_no h).elim
theorem factor_sf {tm : Pr Tm} (h0 : Sfx tm) : Sfx (factorM tm) := fun s y s' h => by
  unfold factorM at h
  split at h
  · exact ok_sf h (nx_sf s)
  split at h
  · exact ok_sf h (nx_sf s)
  split at h
  · obtain ⟨a, s1, e1, h⟩ := bind_okS h
    obtain ⟨b, s2, e2, h⟩ := bind_okS h
    have l1 := h0 _ _ _ e1
    have l2 := skip_sf _ _ _ _ e2
    have l3 := nx_sf s
    exact ok_sf h (by repeat first | assumption | refine List.IsSuffix.trans (by assumption) ?_)
  · obtain ⟨a, s1, e1, h⟩ := bind_okS h
    have l1 := name_sf _ _ _ e1
    exact ok_sf h (by repeat first | assumption | refine List.IsSuffix.trans (by assumption) ?_)
theorem mul_sf {fac : Pr Tm} (h0 : Sfx fac) : ∀ (n : Nat) (l : Tm), Sfx (mulM fac n l)
  | 0, _ => fun s x s' h => nomatch h
  | n + 1, l => fun s x s' h => by
    unfold mulM at h
    split at h
    · obtain ⟨a, s1, e1, h⟩ := bind_okS h
      have l1 := h0 _ _ _ e1
      have l2 := mul_sf h0 n _ _ _ _ h
      have l3 := nx_sf s
      repeat first | assumption | refine List.IsSuffix.trans (by assumption) ?_
    · exact ok_sf h (List.suffix_refl _)
theorem product_sf {fac : Pr Tm} (h0 : Sfx fac) (n : Nat) : Sfx (productM n fac) := fun s x s' h => by
  obtain ⟨a, s1, e1, h⟩ := bind_okS h
  have l1 := h0 _ _ _ e1
  have l2 := mul_sf h0 n _ _ _ _ h
  repeat first | assumption | refine List.IsSuffix.trans (by assumption) ?_
theorem sum_sf {fac : Pr Tm} (h0 : Sfx fac) : ∀ (n : Nat) (l : Tm), Sfx (sumM fac n l)
  | 0, _ => fun s x s' h => nomatch h
  | n + 1, l => fun s x s' h => by
    unfold sumM at h
    split at h
    · obtain ⟨a, s1, e1, h⟩ := bind_okS h
      have l1 := h0 _ _ _ e1
      have l2 := sum_sf h0 n _ _ _ _ h
      have l3 := nx_sf s
      repeat first | assumption | refine List.IsSuffix.trans (by assumption) ?_
    · exact ok_sf h (List.suffix_refl _)
theorem term_sf (n : Nat) : ∀ d, Sfx (termM n d)
  | 0 => fun s x s' h => nomatch h
  | d + 1 => fun s x s' h => by
    obtain ⟨a, s1, e1, h⟩ := bind_okS h
    have l1 := product_sf (factor_sf (term_sf n d)) n _ _ _ e1
    have l2 := sum_sf (product_sf (factor_sf (term_sf n d)) n) n _ _ _ _ h
    repeat first | assumption | refine List.IsSuffix.trans (by assumption) ?_
theorem many_sf {α : Type} {sep : List Nat} {item : Pr α} (h0 : Sfx item) : ∀ (n : Nat) (l : List α), Sfx (manyM sep item n l)
  | 0, _ => fun s x s' h => nomatch h
  | n + 1, l => fun s x s' h => by
    unfold manyM at h
    split at h
    · obtain ⟨a, s1, e1, h⟩ := bind_okS h
      have l1 := h0 _ _ _ e1
      have l2 := many_sf h0 n _ _ _ _ h
      have l3 := nx_sf s
      repeat first | assumption | refine List.IsSuffix.trans (by assumption) ?_
    · exact ok_sf h (List.suffix_refl _)
theorem opt_sf {α : Type} {n : Nat} {st sep : List Nat} {item : Pr α} (h0 : Sfx item) : Sfx (optM n st sep item) := fun s x s' h => by
  unfold optM at h
  split at h
  · obtain ⟨a, s1, e1, h⟩ := bind_okS h
    have l1 := h0 _ _ _ e1
    have l2 := many_sf h0 n _ _ _ _ h
    have l3 := nx_sf s
    repeat first | assumption | refine List.IsSuffix.trans (by assumption) ?_
  · exact ok_sf h (List.suffix_refl _)
theorem list_sf {α : Type} {n : Nat} {item : Pr α} (h0 : Sfx item) : Sfx (listM n item) := fun s x s' h => by
  unfold listM at h
  obtain ⟨a, s1, e1, h⟩ := bind_okS h
  obtain ⟨b, s2, e2, h⟩ := bind_okS h
  obtain ⟨c, s3, e3, h⟩ := bind_okS h
  obtain ⟨d, s4, e4, h⟩ := bind_okS h
  have l1 := skip_sf _ _ _ _ e1
  have l2 := h0 _ _ _ e2
  have l3 := many_sf h0 n _ _ _ _ e3
  have l4 := skip_sf _ _ _ _ e4
  exact ok_sf h (by repeat first | assumption | refine List.IsSuffix.trans (by assumption) ?_)
theorem terms_sf {n : Nat} {tm : Pr Tm} (h0 : Sfx tm) : Sfx (termsM n tm) := fun s x s' h => by
  unfold termsM at h
  split at h
  · obtain ⟨a, s1, e1, h⟩ := bind_okS h
    obtain ⟨b, s2, e2, h⟩ := bind_okS h
    obtain ⟨c, s3, e3, h⟩ := bind_okS h
    have l1 := h0 _ _ _ e1
    have l2 := many_sf h0 n _ _ _ _ e2
    have l3 := skip_sf _ _ _ _ e3
    have l4 := nx_sf s
    exact ok_sf h (by repeat first | assumption | refine List.IsSuffix.trans (by assumption) ?_)
  · exact ok_sf h (List.suffix_refl _)
theorem atom_sf {n : Nat} {tm : Pr Tm} (h0 : Sfx tm) : Sfx (atomM n tm) := fun s x s' h => by
  unfold atomM at h
  obtain ⟨a, s1, e1, h⟩ := bind_okS h
  obtain ⟨b, s2, e2, h⟩ := bind_okS h
  have l1 := name_sf _ _ _ e1
  have l2 := terms_sf h0 _ _ _ e2
  exact ok_sf h (show s2.r <:+ s.r by repeat first | assumption | refine List.IsSuffix.trans (by assumption) ?_)
theorem cond_sf {n : Nat} {tm : Pr Tm} (h0 : Sfx tm) : Sfx (condM n tm) := fun s x s' h => by
  unfold condM at h
  split at h
  · obtain ⟨a, s1, e1, h⟩ := bind_okS h
    have l1 := atom_sf h0 _ _ _ e1
    have l4 := nx_sf s
    exact ok_sf h (by repeat first | assumption | refine List.IsSuffix.trans (by assumption) ?_)
  split at h
  · obtain ⟨a, s1, e1, h⟩ := bind_okS h
    have l1 := atom_sf h0 _ _ _ e1
    exact ok_sf h (by repeat first | assumption | refine List.IsSuffix.trans (by assumption) ?_)
  · obtain ⟨a, s1, e1, h⟩ := bind_okS h
    obtain ⟨b, s2, e2, h⟩ := bind_okS h
    obtain ⟨c, s3, e3, h⟩ := bind_okS h
    have l1 := h0 _ _ _ e1
    have l2 := one_sf _ _ _ _ e2
    have l3 := h0 _ _ _ e3
    exact ok_sf h (by repeat first | assumption | refine List.IsSuffix.trans (by assumption) ?_)
theorem conds_sf {n : Nat} {tm : Pr Tm} (h0 : Sfx tm) : Sfx (condsM n tm) := opt_sf (cond_sf h0)
theorem choice_sf {n : Nat} {tm : Pr Tm} (h0 : Sfx tm) : Sfx (choiceM n tm) := fun s x s' h => by
  unfold choiceM at h
  obtain ⟨a, s1, e1, h⟩ := bind_okS h
  obtain ⟨b, s2, e2, h⟩ := bind_okS h
  have l1 := atom_sf h0 _ _ _ e1
  have l2 := conds_sf h0 _ _ _ e2
  exact ok_sf h (by repeat first | assumption | refine List.IsSuffix.trans (by assumption) ?_)
theorem member_sf {n : Nat} {tm : Pr Tm} (h0 : Sfx tm) : Sfx (memberM n tm) := fun s x s' h => by
  unfold memberM at h
  obtain ⟨a, s1, e1, h⟩ := bind_okS h
  obtain ⟨b, s2, e2, h⟩ := bind_okS h
  have l1 := h0 _ _ _ e1
  have l2 := conds_sf h0 _ _ _ e2
  exact ok_sf h (by repeat first | assumption | refine List.IsSuffix.trans (by assumption) ?_)
theorem part_sf {n : Nat} {tm : Pr Tm} (h0 : Sfx tm) : Sfx (partM n tm) := fun s x s' h => by
  unfold partM at h
  split at h
  · obtain ⟨a, s1, e1, h⟩ := bind_okS h
    obtain ⟨b, s2, e2, h⟩ := bind_okS h
    obtain ⟨c, s3, e3, h⟩ := bind_okS h
    have l1 := list_sf (member_sf h0) _ _ _ e1
    have l2 := one_sf _ _ _ _ e2
    have l3 := h0 _ _ _ e3
    have l4 := nx_sf s
    exact ok_sf h (by repeat first | assumption | refine List.IsSuffix.trans (by assumption) ?_)
  · obtain ⟨a, s1, e1, h⟩ := bind_okS h
    have l1 := cond_sf h0 _ _ _ e1
    exact ok_sf h (by repeat first | assumption | refine List.IsSuffix.trans (by assumption) ?_)
theorem body_sf {n : Nat} {tm : Pr Tm} (h0 : Sfx tm) : Sfx (bodyM n tm) := opt_sf (part_sf h0)
theorem choose_sf {n : Nat} {tm : Pr Tm} (h0 : Sfx tm) : Sfx (chooseM n tm) := fun s x s' h => by
  unfold chooseM at h
  obtain ⟨a, s1, e1, h⟩ := bind_okS h
  obtain ⟨b, s2, e2, h⟩ := bind_okS h
  obtain ⟨c, s3, e3, h⟩ := bind_okS h
  obtain ⟨d, s4, e4, h⟩ := bind_okS h
  have l1 := oint_sf _ _ _ e1
  have l2 := list_sf (choice_sf h0) _ _ _ e2
  have l3 := oint_sf _ _ _ e3
  have l4 := body_sf h0 _ _ _ e4
  exact ok_sf h (by repeat first | assumption | refine List.IsSuffix.trans (by assumption) ?_)
theorem bare_sf {n : Nat} {tm : Pr Tm} (h0 : Sfx tm) : Sfx (bareM n tm) := fun s x s' h => by
  unfold bareM at h
  have l4 := nx_sf s
  split at h
  · obtain ⟨a, s1, e1, h⟩ := bind_okS h
    have l1 := body_sf h0 _ _ _ e1
    exact ok_sf h (by repeat first | assumption | refine List.IsSuffix.trans (by assumption) ?_)
  split at h
  · obtain ⟨a, s1, e1, h⟩ := bind_okS h
    obtain ⟨b, s2, e2, h⟩ := bind_okS h
    have l1 := int_sf _ _ _ e1
    have l2 := int_sf _ _ _ e2
    exact ok_sf h (by repeat first | assumption | refine List.IsSuffix.trans (by assumption) ?_)
  split at h
  · obtain ⟨a, s1, e1, h⟩ := bind_okS h
    have l1 := list_sf (member_sf h0) _ _ _ e1
    exact ok_sf h (by repeat first | assumption | refine List.IsSuffix.trans (by assumption) ?_)
  split at h
  · exact choose_sf h0 _ _ _ h
  · obtain ⟨a, s1, e1, h⟩ := bind_okS h
    obtain ⟨b, s2, e2, h⟩ := bind_okS h
    have l1 := atom_sf h0 _ _ _ e1
    have l2 := body_sf h0 _ _ _ e2
    exact ok_sf h (by repeat first | assumption | refine List.IsSuffix.trans (by assumption) ?_)
theorem stm_sf {n : Nat} {tm : Pr Tm} (h0 : Sfx tm) : Sfx (stmM n tm) := fun s y s' h => by
  unfold stmM at h
  obtain ⟨a, s1, e1, h⟩ := bind_okS h
  obtain ⟨b, s2, e2, h⟩ := bind_okS h
  have l1 := bare_sf h0 _ _ _ e1
  have l2 := skip_sf _ _ _ _ e2
  exact ok_sf h (by repeat first | assumption | refine List.IsSuffix.trans (by assumption) ?_)
end PM
set_option Elab.async false
set_option linter.all false
set_option maxRecDepth 100000
set_option maxHeartbeats 4000000
namespace PN
open PySem SX SU PM PX
/-! some statements, a blank behind each, and what follows -/
def wP (ss : List Stm) : List Pc := ss.flatMap fun s => wStm s ++ [.sp]
def tk0 (ss : List Stm) : List Tw := ss.flatMap fun s => tw (wStm s)
theorem wP_app (a b : List Stm) : wP (a ++ b) = wP a ++ wP b := by unfold wP; rw [List.flatMap_append]
theorem wP_cons (s : Stm) (ss : List Stm) : tx (wP (s :: ss)) = tx (wStm s) ++ (32 :: tx (wP ss)) := by
  show tx ((wStm s ++ [.sp]) ++ wP ss) = _
  rw [tx_app, tx_app, List.append_assoc]; rfl
theorem lex_pre {d : Nat} : ∀ (ss : List Stm), (∀ s ∈ ss, GoodS (d := d) s) → ∀ (n : Nat) (rest : List Nat) (tf : List Tk), K1.Lex (n + (tx (wP ss)).length) rest tf → ∃ tb, tb.map fp = tk0 ss ∧ K1.Lex n (tx (wP ss) ++ rest) (tb ++ tf)
  | [], _, n, rest, tf, h => ⟨[], rfl, h⟩
  | s :: ss, g, n, rest, tf, h => by
    rw [wP_cons, List.length_append, List.length_cons] at h
    obtain ⟨t2, e2, l2⟩ := lex_pre ss (fun z hz => g z (List.mem_cons_of_mem _ hz)) (n + (tx (wStm s)).length + 1) rest tf (by rw [show n + (tx (wStm s)).length + 1 + (tx (wP ss)).length = n + ((tx (wStm s)).length + ((tx (wP ss)).length + 1)) by omega]; exact h)
    have l3 : K1.Lex (n + (txt [32] (wStm s)).length) (32 :: (tx (wP ss) ++ rest)) (t2 ++ tf) := .ws (.inl rfl) l2
    obtain ⟨t1, e1, l1⟩ := (stm_sol ws32 (g s List.mem_cons_self)).lex n _ _ (.inr ⟨32, _, rfl, by decide⟩) l3
    refine ⟨t1 ++ t2, by rw [List.map_append, e1, e2]; rfl, ?_⟩
    rw [wP_cons, List.append_assoc, List.append_assoc]
    exact l1
theorem suf_eq {α : Type} {a b c : List α} (h : c <:+ a ++ b) (e : c.length = b.length) : c = b := by
  obtain ⟨p, hp⟩ := h
  have := congrArg List.length hp
  rw [List.length_append, List.length_append] at this
  exact (List.append_inj hp (by omega)).2
theorem stms_pre {n d : Nat} : ∀ (ss : List Stm), (∀ s ∈ ss, GoodS (d := d) s ∧ wc (tw (wStm s)) ≤ 60) → ∀ (acc : List Stm) (mw k : Nat) (tb tf : List Tk) (m : Nat), tb.map fp = tk0 ss → (tb ++ tf).length < n → m ≤ 4 → mw ≤ 60 →
    ∃ m' mw', m' ≤ 4 ∧ mw' ≤ 60 ∧ stmsM (stmM n (termM n d)) (k + ss.length) acc mw ⟨tb ++ tf, m⟩ = stmsM (stmM n (termM n d)) k (acc ++ ss) mw' ⟨tf, m'⟩
  | [], _, acc, mw, k, tb, tf, m, e, hl, hm, hw => by
    have : tb = [] := by cases tb with
      | nil => rfl
      | cons a b => cases e
    rw [this]
    exact ⟨m, mw, hm, hw, by rw [List.append_nil]; rfl⟩
  | s :: ss, h, acc, mw, k, tb, tf, m, e, hn, hm, hw => by
    obtain ⟨g, hwc⟩ := h s List.mem_cons_self
    have e0 : (tb ++ tf).map fp = tw (wStm s) ++ (tk0 ss ++ tf.map fp) := by
      rw [List.map_append, e, ← List.append_assoc]; rfl
    obtain ⟨r1, m1, e1, l1, hm1, q1⟩ := stm_read (n := n) g (tb ++ tf) m _ e0 trivial hn hm
    have sf := stm_sf (term_sf n d) _ _ _ q1
    obtain ⟨t1, t2, rfl, f1, f2⟩ : ∃ t1 t2, tb = t1 ++ t2 ∧ t1.map fp = tw (wStm s) ∧ t2.map fp = tk0 ss := by
      refine ⟨tb.take (tw (wStm s)).length, tb.drop (tw (wStm s)).length, (List.take_append_drop _ _).symm, ?_, ?_⟩
      · rw [List.map_take, e]; exact List.take_left
      · rw [List.map_drop, e]; exact List.drop_left
    have r1e : r1 = t2 ++ tf := by
      have sf : r1 <:+ (t1 ++ t2) ++ tf := sf
      rw [List.append_assoc] at sf
      refine suf_eq sf ?_
      have := congrArg List.length e1
      rw [List.length_map, List.length_append, List.length_map, ← f2, List.length_map] at this
      rw [List.length_append]; exact this
    subst r1e
    have hwd : wordsN (((t1 ++ t2) ++ tf).take (((t1 ++ t2) ++ tf).length - (t2 ++ tf).length)) ≤ 60 := by rw [words_wc, take_of e0 e1]; exact hwc
    obtain ⟨m2, mw2, hm2, hw2, q2⟩ := stms_pre ss (fun z hz => h z (List.mem_cons_of_mem _ hz)) (acc ++ [s]) (max mw (wordsN (((t1 ++ t2) ++ tf).take (((t1 ++ t2) ++ tf).length - (t2 ++ tf).length)))) k t2 tf m1 f2 (Nat.lt_of_le_of_lt l1 hn) hm1 (Nat.max_le.mpr ⟨hw, hwd⟩)
    refine ⟨m2, mw2, hm2, hw2, ?_⟩
    show (if PS.k ⟨(t1 ++ t2) ++ tf, m⟩ = .fin then _ else PM.bind (stmM n (termM n d) ⟨(t1 ++ t2) ++ tf, m⟩) (fun x s1 => stmsM (stmM n (termM n d)) (k + ss.length) (acc ++ [x]) (max mw (wordsN (((t1 ++ t2) ++ tf).take (((t1 ++ t2) ++ tf).length - s1.r.length)))) s1)) = _
    rw [hk_of e0, if_neg (stm_hk _), bind_okk q1]
    show stmsM _ (k + ss.length) (acc ++ [s]) (max mw (wordsN (((t1 ++ t2) ++ tf).take (((t1 ++ t2) ++ tf).length - (t2 ++ tf).length)))) ⟨t2 ++ tf, m1⟩ = _
    rw [q2, List.append_assoc]; rfl
theorem deep_pre {ss : List Stm} (g : ∀ s ∈ ss, GoodS (d := 10) s) {tb tf : List Tk} (e : tb.map fp = tk0 ss) : tooDeep 0 (tb ++ tf) = tooDeep 0 tf := by
  rw [deep_of, deep_of, List.map_append, e]
  have : ∀ xs : List Stm, (∀ s ∈ xs, GoodS (d := 10) s) → Bal 10 (tk0 xs) := fun xs => by
    induction xs with
    | nil => exact fun _ => Bal.nil _
    | cons s r ih => exact fun h => Bal.app (stm_bal (h s List.mem_cons_self)) (ih fun z hz => h z (List.mem_cons_of_mem _ hz))
  exact this ss g 0 _ (by omega)
/-! the tokens, found by a function -/
def lexF : Nat → Nat → List Nat → Option (List Tk)
  | 0, _, _ => none
  | _ + 1, n, [] => some [(.fin, [], n)]
  | f + 1, n, c :: r => if c = 32 ∨ c = 10 then lexF f (n + 1) r else match K1.tok1 (c :: r) with
    | none => none
    | some (k, t) => if t ≠ [] ∧ t.length ≤ r.length + 1 then match lexF f (n + t.length) ((c :: r).drop t.length) with
      | none => none
      | some ts => some ((k, t, n) :: ts)
      else none
theorem lexF_ok : ∀ {f n : Nat} {l : List Nat} {ts : List Tk}, lexF f n l = some ts → K1.Lex n l ts
  | 0, _, _, _, h => nomatch h
  | _ + 1, n, [], _, h => by cases h; exact .nil n
  | f + 1, n, c :: r, ts, h => by
    unfold lexF at h
    split at h
    · rename_i hc; exact .ws hc (lexF_ok h)
    · rename_i hc
      split at h
      · cases h
      · rename_i k t ht
        split at h
        · rename_i h2
          split at h
          · cases h
          · rename_i ts2 h3
            cases h
            exact .tok ⟨fun z => hc (.inl z), fun z => hc (.inr z)⟩ ht h2.1 h2.2 (lexF_ok h3)
        · cases h
/-- the first statement behind: too deep; the end already; what is read -/
def FU : Nat := 600
def run (off m : Nat) (fl : List Nat) : Option (Bool × Bool × Option (Rs Stm)) := match lexF FU off fl with
  | none => none
  | some tf => some (tooDeep 0 tf, decide ((hd tf).1 = .fin), stmM FU (termM FU 12) ⟨tf, m⟩)
/-- of a statement that is read: its words, the most terms, the end behind it -/
def runW (off m : Nat) (fl : List Nat) : Option (Bool × Bool × Option (Nat × Nat × Bool)) := match lexF FU off fl with
  | none => none
  | some tf => some (tooDeep 0 tf, decide ((hd tf).1 = .fin), match stmM FU (termM FU 12) ⟨tf, m⟩ with
    | some (.ok _ s) => some (wordsN (tf.take (tf.length - s.r.length)), s.m, decide (s.k = .fin))
    | _ => none)
def runD (off : Nat) (fl : List Nat) : Option Bool := match lexF FU off fl with
  | none => none
  | some tf => some (tooDeep 0 tf)
structure Pre (ss : List Stm) (fl : List Nat) : Prop where
  g : ∀ s ∈ ss, BS s ∧ wc (tw (wStm s)) ≤ 60
  l : (tk0 ss).length + fl.length + 1 < FU
section
variable {ss : List Stm} {fl : List Nat} {k : Nat}
theorem pre_lex (h : Pre ss fl) {tf : List Tk} (hf : lexF FU (tx (wP ss)).length fl = some tf) : ∃ tb, tb.map fp = tk0 ss ∧ K1.Lex 0 (tx (wP ss) ++ fl) (tb ++ tf) ∧ (tb ++ tf).length < FU ∧ tooDeep 0 (tb ++ tf) = tooDeep 0 tf := by
  have lx := lexF_ok hf
  obtain ⟨tb, e, l⟩ := lex_pre (d := 12) ss (fun s hs => bs_good (by decide) (h.g s hs).1) 0 fl tf (by rw [Nat.zero_add]; exact lx)
  refine ⟨tb, e, l, ?_, deep_pre (fun s hs => bs_good (by decide) (h.g s hs).1) e⟩
  have h1 := lex_len lx
  have h2 : tb.length = (tk0 ss).length := by rw [← e, List.length_map]
  have := h.l
  rw [List.length_append]; omega
theorem pre_stms (h : Pre ss fl) {tb tf : List Tk} (e : tb.map fp = tk0 ss) (hl : (tb ++ tf).length < FU) (j : Nat) : ∃ m mw, m ≤ 4 ∧ mw ≤ 60 ∧ stmsM (stmM FU (termM FU 12)) (j + ss.length) [] 0 ⟨tb ++ tf, 0⟩ = stmsM (stmM FU (termM FU 12)) j ss mw ⟨tf, m⟩ :=
  stms_pre (n := FU) (d := 12) ss (fun s hs => ⟨bs_good (by decide) (h.g s hs).1, (h.g s hs).2⟩) [] 0 j tb tf 0 e hl (by decide) (by decide)
/-- what the law's index tells -/
def idx : Except Nat (List Stm) → Int
  | .ok _ => -1
  | .error k => k
def Idx (l : List Nat) (i : Int) : Prop := ∃ ts nn res, K1.Lex 0 l ts ∧ parseM nn 12 ts = some res ∧ idx res = i
theorem idx_er (h : Pre ss fl) (hs : ss.length < FU) (hr : ∀ off m, run off m fl = some (false, false, some (.er (off + k)))) : Idx (tx (wP ss) ++ fl) ((tx (wP ss)).length + k : Nat) := by
  have h0 : ∀ m, run (tx (wP ss)).length m fl = some (false, false, some (.er ((tx (wP ss)).length + k))) := hr _
  cases hf : lexF FU (tx (wP ss)).length fl with
  | none => have := h0 0; unfold run at this; rw [hf] at this; cases this
  | some tf =>
    obtain ⟨tb, e, l, hl, hd0⟩ := pre_lex h hf
    obtain ⟨j, hj⟩ : ∃ j, FU = (j + 1) + ss.length := ⟨FU - ss.length - 1, by omega⟩
    obtain ⟨m, mw, hm, hw, q⟩ := pre_stms h e hl (j + 1)
    have h1 := h0 m
    unfold run at h1
    rw [hf] at h1
    have h1 := Option.some.inj h1
    obtain ⟨a1, h1⟩ := Prod.mk.inj h1
    obtain ⟨a2, a3⟩ := Prod.mk.inj h1
    refine ⟨_, FU, .error ((tx (wP ss)).length + k), l, ?_, rfl⟩
    unfold parseM
    have hk : PS.k ⟨tf, m⟩ ≠ .fin := of_decide_eq_false a2
    have q2 : stmsM (stmM FU (termM FU 12)) FU [] 0 ⟨tb ++ tf, 0⟩ = some (.er ((tx (wP ss)).length + k)) := by
      have := q
      rw [← hj] at this
      rw [this]
      show (if PS.k ⟨tf, m⟩ = .fin then _ else PM.bind (stmM FU (termM FU 12) ⟨tf, m⟩) _) = _
      rw [if_neg hk, a3]; rfl
    rw [hd0, a1, if_neg (by decide), q2]
theorem idx_deep (h : Pre ss fl) (hr : ∀ off, runD off fl = some true) : Idx (tx (wP ss) ++ fl) 0 := by
  have h0 := hr (tx (wP ss)).length
  unfold runD at h0
  cases hf : lexF FU (tx (wP ss)).length fl with
  | none => rw [hf] at h0; cases h0
  | some tf =>
    rw [hf] at h0
    obtain ⟨tb, e, l, hl, hd0⟩ := pre_lex h hf
    refine ⟨_, FU, .error 0, l, ?_, rfl⟩
    unfold parseM
    rw [hd0, Option.some.inj h0, if_pos rfl]
/-- all of it is fine -/
theorem idx_all (h : Pre ss []) (hs : ss.length ≤ 60) : Idx (tx (wP ss)) (-1) := by
  have hf : lexF FU (tx (wP ss)).length [] = some [(.fin, [], (tx (wP ss)).length)] := rfl
  obtain ⟨tb, e, l, hl, hd0⟩ := pre_lex h hf
  obtain ⟨j, hj⟩ : ∃ j, FU = (j + 1) + ss.length := ⟨FU - ss.length - 1, by have : FU = 600 := rfl; omega⟩
  obtain ⟨m, mw, hm, hw, q⟩ := pre_stms h e hl (j + 1)
  rw [List.append_nil] at l
  refine ⟨_, FU, .ok ss, l, ?_, rfl⟩
  have q2 : stmsM (stmM FU (termM FU 12)) FU [] 0 ⟨tb ++ [(.fin, [], (tx (wP ss)).length)], 0⟩ = some (.ok (ss, mw) ⟨[(.fin, [], (tx (wP ss)).length)], m⟩) := by
    have := q
    rw [← hj] at this
    rw [this]; rfl
  unfold parseM
  rw [hd0, show tooDeep 0 [(K1.Kind.fin, [], (tx (wP ss)).length)] = false from rfl, if_neg (by decide), q2]
  show (if ss.length > 60 ∨ mw > 60 ∨ m > 4 then _ else _) = _
  rw [if_neg (by omega)]
/-- one more statement -/
theorem idx_one {wn c : Nat} (h : Pre ss fl) (hs : ss.length ≤ 60) (hr : ∀ off m, m ≤ 4 → runW off m fl = some (false, false, some (wn, max m c, true))) : Idx (tx (wP ss) ++ fl) (if ss.length + 1 > 60 ∨ wn > 60 ∨ c > 4 then 0 else -1) := by
  have h0 : ∀ m, m ≤ 4 → runW (tx (wP ss)).length m fl = some (false, false, some (wn, max m c, true)) := hr _
  cases hf : lexF FU (tx (wP ss)).length fl with
  | none => have := h0 0 (by decide); unfold runW at this; rw [hf] at this; cases this
  | some tf =>
    obtain ⟨tb, e, l, hl, hd0⟩ := pre_lex h hf
    obtain ⟨j, hj⟩ : ∃ j, FU = (j + 1 + 1) + ss.length := ⟨FU - ss.length - 2, by have : FU = 600 := rfl; omega⟩
    obtain ⟨m, mw, hm, hw, q⟩ := pre_stms h e hl (j + 1 + 1)
    have h1 := h0 m hm
    unfold runW at h1
    rw [hf] at h1
    have h1 := Option.some.inj h1
    obtain ⟨a1, h1⟩ := Prod.mk.inj h1
    obtain ⟨a2, a3⟩ := Prod.mk.inj h1
    have hk : PS.k ⟨tf, m⟩ ≠ .fin := of_decide_eq_false a2
    cases hst : stmM FU (termM FU 12) ⟨tf, m⟩ with
    | none => rw [hst] at a3; cases a3
    | some r =>
      cases r with
      | er n => rw [hst] at a3; cases a3
      | ok x s =>
        rw [hst] at a3
        have a3 := Option.some.inj a3
        obtain ⟨b1, a3⟩ := Prod.mk.inj a3
        obtain ⟨b2, b3⟩ := Prod.mk.inj a3
        have hk2 : s.k = .fin := of_decide_eq_true b3
        have q2 : stmsM (stmM FU (termM FU 12)) FU [] 0 ⟨tb ++ tf, 0⟩ = some (.ok (ss ++ [x], max mw wn) s) := by
          have := q
          rw [← hj] at this
          rw [this]
          show (if PS.k ⟨tf, m⟩ = .fin then _ else PM.bind (stmM FU (termM FU 12) ⟨tf, m⟩) (fun x s1 => stmsM (stmM FU (termM FU 12)) (j + 1) (ss ++ [x]) (max mw (wordsN (tf.take (tf.length - s1.r.length)))) s1)) = _
          rw [if_neg hk, hst]
          show (if s.k = .fin then ok (ss ++ [x], max mw (wordsN (tf.take (tf.length - s.r.length)))) s else _) = _
          rw [if_pos hk2, b1]; rfl
        have hp : parseM FU 12 (tb ++ tf) = if (ss ++ [x]).length > 60 ∨ max mw wn > 60 ∨ s.m > 4 then some (.error 0) else some (.ok (ss ++ [x])) := by
          unfold parseM
          rw [hd0, a1, if_neg (by decide), q2]
        rw [b2, List.length_append] at hp
        have hle : ([x] : List Stm).length = 1 := rfl
        by_cases hc : ss.length + 1 > 60 ∨ wn > 60 ∨ c > 4
        · rw [if_pos hc]
          exact ⟨_, FU, .error 0, l, by rw [hp, if_pos (by omega)], rfl⟩
        · rw [if_neg hc]
          exact ⟨_, FU, .ok (ss ++ [x]), l, by rw [hp, if_neg (by omega)], rfl⟩
end
end PN
set_option Elab.async false
set_option linter.all false
set_option maxRecDepth 100000
set_option maxHeartbeats 4000000
namespace PN
open PySem SX SU PM PX
/-! what the law writes behind -/
def cut0 : List (List Nat) := [[112], [40], [88], [44], [89], [41], [58, 45], [110, 111, 116], [113], [44], [88], [60], [51], [42], [89], [46]]
def cut1 : List (List Nat) := [[49], [123], [97], [59], [98], [58], [99], [44], [110, 111, 116], [100], [125], [50], [58, 45], [101], [46]]
def cut2 : List (List Nat) := [[58, 45], [115, 117, 109], [123], [49], [58], [97], [125], [62, 61], [50], [43], [88], [46]]
def cut3 : List (List Nat) := [[109, 105, 110, 105, 109, 105, 122, 101], [123], [51], [42], [40], [88], [45], [49], [41], [58], [112], [40], [88], [41], [125], [46]]
theorem cut0_ok : ∀ i, i < 15 → ∀ off m, run off m (TL.joinL [32] (cut0.take (i + 1))) = some (false, false, some (.er (off + (TL.joinL [32] (cut0.take (i + 1))).length))) := fun i hi off m => match i, hi with
  | 0, _ => by kernel_rfl
  | 1, _ => by kernel_rfl
  | 2, _ => by kernel_rfl
  | 3, _ => by kernel_rfl
  | 4, _ => by kernel_rfl
  | 5, _ => by kernel_rfl
  | 6, _ => by kernel_rfl
  | 7, _ => by kernel_rfl
  | 8, _ => by kernel_rfl
  | 9, _ => by kernel_rfl
  | 10, _ => by kernel_rfl
  | 11, _ => by kernel_rfl
  | 12, _ => by kernel_rfl
  | 13, _ => by kernel_rfl
  | 14, _ => by kernel_rfl
  | n + 15, h => absurd h (by omega)
theorem cut1_ok : ∀ i, i < 14 → ∀ off m, run off m (TL.joinL [32] (cut1.take (i + 1))) = some (false, false, some (.er (off + (TL.joinL [32] (cut1.take (i + 1))).length))) := fun i hi off m => match i, hi with
  | 0, _ => by kernel_rfl
  | 1, _ => by kernel_rfl
  | 2, _ => by kernel_rfl
  | 3, _ => by kernel_rfl
  | 4, _ => by kernel_rfl
  | 5, _ => by kernel_rfl
  | 6, _ => by kernel_rfl
  | 7, _ => by kernel_rfl
  | 8, _ => by kernel_rfl
  | 9, _ => by kernel_rfl
  | 10, _ => by kernel_rfl
  | 11, _ => by kernel_rfl
  | 12, _ => by kernel_rfl
  | 13, _ => by kernel_rfl
  | n + 14, h => absurd h (by omega)
theorem cut2_ok : ∀ i, i < 11 → ∀ off m, run off m (TL.joinL [32] (cut2.take (i + 1))) = some (false, false, some (.er (off + (TL.joinL [32] (cut2.take (i + 1))).length))) := fun i hi off m => match i, hi with
  | 0, _ => by kernel_rfl
  | 1, _ => by kernel_rfl
  | 2, _ => by kernel_rfl
  | 3, _ => by kernel_rfl
  | 4, _ => by kernel_rfl
  | 5, _ => by kernel_rfl
  | 6, _ => by kernel_rfl
  | 7, _ => by kernel_rfl
  | 8, _ => by kernel_rfl
  | 9, _ => by kernel_rfl
  | 10, _ => by kernel_rfl
  | n + 11, h => absurd h (by omega)
theorem cut3_ok : ∀ i, i < 15 → ∀ off m, run off m (TL.joinL [32] (cut3.take (i + 1))) = some (false, false, some (.er (off + (TL.joinL [32] (cut3.take (i + 1))).length))) := fun i hi off m => match i, hi with
  | 0, _ => by kernel_rfl
  | 1, _ => by kernel_rfl
  | 2, _ => by kernel_rfl
  | 3, _ => by kernel_rfl
  | 4, _ => by kernel_rfl
  | 5, _ => by kernel_rfl
  | 6, _ => by kernel_rfl
  | 7, _ => by kernel_rfl
  | 8, _ => by kernel_rfl
  | 9, _ => by kernel_rfl
  | 10, _ => by kernel_rfl
  | 11, _ => by kernel_rfl
  | 12, _ => by kernel_rfl
  | 13, _ => by kernel_rfl
  | 14, _ => by kernel_rfl
  | n + 15, h => absurd h (by omega)
def wr : List (List Nat × List Nat) := [([], [41, 46, 32, 113, 46]), ([], [44, 32, 112, 46]), ([], [61, 32, 51, 46]), ([112, 40], [41, 46]), ([112, 40, 88], [46]), ([112, 32, 58, 45, 32, 113], [59, 32, 114, 46]), ([112, 32, 58, 45, 32], [46]), ([112, 40, 88, 41, 32, 58, 45, 32, 88, 32], [44, 32, 113, 46]), ([123, 97], [46, 32, 125, 46]), ([114, 97, 110, 103, 101, 32, 49, 32], [46, 32, 113, 46]), ([112, 32, 58, 45, 32, 115, 117, 109, 32, 123, 49, 32, 58, 32, 97, 125, 32], [60, 32, 50, 46]), ([112, 32], [113, 46]), ([49, 32], [97, 46]), ([109, 105, 110, 105, 109, 105, 122, 101, 32], [112, 46]), ([112, 32, 58, 45, 32, 110, 111, 116, 32], [110, 111, 116, 32, 113, 46]), ([], [115, 117, 109, 46]), ([113, 40], [110, 111, 116, 41, 46])]
theorem wr_ok : ∀ i, i < 17 → ∀ off m, ∃ a b, wr[i]? = some (a, b) ∧ run off m (a ++ (b ++ [32, 112, 46])) = some (false, false, some (.er (off + a.length))) := fun i hi off m => match i, hi with
  | 0, _ => ⟨_, _, rfl, by kernel_rfl⟩
  | 1, _ => ⟨_, _, rfl, by kernel_rfl⟩
  | 2, _ => ⟨_, _, rfl, by kernel_rfl⟩
  | 3, _ => ⟨_, _, rfl, by kernel_rfl⟩
  | 4, _ => ⟨_, _, rfl, by kernel_rfl⟩
  | 5, _ => ⟨_, _, rfl, by kernel_rfl⟩
  | 6, _ => ⟨_, _, rfl, by kernel_rfl⟩
  | 7, _ => ⟨_, _, rfl, by kernel_rfl⟩
  | 8, _ => ⟨_, _, rfl, by kernel_rfl⟩
  | 9, _ => ⟨_, _, rfl, by kernel_rfl⟩
  | 10, _ => ⟨_, _, rfl, by kernel_rfl⟩
  | 11, _ => ⟨_, _, rfl, by kernel_rfl⟩
  | 12, _ => ⟨_, _, rfl, by kernel_rfl⟩
  | 13, _ => ⟨_, _, rfl, by kernel_rfl⟩
  | 14, _ => ⟨_, _, rfl, by kernel_rfl⟩
  | 15, _ => ⟨_, _, rfl, by kernel_rfl⟩
  | 16, _ => ⟨_, _, rfl, by kernel_rfl⟩
  | n + 17, h => absurd h (by omega)
def deep9 : List Nat := [112, 40, 40, 40, 40, 40, 40, 40, 40, 40, 40, 49, 41, 41, 41, 41, 41, 41, 41, 41, 41, 41, 46]
theorem deep9_ok : ∀ off m, m ≤ 4 → runW off m deep9 = some (false, false, some (2, max m 1, true)) := fun off m hm => match m, hm with
  | 0, _ => by kernel_rfl
  | 1, _ => by kernel_rfl
  | 2, _ => by kernel_rfl
  | 3, _ => by kernel_rfl
  | 4, _ => by kernel_rfl
  | n + 5, h => absurd h (by omega)
def deep10 : List Nat := [112, 40, 40, 40, 40, 40, 40, 40, 40, 40, 40, 40, 49, 41, 41, 41, 41, 41, 41, 41, 41, 41, 41, 41, 46]
theorem deep10_ok : ∀ off, runD off deep10 = some true := fun off => by kernel_rfl
def deep10q : List Nat := [112, 40, 40, 40, 40, 40, 40, 40, 40, 40, 40, 40, 49, 41, 41, 41, 41, 41, 41, 41, 41, 41, 41, 41, 46, 32, 113, 32, 113, 46]
theorem deep10q_ok : ∀ off, runD off deep10q = some true := fun off => by kernel_rfl
def four : List Nat := [112, 40, 49, 44, 32, 50, 44, 32, 51, 44, 32, 52, 41, 46]
theorem four_ok : ∀ off m, m ≤ 4 → runW off m four = some (false, false, some (5, max m 4, true)) := fun off m hm => match m, hm with
  | 0, _ => by kernel_rfl
  | 1, _ => by kernel_rfl
  | 2, _ => by kernel_rfl
  | 3, _ => by kernel_rfl
  | 4, _ => by kernel_rfl
  | n + 5, h => absurd h (by omega)
def five : List Nat := [112, 40, 49, 44, 32, 50, 44, 32, 51, 44, 32, 52, 44, 32, 88, 41, 46]
theorem five_ok : ∀ off m, m ≤ 4 → runW off m five = some (false, false, some (6, max m 5, true)) := fun off m hm => match m, hm with
  | 0, _ => by kernel_rfl
  | 1, _ => by kernel_rfl
  | 2, _ => by kernel_rfl
  | 3, _ => by kernel_rfl
  | 4, _ => by kernel_rfl
  | n + 5, h => absurd h (by omega)
def w60 : List Nat := [112, 32, 58, 45, 32, 97, 44, 32, 97, 44, 32, 97, 44, 32, 97, 44, 32, 97, 44, 32, 97, 44, 32, 97, 44, 32, 97, 44, 32, 97, 44, 32, 97, 44, 32, 97, 44, 32, 97, 44, 32, 97, 44, 32, 97, 44, 32, 97, 44, 32, 97, 44, 32, 97, 44, 32, 97, 44, 32, 97, 44, 32, 97, 44, 32, 97, 44, 32, 97, 44, 32, 97, 44, 32, 97, 44, 32, 97, 44, 32, 97, 44, 32, 97, 44, 32, 97, 44, 32, 97, 44, 32, 97, 44, 32, 97, 44, 32, 97, 44, 32, 97, 44, 32, 97, 44, 32, 97, 44, 32, 97, 44, 32, 97, 44, 32, 97, 44, 32, 97, 44, 32, 97, 44, 32, 97, 44, 32, 97, 44, 32, 97, 44, 32, 97, 44, 32, 97, 44, 32, 97, 44, 32, 97, 44, 32, 97, 44, 32, 97, 44, 32, 97, 44, 32, 97, 44, 32, 97, 44, 32, 97, 44, 32, 97, 44, 32, 97, 44, 32, 97, 44, 32, 97, 44, 32, 97, 44, 32, 97, 46]
theorem w60_ok : ∀ off m, m ≤ 4 → runW off m w60 = some (false, false, some (60, max m 0, true)) := fun off m hm => match m, hm with
  | 0, _ => by kernel_rfl
  | 1, _ => by kernel_rfl
  | 2, _ => by kernel_rfl
  | 3, _ => by kernel_rfl
  | 4, _ => by kernel_rfl
  | n + 5, h => absurd h (by omega)
def w61 : List Nat := [112, 32, 58, 45, 32, 97, 44, 32, 97, 44, 32, 97, 44, 32, 97, 44, 32, 97, 44, 32, 97, 44, 32, 97, 44, 32, 97, 44, 32, 97, 44, 32, 97, 44, 32, 97, 44, 32, 97, 44, 32, 97, 44, 32, 97, 44, 32, 97, 44, 32, 97, 44, 32, 97, 44, 32, 97, 44, 32, 97, 44, 32, 97, 44, 32, 97, 44, 32, 97, 44, 32, 97, 44, 32, 97, 44, 32, 97, 44, 32, 97, 44, 32, 97, 44, 32, 97, 44, 32, 97, 44, 32, 97, 44, 32, 97, 44, 32, 97, 44, 32, 97, 44, 32, 97, 44, 32, 97, 44, 32, 97, 44, 32, 97, 44, 32, 97, 44, 32, 97, 44, 32, 97, 44, 32, 97, 44, 32, 97, 44, 32, 97, 44, 32, 97, 44, 32, 97, 44, 32, 97, 44, 32, 97, 44, 32, 97, 44, 32, 97, 44, 32, 97, 44, 32, 97, 44, 32, 97, 44, 32, 97, 44, 32, 97, 44, 32, 97, 44, 32, 97, 44, 32, 97, 44, 32, 97, 44, 32, 97, 44, 32, 98, 46]
theorem w61_ok : ∀ off m, m ≤ 4 → runW off m w61 = some (false, false, some (61, max m 0, true)) := fun off m hm => match m, hm with
  | 0, _ => by kernel_rfl
  | 1, _ => by kernel_rfl
  | 2, _ => by kernel_rfl
  | 3, _ => by kernel_rfl
  | 4, _ => by kernel_rfl
  | n + 5, h => absurd h (by omega)
def pDot : List Nat := [112, 46]
theorem pDot_ok : ∀ off m, m ≤ 4 → runW off m pDot = some (false, false, some (1, max m 0, true)) := fun off m hm => match m, hm with
  | 0, _ => by kernel_rfl
  | 1, _ => by kernel_rfl
  | 2, _ => by kernel_rfl
  | 3, _ => by kernel_rfl
  | 4, _ => by kernel_rfl
  | n + 5, h => absurd h (by omega)
def pIf : List Nat := [58, 45, 32, 46]
theorem pIf_ok : ∀ off m, run off m pIf = some (false, false, some (.er (off + 3))) := fun off m => by kernel_rfl
end PN
set_option Elab.async false
set_option linter.all false
set_option maxRecDepth 100000
set_option maxHeartbeats 4000000
namespace PN
open PySem SX SU PM PX
/-! the correct statements ahead -/
def okT : SU.Tm → Bool
  | .var x => goodV (cl x)
  | .int n => decide (0 ≤ n) && decide (n < 10000)
  | .sym x => goodN (cl x)
  | .op s l r => (decide (s = S gMul) || (decide (s = S gAdd) || decide (s = S gSub))) && (okT l && okT r)
theorem okT_g : ∀ {t : SU.Tm}, okT t = true → GoodT t
  | .var x, h => goodV_nm h
  | .int n, h => by
    unfold okT at h
    simp only [Bool.and_eq_true, decide_eq_true_eq] at h
    exact h
  | .sym x, h => goodN_nm h
  | .op s l r, h => by
    unfold okT at h
    simp only [Bool.and_eq_true, Bool.or_eq_true, decide_eq_true_eq] at h
    exact ⟨h.1, okT_g h.2.1, okT_g h.2.2⟩
def okU (t : SU.Tm) : Bool := okT t && (decide (t.lvs ≤ 16) && decide (t.dep < 4))
theorem okU_g {t : SU.Tm} (h : okU t = true) : BT t := by
  unfold okU at h
  simp only [Bool.and_eq_true, decide_eq_true_eq] at h
  exact ⟨okT_g h.1, h.2⟩
def okA (a : Atm) : Bool := goodN (cl a.nm) && (decide (a.ts.length ≤ 4) && a.ts.all okU)
theorem okA_g {a : Atm} (h : okA a = true) : BA a := by
  unfold okA at h
  simp only [Bool.and_eq_true, decide_eq_true_eq, List.all_eq_true] at h
  exact ⟨goodN_nm h.1, h.2.1, fun t ht => okU_g (h.2.2 t ht)⟩
def okC : Cnd → Bool
  | .yes a => okA a
  | .no a => okA a
  | .cmp s l r => decide (cl s ∈ RELS) && (okU l && okU r)
theorem okC_g : ∀ {c : Cnd}, okC c = true → BC c
  | .yes a, h => okA_g h
  | .no a, h => okA_g h
  | .cmp s l r, h => by
    unfold okC at h
    simp only [Bool.and_eq_true, decide_eq_true_eq] at h
    exact ⟨h.1, okU_g h.2.1, okU_g h.2.2⟩
def okCs (b : List Cnd) : Bool := decide (b.length ≤ 8) && b.all okC
theorem okCs_g {b : List Cnd} (h : okCs b = true) : BCs b := by
  unfold okCs at h
  simp only [Bool.and_eq_true, decide_eq_true_eq, List.all_eq_true] at h
  exact ⟨h.1, fun c hc => okC_g (h.2 c hc)⟩
def okM (m : Mem) : Bool := okU m.w && okCs m.b
theorem okM_g {m : Mem} (h : okM m = true) : BM m := by
  unfold okM at h
  rw [Bool.and_eq_true] at h
  exact ⟨okU_g h.1, okCs_g h.2⟩
def okMs (ms : List Mem) : Bool := !ms.isEmpty && (decide (ms.length ≤ 8) && ms.all okM)
theorem okMs_g {ms : List Mem} (h : okMs ms = true) : BMs ms := by
  unfold okMs at h
  simp only [Bool.and_eq_true, decide_eq_true_eq, List.all_eq_true] at h
  exact ⟨fun z => (by rw [z] at h; exact absurd h.1 (by decide)), h.2.1, fun c hc => okM_g (h.2.2 c hc)⟩
def okH (m : Cho) : Bool := okA m.a && okCs m.b
theorem okH_g {m : Cho} (h : okH m = true) : BH m := by
  unfold okH at h
  rw [Bool.and_eq_true] at h
  exact ⟨okA_g h.1, okCs_g h.2⟩
def okHs (ms : List Cho) : Bool := !ms.isEmpty && (decide (ms.length ≤ 8) && ms.all okH)
theorem okHs_g {ms : List Cho} (h : okHs ms = true) : BHs ms := by
  unfold okHs at h
  simp only [Bool.and_eq_true, decide_eq_true_eq, List.all_eq_true] at h
  exact ⟨fun z => (by rw [z] at h; exact absurd h.1 (by decide)), h.2.1, fun c hc => okH_g (h.2.2 c hc)⟩
def okP : Prt → Bool
  | .c x => okC x
  | .sum s ms t => decide (cl s ∈ SRELS) && (okMs ms && okU t)
theorem okP_g : ∀ {p : Prt}, okP p = true → BP p
  | .c x, h => okC_g (c := x) h
  | .sum s ms t, h => by
    unfold okP at h
    simp only [Bool.and_eq_true, decide_eq_true_eq] at h
    exact ⟨h.1, okMs_g h.2.1, okU_g h.2.2⟩
def okB (b : List Prt) : Bool := decide (b.length ≤ 8) && b.all okP
theorem okB_g {b : List Prt} (h : okB b = true) : BB b := by
  unfold okB at h
  simp only [Bool.and_eq_true, decide_eq_true_eq, List.all_eq_true] at h
  exact ⟨h.1, fun c hc => okP_g (h.2 c hc)⟩
def okO : Option Int → Bool
  | none => true
  | some i => decide (0 ≤ i) && decide (i < 10000)
theorem okO_g : ∀ {o : Option Int}, okO o = true → GoodO o
  | none, _ => trivial
  | some i, h => by
    unfold okO at h
    simp only [Bool.and_eq_true, decide_eq_true_eq] at h
    exact h
def okS : Stm → Bool
  | .rule a b => okA a && okB b
  | .deny b => !b.isEmpty && okB b
  | .choose lo hi ch b => okO lo && (okO hi && (okHs ch && okB b))
  | .range x y => okO (some x) && okO (some y)
  | .minim ms => okMs ms
theorem okS_g : ∀ {s : Stm}, okS s = true → BS s
  | .rule a b, h => by
    unfold okS at h
    rw [Bool.and_eq_true] at h
    exact ⟨okA_g h.1, okB_g h.2⟩
  | .deny b, h => by
    unfold okS at h
    rw [Bool.and_eq_true] at h
    exact ⟨fun z => (by rw [z] at h; exact absurd h.1 (by decide)), okB_g h.2⟩
  | .choose lo hi ch b, h => by
    unfold okS at h
    simp only [Bool.and_eq_true] at h
    exact ⟨okO_g h.1, okO_g h.2.1, okHs_g h.2.2.1, okB_g h.2.2.2⟩
  | .range x y, h => by
    unfold okS at h
    rw [Bool.and_eq_true] at h
    exact ⟨okO_g h.1, okO_g h.2⟩
  | .minim ms, h => okMs_g (ms := ms) h
def at0_ (x : Str) : Atm := ⟨x, []⟩
def pcs : List Stm := [
  .rule ⟨"p", [.var "X"]⟩ [.c (.yes ⟨"q", [.var "X"]⟩), .c (.no (at0_ "r"))],
  .choose (some 1) (some 2) [⟨at0_ "a", []⟩, ⟨at0_ "b", [.yes (at0_ "c")]⟩] [.c (.no (at0_ "d")), .c (.cmp "!=" (.var "X") (.int 3))],
  .deny [.c (.yes ⟨"p", [.var "X", .op "+" (.var "Y") (.int 1)]⟩), .c (.cmp "<" (.var "X") (.var "Y"))],
  .range 1 4,
  .minim [⟨.var "X", [.yes ⟨"p", [.var "X"]⟩]⟩, ⟨.int 2, []⟩],
  .rule (at0_ "q") [.sum ">=" [⟨.int 1, [.yes (at0_ "a")]⟩, ⟨.var "W", [.yes ⟨"b", [.var "W"]⟩]⟩] (.int 2)],
  .rule ⟨"r", [.sym "f", .op "*" (.op "+" (.int 1) (.int 2)) (.int 3)]⟩ [],
  .choose none none [⟨at0_ "s", []⟩] []]
def pS : Stm := .rule (at0_ "p") []
theorem pcs_ok : ∀ s ∈ pS :: pcs, (BS s ∧ wc (tw (wStm s)) ≤ 60) ∧ (tw (wStm s)).length ≤ 30 ∧ (tx (wStm s)).length ≤ 45 := by
  have : (pS :: pcs).all (fun s => okS s && (decide (wc (tw (wStm s)) ≤ 60) && (decide ((tw (wStm s)).length ≤ 30) && decide ((tx (wStm s)).length ≤ 45)))) = true := by decide +kernel
  intro s hs
  have h := List.all_eq_true.mp this s hs
  simp only [Bool.and_eq_true, decide_eq_true_eq] at h
  exact ⟨⟨okS_g h.1, h.2.1⟩, h.2.2.1, h.2.2.2⟩
def txs : List Str := ["p(X) :- q(X), not r. ", "1 {a; b : c} 2 :- not d, X != 3. ", ":- p(X, Y + 1), X < Y. ", "range 1 4. ", "minimize {X : p(X); 2}. ", "q :- sum {1 : a; W : b(W)} >= 2. ", "r(f, (1 + 2) * 3). ", "{s}. "]
theorem txs_ok : txs = pcs.map fun s => S (tx (wStm s) ++ [32]) := by decide +kernel
theorem pS_tx : tx (wStm pS) = [112, 46] := by decide +kernel
end PN
set_option Elab.async false
set_option linter.all false
set_option maxRecDepth 100000
set_option maxHeartbeats 4000000
namespace PN
open PySem SX SU PM PX
/-! how often ". " stands in what is ahead -/
theorem count_len (x y z : Str) (hy : 1 ≤ y.length) : (Txt.replace x y z).length + (Builtin.Str.occurrences x y 0 x.length (x.length + 1)).length * y.length = x.length + (Builtin.Str.occurrences x y 0 x.length (x.length + 1)).length * z.length := by
  unfold Txt.replace
  have hy0 : (y.length == 0) = false := beq_eq_false_iff_ne.mpr (by omega)
  cases e : Builtin.Str.occurrences x y 0 x.length (x.length + 1) with
  | nil => simp
  | cons a r =>
    rw [← e]
    have hne : ((Builtin.Str.occurrences x y 0 x.length (x.length + 1)).isEmpty || (y.length == 0 && z.length == 0)) = false := by rw [e, hy0]; rfl
    rw [hne]
    simp only [Bool.false_eq_true, if_false]
    have hy : (Builtin.Str.glued y (Builtin.Str.partsBetween x (Builtin.Str.occurrences x y 0 x.length (x.length + 1)) y.length)).length = x.length := by rw [StrLaws.glued_between_self]
    rw [size_glued, length_partsBetween, Nat.add_sub_cancel] at hy
    rw [size_glued, length_partsBetween, Nat.add_sub_cancel]
    omega
def rp (l : List Nat) : List Nat := StrLaws.replL [46, 32] [0, 0, 0] l
theorem rp_pcs : ∀ s ∈ pcs, ∀ rest, rp (tx (wStm s) ++ (32 :: rest)) = ((tx (wStm s)).dropLast ++ [0, 0, 0]) ++ rp rest :=
  List.forall_mem_cons.mpr ⟨fun rest => by kernel_rfl, List.forall_mem_cons.mpr ⟨fun rest => by kernel_rfl, List.forall_mem_cons.mpr ⟨fun rest => by kernel_rfl, List.forall_mem_cons.mpr ⟨fun rest => by kernel_rfl,
  List.forall_mem_cons.mpr ⟨fun rest => by kernel_rfl, List.forall_mem_cons.mpr ⟨fun rest => by kernel_rfl, List.forall_mem_cons.mpr ⟨fun rest => by kernel_rfl, List.forall_mem_cons.mpr ⟨fun rest => by kernel_rfl, fun _ h => nomatch h⟩⟩⟩⟩⟩⟩⟩⟩
theorem rp_len : ∀ {ss : List Stm}, (∀ s ∈ ss, s ∈ pcs) → (rp (tx (wP ss))).length = (tx (wP ss)).length + ss.length
  | [], _ => by show (StrLaws.replL _ _ []).length = _; rw [StrLaws.replL_nil]; rfl
  | s :: ss, h => by
    have ih := rp_len (ss := ss) fun z hz => h z (List.mem_cons_of_mem _ hz)
    have h1 : 1 ≤ (tx (wStm s)).length := by rw [wStm, tx_app, List.length_append]; show 1 ≤ _ + 1; omega
    rw [wP_cons, rp_pcs s (h s List.mem_cons_self), List.length_append, List.length_append, List.length_dropLast, ih]
    simp only [List.length_append, List.length_cons, List.length_nil]
    omega
theorem count_ss {ss : List Stm} (h : ∀ s ∈ ss, s ∈ pcs) : Txt.count (S (tx (wP ss))) (S [46, 32]) = (ss.length : Nat) := by
  have e := count_len (S (tx (wP ss))) (S [46, 32]) (S [0, 0, 0]) (by rw [SX.S_len]; decide)
  have e2 : (Txt.replace (S (tx (wP ss))) (S [46, 32]) (S [0, 0, 0])).length = (tx (wP ss)).length + ss.length := by
    rw [← rp_len h]
    show (Txt.replace (S (tx (wP ss))) (S [46, 32]) (S [0, 0, 0])).cps.size = _
    rw [← Array.length_toList, StrLaws.replace_list (by rw [SX.S_len]; decide)]
    simp [S, rp]
  rw [e2, SX.S_len, SX.S_len, SX.S_len] at e
  unfold Txt.count
  rw [SX.S_len]
  have : (Builtin.Str.occurrences (S (tx (wP ss))) (S [46, 32]) 0 (tx (wP ss)).length ((tx (wP ss)).length + 1)).length = ss.length := by
    simp only [List.length_cons, List.length_nil] at e
    omega
  rw [this]
/-! what is ahead, all in all -/
theorem tk_len {k : Nat} : ∀ {ss : List Stm}, (∀ s ∈ ss, (tw (wStm s)).length ≤ k) → (tk0 ss).length ≤ ss.length * k
  | [], _ => Nat.zero_le _
  | s :: ss, h => by
    have ih := tk_len (ss := ss) fun z hz => h z (List.mem_cons_of_mem _ hz)
    have h1 := h s List.mem_cons_self
    show (tw (wStm s) ++ tk0 ss).length ≤ _
    rw [List.length_append, List.length_cons, Nat.succ_mul]; omega
theorem tx_len {k : Nat} : ∀ {ss : List Stm}, (∀ s ∈ ss, (tx (wStm s)).length ≤ k) → (tx (wP ss)).length ≤ ss.length * (k + 1)
  | [], _ => Nat.zero_le _
  | s :: ss, h => by
    have ih := tx_len (ss := ss) fun z hz => h z (List.mem_cons_of_mem _ hz)
    have h1 := h s List.mem_cons_self
    rw [wP_cons, List.length_append, List.length_cons, List.length_cons, Nat.succ_mul]; omega
/-- at most four statements ahead, then some more of one letter -/
structure Ahd (ss : List Stm) : Prop where
  m : ∀ s ∈ ss, s ∈ pcs
  l : ss.length ≤ 4
theorem Ahd.pre {ss : List Stm} (h : Ahd ss) {n : Nat} (hn : n ≤ 61) {fl : List Nat} (hf : fl.length ≤ 300) : Pre (ss ++ List.replicate n pS) fl := by
  have hp : ∀ s ∈ List.replicate n pS, s = pS := fun s hs => (List.mem_replicate.mp hs).2
  refine ⟨fun s hs => ?_, ?_⟩
  · rcases List.mem_append.mp hs with hs | hs
    · exact (pcs_ok s (List.mem_cons_of_mem _ (h.m s hs))).1
    · rw [hp s hs]; exact (pcs_ok pS List.mem_cons_self).1
  · have h1 := tk_len (k := 30) (ss := ss) fun s hs => (pcs_ok s (List.mem_cons_of_mem _ (h.m s hs))).2.1
    have h2 := tk_len (k := 2) (ss := List.replicate n pS) fun s hs => by rw [hp s hs]; decide +kernel
    rw [List.length_replicate] at h2
    have e : tk0 (ss ++ List.replicate n pS) = tk0 ss ++ tk0 (List.replicate n pS) := by unfold tk0; rw [List.flatMap_append]
    have := h.l
    rw [e, List.length_append]
    show _ < 600
    omega
theorem Ahd.pre0 {ss : List Stm} (h : Ahd ss) {fl : List Nat} (hf : fl.length ≤ 300) : Pre ss fl := by
  have := h.pre (n := 0) (by decide) hf
  rw [List.replicate_zero, List.append_nil] at this
  exact this
theorem Ahd.len {ss : List Stm} (h : Ahd ss) : (tx (wP ss)).length ≤ 184 := by
  have := tx_len (k := 45) (ss := ss) fun s hs => (pcs_ok s (List.mem_cons_of_mem _ (h.m s hs))).2.2
  have := h.l
  omega
theorem pS_wP : ∀ n, tx (wP (List.replicate n pS)) = (List.replicate n [112, 46, 32]).flatten
  | 0 => rfl
  | n + 1 => by rw [List.replicate_succ, wP_cons, pS_tx, pS_wP n, List.replicate_succ, List.flatten_cons]; rfl
end PN
set_option Elab.async false
set_option linter.all false
set_option maxRecDepth 100000
set_option maxHeartbeats 4000000
namespace PN
open PySem L2 C8 SX GX LC LG LR SU PM PX
theorem pglst {X : Cx} {K : PySem.W.Frag} {es : List Expr} {k : Nat} {t : TGs} {n : Nat} {pos : Pos} (e : X.K = K) (hc : X.calm = true) (h : PGs X es t)
    (hn : (assignEach es X.env).length = n := by rfl) (hst : (assignEach es X.env).findIdx? (·.1) = none := by rfl) : PG X (.Tuple es k pos) (gLst K n t) := by subst e; exact pg_lst hc h hn hst
/-- pairs of texts, each a list of its own -/
inductive PL (M : Vol) (H : Hp) : List V → List (List Nat × List Nat) → Prop
  | nil : PL M H [] []
  | cons {a : Addr} {p : List Nat × List Nat} {rs : List V} {ps : List (List Nat × List Nat)} : ¬ M a → H a = some (.lst [.str (S p.1), .str (S p.2)]) → PL M H rs ps → PL M H (.ref a :: rs) (p :: ps)
section
variable {M : Vol}
theorem PL.same {H H' : Hp} (s : Same H H') : ∀ {rs : List V} {ps : List (List Nat × List Nat)}, PL M H rs ps → PL M H' rs ps
  | _, _, .nil => .nil
  | _, _, .cons n e t => .cons n (s _ _ e) (PL.same s t)
theorem PL.snoc {H : Hp} {a : Addr} {p : List Nat × List Nat} (n : ¬ M a) (e : H a = some (.lst [.str (S p.1), .str (S p.2)])) : ∀ {rs : List V} {ps : List (List Nat × List Nat)}, PL M H rs ps → PL M H (rs ++ [.ref a]) (ps ++ [p])
  | _, _, .nil => .cons n e .nil
  | _, _, .cons n' e' t => .cons n' e' (PL.snoc n e t)
theorem PL.new {H : Hp} {p : Addr} {o : HO} (hp : H p = none) {rs : List V} {ps : List (List Nat × List Nat)} (q : PL M H rs ps) : PL M (upd H p o) rs ps := q.same (same_new hp)
theorem PL.add {H : Hp} {p : Addr} {x y : Str} {a b : List Nat} (hp : H p = none) (n : ¬ M p) (hx : x = S a) (hy : y = S b) {rs : List V} {ps : List (List Nat × List Nat)} (q : PL M H rs ps) : PL M (upd H p (.lst [.str x, .str y])) (rs ++ [.ref p]) (ps ++ [(a, b)]) := by
  subst hx; subst hy
  exact PL.snoc (p := (a, b)) n upd_same (q.new hp)
theorem PL.at_ {H : Hp} : ∀ {rs : List V} {ps : List (List Nat × List Nat)}, PL M H rs ps → ∀ {i : Nat} {p : List Nat × List Nat}, ps[i]? = some p → ∃ a, rs[i]? = some (.ref a) ∧ ¬ M a ∧ H a = some (.lst [.str (S p.1), .str (S p.2)])
  | _, _, .nil, i, p, h => by simp at h
  | _, _, .cons n e t, 0, p, h => by
    rw [List.getElem?_cons_zero] at h; cases h
    exact ⟨_, rfl, n, e⟩
  | _, _, .cons n e t, i + 1, p, h => by
    rw [List.getElem?_cons_succ] at h ⊢
    exact PL.at_ t h
end
end PN
set_option Elab.async false
set_option maxRecDepth 100000
set_option maxHeartbeats 4000000
namespace K04
open PySem L2 C8 SX GX LC LG LR SU PM PX
def top (i : Nat) : Stmt := PySem.Challenge.pw_stablepapers_k04_errors_of_parsing.main.body.getD i (.Pass ⟨0, 0, 0, 0⟩)
def inCls (st : Stmt) (j : Nat) : Stmt := (clsBody st).getD j (.Pass ⟨0, 0, 0, 0⟩)
abbrev s_is_lower : Stmt := top 8
abbrev N_is_lower : List Str := ["char"]
theorem sc_is_lower : FnScope N_is_lower ["char"] (fnScope s_is_lower) := fnScope_by (by decide +kernel)
abbrev s_is_upper : Stmt := top 9
abbrev N_is_upper : List Str := ["char"]
theorem sc_is_upper : FnScope N_is_upper ["char"] (fnScope s_is_upper) := fnScope_by (by decide +kernel)
abbrev s_is_digit : Stmt := top 10
abbrev N_is_digit : List Str := ["char"]
theorem sc_is_digit : FnScope N_is_digit ["char"] (fnScope s_is_digit) := fnScope_by (by decide +kernel)
abbrev s_is_word : Stmt := top 11
abbrev N_is_word : List Str := ["char"]
theorem sc_is_word : FnScope N_is_word ["char"] (fnScope s_is_word) := fnScope_by (by decide +kernel)
abbrev s_word_at : Stmt := top 12
abbrev N_word_at : List Str := ["text", "at", "end"]
theorem sc_word_at : FnScope N_word_at ["text", "at"] (fnScope s_word_at) := fnScope_by (by decide +kernel)
abbrev s_integer_at : Stmt := top 13
abbrev N_integer_at : List Str := ["text", "at", "end"]
theorem sc_integer_at : FnScope N_integer_at ["text", "at"] (fnScope s_integer_at) := fnScope_by (by decide +kernel)
abbrev s_sign_at : Stmt := top 14
abbrev N_sign_at : List Str := ["text", "at", "sign"]
theorem sc_sign_at : FnScope N_sign_at ["text", "at"] (fnScope s_sign_at) := fnScope_by (by decide +kernel)
abbrev s_token_at : Stmt := top 15
abbrev N_token_at : List Str := ["text", "at", "char"]
theorem sc_token_at : FnScope N_token_at ["text", "at"] (fnScope s_token_at) := fnScope_by (by decide +kernel)
abbrev s_tokens : Stmt := top 16
abbrev N_tokens : List Str := ["text", "found", "at", "token"]
theorem sc_tokens : FnScope N_tokens ["text"] (fnScope s_tokens) := fnScope_by (by decide +kernel)
abbrev s_Parser___init__ : Stmt := inCls (top 26) 0
abbrev N_Parser___init__ : List Str := ["self", "listed"]
theorem sc_Parser___init__ : FnScope N_Parser___init__ ["self", "listed"] (fnScope s_Parser___init__) := fnScope_by (by decide +kernel)
abbrev s_Parser_kind : Stmt := inCls (top 26) 1
abbrev N_Parser_kind : List Str := ["self"]
theorem sc_Parser_kind : FnScope N_Parser_kind ["self"] (fnScope s_Parser_kind) := fnScope_by (by decide +kernel)
abbrev s_Parser_text : Stmt := inCls (top 26) 2
abbrev N_Parser_text : List Str := ["self"]
theorem sc_Parser_text : FnScope N_Parser_text ["self"] (fnScope s_Parser_text) := fnScope_by (by decide +kernel)
abbrev s_Parser_fail : Stmt := inCls (top 26) 3
abbrev N_Parser_fail : List Str := ["self", "_", "text", "at"]
theorem sc_Parser_fail : FnScope N_Parser_fail ["self"] (fnScope s_Parser_fail) := fnScope_by (by decide +kernel)
abbrev s_Parser_skip : Stmt := inCls (top 26) 4
abbrev N_Parser_skip : List Str := ["self", "text"]
theorem sc_Parser_skip : FnScope N_Parser_skip ["self", "text"] (fnScope s_Parser_skip) := fnScope_by (by decide +kernel)
abbrev s_Parser_passed : Stmt := inCls (top 26) 5
abbrev N_Parser_passed : List Str := ["self", "text"]
theorem sc_Parser_passed : FnScope N_Parser_passed ["self", "text"] (fnScope s_Parser_passed) := fnScope_by (by decide +kernel)
abbrev s_Parser_one_of : Stmt := inCls (top 26) 6
abbrev N_Parser_one_of : List Str := ["self", "texts", "text"]
theorem sc_Parser_one_of : FnScope N_Parser_one_of ["self", "texts"] (fnScope s_Parser_one_of) := fnScope_by (by decide +kernel)
abbrev s_Parser_integer : Stmt := inCls (top 26) 7
abbrev N_Parser_integer : List Str := ["self"]
theorem sc_Parser_integer : FnScope N_Parser_integer ["self"] (fnScope s_Parser_integer) := fnScope_by (by decide +kernel)
abbrev s_Parser_optional_integer : Stmt := inCls (top 26) 8
abbrev N_Parser_optional_integer : List Str := ["self"]
theorem sc_Parser_optional_integer : FnScope N_Parser_optional_integer ["self"] (fnScope s_Parser_optional_integer) := fnScope_by (by decide +kernel)
abbrev s_Parser_on_name : Stmt := inCls (top 26) 9
abbrev N_Parser_on_name : List Str := ["self"]
theorem sc_Parser_on_name : FnScope N_Parser_on_name ["self"] (fnScope s_Parser_on_name) := fnScope_by (by decide +kernel)
abbrev s_Parser_name : Stmt := inCls (top 26) 10
abbrev N_Parser_name : List Str := ["self"]
theorem sc_Parser_name : FnScope N_Parser_name ["self"] (fnScope s_Parser_name) := fnScope_by (by decide +kernel)
abbrev s_Parser_factor : Stmt := inCls (top 26) 11
abbrev N_Parser_factor : List Str := ["self", "inner"]
theorem sc_Parser_factor : FnScope N_Parser_factor ["self"] (fnScope s_Parser_factor) := fnScope_by (by decide +kernel)
abbrev s_Parser_product : Stmt := inCls (top 26) 12
abbrev N_Parser_product : List Str := ["self", "left"]
theorem sc_Parser_product : FnScope N_Parser_product ["self"] (fnScope s_Parser_product) := fnScope_by (by decide +kernel)
abbrev s_Parser_term : Stmt := inCls (top 26) 13
abbrev N_Parser_term : List Str := ["self", "left", "sign"]
theorem sc_Parser_term : FnScope N_Parser_term ["self"] (fnScope s_Parser_term) := fnScope_by (by decide +kernel)
abbrev s_Parser_atom : Stmt := inCls (top 26) 14
abbrev N_Parser_atom : List Str := ["self", "name", "terms"]
theorem sc_Parser_atom : FnScope N_Parser_atom ["self"] (fnScope s_Parser_atom) := fnScope_by (by decide +kernel)
abbrev s_Parser_on_atom : Stmt := inCls (top 26) 15
abbrev N_Parser_on_atom : List Str := ["self", "behind"]
theorem sc_Parser_on_atom : FnScope N_Parser_on_atom ["self"] (fnScope s_Parser_on_atom) := fnScope_by (by decide +kernel)
abbrev s_Parser_condition : Stmt := inCls (top 26) 16
abbrev N_Parser_condition : List Str := ["self", "left", "sign"]
theorem sc_Parser_condition : FnScope N_Parser_condition ["self"] (fnScope s_Parser_condition) := fnScope_by (by decide +kernel)
abbrev s_Parser_optional_conditions : Stmt := inCls (top 26) 17
abbrev N_Parser_optional_conditions : List Str := ["self", "conditions"]
theorem sc_Parser_optional_conditions : FnScope N_Parser_optional_conditions ["self"] (fnScope s_Parser_optional_conditions) := fnScope_by (by decide +kernel)
abbrev s_Parser_choice : Stmt := inCls (top 26) 18
abbrev N_Parser_choice : List Str := ["self", "atom"]
theorem sc_Parser_choice : FnScope N_Parser_choice ["self"] (fnScope s_Parser_choice) := fnScope_by (by decide +kernel)
abbrev s_Parser_choices : Stmt := inCls (top 26) 19
abbrev N_Parser_choices : List Str := ["self", "found"]
theorem sc_Parser_choices : FnScope N_Parser_choices ["self"] (fnScope s_Parser_choices) := fnScope_by (by decide +kernel)
abbrev s_Parser_member : Stmt := inCls (top 26) 20
abbrev N_Parser_member : List Str := ["self", "term"]
theorem sc_Parser_member : FnScope N_Parser_member ["self"] (fnScope s_Parser_member) := fnScope_by (by decide +kernel)
abbrev s_Parser_members : Stmt := inCls (top 26) 21
abbrev N_Parser_members : List Str := ["self", "found"]
theorem sc_Parser_members : FnScope N_Parser_members ["self"] (fnScope s_Parser_members) := fnScope_by (by decide +kernel)
abbrev s_Parser_part : Stmt := inCls (top 26) 22
abbrev N_Parser_part : List Str := ["self", "members", "sign"]
theorem sc_Parser_part : FnScope N_Parser_part ["self"] (fnScope s_Parser_part) := fnScope_by (by decide +kernel)
abbrev s_Parser_optional_body : Stmt := inCls (top 26) 23
abbrev N_Parser_optional_body : List Str := ["self", "parts"]
theorem sc_Parser_optional_body : FnScope N_Parser_optional_body ["self"] (fnScope s_Parser_optional_body) := fnScope_by (by decide +kernel)
abbrev s_Parser_choose : Stmt := inCls (top 26) 24
abbrev N_Parser_choose : List Str := ["self", "low", "choices", "high"]
theorem sc_Parser_choose : FnScope N_Parser_choose ["self"] (fnScope s_Parser_choose) := fnScope_by (by decide +kernel)
abbrev s_Parser_bare_statement : Stmt := inCls (top 26) 25
abbrev N_Parser_bare_statement : List Str := ["self", "low", "atom"]
theorem sc_Parser_bare_statement : FnScope N_Parser_bare_statement ["self"] (fnScope s_Parser_bare_statement) := fnScope_by (by decide +kernel)
abbrev s_Parser_statement : Stmt := inCls (top 26) 26
abbrev N_Parser_statement : List Str := ["self", "found"]
theorem sc_Parser_statement : FnScope N_Parser_statement ["self"] (fnScope s_Parser_statement) := fnScope_by (by decide +kernel)
abbrev s_check_brackets : Stmt := top 27
abbrev N_check_brackets : List Str := ["listed", "level", "_", "text"]
theorem sc_check_brackets : FnScope N_check_brackets ["listed"] (fnScope s_check_brackets) := fnScope_by (by decide +kernel)
abbrev s_count_words : Stmt := top 28
abbrev N_count_words : List Str := ["listed", "kind", "_"]
theorem sc_count_words : FnScope N_count_words ["listed"] (fnScope s_count_words) := fnScope_by (by decide +kernel)
abbrev s_parse : Stmt := top 29
abbrev N_parse : List Str := ["text", "listed", "parser", "statements", "most_words", "begin"]
theorem sc_parse : FnScope N_parse ["text"] (fnScope s_parse) := fnScope_by (by decide +kernel)
abbrev s__law_state : Stmt := top 31
abbrev N__law_state : List Str := ["script", "seed", "cell"]
theorem sc__law_state : FnScope N__law_state ["script"] (fnScope s__law_state) := fnScope_by (by decide +kernel)
abbrev s__law_draw : Stmt := top 32
abbrev N__law_draw : List Str := ["state", "many", "cells", "k", "amount", "mixed"]
theorem sc__law_draw : FnScope N__law_draw ["state", "many"] (fnScope s__law_draw) := fnScope_by (by decide +kernel)
abbrev s__law_piece : Stmt := top 33
abbrev N__law_piece : List Str := ["state", "rows"]
theorem sc__law_piece : FnScope N__law_piece ["state"] (fnScope s__law_piece) := fnScope_by (by decide +kernel)
abbrev s__law_index : Stmt := top 34
abbrev N__law_index : List Str := ["text", "e"]
theorem sc__law_index : FnScope N__law_index ["text"] (fnScope s__law_index) := fnScope_by (by decide +kernel)
abbrev s__law_cut : Stmt := top 35
abbrev N__law_cut : List Str := ["state", "before", "tokens_v", "row", "text"]
theorem sc__law_cut : FnScope N__law_cut ["state", "before"] (fnScope s__law_cut) := fnScope_by (by decide +kernel)
abbrev s__law_wrong : Stmt := top 36
abbrev N__law_wrong : List Str := ["state", "before", "rows", "first", "second"]
theorem sc__law_wrong : FnScope N__law_wrong ["state", "before"] (fnScope s__law_wrong) := fnScope_by (by decide +kernel)
abbrev s__law_deep : Stmt := top 37
abbrev N__law_deep : List Str := ["count"]
theorem sc__law_deep : FnScope N__law_deep ["count"] (fnScope s__law_deep) := fnScope_by (by decide +kernel)
abbrev s__law_limits : Stmt := top 38
abbrev N__law_limits : List Str := ["state", "before", "kind", "broken", "words", "many", "wrong"]
theorem sc__law_limits : FnScope N__law_limits ["state", "before"] (fnScope s__law_limits) := fnScope_by (by decide +kernel)
abbrev s_law : Stmt := top 39
abbrev N_law : List Str := ["script", "state", "before", "kind", "k"]
theorem sc_law : FnScope N_law ["script"] (fnScope s_law) := fnScope_by (by decide +kernel)
/-- the codes with tables; the classes; tables of the top -/
structure Cd where
  c__law_state : Addr
  P__law_state : Addr
  C_Parser : Addr
  C_TextError : Addr
  a_SIGNS : Addr
  a_KEYWORDS : Addr
  a_RELATIONS : Addr
  a_SUM_RELATIONS : Addr
  a_OPERATORS : Addr
def Cd.ts (d : Cd) : Tbs := ⟨d.P__law_state, [d.P__law_state]⟩
def Cd.cs (d : Cd) : List (Addr × Addr) := [(d.c__law_state, d.P__law_state)]
structure Txt (P : Program) (w : World) (K : PySem.W.Frag) (mg : Str → Option Value) (base : Heap) (d : Cd) : Prop where
  «is_lower» : ∃ c, Has K mg "is_lower" s_is_lower c
  «is_upper» : ∃ c, Has K mg "is_upper" s_is_upper c
  «is_digit» : ∃ c, Has K mg "is_digit" s_is_digit c
  «is_word» : ∃ c, Has K mg "is_word" s_is_word c
  «word_at» : ∃ c, Has K mg "word_at" s_word_at c
  «integer_at» : ∃ c, Has K mg "integer_at" s_integer_at c
  «sign_at» : ∃ c, Has K mg "sign_at" s_sign_at c
  «token_at» : ∃ c, Has K mg "token_at" s_token_at c
  «tokens» : ∃ c, Has K mg "tokens" s_tokens c
  Parser___init__ : MHas K d.C_Parser "__init__" "Parser.__init__" s_Parser___init__
  Parser_kind : MHas K d.C_Parser "kind" "Parser.kind" s_Parser_kind
  Parser_text : MHas K d.C_Parser "text" "Parser.text" s_Parser_text
  Parser_fail : MHas K d.C_Parser "fail" "Parser.fail" s_Parser_fail
  Parser_skip : MHas K d.C_Parser "skip" "Parser.skip" s_Parser_skip
  Parser_passed : MHas K d.C_Parser "passed" "Parser.passed" s_Parser_passed
  Parser_one_of : MHas K d.C_Parser "one_of" "Parser.one_of" s_Parser_one_of
  Parser_integer : MHas K d.C_Parser "integer" "Parser.integer" s_Parser_integer
  Parser_optional_integer : MHas K d.C_Parser "optional_integer" "Parser.optional_integer" s_Parser_optional_integer
  Parser_on_name : MHas K d.C_Parser "on_name" "Parser.on_name" s_Parser_on_name
  Parser_name : MHas K d.C_Parser "name" "Parser.name" s_Parser_name
  Parser_factor : MHas K d.C_Parser "factor" "Parser.factor" s_Parser_factor
  Parser_product : MHas K d.C_Parser "product" "Parser.product" s_Parser_product
  Parser_term : MHas K d.C_Parser "term" "Parser.term" s_Parser_term
  Parser_atom : MHas K d.C_Parser "atom" "Parser.atom" s_Parser_atom
  Parser_on_atom : MHas K d.C_Parser "on_atom" "Parser.on_atom" s_Parser_on_atom
  Parser_condition : MHas K d.C_Parser "condition" "Parser.condition" s_Parser_condition
  Parser_optional_conditions : MHas K d.C_Parser "optional_conditions" "Parser.optional_conditions" s_Parser_optional_conditions
  Parser_choice : MHas K d.C_Parser "choice" "Parser.choice" s_Parser_choice
  Parser_choices : MHas K d.C_Parser "choices" "Parser.choices" s_Parser_choices
  Parser_member : MHas K d.C_Parser "member" "Parser.member" s_Parser_member
  Parser_members : MHas K d.C_Parser "members" "Parser.members" s_Parser_members
  Parser_part : MHas K d.C_Parser "part" "Parser.part" s_Parser_part
  Parser_optional_body : MHas K d.C_Parser "optional_body" "Parser.optional_body" s_Parser_optional_body
  Parser_choose : MHas K d.C_Parser "choose" "Parser.choose" s_Parser_choose
  Parser_bare_statement : MHas K d.C_Parser "bare_statement" "Parser.bare_statement" s_Parser_bare_statement
  Parser_statement : MHas K d.C_Parser "statement" "Parser.statement" s_Parser_statement
  «check_brackets» : ∃ c, Has K mg "check_brackets" s_check_brackets c
  «count_words» : ∃ c, Has K mg "count_words" s_count_words c
  «parse» : ∃ c, Has K mg "parse" s_parse c
  «_law_state» : Has K mg "_law_state" s__law_state d.c__law_state
  h__law_state : PySem.W.CodeHd base d.c__law_state d.P__law_state
  «_law_draw» : ∃ c, Has K mg "_law_draw" s__law_draw c
  «_law_piece» : ∃ c, Has K mg "_law_piece" s__law_piece c
  «_law_index» : ∃ c, Has K mg "_law_index" s__law_index c
  «_law_cut» : ∃ c, Has K mg "_law_cut" s__law_cut c
  «_law_wrong» : ∃ c, Has K mg "_law_wrong" s__law_wrong c
  «_law_deep» : ∃ c, Has K mg "_law_deep" s__law_deep c
  «_law_limits» : ∃ c, Has K mg "_law_limits" s__law_limits c
  «law» : ∃ c, Has K mg "law" s_law c
  C_Parser : HasC K mg "Parser" d.C_Parser
  n_Parser_listed : NoAttr K d.C_Parser "listed"
  n_Parser_place : NoAttr K d.C_Parser "place"
  n_Parser_most_terms : NoAttr K d.C_Parser "most_terms"
  TextError : TErr P w K mg base d.C_TextError
  xf_TextError : XfC K d.C_TextError
  no_TextError : PySem.W.findIn K (.ref d.C_TextError) "at" = some none
  te_TextError : PySem.W.exmOne K (.ref d.C_TextError) (.ref d.C_TextError) = some true
  g_LONGEST_TEXT : ∃ u, mg "LONGEST_TEXT" = some u ∧ RelV (.int 4000) u
  g_LONGEST_WORD : ∃ u, mg "LONGEST_WORD" = some u ∧ RelV (.int 20) u
  g_LONGEST_INTEGER : ∃ u, mg "LONGEST_INTEGER" = some u ∧ RelV (.int 4) u
  g_MOST_STATEMENTS : ∃ u, mg "MOST_STATEMENTS" = some u ∧ RelV (.int 60) u
  g_MOST_WORDS : ∃ u, mg "MOST_WORDS" = some u ∧ RelV (.int 60) u
  g_MOST_TERMS : ∃ u, mg "MOST_TERMS" = some u ∧ RelV (.int 4) u
  g_DEEPEST_BRACKETS : ∃ u, mg "DEEPEST_BRACKETS" = some u ∧ RelV (.int 10) u
  g_SIGNS : ∃ u, mg "SIGNS" = some u ∧ RelV (.ref d.a_SIGNS) u
  t_SIGNS : ∀ H, SqT K H d.a_SIGNS (K1.sigs.map fun g => V.str (S g))
  g_KEYWORDS : ∃ u, mg "KEYWORDS" = some u ∧ RelV (.ref d.a_KEYWORDS) u
  t_KEYWORDS : ∀ H, SqT K H d.a_KEYWORDS (PM.KW.map fun g => V.str (S g))
  g_RELATIONS : ∃ u, mg "RELATIONS" = some u ∧ RelV (.ref d.a_RELATIONS) u
  t_RELATIONS : ∀ H, SqT K H d.a_RELATIONS (PM.RELS.map fun g => V.str (S g))
  g_SUM_RELATIONS : ∃ u, mg "SUM_RELATIONS" = some u ∧ RelV (.ref d.a_SUM_RELATIONS) u
  t_SUM_RELATIONS : ∀ H, SqT K H d.a_SUM_RELATIONS (PM.SRELS.map fun g => V.str (S g))
  g_OPERATORS : ∃ u, mg "OPERATORS" = some u ∧ RelV (.ref d.a_OPERATORS) u
  t_OPERATORS : ∀ H, SqT K H d.a_OPERATORS (PM.OPS.map fun g => V.str (S g))
  b_abs : mg "abs" = none
  b_int : mg "int" = none
  b_len : mg "len" = none
  b_max : mg "max" = none
  b_range : mg "range" = none
  bm : ∃ P0, base.BuiltinsAt mg P0
def spParI (C : Addr) : Sp := fun vs H Q _ => ∃ (a l dx : Addr) (toks : List Tk) (tvs : List V), vs = [.ref a, .ref l] ∧ H a = some (.ins C dx []) ∧ H l = some (.lst tvs) ∧ ToksAt H tvs toks ∧ Wt toks ∧ toks.length ≤ 4001 ∧ ∀ H', Kz (one a) H H' → PAt C H' a l toks.length ⟨toks, 0⟩ → Q .non H'
def sp_Parser___init__ (_K : PySem.W.Frag) (d : Cd) : Sp := spParI d.C_Parser
section
variable {P : Program} {w : World} {K : PySem.W.Frag} {mg : Str → Option Value} {base : Heap} {d : Cd}
-- def Parser___init__: level 1, calls [], cells [], gens 0, raising False
theorem ok_Parser___init__ (T : Txt P w K mg base d) :
    Mak P w K mg base 1 "Parser" d.C_Parser (sp_Parser___init__ K d) [] := by
  refine mak (ps := ["self", "listed"]) T.C_Parser T.Parser___init__ (fun _ _ _ _ _ _ us hl => match us, hl with | [_, _], _ => rfl) sc_Parser___init__ (fun vs H Q E h => ?_) (fun f c A outer s H vs Q E hr h => ?_)
  · obtain ⟨a, l, dx, _, _, rfl, _⟩ := h; rfl
  · obtain ⟨a, l, dx, toks, tvs, rfl, ha, hl, ht, hw, hle, kk⟩ := h
    refine ⟨_, (pss_cons (ps_fld (pv 0) (pv 1) rfl)
    (pss_cons (ps_fld (pv 0) pe_int rfl)
    (pss_one (ps_fld (pv 0) pe_int rfl)))), ?_⟩
    refine ⟨_, rfl, _, rfl, a, d.C_Parser, dx, _, rfl, ha, T.C_Parser.cl, T.n_Parser_listed, (by decide : 0 < 1000), ?_⟩
    refine ⟨_, rfl, a, d.C_Parser, dx, _, rfl, upd_same, T.C_Parser.cl, T.n_Parser_place, (by decide : 1 < 1000), ?_⟩
    refine ⟨_, rfl, a, d.C_Parser, dx, _, rfl, upd_same, T.C_Parser.cl, T.n_Parser_most_terms, (by decide : 2 < 1000), ?_⟩
    have e : putF "most_terms" (V.int 0) (putF "place" (V.int 0) (putF "listed" (V.ref l) [])) = flds l 0 0 := by
      show putF "most_terms" (V.int 0) (if ("listed" : Str) = "place" then _ else (("listed" : Str), V.ref l) :: [(("place" : Str), V.int 0)]) = _
      rw [if_neg PX.k1]
      show (if ("listed" : Str) = "most_terms" then _ else (("listed" : Str), V.ref l) :: (if ("place" : Str) = "most_terms" then _ else (("place" : Str), V.int 0) :: [(("most_terms" : Str), V.int 0)])) = _
      rw [if_neg PX.k2, if_neg PX.k3]; rfl
    have nla : l ≠ a := ne_of hl ha (fun z => nomatch z)
    have kx : ∀ o o1 o2 : HO, Kz (one a) H (upd (upd (upd H a o) a o1) a o2) := fun o o1 o2 => ((Kz.put (L := one a) (p := a) rfl).trans (Kz.put (L := one a) (p := a) rfl)).trans (Kz.put (L := one a) (p := a) rfl)
    refine kk _ (kx _ _ _) ⟨⟨dx, 0, tvs, toks, ?_, ?_, toks_kx ht (kx _ _ _) (fun b ys z q => by rw [show b = a from z, ha] at q; cases q), rfl, rfl⟩, hw, hle⟩
    · rw [upd_same]; exact congrArg (fun f => some (HO.ins d.C_Parser dx f)) e
    · rw [upd_ne nla, upd_ne nla, upd_ne nla]; exact hl
end
def sp_Parser_kind (_K : PySem.W.Frag) (d : Cd) : Sp := spA d.C_Parser fun s => .str (K1.kStr s.k)
section
variable {P : Program} {w : World} {K : PySem.W.Frag} {mg : Str → Option Value} {base : Heap} {d : Cd}
-- def Parser_kind: level 1, calls [], cells [], gens 0, raising False
theorem ok_Parser_kind (T : Txt P w K mg base d) :
    Met P w K mg base 1 d.C_Parser "kind" (sp_Parser_kind K d) [] := by
  refine met (ps := ["self"]) T.C_Parser.cl T.Parser_kind (fun _ _ _ _ _ _ us hl => match us, hl with | [_], _ => rfl) sc_Parser_kind (fun vs H Q E h => ?_) (fun f c A outer s H vs Q E hr h => ?_)
  · obtain ⟨a, l, n, s, rfl, _⟩ := h; rfl
  · obtain ⟨a, l, n, s, rfl, W, kk⟩ := h
    refine ⟨_, (pss_one (ps_ret (pe_ix (ixt (K := K) rfl) (pe_ix (ixl (K := K) rfl) (pe_fld (pv 0) rfl) (pe_fld (pv 0) rfl) (fun _ _ => rfl)) pe_int (fun _ _ => rfl)))), ?_⟩
    obtain ⟨dx, p, tvs, b, e1, e2, e3, e4, e5⟩ := W.tok
    exact ⟨_, rfl, a, d.C_Parser, dx, _, _, rfl, e1, T.C_Parser.cl, T.n_Parser_listed, look_listed _ _ _, _, rfl, a, d.C_Parser, dx, _, _, rfl, e1, T.C_Parser.cl, T.n_Parser_place, look_place _ _ _, l, tvs, p, _, rfl, rfl, SqL.of e2, atI_nat e3, b, _, 0, _, rfl, rfl, SqT.of e4, at0, kk⟩
end
def sp_Parser_text (_K : PySem.W.Frag) (d : Cd) : Sp := spA d.C_Parser fun s => .str (S s.x)
section
variable {P : Program} {w : World} {K : PySem.W.Frag} {mg : Str → Option Value} {base : Heap} {d : Cd}
-- def Parser_text: level 1, calls [], cells [], gens 0, raising False
theorem ok_Parser_text (T : Txt P w K mg base d) :
    Met P w K mg base 1 d.C_Parser "text" (sp_Parser_text K d) [] := by
  refine met (ps := ["self"]) T.C_Parser.cl T.Parser_text (fun _ _ _ _ _ _ us hl => match us, hl with | [_], _ => rfl) sc_Parser_text (fun vs H Q E h => ?_) (fun f c A outer s H vs Q E hr h => ?_)
  · obtain ⟨a, l, n, s, rfl, _⟩ := h; rfl
  · obtain ⟨a, l, n, s, rfl, W, kk⟩ := h
    refine ⟨_, (pss_one (ps_ret (pe_ix (ixt (K := K) rfl) (pe_ix (ixl (K := K) rfl) (pe_fld (pv 0) rfl) (pe_fld (pv 0) rfl) (fun _ _ => rfl)) pe_int (fun _ _ => rfl)))), ?_⟩
    obtain ⟨dx, p, tvs, b, e1, e2, e3, e4, e5⟩ := W.tok
    exact ⟨_, rfl, a, d.C_Parser, dx, _, _, rfl, e1, T.C_Parser.cl, T.n_Parser_listed, look_listed _ _ _, _, rfl, a, d.C_Parser, dx, _, _, rfl, e1, T.C_Parser.cl, T.n_Parser_place, look_place _ _ _, l, tvs, p, _, rfl, rfl, SqL.of e2, atI_nat e3, b, _, 1, _, rfl, rfl, SqT.of e4, at1, kk⟩
end
def sp_Parser_fail (_K : PySem.W.Frag) (d : Cd) : Sp := spFail d.C_Parser d.C_TextError
section
variable {P : Program} {w : World} {K : PySem.W.Frag} {mg : Str → Option Value} {base : Heap} {d : Cd}
-- def Parser_fail: level 3, calls [('Parser_kind', 1)], cells [], gens 0, raising True
theorem ok_Parser_fail (T : Txt P w K mg base d) (c_Parser_kind : Met P w K mg base 1 d.C_Parser "kind" (sp_Parser_kind K d) []) :
    MetX P w K mg base 3 d.C_Parser "fail" (sp_Parser_fail K d) := by
  refine metX (ps := ["self"]) T.C_Parser.cl T.Parser_fail (fun _ _ _ _ _ _ us hl => match us, hl with | [_], _ => rfl) sc_Parser_fail (fun vs H Q E h => ?_) (fun f c A outer s H vs Q E hr h => ?_)
  · obtain ⟨a, l, n, s, rfl, _⟩ := h; rfl
  · obtain ⟨a, l, n, s, rfl, W, kk⟩ := h
    refine ⟨_, (pss_cons (ps_asg (pe_ix (ixl (K := K) rfl) (pe_fld (pv 0) rfl) (pe_fld (pv 0) rfl) (fun _ _ => rfl)) (pgtup (K := K) rfl rfl (pgs_cons (pg_name (i := 1) sc_Parser_fail.nd rfl (Or.inl rfl)) (pgs_cons (pg_name (i := 2) sc_Parser_fail.nd rfl (Or.inl rfl)) (pgs_cons (pg_name (i := 3) sc_Parser_fail.nd rfl (Or.inl rfl)) pgs_nil)))))
    (pss_cons (ps_if (pt_cmpR op_eq (pe_mt0 c_Parser_kind hr (by decide) (pv 0)) pe_str (nomark _))
      (pss_one (ps_err T.TextError hr (by decide) (by rfl) (pa_cons pe_str (pa_cons (pv 3) pa_nil))))
      pss_nil)
    (pss_one (ps_err T.TextError hr (by decide) (by rfl) (pa_cons (pe_joined (.cons (pe_fmt (pv 2)) (.cons pe_str (.cons (pe_fmt (pv 3)) (.cons pe_str .nil))))) (pa_cons (pv 3) pa_nil)))))), ?_⟩
    obtain ⟨dx, p, tvs, b, e1, e2, e3, e4, e5⟩ := W.tok
    obtain ⟨h4, h20⟩ := wt_at W.wt
    refine ⟨_, rfl, a, d.C_Parser, dx, _, _, rfl, e1, T.C_Parser.cl, T.n_Parser_listed, look_listed _ _ _, _, rfl, a, d.C_Parser, dx, _, _, rfl, e1, T.C_Parser.cl, T.n_Parser_place, look_place _ _ _, l, tvs, p, _, rfl, rfl, SqL.of e2, atI_nat e3, b, _, rfl, SqT.of e4, rfl, _, _, rfl, _, _, rfl, _, _, rfl, rfl, ?_⟩
    obtain ⟨dx, fs, eo, no⟩ := W.ob
    refine ⟨_, rfl, a, dx, _, rfl, eo, no (by decide +kernel), a, l, n, s, rfl, W, rfl, _, rfl, ite2 (fun _ => ?_) (fun _ => ?_)⟩
    · exact ⟨_, rfl, mkErr fun dd hd => kk dd hd⟩
    · have s0 : Str.empty.length = 0 := rfl
      have s1 : (Str.ofString " at ").length = 4 := by decide +kernel
      have s2 : (Str.ofString " does not fit").length = 13 := by decide +kernel
      have s3 := int_short (i := s.at) (by omega)
      have s4 : (S s.x).length ≤ 20 := by rw [S_len]; exact h20
      refine ⟨_, rfl, .inl ⟨_, rfl, ?_, _, rfl, ?_, _, rfl, ?_, _, rfl, .inr ⟨_, rfl, int_log (by omega), _, rfl, ?_, _, rfl, ?_, _, rfl, mkErr fun dd hd => kk dd hd⟩⟩⟩
      · rw [sizeLine_eq]; omega
      · rw [sizeLine_eq, PX.app_len]; omega
      · rw [sizeLine_eq, PX.app_len, PX.app_len]; omega
      · rw [sizeLine_eq, PX.app_len, PX.app_len, PX.app_len]; omega
      · rw [sizeLine_eq, PX.app_len, PX.app_len, PX.app_len, PX.app_len]; omega
end
def sp_Parser_skip (_K : PySem.W.Frag) (d : Cd) : Sp := spSkip d.C_Parser d.C_TextError
section
variable {P : Program} {w : World} {K : PySem.W.Frag} {mg : Str → Option Value} {base : Heap} {d : Cd}
-- def Parser_skip: level 4, calls [('Parser_fail', 3), ('Parser_text', 1)], cells [], gens 0, raising True
theorem ok_Parser_skip (T : Txt P w K mg base d) (c_Parser_fail : MetX P w K mg base 3 d.C_Parser "fail" (sp_Parser_fail K d)) (c_Parser_text : Met P w K mg base 1 d.C_Parser "text" (sp_Parser_text K d) []) :
    MetX P w K mg base 4 d.C_Parser "skip" (sp_Parser_skip K d) := by
  refine metX (ps := ["self", "text"]) T.C_Parser.cl T.Parser_skip (fun _ _ _ _ _ _ us hl => match us, hl with | [_, _], _ => rfl) sc_Parser_skip (fun vs H Q E h => ?_) (fun f c A outer s H vs Q E hr h => ?_)
  · obtain ⟨a, l, n, s, x, res, rfl, _⟩ := h; rfl
  · obtain ⟨a, l, n, s, x, res, rfl, hx, W, hres, kk⟩ := h
    refine ⟨_, (pss_cons (ps_if (pt_cmpR op_ne (pe_mt0 c_Parser_text hr (by decide) (pv 0)) (pv 1) (nomark _))
      (pss_one (ps_expr (pe_mtX0 c_Parser_fail (takes_of rfl rfl rfl rfl) hr (by decide) (pv 0))))
      pss_nil)
    (pss_one (ps_fldaug (pv 0) pe_int in_add))), ?_⟩
    unfold skipM at hres
    obtain ⟨dx, fs, eo, no⟩ := W.ob
    refine ⟨_, rfl, a, dx, _, rfl, eo, no (by decide +kernel), a, l, n, s, rfl, W, _, rfl, rfl, _, rfl, ite2 (fun h => ?_) (fun h => ?_)⟩
    · rw [if_neg (S_nt rfl h)] at hres
      obtain rfl : Rs.er _ = res := Option.some.inj hres
      exact ⟨_, rfl, a, dx, _, rfl, eo, no (by decide +kernel), a, l, n, s, rfl, W, fun dd hd => kk dd H (Kz.refl _) hd⟩
    · have h := S_nf rfl h
      rw [if_pos h] at hres
      obtain rfl : Rs.ok _ _ = res := Option.some.inj hres
      exact W.adv T.C_Parser.cl T.n_Parser_place rfl (wt_x W.wt hx h) fun H' k1 W1 => kk .non H' k1 W1 trivial
end
def sp_Parser_passed (_K : PySem.W.Frag) (d : Cd) : Sp := spPassed d.C_Parser
section
variable {P : Program} {w : World} {K : PySem.W.Frag} {mg : Str → Option Value} {base : Heap} {d : Cd}
-- def Parser_passed: level 2, calls [('Parser_text', 1)], cells [], gens 0, raising False
theorem ok_Parser_passed (T : Txt P w K mg base d) (c_Parser_text : Met P w K mg base 1 d.C_Parser "text" (sp_Parser_text K d) []) :
    Met P w K mg base 2 d.C_Parser "passed" (sp_Parser_passed K d) [] := by
  refine met (ps := ["self", "text"]) T.C_Parser.cl T.Parser_passed (fun _ _ _ _ _ _ us hl => match us, hl with | [_, _], _ => rfl) sc_Parser_passed (fun vs H Q E h => ?_) (fun f c A outer s H vs Q E hr h => ?_)
  · obtain ⟨a, l, n, s, x, rfl, _⟩ := h; rfl
  · obtain ⟨a, l, n, s, x, rfl, hx, W, k0, kk⟩ := h
    refine ⟨_, (pss_cons (ps_if (pt_cmpR op_ne (pe_mt0 c_Parser_text hr (by decide) (pv 0)) (pv 1) (nomark _))
      (pss_one (ps_ret pe_bl))
      pss_nil)
    (pss_cons (ps_fldaug (pv 0) pe_int in_add)
    (pss_one (ps_ret pe_bl)))), ?_⟩
    obtain ⟨dx, fs, eo, no⟩ := W.ob
    refine ⟨_, rfl, a, dx, _, rfl, eo, no (by decide +kernel), a, l, n, s, rfl, W, _, rfl, rfl, _, rfl, ite2 (fun h => ?_) (fun h => ?_)⟩
    · exact k0 (S_nt rfl h)
    · have h := S_nf rfl h
      exact W.adv T.C_Parser.cl T.n_Parser_place rfl (wt_x W.wt hx h) fun H' k1 W1 => kk h H' k1 W1
end
def sp_Parser_one_of (K : PySem.W.Frag) (d : Cd) : Sp := spOne K d.C_Parser d.C_TextError
section
variable {P : Program} {w : World} {K : PySem.W.Frag} {mg : Str → Option Value} {base : Heap} {d : Cd}
-- def Parser_one_of: level 4, calls [('Parser_fail', 3), ('Parser_text', 1)], cells [], gens 0, raising True
theorem ok_Parser_one_of (T : Txt P w K mg base d) (c_Parser_fail : MetX P w K mg base 3 d.C_Parser "fail" (sp_Parser_fail K d)) (c_Parser_text : Met P w K mg base 1 d.C_Parser "text" (sp_Parser_text K d) []) :
    MetX P w K mg base 4 d.C_Parser "one_of" (sp_Parser_one_of K d) := by
  refine metX (ps := ["self", "texts"]) T.C_Parser.cl T.Parser_one_of (fun _ _ _ _ _ _ us hl => match us, hl with | [_, _], _ => rfl) sc_Parser_one_of (fun vs H Q E h => ?_) (fun f c A outer s H vs Q E hr h => ?_)
  · obtain ⟨a, l, b, n, s, xs, res, rfl, _⟩ := h; rfl
  · obtain ⟨a, l, b, n, s, xs, res, rfl, hx, hb, W, hres, kk⟩ := h
    refine ⟨_, (pss_cons (ps_set (i := 2) sc_Parser_one_of.nd rfl (Or.inl rfl) (pe_mt0 c_Parser_text hr (by decide) (pv 0)))
    (pss_cons (ps_if (pt_cmpR (opnin (K := K) rfl) (pv 2) (pv 1) rfl)
      (pss_one (ps_expr (pe_mtX0 c_Parser_fail (takes_of rfl rfl rfl rfl) hr (by decide) (pv 0))))
      pss_nil)
    (pss_cons (ps_fldaug (pv 0) pe_int in_add)
    (pss_one (ps_ret (pv 2)))))), ?_⟩
    unfold oneM at hres
    have ei : (if true = true then !inV (V.str (S s.x)) (xs.map fun x => V.str (S x)) else inV (V.str (S s.x)) (xs.map fun x => V.str (S x))) = !decide (s.x ∈ xs) := by rw [if_pos rfl, inV_S]
    have fl : ∀ z ∈ (xs.map fun x => V.str (S x)), flatV z = true := fun z hz => by
      obtain ⟨x, _, rfl⟩ := List.mem_map.mp hz
      rfl
    obtain ⟨dx, fs, eo, no⟩ := W.ob
    refine ⟨_, rfl, a, dx, _, rfl, eo, no (by decide +kernel), a, l, n, s, rfl, W, _, rfl, _, rfl, b, _, rfl, .inr hb, rfl, List.all_eq_true.mpr fl, _, rfl, ite2 (fun h => ?_) (fun h => ?_)⟩
    · rw [ei, Bool.not_eq_true', decide_eq_false_iff_not] at h
      rw [if_neg h] at hres
      obtain rfl : Rs.er _ = res := Option.some.inj hres
      exact ⟨_, rfl, a, dx, _, rfl, eo, no (by decide +kernel), a, l, n, s, rfl, W, fun dd hd => kk dd H (Kz.refl _) hd⟩
    · rw [ei, Bool.not_eq_true', decide_eq_false_iff_not, Decidable.not_not] at h
      rw [if_pos h] at hres
      obtain rfl : Rs.ok _ _ = res := Option.some.inj hres
      exact W.adv T.C_Parser.cl T.n_Parser_place rfl (wt_x W.wt (hx _ h) rfl) fun H' k1 W1 => ⟨_, rfl, kk _ H' k1 W1 rfl⟩
end
end K04
set_option Elab.async false
set_option maxRecDepth 100000
set_option maxHeartbeats 4000000
namespace K04
open PySem L2 C8 SX GX LC LG LR SU PM PX
def sp_Parser_integer (_K : PySem.W.Frag) (d : Cd) : Sp := spP d.C_Parser d.C_TextError intM fun _ _ v i => v = .int i
/-- the token just passed -/
theorem PAt_prev {C a l : Addr} {n : Nat} {s : PM.PS} {H H' : Hp} (W : PAt C H a l n s) (k : Kz (one a) H H') (W1 : PAt C H' a l n s.nx) (hk : s.k ≠ .fin) : ∃ (dx : Addr) (p : Int) (m : Nat) (tvs : List V) (b : Addr), H' a = some (.ins C dx (flds l (p + 1).toNat m)) ∧ ((p + 1).toNat : Int) = p + 1 ∧ H' l = some (.lst tvs) ∧ atI tvs p = some (.ref b) ∧ H' b = some (.tup [.str (K1.kStr s.k), .str (S s.x), .int (s.at : Nat)]) := by
  obtain ⟨dx, p, tvs, b, e1, e2, e3, e4, e5⟩ := W.tok
  obtain ⟨dx1, p1, tvs1, toks1, f1, f2, f3, f4, f5⟩ := W1.ex
  have hal : l ≠ a := W.ne.symm
  have h2 := k l _ hal e2
  rw [f2] at h2; cases h2
  have hb := k b _ (fun z => by rw [show b = a from z, e1] at e4; cases e4) e4
  have w1 := W1.wt
  have hw := W.wt
  obtain ⟨r, m⟩ := s
  have hp : p1 = p + 1 := by
    have h3 : (toks1.drop p1).length = r.tail.length := by rw [f5]; rfl
    have h4 : p + r.length = n := e5
    have h5 : p1 < toks1.length := by
      have : toks1.drop p1 ≠ [] := by rw [f5]; exact w1.ne
      rw [Ne, List.drop_eq_nil_iff] at this; omega
    rw [List.length_drop, List.length_tail] at h3
    have : 0 < r.length := List.length_pos_iff.mpr hw.ne
    omega
  refine ⟨dx1, (p : Int), m, tvs, b, ?_, by omega, f2, atI_nat e3, hb⟩
  rw [show ((p : Int) + 1).toNat = p1 by omega]; exact f1
section
variable {P : Program} {w : World} {K : PySem.W.Frag} {mg : Str → Option Value} {base : Heap} {d : Cd}
-- def Parser_integer: level 4, calls [('Parser_fail', 3), ('Parser_kind', 1)], cells [], gens 0, raising True
theorem ok_Parser_integer (T : Txt P w K mg base d) (c_Parser_fail : MetX P w K mg base 3 d.C_Parser "fail" (sp_Parser_fail K d)) (c_Parser_kind : Met P w K mg base 1 d.C_Parser "kind" (sp_Parser_kind K d) []) :
    MetX P w K mg base 4 d.C_Parser "integer" (sp_Parser_integer K d) := by
  refine metX (ps := ["self"]) T.C_Parser.cl T.Parser_integer (fun _ _ _ _ _ _ us hl => match us, hl with | [_], _ => rfl) sc_Parser_integer (fun vs H Q E h => ?_) (fun f c A outer s H vs Q E hr h => ?_)
  · obtain ⟨a, l, n, s, res, rfl, _⟩ := h; rfl
  · obtain ⟨a, l, n, s, res, rfl, W, hres, kk⟩ := h
    refine ⟨_, (pss_cons (ps_if (pt_cmpR op_ne (pe_mt0 c_Parser_kind hr (by decide) (pv 0)) pe_str (nomark _))
      (pss_one (ps_expr (pe_mtX0 c_Parser_fail (takes_of rfl rfl rfl rfl) hr (by decide) (pv 0))))
      pss_nil)
    (pss_cons (ps_fldaug (pv 0) pe_int in_add)
    (pss_one (ps_ret (pe_callTy call_int_str (by rfl) T.b_int (by decide +kernel) (pa_cons (pe_ix (ixt (K := K) rfl) (pe_ix (ixl (K := K) rfl) (pe_fld (pv 0) rfl) (pe_op op_sub (pe_fld (pv 0) rfl) pe_int) (fun _ _ => rfl)) pe_int (fun _ _ => rfl)) pa_nil)))))), ?_⟩
    unfold intM at hres
    obtain ⟨dx, fs, eo, no⟩ := W.ob
    refine ⟨_, rfl, a, dx, _, rfl, eo, no (by decide +kernel), a, l, n, s, rfl, W, rfl, _, rfl, ite2 (fun h => ?_) (fun h => ?_)⟩
    · rw [if_neg (kS_nt (b := .int) h)] at hres
      obtain rfl : Rs.er _ = res := Option.some.inj hres
      exact ⟨_, rfl, a, dx, _, rfl, eo, no (by decide +kernel), a, l, n, s, rfl, W, fun dd hd => kk dd H (Kz.refl _) hd⟩
    · have h := kS_nf (b := .int) h
      rw [if_pos h] at hres
      obtain rfl : Rs.ok _ _ = res := Option.some.inj hres
      have hf : s.k ≠ .fin := by rw [h]; exact nofun
      refine W.adv T.C_Parser.cl T.n_Parser_place rfl hf fun H' k1 W1 => ?_
      obtain ⟨dx1, p, m, tvs, b, e1, ep, e2, e3, e4⟩ := PAt_prev W k1 W1 hf
      have tk := wt_tk W.wt hf
      refine ⟨_, rfl, a, d.C_Parser, dx1, _, _, rfl, e1, T.C_Parser.cl, T.n_Parser_listed, look_listed _ _ _, _, rfl, a, d.C_Parser, dx1, _, _, rfl, e1, T.C_Parser.cl, T.n_Parser_place, look_place _ _ _, _, _, rfl, rfl, l, tvs, _, _, rfl, rfl, SqL.of e2, (by rw [ep, show p + 1 - 1 = p by omega]; exact e3), b, _, 1, _, rfl, rfl, SqT.of e4, at1, _, val s.x, rfl, int_S (tk.dg h) tk.ne (by have := tk.ln; have e : (s.k, s.x, s.at).2.1 = s.x := rfl; rw [e] at this; omega), by rw [S_len]; have := tk.ln; have e : (s.k, s.x, s.at).2.1 = s.x := rfl; rw [e] at this; omega, kk _ H' k1 W1 rfl⟩
end
def sp_Parser_optional_integer (_K : PySem.W.Frag) (d : Cd) : Sp := spP d.C_Parser d.C_TextError ointM fun _ _ v o => v = oI o
section
variable {P : Program} {w : World} {K : PySem.W.Frag} {mg : Str → Option Value} {base : Heap} {d : Cd}
-- def Parser_optional_integer: level 5, calls [('Parser_integer', 4), ('Parser_kind', 1)], cells [], gens 0, raising True
theorem ok_Parser_optional_integer (T : Txt P w K mg base d) (c_Parser_integer : MetX P w K mg base 4 d.C_Parser "integer" (sp_Parser_integer K d)) (c_Parser_kind : Met P w K mg base 1 d.C_Parser "kind" (sp_Parser_kind K d) []) :
    MetX P w K mg base 5 d.C_Parser "optional_integer" (sp_Parser_optional_integer K d) := by
  refine metX (ps := ["self"]) T.C_Parser.cl T.Parser_optional_integer (fun _ _ _ _ _ _ us hl => match us, hl with | [_], _ => rfl) sc_Parser_optional_integer (fun vs H Q E h => ?_) (fun f c A outer s H vs Q E hr h => ?_)
  · obtain ⟨a, l, n, s, res, rfl, _⟩ := h; rfl
  · obtain ⟨a, l, n, s, res, rfl, W, hres, kk⟩ := h
    refine ⟨_, (pss_cons (ps_if (pt_cmpR op_ne (pe_mt0 c_Parser_kind hr (by decide) (pv 0)) pe_str (nomark _))
      (pss_one (ps_ret pe_non))
      pss_nil)
    (pss_one (ps_ret (pe_mtX0 c_Parser_integer (takes_of rfl rfl rfl rfl) hr (by decide) (pv 0))))), ?_⟩
    unfold ointM at hres
    obtain ⟨dx, fs, eo, no⟩ := W.ob
    refine ⟨_, rfl, a, dx, _, rfl, eo, no (by decide +kernel), a, l, n, s, rfl, W, rfl, _, rfl, ite2 (fun h => ?_) (fun h => ?_)⟩
    · rw [if_neg (kS_nt (b := .int) h)] at hres
      obtain rfl : Rs.ok _ _ = res := Option.some.inj hres
      exact kk _ H (Kz.refl _) W rfl
    · have h := kS_nf (b := .int) h
      rw [if_pos h] at hres
      obtain rfl : Rs.ok _ _ = res := Option.some.inj hres
      exact ⟨_, rfl, a, dx, _, rfl, eo, no (by decide +kernel), a, l, n, s, _, rfl, W, if_pos h, fun v H' k1 W1 hv => kk v H' k1 W1 (by rw [hv]; rfl)⟩
end
def sp_Parser_on_name (_K : PySem.W.Frag) (d : Cd) : Sp := spA d.C_Parser fun s => .bl (onName s)
theorem flat_S (xs : List (List Nat)) : (xs.map fun x => V.str (S x)).all flatV = true := List.all_eq_true.mpr fun z hz => by
  obtain ⟨x, _, rfl⟩ := List.mem_map.mp hz
  rfl
section
variable {P : Program} {w : World} {K : PySem.W.Frag} {mg : Str → Option Value} {base : Heap} {d : Cd}
-- def Parser_on_name: level 2, calls [('Parser_kind', 1), ('Parser_text', 1)], cells [], gens 0, raising False
theorem ok_Parser_on_name (T : Txt P w K mg base d) (c_Parser_kind : Met P w K mg base 1 d.C_Parser "kind" (sp_Parser_kind K d) []) (c_Parser_text : Met P w K mg base 1 d.C_Parser "text" (sp_Parser_text K d) []) :
    Met P w K mg base 2 d.C_Parser "on_name" (sp_Parser_on_name K d) [] := by
  refine met (ps := ["self"]) T.C_Parser.cl T.Parser_on_name (fun _ _ _ _ _ _ us hl => match us, hl with | [_], _ => rfl) sc_Parser_on_name (fun vs H Q E h => ?_) (fun f c A outer s H vs Q E hr h => ?_)
  · obtain ⟨a, l, n, s, rfl, _⟩ := h; rfl
  · obtain ⟨a, l, n, s, rfl, W, kk⟩ := h
    refine ⟨_, (pss_one (ps_ret (pe_and (pe_cmpR op_eq (pe_mt0 c_Parser_kind hr (by decide) (pv 0)) pe_str (nomark _)) (pe_one (pe_cmpR (opnin (K := K) rfl) (pe_mt0 c_Parser_text hr (by decide) (pv 0)) (pe_gc rfl T.g_KEYWORDS) rfl))))), ?_⟩
    obtain ⟨dx, fs, eo, no⟩ := W.ob
    refine ⟨_, rfl, a, dx, _, rfl, eo, no (by decide +kernel), a, l, n, s, rfl, W, rfl, _, rfl, ?_⟩
    by_cases h : s.k = .name
    · refine iteT' (by rw [show decide (V.str (K1.kStr s.k) = V.str (Str.ofString "name")) = decide (s.k = .name) from kS_eq s.k .name, decide_eq_true h]) ⟨_, rfl, a, dx, _, rfl, eo, no (by decide +kernel), a, l, n, s, rfl, W, _, _, rfl, .inr (T.t_KEYWORDS _), rfl, flat_S KW, ?_⟩
      have e : (.bl (onName s) : V) = .bl (if true = true then !inV (V.str (S s.x)) (KW.map fun x => V.str (S x)) else inV (V.str (S s.x)) (KW.map fun x => V.str (S x))) := by
        rw [if_pos rfl, inV_S]
        unfold onName
        rw [decide_eq_true h, Bool.true_and]
        by_cases h2 : s.x ∈ KW
        · rw [decide_eq_true h2, decide_eq_false (fun z => z h2)]; rfl
        · rw [decide_eq_false h2, decide_eq_true h2]; rfl
      rw [← e]
      exact kk
    · have e0 : decide (V.str (K1.kStr s.k) = V.str (Str.ofString "name")) = false := by rw [show decide (V.str (K1.kStr s.k) = V.str (Str.ofString "name")) = decide (s.k = .name) from kS_eq s.k .name, decide_eq_false h]
      refine iteF' e0 ?_
      have e : onName s = false := by unfold onName; rw [decide_eq_false h]; rfl
      have kk : Q (V.bl (onName s)) H := kk
      rw [e] at kk
      exact kk
end
def sp_Parser_name (_K : PySem.W.Frag) (d : Cd) : Sp := spP d.C_Parser d.C_TextError nameM fun _ _ v x => v = .str x
theorem on_fin {s : PM.PS} (h : onName s = true) : s.k ≠ .fin := fun z => by
  unfold onName at h
  rw [z] at h; cases h
section
variable {P : Program} {w : World} {K : PySem.W.Frag} {mg : Str → Option Value} {base : Heap} {d : Cd}
-- def Parser_name: level 4, calls [('Parser_fail', 3), ('Parser_on_name', 2)], cells [], gens 0, raising True
theorem ok_Parser_name (T : Txt P w K mg base d) (c_Parser_fail : MetX P w K mg base 3 d.C_Parser "fail" (sp_Parser_fail K d)) (c_Parser_on_name : Met P w K mg base 2 d.C_Parser "on_name" (sp_Parser_on_name K d) []) :
    MetX P w K mg base 4 d.C_Parser "name" (sp_Parser_name K d) := by
  refine metX (ps := ["self"]) T.C_Parser.cl T.Parser_name (fun _ _ _ _ _ _ us hl => match us, hl with | [_], _ => rfl) sc_Parser_name (fun vs H Q E h => ?_) (fun f c A outer s H vs Q E hr h => ?_)
  · obtain ⟨a, l, n, s, res, rfl, _⟩ := h; rfl
  · obtain ⟨a, l, n, s, res, rfl, W, hres, kk⟩ := h
    refine ⟨_, (pss_cons (ps_if (pt_not (pt_val (pe_mt0 c_Parser_on_name hr (by decide) (pv 0))))
      (pss_one (ps_expr (pe_mtX0 c_Parser_fail (takes_of rfl rfl rfl rfl) hr (by decide) (pv 0))))
      pss_nil)
    (pss_cons (ps_fldaug (pv 0) pe_int in_add)
    (pss_one (ps_ret (pe_ix (ixt (K := K) rfl) (pe_ix (ixl (K := K) rfl) (pe_fld (pv 0) rfl) (pe_op op_sub (pe_fld (pv 0) rfl) pe_int) (fun _ _ => rfl)) pe_int (fun _ _ => rfl)))))), ?_⟩
    unfold nameM at hres
    obtain ⟨dx, fs, eo, no⟩ := W.ob
    refine ⟨_, rfl, a, dx, _, rfl, eo, no (by decide +kernel), a, l, n, s, rfl, W, _, rfl, ?_⟩
    by_cases h : onName s = true
    · rw [if_pos h] at hres
      obtain rfl : Rs.ok _ _ = res := Option.some.inj hres
      refine iteF' (by rw [h]; rfl) ?_
      have hf := on_fin h
      refine W.adv T.C_Parser.cl T.n_Parser_place rfl hf fun H' k1 W1 => ?_
      obtain ⟨dx1, p, m, tvs, b, e1, ep, e2, e3, e4⟩ := PAt_prev W k1 W1 hf
      exact ⟨_, rfl, a, d.C_Parser, dx1, _, _, rfl, e1, T.C_Parser.cl, T.n_Parser_listed, look_listed _ _ _, _, rfl, a, d.C_Parser, dx1, _, _, rfl, e1, T.C_Parser.cl, T.n_Parser_place, look_place _ _ _, _, _, rfl, rfl, l, tvs, _, _, rfl, rfl, SqL.of e2, (by rw [ep, show p + 1 - 1 = p by omega]; exact e3), b, _, 1, _, rfl, rfl, SqT.of e4, at1, kk _ H' k1 W1 rfl⟩
    · rw [if_neg h] at hres
      obtain rfl : Rs.er _ = res := Option.some.inj hres
      refine iteT' (by rw [Bool.not_eq_true'] ; simpa using h) ?_
      exact ⟨_, rfl, a, dx, _, rfl, eo, no (by decide +kernel), a, l, n, s, rfl, W, fun dd hd => kk dd H (Kz.refl _) hd⟩
end
end K04
set_option Elab.async false
set_option maxRecDepth 100000
set_option maxHeartbeats 4000000
namespace K04
open PySem L2 C8 SX GX LC LG LR SU PM PX
/-- terms: the reading depth dd -/
def spTm (C CT : Addr) (dd : Nat) : Sp := fun vs H Q E => ∃ nn : Nat, spP C CT (termM nn dd) (fun H H' v t => Nw H H' v t.d) vs H Q E
def spFac (C CT : Addr) (dd : Nat) : Sp := fun vs H Q E => ∃ nn : Nat, spP C CT (factorM (termM nn dd)) (fun H H' v t => Nw H H' v t.d) vs H Q E
def spPro (C CT : Addr) (dd : Nat) : Sp := fun vs H Q E => ∃ nn : Nat, spP C CT (productM nn (factorM (termM nn dd))) (fun H H' v t => Nw H H' v t.d) vs H Q E
theorem spP_len {α : Type} {C CT : Addr} {f : Pr α} {rel : Hp → Hp → V → α → Prop} {vs : List V} {H : Hp} {Q : VK} {E : XK} (h : spP C CT f rel vs H Q E) : vs.length = 1 := by
  obtain ⟨a, l, n, s, res, rfl, _⟩ := h; rfl
def sp_Parser_term (_K : PySem.W.Frag) (d : Cd) : Sp := spTm d.C_Parser d.C_TextError 12
section
variable {P : Program} {w : World} {K : PySem.W.Frag} {mg : Str → Option Value} {base : Heap} {d : Cd}
theorem ok_factor (T : Txt P w K mg base d) {dd : Nat} (c_Parser_integer : MetX P w K mg base 4 d.C_Parser "integer" (sp_Parser_integer K d)) (c_Parser_kind : Met P w K mg base 1 d.C_Parser "kind" (sp_Parser_kind K d) []) (c_Parser_name : MetX P w K mg base 4 d.C_Parser "name" (sp_Parser_name K d)) (c_Parser_passed : Met P w K mg base 2 d.C_Parser "passed" (sp_Parser_passed K d) []) (c_Parser_skip : MetX P w K mg base 4 d.C_Parser "skip" (sp_Parser_skip K d)) (c_Parser_term : MetX P w K mg base (5 + 3 * dd) d.C_Parser "term" (spTm d.C_Parser d.C_TextError dd)) :
    MetX P w K mg base (5 + 3 * dd + 1) d.C_Parser "factor" (spFac d.C_Parser d.C_TextError dd) := by
  refine metX (ps := ["self"]) T.C_Parser.cl T.Parser_factor (fun _ _ _ _ _ _ us hl => match us, hl with | [_], _ => rfl) sc_Parser_factor (fun vs H Q E h => ?_) (fun f c A outer s H vs Q E hr h => ?_)
  · obtain ⟨nn, h⟩ := h; exact spP_len h
  · obtain ⟨nn, a, l, n, s, res, rfl, W, hres, kk⟩ := h
    refine ⟨_, (pss_cons (ps_if (pt_cmpR op_eq (pe_mt0 c_Parser_kind hr (by omega) (pv 0)) pe_str (nomark _))
      (pss_one (ps_ret (pe_tup (pa_cons pe_str (pa_cons (pe_mtX0 c_Parser_integer (takes_of rfl rfl rfl rfl) hr (by omega) (pv 0)) pa_nil)))))
      pss_nil)
    (pss_cons (ps_if (pt_cmpR op_eq (pe_mt0 c_Parser_kind hr (by omega) (pv 0)) pe_str (nomark _))
      (pss_cons (ps_fldaug (pv 0) pe_int in_add)
      (pss_one (ps_ret (pe_tup (pa_cons pe_str (pa_cons (pe_ix (ixt (K := K) rfl) (pe_ix (ixl (K := K) rfl) (pe_fld (pv 0) rfl) (pe_op op_sub (pe_fld (pv 0) rfl) pe_int) (fun _ _ => rfl)) pe_int (fun _ _ => rfl)) pa_nil))))))
      pss_nil)
    (pss_cons (ps_if (pt_val (pe_mt c_Parser_passed hr (by omega) (pv 0) (pa_cons pe_str pa_nil)))
      (pss_cons (ps_set (i := 1) sc_Parser_factor.nd rfl (Or.inl rfl) (pe_mtX0 c_Parser_term (takes_of rfl rfl rfl rfl) hr (by omega) (pv 0)))
      (pss_cons (ps_expr (pe_mtX c_Parser_skip (takes_of rfl rfl rfl rfl) hr (by omega) (pv 0) (pa_cons pe_str pa_nil)))
      (pss_one (ps_ret (pv 1)))))
      pss_nil)
    (pss_one (ps_ret (pe_tup (pa_cons pe_str (pa_cons (pe_mtX0 c_Parser_name (takes_of rfl rfl rfl rfl) hr (by omega) (pv 0)) pa_nil)))))))), ?_⟩
    unfold factorM at hres
    obtain ⟨dx, fs, eo, no⟩ := W.ob
    refine ⟨_, rfl, a, dx, _, rfl, eo, no (by decide +kernel), a, l, n, s, rfl, W, rfl, _, rfl, ite2 (fun h1 => ?_) (fun h1 => ?_)⟩
    · have h1 := kS_t (b := .int) h1
      rw [if_pos h1] at hres
      obtain rfl : Rs.ok _ _ = res := Option.some.inj hres
      refine ⟨_, rfl, a, dx, _, rfl, eo, no (by decide +kernel), a, l, n, s, _, rfl, W, if_pos h1, fun v H1 k1 W1 hv => ⟨two, fun p hp => ?_⟩⟩
      obtain rfl : v = .int _ := hv
      exact kk _ _ (kx_new k1 hp) (W1.same (same_new hp)) (Nw.tup k1 hp fun _ _ => .cons (.str _) (.cons (.int _) .nil))
    have h1 := kS_f (b := .int) h1
    rw [if_neg h1] at hres
    refine ⟨_, rfl, a, dx, _, rfl, eo, no (by decide +kernel), a, l, n, s, rfl, W, rfl, _, rfl, ite2 (fun h2 => ?_) (fun h2 => ?_)⟩
    · have h2 := kS_t (b := .var) h2
      rw [if_pos h2] at hres
      obtain rfl : Rs.ok _ _ = res := Option.some.inj hres
      have hf : s.k ≠ .fin := by rw [h2]; exact nofun
      refine W.adv T.C_Parser.cl T.n_Parser_place rfl hf fun H' k1 W1 => ?_
      obtain ⟨dx1, p, m, tvs, b, e1, ep, e2, e3, e4⟩ := PAt_prev W k1 W1 hf
      refine ⟨_, rfl, a, d.C_Parser, dx1, _, _, rfl, e1, T.C_Parser.cl, T.n_Parser_listed, look_listed _ _ _, _, rfl, a, d.C_Parser, dx1, _, _, rfl, e1, T.C_Parser.cl, T.n_Parser_place, look_place _ _ _, _, _, rfl, rfl, l, tvs, _, _, rfl, rfl, SqL.of e2, (by rw [ep, show p + 1 - 1 = p by omega]; exact e3), b, _, 1, _, rfl, rfl, SqT.of e4, at1, two, fun q hq => ?_⟩
      exact kk _ _ (kx_new k1 hq) (W1.same (same_new hq)) (Nw.tup k1 hq fun _ _ => .cons (.str _) (.cons (.str _) .nil))
    have h2 := kS_f (b := .var) h2
    rw [if_neg h2] at hres
    refine ⟨_, rfl, a, dx, _, rfl, eo, no (by decide +kernel), a, l, n, s, gL, ar2 sL, by decide, W, fun h3 => ⟨_, rfl, iteF' rfl ?_⟩, fun h3 H1 k1 W1 => ⟨_, rfl, iteT' rfl ?_⟩⟩
    · rw [if_neg h3] at hres
      rcases bind_some hres with ⟨k, e, rfl⟩ | ⟨x, s1, e, hres⟩
      · exact ⟨_, rfl, a, dx, _, rfl, eo, no (by decide +kernel), a, l, n, s, _, rfl, W, e, kk⟩
      · obtain rfl : Rs.ok _ _ = res := Option.some.inj hres
        refine ⟨_, rfl, a, dx, _, rfl, eo, no (by decide +kernel), a, l, n, s, _, rfl, W, e, fun v H1 k1 W1 hv => ⟨two, fun p hp => ?_⟩⟩
        obtain rfl : v = .str _ := hv
        exact kk _ _ (kx_new k1 hp) (W1.same (same_new hp)) (Nw.tup k1 hp fun _ _ => .cons (.str _) (.cons (.str _) .nil))
    · rw [if_pos h3] at hres
      obtain ⟨dx1, fs1, eo1, no1⟩ := W1.ob
      rcases bind_some hres with ⟨k, e, rfl⟩ | ⟨x, s2, e, hres⟩
      · exact ⟨_, rfl, a, dx1, _, rfl, eo1, no1 (by decide +kernel), nn, a, l, n, _, _, rfl, W1, e, fun dd H2 k2 hd => kk dd H2 (k1.trans k2) hd⟩
      · refine ⟨_, rfl, a, dx1, _, rfl, eo1, no1 (by decide +kernel), nn, a, l, n, _, _, rfl, W1, e, fun v H2 k2 W2 hv => ?_⟩
        obtain ⟨dx2, fs2, eo2, no2⟩ := W2.ob
        rcases bind_some hres with ⟨k, e2, rfl⟩ | ⟨_, s3, e2, hres⟩
        · exact ⟨_, rfl, a, dx2, _, rfl, eo2, no2 (by decide +kernel), a, l, n, _, gR, _, ar2 sR, by decide, W2, e2, fun dd H3 k3 hd => kk dd H3 ((k1.trans k2).trans k3) hd⟩
        · obtain rfl : Rs.ok _ _ = res := Option.some.inj hres
          exact ⟨_, rfl, a, dx2, _, rfl, eo2, no2 (by decide +kernel), a, l, n, _, gR, _, ar2 sR, by decide, W2, e2, fun _ H3 k3 W3 _ => ⟨_, rfl, kk v H3 ((k1.trans k2).trans k3) W3 ((hv.early k1).kx k3 W.alive.1)⟩⟩
theorem ok_product (T : Txt P w K mg base d) {dd : Nat} (c_Parser_passed : Met P w K mg base 2 d.C_Parser "passed" (sp_Parser_passed K d) []) (c_Parser_factor : MetX P w K mg base (5 + 3 * dd + 1) d.C_Parser "factor" (spFac d.C_Parser d.C_TextError dd)) :
    MetX P w K mg base (5 + 3 * dd + 1 + 1) d.C_Parser "product" (spPro d.C_Parser d.C_TextError dd) := by
  refine metX (ps := ["self"]) T.C_Parser.cl T.Parser_product (fun _ _ _ _ _ _ us hl => match us, hl with | [_], _ => rfl) sc_Parser_product (fun vs H Q E h => ?_) (fun f c A outer s H vs Q E hr h => ?_)
  · obtain ⟨nn, h⟩ := h; exact spP_len h
  · obtain ⟨nn, a, l, n, s, res, rfl, W, hres, kk⟩ := h
    refine ⟨_, (pss_cons (ps_set (i := 1) sc_Parser_product.nd rfl (Or.inl rfl) (pe_mtX0 c_Parser_factor (takes_of rfl rfl rfl rfl) hr (by omega) (pv 0)))
    (pss_cons (ps_while (passes_of rfl) (pt_val (pe_mt c_Parser_passed hr (by omega) (pv 0) (pa_cons pe_str pa_nil)))
      (pss_one (ps_set (i := 1) sc_Parser_product.nd rfl (Or.inl rfl) (pe_tup (pa_cons pe_str (pa_cons pe_str (pa_cons (pv 1) (pa_cons (pe_mtX0 c_Parser_factor (takes_of rfl rfl rfl rfl) hr (by omega) (pv 0)) pa_nil))))))))
    (pss_one (ps_ret (pv 1))))), ?_⟩
    unfold productM at hres
    obtain ⟨dx, fs, eo, no⟩ := W.ob
    rcases bind_some hres with ⟨k, e, rfl⟩ | ⟨x, s1, e, hres⟩
    · exact ⟨_, rfl, a, dx, _, rfl, eo, no (by decide +kernel), nn, a, l, n, s, _, rfl, W, e, kk⟩
    refine ⟨_, rfl, a, dx, _, rfl, eo, no (by decide +kernel), nn, a, l, n, s, _, rfl, W, e, fun v H1 k1 W1 hv => ?_⟩
    refine ⟨fun m σ H2 => ∃ (lv : V) (t : Tm) (s2 : PM.PS), σ = [some (.ref a), some lv] ∧ Kz (one a) H H2 ∧ PAt d.C_Parser H2 a l n s2 ∧ Nw H H2 lv t.d ∧ mulM (factorM (termM nn dd)) m t s2 = some res, ⟨nn, v, x, s1, rfl, k1, W1, hv, hres⟩, ?_⟩
    rintro m σ H2 ⟨lv, t, s2, rfl, k2, W2, hlv, hm⟩
    cases m with
    | zero => cases hm
    | succ m =>
      unfold mulM at hm
      obtain ⟨dx2, fs2, eo2, no2⟩ := W2.ob
      refine ⟨_, rfl, a, dx2, _, rfl, eo2, no2 (by decide +kernel), a, l, n, _, gMul, ar2 sMul, by decide, W2, fun h3 => ⟨_, rfl, iteF' rfl ?_⟩, fun h3 H3 k3 W3 => ⟨_, rfl, iteT' rfl ?_⟩⟩
      · try dsimp only at hm
        rw [if_neg h3] at hm
        obtain rfl : Rs.ok _ _ = res := Option.some.inj hm
        exact ⟨_, rfl, kk lv H2 k2 W2 hlv⟩
      · try dsimp only at hm
        rw [if_pos h3] at hm
        obtain ⟨dx3, fs3, eo3, no3⟩ := W3.ob
        refine ⟨_, fun _ _ z => z, ?_⟩
        rcases bind_some hm with ⟨k, e3, rfl⟩ | ⟨y, s4, e3, hm⟩
        · exact ⟨_, rfl, _, rfl, a, dx3, _, rfl, eo3, no3 (by decide +kernel), nn, a, l, n, _, _, rfl, W3, e3, fun dd H4 k4 hd => kk dd H4 ((k2.trans k3).trans k4) hd⟩
        · refine ⟨_, rfl, _, rfl, a, dx3, _, rfl, eo3, no3 (by decide +kernel), nn, a, l, n, _, _, rfl, W3, e3, fun u H4 k4 W4 hu => ⟨four, fun p hp => ?_⟩⟩
          have hu' : Nw H H4 u y.d := hu.early (k2.trans k3)
          have hlv' : Nw H H4 lv t.d := (hlv.kx k3 W.alive.1).kx k4 W.alive.1
          refine ⟨m, Nat.lt_succ_self m, _, _, s4, rfl, kx_new ((k2.trans k3).trans k4) hp, W4.same (same_new hp), ?_, hm⟩
          rw [← sMul]
          exact Nw.tup ((k2.trans k3).trans k4) hp fun M hM => .cons (.str _) (.cons (.str _) (.cons (hlv' M hM) (.cons (hu' M hM) .nil)))
theorem ok_term (T : Txt P w K mg base d) {dd : Nat} (c_Parser_one_of : MetX P w K mg base 4 d.C_Parser "one_of" (sp_Parser_one_of K d)) (c_Parser_text : Met P w K mg base 1 d.C_Parser "text" (sp_Parser_text K d) []) (c_Parser_product : MetX P w K mg base (5 + 3 * dd + 1 + 1) d.C_Parser "product" (spPro d.C_Parser d.C_TextError dd)) :
    MetX P w K mg base (5 + 3 * dd + 1 + 1 + 1) d.C_Parser "term" (spTm d.C_Parser d.C_TextError (dd + 1)) := by
  refine metX (ps := ["self"]) T.C_Parser.cl T.Parser_term (fun _ _ _ _ _ _ us hl => match us, hl with | [_], _ => rfl) sc_Parser_term (fun vs H Q E h => ?_) (fun f c A outer s H vs Q E hr h => ?_)
  · obtain ⟨nn, h⟩ := h; exact spP_len h
  · obtain ⟨nn, a, l, n, s, res, rfl, W, hres, kk⟩ := h
    refine ⟨_, (pss_cons (ps_set (i := 1) sc_Parser_term.nd rfl (Or.inl rfl) (pe_mtX0 c_Parser_product (takes_of rfl rfl rfl rfl) hr (by omega) (pv 0)))
    (pss_cons (ps_while (passes_of rfl) (pt_cmpR (opin (K := K) rfl) (pe_mt0 c_Parser_text hr (by omega) (pv 0)) (pe_tup (pa_cons pe_str (pa_cons pe_str pa_nil))) rfl)
      (pss_cons (ps_set (i := 2) sc_Parser_term.nd rfl (Or.inl rfl) (pe_mtX c_Parser_one_of (takes_of rfl rfl rfl rfl) hr (by omega) (pv 0) (pa_cons (pe_tup (pa_cons pe_str (pa_cons pe_str pa_nil))) pa_nil)))
      (pss_one (ps_set (i := 1) sc_Parser_term.nd rfl (Or.inl rfl) (pe_tup (pa_cons pe_str (pa_cons (pv 2) (pa_cons (pv 1) (pa_cons (pe_mtX0 c_Parser_product (takes_of rfl rfl rfl rfl) hr (by omega) (pv 0)) pa_nil)))))))))
    (pss_one (ps_ret (pv 1))))), ?_⟩
    unfold termM at hres
    try dsimp only at hres
    obtain ⟨dx, fs, eo, no⟩ := W.ob
    rcases bind_some hres with ⟨k, e, rfl⟩ | ⟨x, s1, e, hres⟩
    · exact ⟨_, rfl, a, dx, _, rfl, eo, no (by decide +kernel), nn, a, l, n, s, _, rfl, W, e, kk⟩
    refine ⟨_, rfl, a, dx, _, rfl, eo, no (by decide +kernel), nn, a, l, n, s, _, rfl, W, e, fun v H1 k1 W1 hv => ?_⟩
    refine ⟨fun m σ H2 => ∃ (lv : V) (t : Tm) (s2 : PM.PS) (v2 : Option V), σ = [some (.ref a), some lv, v2] ∧ Kz (one a) H H2 ∧ PAt d.C_Parser H2 a l n s2 ∧ Nw H H2 lv t.d ∧ sumM (productM nn (factorM (termM nn dd))) m t s2 = some res, ⟨nn, v, x, s1, none, rfl, k1, W1, hv, hres⟩, ?_⟩
    rintro m σ H2 ⟨lv, t, s2, v2, rfl, k2, W2, hlv, hm⟩
    cases m with
    | zero => cases hm
    | succ m =>
      unfold sumM at hm
      try dsimp only at hm
      obtain ⟨dx2, fs2, eo2, no2⟩ := W2.ob
      refine ⟨_, rfl, a, dx2, _, rfl, eo2, no2 (by decide +kernel), a, l, n, _, rfl, W2, two, fun q hq => ?_⟩
      have ex : [V.str (Str.ofString "+"), V.str (Str.ofString "-")] = [gAdd, gSub].map fun x => V.str (S x) := by rw [sAdd, sSub]; rfl
      have sm : ([gAdd, gSub].map fun x => V.str (S x)) = [V.str (Str.ofString "+"), V.str (Str.ofString "-")] := ex.symm
      rw [ex]
      have kq := kx_new (o := .tup ([gAdd, gSub].map fun x => V.str (S x))) k2 hq
      have Wq := W2.same (same_new (o := .tup ([gAdd, gSub].map fun x => V.str (S x))) hq)
      have hlq := hlv.same (same_new (o := .tup ([gAdd, gSub].map fun x => V.str (S x))) hq)
      have eq : upd H2 q (.tup ([gAdd, gSub].map fun x => V.str (S x))) q = some (.tup ([gAdd, gSub].map fun x => V.str (S x))) := upd_same
      generalize upd H2 q (.tup ([gAdd, gSub].map fun x => V.str (S x))) = Hq at kq Wq hlq eq ⊢
      refine ⟨q, _, rfl, .inr (SqT.of eq), rfl, flat_S _, _, rfl, ?_⟩
      rw [if_neg Bool.false_ne_true, inV_S]
      refine ite2 (fun h3 => ?_) (fun h3 => ?_)
      · rw [decide_eq_true_eq] at h3
        rw [if_pos (by simpa using h3)] at hm
        obtain ⟨dx3, fs3, eo3, no3⟩ := Wq.ob
        refine ⟨_, fun _ _ z => z, _, rfl, a, dx3, _, rfl, eo3, no3 (by decide +kernel), two, fun q2 hq2 => ?_⟩
        rw [ex]
        have kq2 := kx_new (o := .tup ([gAdd, gSub].map fun x => V.str (S x))) kq hq2
        have Wq2 := Wq.same (same_new (o := .tup ([gAdd, gSub].map fun x => V.str (S x))) hq2)
        have hlq2 := hlq.same (same_new (o := .tup ([gAdd, gSub].map fun x => V.str (S x))) hq2)
        have eq2 : upd Hq q2 (.tup ([gAdd, gSub].map fun x => V.str (S x))) q2 = some (.tup ([gAdd, gSub].map fun x => V.str (S x))) := upd_same
        generalize upd Hq q2 (.tup ([gAdd, gSub].map fun x => V.str (S x))) = Hr at kq2 Wq2 hlq2 eq2 ⊢
        refine ⟨a, l, q2, n, s2, [gAdd, gSub], _, rfl, by decide, SqT.of eq2, Wq2, if_pos h3, fun v3 H3 k3 W3 hv3 => ?_⟩
        obtain rfl : v3 = .str _ := hv3
        obtain ⟨dx4, fs4, eo4, no4⟩ := W3.ob
        rcases bind_some hm with ⟨k, e3, rfl⟩ | ⟨y, s4, e3, hm⟩
        · exact ⟨_, rfl, _, rfl, _, rfl, a, dx4, _, rfl, eo4, no4 (by decide +kernel), nn, a, l, n, _, _, rfl, W3, e3, fun dd H4 k4 hd => kk dd H4 ((kq2.trans k3).trans k4) hd⟩
        · refine ⟨_, rfl, _, rfl, _, rfl, a, dx4, _, rfl, eo4, no4 (by decide +kernel), nn, a, l, n, _, _, rfl, W3, e3, fun u H4 k4 W4 hu => ⟨four, fun p hp => ?_⟩⟩
          have hu' : Nw H H4 u y.d := hu.early (kq2.trans k3)
          have hlv' : Nw H H4 lv t.d := (hlq2.kx k3 W.alive.1).kx k4 W.alive.1
          refine ⟨m, Nat.lt_succ_self m, _, _, s4, _, rfl, kx_new ((kq2.trans k3).trans k4) hp, W4.same (same_new hp), ?_, hm⟩
          exact Nw.tup ((kq2.trans k3).trans k4) hp fun M hM => .cons (.str _) (.cons (.str _) (.cons (hlv' M hM) (.cons (hu' M hM) .nil)))
      · rw [decide_eq_true_eq] at h3
        rw [if_neg (by simpa using h3)] at hm
        obtain rfl : Rs.ok _ _ = res := Option.some.inj hm
        exact ⟨_, rfl, kk lv Hq kq Wq hlq⟩
theorem tm_all (T : Txt P w K mg base d) (c_Parser_integer : MetX P w K mg base 4 d.C_Parser "integer" (sp_Parser_integer K d)) (c_Parser_kind : Met P w K mg base 1 d.C_Parser "kind" (sp_Parser_kind K d) []) (c_Parser_name : MetX P w K mg base 4 d.C_Parser "name" (sp_Parser_name K d)) (c_Parser_passed : Met P w K mg base 2 d.C_Parser "passed" (sp_Parser_passed K d) []) (c_Parser_skip : MetX P w K mg base 4 d.C_Parser "skip" (sp_Parser_skip K d)) (c_Parser_one_of : MetX P w K mg base 4 d.C_Parser "one_of" (sp_Parser_one_of K d)) (c_Parser_text : Met P w K mg base 1 d.C_Parser "text" (sp_Parser_text K d) []) :
    ∀ dd : Nat, MetX P w K mg base (5 + 3 * dd) d.C_Parser "term" (spTm d.C_Parser d.C_TextError dd)
  | 0 => by
    refine metX (k := 4) (ps := ["self"]) T.C_Parser.cl T.Parser_term (fun _ _ _ _ _ _ us hl => match us, hl with | [_], _ => rfl) sc_Parser_term (fun vs H Q E h => ?_) (fun f c A outer s H vs Q E hr h => ?_)
    · obtain ⟨nn, h⟩ := h; exact spP_len h
    · obtain ⟨nn, a, l, n, s, res, rfl, W, hres, kk⟩ := h
      cases hres
  | dd + 1 => ok_term T c_Parser_one_of c_Parser_text (ok_product T c_Parser_passed (ok_factor T c_Parser_integer c_Parser_kind c_Parser_name c_Parser_passed c_Parser_skip (tm_all T c_Parser_integer c_Parser_kind c_Parser_name c_Parser_passed c_Parser_skip c_Parser_one_of c_Parser_text dd)))
end
end K04
set_option Elab.async false
set_option maxRecDepth 100000
set_option maxHeartbeats 4000000
namespace K04
open PySem L2 C8 SX GX LC LG LR SU PM PX
def spAt (C CT : Addr) (dd : Nat) : Sp := fun vs H Q E => ∃ nn : Nat, spP C CT (atomM nn (termM nn dd)) (fun H H' v t => Nw H H' v t.d) vs H Q E
def sp_Parser_atom (_K : PySem.W.Frag) (d : Cd) : Sp := spAt d.C_Parser d.C_TextError 12
theorem shr_t (nn : Nat) : Shr (termM nn 12) := term_sh nn 12
theorem maxI (m q : Nat) : (if (q : Int) > (m : Int) then (q : Int) else (m : Int)) = ((max m q : Nat) : Int) := by
  by_cases h : (q : Int) > m
  · rw [if_pos h, Nat.max_eq_right (by omega)]
  · rw [if_neg h, Nat.max_eq_left (by omega)]
section
variable {P : Program} {w : World} {K : PySem.W.Frag} {mg : Str → Option Value} {base : Heap} {d : Cd}
-- def Parser_atom: level 42, calls [('Parser_name', 4), ('Parser_passed', 2), ('Parser_skip', 4), ('Parser_term', 41)], cells [], gens 0, raising True
theorem ok_Parser_atom (T : Txt P w K mg base d) (c_Parser_name : MetX P w K mg base 4 d.C_Parser "name" (sp_Parser_name K d)) (c_Parser_passed : Met P w K mg base 2 d.C_Parser "passed" (sp_Parser_passed K d) []) (c_Parser_skip : MetX P w K mg base 4 d.C_Parser "skip" (sp_Parser_skip K d)) (c_Parser_term : MetX P w K mg base 41 d.C_Parser "term" (sp_Parser_term K d)) :
    MetX P w K mg base 42 d.C_Parser "atom" (sp_Parser_atom K d) := by
  refine metX (ps := ["self"]) T.C_Parser.cl T.Parser_atom (fun _ _ _ _ _ _ us hl => match us, hl with | [_], _ => rfl) sc_Parser_atom (fun vs H Q E h => ?_) (fun f c A outer s H vs Q E hr h => ?_)
  · obtain ⟨nn, h⟩ := h; exact spP_len h
  · obtain ⟨nn, a, l, n, s, res, rfl, W, hres, kk⟩ := h
    refine ⟨_, (pss_cons (ps_set (i := 1) sc_Parser_atom.nd rfl (Or.inl rfl) (pe_mtX0 c_Parser_name (takes_of rfl rfl rfl rfl) hr (by decide) (pv 0)))
    (pss_cons (ps_set (i := 2) sc_Parser_atom.nd rfl (Or.inl rfl) (pe_lst pa_nil))
    (pss_cut (ps_if (pt_val (pe_mt c_Parser_passed hr (by decide) (pv 0) (pa_cons pe_str pa_nil)))
      (pss_cons (ps_expr (pe_bm PySem.F.plainAttrs_list PySem.F.slot_list_append PySem.F.type_list_append mt_append (pv 2) (pa_cons (pe_mtX0 c_Parser_term (takes_of rfl rfl rfl rfl) hr (by decide) (pv 0)) pa_nil)))
      (pss_cons (ps_while (passes_of rfl) (pt_val (pe_mt c_Parser_passed hr (by decide) (pv 0) (pa_cons pe_str pa_nil)))
        (pss_one (ps_expr (pe_bm PySem.F.plainAttrs_list PySem.F.slot_list_append PySem.F.type_list_append mt_append (pv 2) (pa_cons (pe_mtX0 c_Parser_term (takes_of rfl rfl rfl rfl) hr (by decide) (pv 0)) pa_nil)))))
      (pss_one (ps_expr (pe_mtX c_Parser_skip (takes_of rfl rfl rfl rfl) hr (by decide) (pv 0) (pa_cons pe_str pa_nil))))))
      pss_nil)
    (pss_cons (ps_fld (pv 0) (pe_callB (call_max2 rfl) (by rfl) T.b_max (by decide +kernel) (pa_cons (pe_fld (pv 0) rfl) (pa_cons (pe_callB (clen (K := K) rfl) (by rfl) T.b_len PySem.boot_len (pa_cons (pv 2) pa_nil)) pa_nil))) rfl)
    (pss_one (ps_ret (pe_tup (pa_cons pe_str (pa_cons (pv 1) (pa_cons (pv 2) pa_nil)))))))))), ?_⟩
    unfold atomM at hres
    obtain ⟨dx, fs, eo, no⟩ := W.ob
    rcases bind_some hres with ⟨k, e, rfl⟩ | ⟨x, s1, e, hres⟩
    · exact ⟨_, rfl, a, dx, _, rfl, eo, no (by decide +kernel), a, l, n, s, _, rfl, W, e, kk⟩
    refine ⟨_, rfl, a, dx, _, rfl, eo, no (by decide +kernel), a, l, n, s, _, rfl, W, e, fun v H1 k1 W1 hv => ?_⟩
    obtain rfl : v = .str _ := hv
    refine ⟨Nat.zero_le _, fun D hD => ?_⟩
    have hit : ∀ (σ : L2.St), σ[0]? = some (some (.ref a)) → ItemOk d.C_Parser d.C_TextError a l n E σ (termM nn 12) Tm.d (tMeth d.C_Parser "term" (sp_Parser_term K d) [] E (tVar 0) tNil) := fun σ h0 H2 s2 r2 Qk W2 e2 o2 => by
      obtain ⟨dx2, fs2, eo2, no2⟩ := W2.ob
      exact ⟨_, h0, a, dx2, _, rfl, eo2, no2 (by decide +kernel), nn, a, l, n, s2, r2, rfl, W2, e2, o2⟩
    have kD := kx_new (o := .lst []) k1 hD
    have WD := W1.same (same_new (o := .lst []) hD)
    have mkD : Mk1 Tm.d H (upd H1 D (.lst [])) D [] := Mk1.nil k1 hD
    generalize upd H1 D (.lst []) = HD at kD WD mkD ⊢
    refine ⟨fun σ H5 => ∃ (ts : List Tm) (s5 : PM.PS), σ = [some (.ref a), some (.str x), some (.ref D)] ∧ Kz (one a) H H5 ∧ PAt d.C_Parser H5 a l n s5 ∧ Mk1 Tm.d H H5 D ts ∧ ts.length ≤ 4001 ∧ res = .ok ⟨x, ts⟩ ⟨s5.r, max s5.m ts.length⟩, ?_, ?_⟩
    · obtain ⟨dx1, fs1, eo1, no1⟩ := WD.ob
      rcases bind_some hres with ⟨k, e1, rfl⟩ | ⟨ts, s5, e1, hres⟩
      · unfold termsM at e1
        refine ⟨_, rfl, a, dx1, _, rfl, eo1, no1 (by decide +kernel), a, l, n, s1, gL, ar2 sL, by decide, WD, fun h3 => ⟨_, rfl, iteF' rfl ?_⟩, fun h3 H3 k3 W3 => ⟨_, rfl, iteT' rfl ?_⟩⟩
        · rw [if_neg h3] at e1; cases e1
        rw [if_pos h3] at e1
        rcases bind_some e1 with ⟨k', e2, er⟩ | ⟨t, s2, e2, e1⟩
        · cases er
          exact rd_one (hit _ rfl) rfl (kD.trans k3) W.alive.2 W.alive.1 W3 (mkD.kx k3 W.alive.1) (Nat.zero_le _) e2 (fun k dd H4 e4 k4 hd => by cases e4; exact kk dd H4 k4 hd) (fun x s2 H4 z => nomatch z)
        refine rd_one (hit _ rfl) rfl (kD.trans k3) W.alive.2 W.alive.1 W3 (mkD.kx k3 W.alive.1) (Nat.zero_le _) e2 (fun k dd H4 e4 => nomatch e4) (fun t' s2' H4 z k4 W4 mk4 => ?_)
        cases z
        have ln : ([] ++ [t]).length + s2.r.length ≤ 4001 := by
          have h1 := shr_t nn _ _ _ e2
          obtain ⟨_, _, _, _, _, _, _, _, e5⟩ := W1.tok
          have h2 : s1.nx.r.length + 1 = s1.r.length := by have := List.length_pos_iff.mpr W1.wt.ne; show s1.r.tail.length + 1 = _; rw [List.length_tail]; omega
          have := W.le
          simp only [List.nil_append, List.length_singleton]; omega
        rcases bind_some e1 with ⟨k', e3, er⟩ | ⟨ts, s6, e3, e1⟩
        · cases er
          exact rd_many sComma (by decide) (shr_t nn) (hit _ rfl) rfl rfl k4 W.alive.2 W.alive.1 W4 mk4 ln e3 (by decide +kernel) (fun k dd H5 e5 k5 hd => by cases e5; exact kk dd H5 k5 hd) (fun xs s7 H5 z => nomatch z)
        refine rd_many sComma (by decide) (shr_t nn) (hit _ rfl) rfl rfl k4 W.alive.2 W.alive.1 W4 mk4 ln e3 (by decide +kernel) (fun k dd H5 z => nomatch z) (fun xs s7 H5 z k5 W5 mk5 l5 => ?_)
        cases z
        obtain ⟨dx5, fs5, eo5, no5⟩ := W5.ob
        rcases bind_some e1 with ⟨k', e5, er⟩ | ⟨u, s8, e5, e1⟩
        · cases er
          exact ⟨_, rfl, a, dx5, _, rfl, eo5, no5 (by decide +kernel), a, l, n, _, gR, _, ar2 sR, by decide, W5, e5, fun dd H6 k6 hd => kk dd H6 (k5.trans k6) hd⟩
        · cases e1
      · unfold termsM at e1
        refine ⟨_, rfl, a, dx1, _, rfl, eo1, no1 (by decide +kernel), a, l, n, s1, gL, ar2 sL, by decide, WD, fun h3 => ⟨_, rfl, iteF' rfl ?_⟩, fun h3 H3 k3 W3 => ⟨_, rfl, iteT' rfl ?_⟩⟩
        · rw [if_neg h3] at e1
          obtain ⟨rfl, rfl⟩ := ok_inj e1
          exact ⟨[], s1, rfl, kD, WD, mkD, Nat.zero_le _, (Option.some.inj hres).symm⟩
        rw [if_pos h3] at e1
        obtain ⟨t, s2, e2, e1⟩ := bind_okS e1
        refine rd_one (hit _ rfl) rfl (kD.trans k3) W.alive.2 W.alive.1 W3 (mkD.kx k3 W.alive.1) (Nat.zero_le _) e2 (fun k dd H4 e4 => nomatch e4) (fun t' s2' H4 z k4 W4 mk4 => ?_)
        cases z
        have ln : ([] ++ [t]).length + s2.r.length ≤ 4001 := by
          have h1 := shr_t nn _ _ _ e2
          obtain ⟨_, _, _, _, _, _, _, _, e5⟩ := W1.tok
          have h2 : s1.nx.r.length + 1 = s1.r.length := by have := List.length_pos_iff.mpr W1.wt.ne; show s1.r.tail.length + 1 = _; rw [List.length_tail]; omega
          have := W.le
          simp only [List.nil_append, List.length_singleton]; omega
        obtain ⟨ts', s6, e3, e1⟩ := bind_okS e1
        refine rd_many sComma (by decide) (shr_t nn) (hit _ rfl) rfl rfl k4 W.alive.2 W.alive.1 W4 mk4 ln e3 (by decide +kernel) (fun k dd H5 z => nomatch z) (fun xs s7 H5 z k5 W5 mk5 l5 => ?_)
        cases z
        obtain ⟨dx5, fs5, eo5, no5⟩ := W5.ob
        obtain ⟨u, s8, e5, e1⟩ := bind_okS e1
        obtain ⟨rfl, rfl⟩ := ok_inj e1
        exact ⟨_, rfl, a, dx5, _, rfl, eo5, no5 (by decide +kernel), a, l, n, _, gR, _, ar2 sR, by decide, W5, e5, fun _ H6 k6 W6 _ => ⟨_, _, rfl, k5.trans k6, W6, mk5.kx k6 W.alive.1, l5, (Option.some.inj hres).symm⟩⟩
    · rintro σ H5 ⟨ts, s5, rfl, k5, W5, mk5, l5, rfl⟩
      obtain ⟨dx5, fs5, eo5, lm, few, ps⟩ := W5.most
      obtain ⟨ys, ey, ly, _⟩ := id mk5.ex
      refine ⟨_, rfl, a, d.C_Parser, dx5, _, _, rfl, eo5, T.C_Parser.cl, T.n_Parser_most_terms, lm, _, rfl, D, _, rfl, .inl (SqL.of ey), _, _, rfl, _, rfl, a, d.C_Parser, dx5, _, rfl, eo5, T.C_Parser.cl, T.n_Parser_most_terms, few, ?_⟩
      rw [ly, maxI]
      have k6 : Kz (one a) H5 (upd H5 a (.ins d.C_Parser dx5 (putF "most_terms" (.int (max s5.m ts.length : Nat)) fs5))) := Kz.put rfl
      refine ⟨_, rfl, _, rfl, three, fun p hp => ?_⟩
      exact kk _ _ (kx_new (k5.trans k6) hp) ((ps _).same (same_new hp)) (Nw.tup (k5.trans k6) hp fun M hM => .cons (.str _) (.cons (.str _) (.cons ((mk5.kx k6 W.alive.1).nw M hM) .nil)))
end
end K04
set_option Elab.async false
set_option maxRecDepth 100000
set_option maxHeartbeats 4000000
namespace K04
open PySem L2 C8 SX GX LC LG LR SU PM PX
def sp_Parser_on_atom (_K : PySem.W.Frag) (d : Cd) : Sp := spA d.C_Parser fun s => .bl (onAtom s)
section
variable {P : Program} {w : World} {K : PySem.W.Frag} {mg : Str → Option Value} {base : Heap} {d : Cd}
-- def Parser_on_atom: level 3, calls [('Parser_on_name', 2)], cells [], gens 0, raising False
theorem ok_Parser_on_atom (T : Txt P w K mg base d) (c_Parser_on_name : Met P w K mg base 2 d.C_Parser "on_name" (sp_Parser_on_name K d) []) :
    Met P w K mg base 3 d.C_Parser "on_atom" (sp_Parser_on_atom K d) [] := by
  refine met (ps := ["self"]) T.C_Parser.cl T.Parser_on_atom (fun _ _ _ _ _ _ us hl => match us, hl with | [_], _ => rfl) sc_Parser_on_atom (fun vs H Q E h => ?_) (fun f c A outer s H vs Q E hr h => ?_)
  · obtain ⟨a, l, n, s, rfl, _⟩ := h; rfl
  · obtain ⟨a, l, n, s, rfl, W, kk⟩ := h
    refine ⟨_, (pss_cons (ps_if (pt_not (pt_val (pe_mt0 c_Parser_on_name hr (by decide) (pv 0))))
      (pss_one (ps_ret pe_bl))
      pss_nil)
    (pss_cons (ps_set (i := 1) sc_Parser_on_atom.nd rfl (Or.inl rfl) (pe_ix (ixt (K := K) rfl) (pe_ix (ixl (K := K) rfl) (pe_fld (pv 0) rfl) (pe_op op_add (pe_fld (pv 0) rfl) pe_int) (fun _ _ => rfl)) pe_int (fun _ _ => rfl)))
    (pss_one (ps_ret (pe_and (pe_cmpR (opnin (K := K) rfl) (pv 1) (pe_gc rfl T.g_RELATIONS) rfl) (pe_one (pe_cmpR (opnin (K := K) rfl) (pv 1) (pe_gc rfl T.g_OPERATORS) rfl))))))), ?_⟩
    have kk : Q (.bl (onAtom s)) H := kk
    obtain ⟨dx, fs, eo, no⟩ := W.ob
    refine ⟨_, rfl, a, dx, _, rfl, eo, no (by decide +kernel), a, l, n, s, rfl, W, _, rfl, ?_⟩
    cases h : onName s with
    | false =>
      refine iteT' rfl ?_
      unfold onAtom at kk
      rw [h] at kk
      exact kk
    | true =>
      refine iteF' rfl ?_
      obtain ⟨dx1, p, tvs, b, e1, e2, e3, e4⟩ := W.tok2 (on_fin h)
      refine ⟨_, rfl, a, d.C_Parser, dx1, _, _, rfl, e1, T.C_Parser.cl, T.n_Parser_listed, look_listed _ _ _, _, rfl, a, d.C_Parser, dx1, _, _, rfl, e1, T.C_Parser.cl, T.n_Parser_place, look_place _ _ _, _, _, rfl, rfl, l, tvs, _, _, rfl, rfl, SqL.of e2, (show atI tvs ((p + 1 : Nat) : Int) = _ from atI_nat e3), b, _, 1, _, rfl, rfl, SqT.of e4, at1, _, rfl, _, _, rfl, .inr (T.t_RELATIONS _), rfl, flat_S RELS, _, rfl, ?_⟩
      rw [if_pos rfl, inV_S]
      have e0 : onAtom s = ((!decide (s.nx.x ∈ RELS)) && !decide (s.nx.x ∈ OPS)) := by
        unfold onAtom
        rw [h, Bool.true_and]
        congr 1
        · by_cases q : s.nx.x ∈ RELS
          · rw [decide_eq_true q, decide_eq_false (fun z => z q)]; rfl
          · rw [decide_eq_false q, decide_eq_true q]; rfl
        · by_cases q : s.nx.x ∈ OPS
          · rw [decide_eq_true q, decide_eq_false (fun z => z q)]; rfl
          · rw [decide_eq_false q, decide_eq_true q]; rfl
      rw [e0] at kk
      by_cases q : s.nx.x ∈ RELS
      · rw [decide_eq_true q] at kk ⊢
        exact kk
      · rw [decide_eq_false q] at kk ⊢
        refine ⟨_, rfl, _, _, rfl, .inr (T.t_OPERATORS _), rfl, flat_S OPS, ?_⟩
        rw [if_pos rfl, inV_S]
        exact kk
end
def spCn (C CT : Addr) (dd : Nat) : Sp := fun vs H Q E => ∃ nn : Nat, spP C CT (condM nn (termM nn dd)) (fun H H' v t => Nw H H' v t.d) vs H Q E
def sp_Parser_condition (_K : PySem.W.Frag) (d : Cd) : Sp := spCn d.C_Parser d.C_TextError 12
section
variable {P : Program} {w : World} {K : PySem.W.Frag} {mg : Str → Option Value} {base : Heap} {d : Cd}
-- def Parser_condition: level 43, calls [('Parser_atom', 42), ('Parser_on_atom', 3), ('Parser_one_of', 4), ('Parser_passed', 2), ('Parser_term', 41)], cells [], gens 0, raising True
theorem ok_Parser_condition (T : Txt P w K mg base d) (c_Parser_atom : MetX P w K mg base 42 d.C_Parser "atom" (sp_Parser_atom K d)) (c_Parser_on_atom : Met P w K mg base 3 d.C_Parser "on_atom" (sp_Parser_on_atom K d) []) (c_Parser_one_of : MetX P w K mg base 4 d.C_Parser "one_of" (sp_Parser_one_of K d)) (c_Parser_passed : Met P w K mg base 2 d.C_Parser "passed" (sp_Parser_passed K d) []) (c_Parser_term : MetX P w K mg base 41 d.C_Parser "term" (sp_Parser_term K d)) :
    MetX P w K mg base 43 d.C_Parser "condition" (sp_Parser_condition K d) := by
  refine metX (ps := ["self"]) T.C_Parser.cl T.Parser_condition (fun _ _ _ _ _ _ us hl => match us, hl with | [_], _ => rfl) sc_Parser_condition (fun vs H Q E h => ?_) (fun f c A outer s H vs Q E hr h => ?_)
  · obtain ⟨nn, h⟩ := h; exact spP_len h
  · obtain ⟨nn, a, l, n, s, res, rfl, W, hres, kk⟩ := h
    refine ⟨_, (pss_cons (ps_if (pt_val (pe_mt c_Parser_passed hr (by decide) (pv 0) (pa_cons pe_str pa_nil)))
      (pss_one (ps_ret (pe_tup (pa_cons pe_str (pa_cons (pe_mtX0 c_Parser_atom (takes_of rfl rfl rfl rfl) hr (by decide) (pv 0)) pa_nil)))))
      pss_nil)
    (pss_cons (ps_if (pt_val (pe_mt0 c_Parser_on_atom hr (by decide) (pv 0)))
      (pss_one (ps_ret (pe_tup (pa_cons pe_str (pa_cons (pe_mtX0 c_Parser_atom (takes_of rfl rfl rfl rfl) hr (by decide) (pv 0)) pa_nil)))))
      pss_nil)
    (pss_cons (ps_set (i := 1) sc_Parser_condition.nd rfl (Or.inl rfl) (pe_mtX0 c_Parser_term (takes_of rfl rfl rfl rfl) hr (by decide) (pv 0)))
    (pss_cons (ps_set (i := 2) sc_Parser_condition.nd rfl (Or.inl rfl) (pe_mtX c_Parser_one_of (takes_of rfl rfl rfl rfl) hr (by decide) (pv 0) (pa_cons (pe_gc rfl T.g_RELATIONS) pa_nil)))
    (pss_one (ps_ret (pe_tup (pa_cons pe_str (pa_cons (pv 2) (pa_cons (pv 1) (pa_cons (pe_mtX0 c_Parser_term (takes_of rfl rfl rfl rfl) hr (by decide) (pv 0)) pa_nil))))))))))), ?_⟩
    unfold condM at hres
    obtain ⟨dx, fs, eo, no⟩ := W.ob
    refine ⟨_, rfl, a, dx, _, rfl, eo, no (by decide +kernel), a, l, n, s, wNot, ar2 sNot, by decide, W, fun h1 => ⟨_, rfl, iteF' rfl ?_⟩, fun h1 H1 k1 W1 => ⟨_, rfl, iteT' rfl ?_⟩⟩
    · rw [if_neg h1] at hres
      refine ⟨_, rfl, a, dx, _, rfl, eo, no (by decide +kernel), a, l, n, s, rfl, W, _, rfl, ?_⟩
      cases h2 : onAtom s with
      | true =>
        refine iteT' rfl ?_
        rw [if_pos h2] at hres
        rcases bind_some hres with ⟨k, e, rfl⟩ | ⟨x, s1, e, hres⟩
        · exact ⟨_, rfl, a, dx, _, rfl, eo, no (by decide +kernel), nn, a, l, n, s, _, rfl, W, e, kk⟩
        · cases hres
          refine ⟨_, rfl, a, dx, _, rfl, eo, no (by decide +kernel), nn, a, l, n, s, _, rfl, W, e, fun v H1 k1 W1 hv => ⟨two, fun p hp => ?_⟩⟩
          exact kk _ _ (kx_new k1 hp) (W1.same (same_new hp)) (Nw.tup k1 hp fun M hM => .cons (.str _) (.cons (hv M hM) .nil))
      | false =>
        refine iteF' rfl ?_
        rw [if_neg (by rw [h2]; decide)] at hres
        rcases bind_some hres with ⟨k, e, rfl⟩ | ⟨x, s1, e, hres⟩
        · exact ⟨_, rfl, a, dx, _, rfl, eo, no (by decide +kernel), nn, a, l, n, s, _, rfl, W, e, kk⟩
        refine ⟨_, rfl, a, dx, _, rfl, eo, no (by decide +kernel), nn, a, l, n, s, _, rfl, W, e, fun v H1 k1 W1 hv => ?_⟩
        obtain ⟨dx1, fs1, eo1, no1⟩ := W1.ob
        rcases bind_some hres with ⟨k, e1, rfl⟩ | ⟨y, s2, e1, hres⟩
        · exact ⟨_, rfl, a, dx1, _, rfl, eo1, no1 (by decide +kernel), a, l, d.a_RELATIONS, n, s1, RELS, _, rfl, by decide, T.t_RELATIONS _, W1, e1, fun dd H2 k2 hd => kk dd H2 (k1.trans k2) hd⟩
        refine ⟨_, rfl, a, dx1, _, rfl, eo1, no1 (by decide +kernel), a, l, d.a_RELATIONS, n, s1, RELS, _, rfl, by decide, T.t_RELATIONS _, W1, e1, fun v2 H2 k2 W2 hv2 => ?_⟩
        obtain rfl : v2 = .str _ := hv2
        obtain ⟨dx2, fs2, eo2, no2⟩ := W2.ob
        rcases bind_some hres with ⟨k, e2, rfl⟩ | ⟨z, s3, e2, hres⟩
        · exact ⟨_, rfl, _, rfl, _, rfl, a, dx2, _, rfl, eo2, no2 (by decide +kernel), nn, a, l, n, s2, _, rfl, W2, e2, fun dd H3 k3 hd => kk dd H3 ((k1.trans k2).trans k3) hd⟩
        refine ⟨_, rfl, _, rfl, _, rfl, a, dx2, _, rfl, eo2, no2 (by decide +kernel), nn, a, l, n, s2, _, rfl, W2, e2, fun v3 H3 k3 W3 hv3 => ⟨four, fun p hp => ?_⟩⟩
        cases hres
        have hv' := (hv.kx k2 W.alive.1).kx k3 W.alive.1
        have hv3' := hv3.early (k1.trans k2)
        exact kk _ _ (kx_new ((k1.trans k2).trans k3) hp) (W3.same (same_new hp)) (Nw.tup ((k1.trans k2).trans k3) hp fun M hM => .cons (.str _) (.cons (.str _) (.cons (hv' M hM) (.cons (hv3' M hM) .nil))))
    · rw [if_pos h1] at hres
      obtain ⟨dx1, fs1, eo1, no1⟩ := W1.ob
      rcases bind_some hres with ⟨k, e, rfl⟩ | ⟨x, s1, e, hres⟩
      · exact ⟨_, rfl, a, dx1, _, rfl, eo1, no1 (by decide +kernel), nn, a, l, n, _, _, rfl, W1, e, fun dd H2 k2 hd => kk dd H2 (k1.trans k2) hd⟩
      · cases hres
        refine ⟨_, rfl, a, dx1, _, rfl, eo1, no1 (by decide +kernel), nn, a, l, n, _, _, rfl, W1, e, fun v H2 k2 W2 hv => ⟨two, fun p hp => ?_⟩⟩
        exact kk _ _ (kx_new (k1.trans k2) hp) (W2.same (same_new hp)) (Nw.tup (k1.trans k2) hp fun M hM => .cons (.str _) (.cons ((hv.early k1) M hM) .nil))
end
def spCs (C CT : Addr) (dd : Nat) : Sp := fun vs H Q E => ∃ nn : Nat, spP C CT (condsM nn (termM nn dd)) (fun H H' v t => Nw H H' v (csD t)) vs H Q E
def sp_Parser_optional_conditions (_K : PySem.W.Frag) (d : Cd) : Sp := spCs d.C_Parser d.C_TextError 12
section
variable {P : Program} {w : World} {K : PySem.W.Frag} {mg : Str → Option Value} {base : Heap} {d : Cd}
-- def Parser_optional_conditions: level 44, calls [('Parser_condition', 43), ('Parser_passed', 2)], cells [], gens 0, raising True
theorem ok_Parser_optional_conditions (T : Txt P w K mg base d) (c_Parser_condition : MetX P w K mg base 43 d.C_Parser "condition" (sp_Parser_condition K d)) (c_Parser_passed : Met P w K mg base 2 d.C_Parser "passed" (sp_Parser_passed K d) []) :
    MetX P w K mg base 44 d.C_Parser "optional_conditions" (sp_Parser_optional_conditions K d) := by
  refine metX (ps := ["self"]) T.C_Parser.cl T.Parser_optional_conditions (fun _ _ _ _ _ _ us hl => match us, hl with | [_], _ => rfl) sc_Parser_optional_conditions (fun vs H Q E h => ?_) (fun f c A outer s H vs Q E hr h => ?_)
  · obtain ⟨nn, h⟩ := h; exact spP_len h
  · obtain ⟨nn, a, l, n, s, res, rfl, W, hres, kk⟩ := h
    refine ⟨_, (pss_cons (ps_set (i := 1) sc_Parser_optional_conditions.nd rfl (Or.inl rfl) (pe_lst pa_nil))
    (pss_cons (ps_if (pt_val (pe_mt c_Parser_passed hr (by decide) (pv 0) (pa_cons pe_str pa_nil)))
      (pss_cons (ps_expr (pe_bm PySem.F.plainAttrs_list PySem.F.slot_list_append PySem.F.type_list_append mt_append (pv 1) (pa_cons (pe_mtX0 c_Parser_condition (takes_of rfl rfl rfl rfl) hr (by decide) (pv 0)) pa_nil)))
      (pss_one (ps_while (passes_of rfl) (pt_val (pe_mt c_Parser_passed hr (by decide) (pv 0) (pa_cons pe_str pa_nil)))
        (pss_one (ps_expr (pe_bm PySem.F.plainAttrs_list PySem.F.slot_list_append PySem.F.type_list_append mt_append (pv 1) (pa_cons (pe_mtX0 c_Parser_condition (takes_of rfl rfl rfl rfl) hr (by decide) (pv 0)) pa_nil)))))))
      pss_nil)
    (pss_one (ps_ret (pv 1))))), ?_⟩
    unfold condsM optM at hres
    refine ⟨Nat.zero_le _, fun D hD => ?_⟩
    have hit : ∀ (σ : L2.St), σ[0]? = some (some (.ref a)) → ItemOk d.C_Parser d.C_TextError a l n E σ (condM nn (termM nn 12)) Cnd.d (tMeth d.C_Parser "condition" (sp_Parser_condition K d) [] E (tVar 0) tNil) := fun σ h0 H2 s2 r2 Qk W2 e2 o2 => by
      obtain ⟨dx2, fs2, eo2, no2⟩ := W2.ob
      exact ⟨_, h0, a, dx2, _, rfl, eo2, no2 (by decide +kernel), nn, a, l, n, s2, r2, rfl, W2, e2, o2⟩
    have shc : Shr (condM nn (termM nn 12)) := cond_sh (shr_t nn)
    have kD : Kz (PX.one a) H (upd H D (.lst [])) := Kz.new hD
    have WD := W.same (same_new (o := .lst []) hD)
    have mkD : Mk1 Cnd.d H (upd H D (.lst [])) D [] := Mk1.nil (L := PX.one a) (Kz.refl H) hD
    generalize upd H D (.lst []) = HD at kD WD mkD ⊢
    obtain ⟨dx1, fs1, eo1, no1⟩ := WD.ob
    refine ⟨_, rfl, a, dx1, _, rfl, eo1, no1 (by decide +kernel), a, l, n, s, gColon, ar2 sColon, by decide, WD, fun h3 => ⟨_, rfl, iteF' rfl ?_⟩, fun h3 H3 k3 W3 => ⟨_, rfl, iteT' rfl ?_⟩⟩
    · rw [if_neg h3] at hres
      cases hres
      exact ⟨_, rfl, kk _ _ kD WD mkD.nw⟩
    rw [if_pos h3] at hres
    rcases bind_some hres with ⟨k, e2, rfl⟩ | ⟨t, s2, e2, hres⟩
    · exact rd_one (hit _ rfl) rfl (kD.trans k3) W.alive.2 W.alive.1 W3 (mkD.kx k3 W.alive.1) (Nat.zero_le _) e2 (fun k dd H4 e4 k4 hd => by cases e4; exact kk dd H4 k4 hd) (fun x s2 H4 z => nomatch z)
    refine rd_one (hit _ rfl) rfl (kD.trans k3) W.alive.2 W.alive.1 W3 (mkD.kx k3 W.alive.1) (Nat.zero_le _) e2 (fun k dd H4 e4 => nomatch e4) (fun t' s2' H4 z k4 W4 mk4 => ?_)
    cases z
    have ln : ([] ++ [t]).length + s2.r.length ≤ 4001 := by
      have h1 := shc _ _ _ e2
      obtain ⟨_, _, _, _, _, _, _, _, e5⟩ := W.tok
      have h2 : s.nx.r.length + 1 = s.r.length := by have := List.length_pos_iff.mpr W.wt.ne; show s.r.tail.length + 1 = _; rw [List.length_tail]; omega
      have := W.le
      simp only [List.nil_append, List.length_singleton]; omega
    refine rd_many sComma (by decide) shc (hit _ rfl) rfl rfl k4 W.alive.2 W.alive.1 W4 mk4 ln hres (by decide +kernel) (fun k dd H5 e5 k5 hd => by cases e5; exact kk dd H5 k5 hd) (fun xs s7 H5 z k5 W5 mk5 l5 => ?_)
    cases z
    exact ⟨_, rfl, kk _ _ k5 W5 mk5.nw⟩
end
def spCh (C CT : Addr) (dd : Nat) : Sp := fun vs H Q E => ∃ nn : Nat, spP C CT (choiceM nn (termM nn dd)) (fun H H' v t => Nw H H' v t.d) vs H Q E
def sp_Parser_choice (_K : PySem.W.Frag) (d : Cd) : Sp := spCh d.C_Parser d.C_TextError 12
section
variable {P : Program} {w : World} {K : PySem.W.Frag} {mg : Str → Option Value} {base : Heap} {d : Cd}
-- def Parser_choice: level 45, calls [('Parser_atom', 42), ('Parser_optional_conditions', 44)], cells [], gens 0, raising True
theorem ok_Parser_choice (T : Txt P w K mg base d) (c_Parser_atom : MetX P w K mg base 42 d.C_Parser "atom" (sp_Parser_atom K d)) (c_Parser_optional_conditions : MetX P w K mg base 44 d.C_Parser "optional_conditions" (sp_Parser_optional_conditions K d)) :
    MetX P w K mg base 45 d.C_Parser "choice" (sp_Parser_choice K d) := by
  refine metX (ps := ["self"]) T.C_Parser.cl T.Parser_choice (fun _ _ _ _ _ _ us hl => match us, hl with | [_], _ => rfl) sc_Parser_choice (fun vs H Q E h => ?_) (fun f c A outer s H vs Q E hr h => ?_)
  · obtain ⟨nn, h⟩ := h; exact spP_len h
  · obtain ⟨nn, a, l, n, s, res, rfl, W, hres, kk⟩ := h
    refine ⟨_, (pss_cons (ps_set (i := 1) sc_Parser_choice.nd rfl (Or.inl rfl) (pe_mtX0 c_Parser_atom (takes_of rfl rfl rfl rfl) hr (by decide) (pv 0)))
    (pss_one (ps_ret (pe_tup (pa_cons pe_str (pa_cons (pv 1) (pa_cons (pe_mtX0 c_Parser_optional_conditions (takes_of rfl rfl rfl rfl) hr (by decide) (pv 0)) pa_nil))))))), ?_⟩
    unfold choiceM at hres
    obtain ⟨dx, fs, eo, no⟩ := W.ob
    rcases bind_some hres with ⟨k, e, rfl⟩ | ⟨x, s1, e, hres⟩
    · exact ⟨_, rfl, a, dx, _, rfl, eo, no (by decide +kernel), nn, a, l, n, s, _, rfl, W, e, kk⟩
    refine ⟨_, rfl, a, dx, _, rfl, eo, no (by decide +kernel), nn, a, l, n, s, _, rfl, W, e, fun v H1 k1 W1 hv => ?_⟩
    obtain ⟨dx1, fs1, eo1, no1⟩ := W1.ob
    rcases bind_some hres with ⟨k, e1, rfl⟩ | ⟨y, s2, e1, hres⟩
    · exact ⟨_, rfl, _, rfl, a, dx1, _, rfl, eo1, no1 (by decide +kernel), nn, a, l, n, s1, _, rfl, W1, e1, fun dd H2 k2 hd => kk dd H2 (k1.trans k2) hd⟩
    refine ⟨_, rfl, _, rfl, a, dx1, _, rfl, eo1, no1 (by decide +kernel), nn, a, l, n, s1, _, rfl, W1, e1, fun v2 H2 k2 W2 hv2 => ⟨three, fun p hp => ?_⟩⟩
    cases hres
    exact kk _ _ (kx_new (k1.trans k2) hp) (W2.same (same_new hp)) (Nw.tup (k1.trans k2) hp fun M hM => .cons (.str _) (.cons ((hv.kx k2 W.alive.1) M hM) (.cons ((hv2.early k1) M hM) .nil)))
end
def spChs (C CT : Addr) (dd : Nat) : Sp := fun vs H Q E => ∃ nn : Nat, spP C CT (listM nn (choiceM nn (termM nn dd))) (fun H H' v t => Nw H H' v (chD t)) vs H Q E
def sp_Parser_choices (_K : PySem.W.Frag) (d : Cd) : Sp := spChs d.C_Parser d.C_TextError 12
section
variable {P : Program} {w : World} {K : PySem.W.Frag} {mg : Str → Option Value} {base : Heap} {d : Cd}
-- def Parser_choices: level 46, calls [('Parser_choice', 45), ('Parser_passed', 2), ('Parser_skip', 4)], cells [], gens 0, raising True
theorem ok_Parser_choices (T : Txt P w K mg base d) (c_Parser_choice : MetX P w K mg base 45 d.C_Parser "choice" (sp_Parser_choice K d)) (c_Parser_passed : Met P w K mg base 2 d.C_Parser "passed" (sp_Parser_passed K d) []) (c_Parser_skip : MetX P w K mg base 4 d.C_Parser "skip" (sp_Parser_skip K d)) :
    MetX P w K mg base 46 d.C_Parser "choices" (sp_Parser_choices K d) := by
  refine metX (ps := ["self"]) T.C_Parser.cl T.Parser_choices (fun _ _ _ _ _ _ us hl => match us, hl with | [_], _ => rfl) sc_Parser_choices (fun vs H Q E h => ?_) (fun f c A outer s H vs Q E hr h => ?_)
  · obtain ⟨nn, h⟩ := h; exact spP_len h
  · obtain ⟨nn, a, l, n, s, res, rfl, W, hres, kk⟩ := h
    refine ⟨_, (pss_cons (ps_expr (pe_mtX c_Parser_skip (takes_of rfl rfl rfl rfl) hr (by decide) (pv 0) (pa_cons pe_str pa_nil)))
    (pss_cons (ps_set (i := 1) sc_Parser_choices.nd rfl (Or.inl rfl) (pe_lst (pa_cons (pe_mtX0 c_Parser_choice (takes_of rfl rfl rfl rfl) hr (by decide) (pv 0)) pa_nil)))
    (pss_cons (ps_while (passes_of rfl) (pt_val (pe_mt c_Parser_passed hr (by decide) (pv 0) (pa_cons pe_str pa_nil)))
      (pss_one (ps_expr (pe_bm PySem.F.plainAttrs_list PySem.F.slot_list_append PySem.F.type_list_append mt_append (pv 1) (pa_cons (pe_mtX0 c_Parser_choice (takes_of rfl rfl rfl rfl) hr (by decide) (pv 0)) pa_nil)))))
    (pss_cons (ps_expr (pe_mtX c_Parser_skip (takes_of rfl rfl rfl rfl) hr (by decide) (pv 0) (pa_cons pe_str pa_nil)))
    (pss_one (ps_ret (pv 1))))))), ?_⟩
    have hit : ∀ (σ : L2.St), σ[0]? = some (some (.ref a)) → ItemOk d.C_Parser d.C_TextError a l n E σ (choiceM nn (termM nn 12)) Cho.d (tMeth d.C_Parser "choice" (sp_Parser_choice K d) [] E (tVar 0) tNil) := fun σ h0 H2 s2 r2 Qk W2 e2 o2 => by
      obtain ⟨dx2, fs2, eo2, no2⟩ := W2.ob
      exact ⟨_, h0, a, dx2, _, rfl, eo2, no2 (by decide +kernel), nn, a, l, n, s2, r2, rfl, W2, e2, o2⟩
    have shc : Shr (choiceM nn (termM nn 12)) := choice_sh (shr_t nn)
    unfold listM at hres
    obtain ⟨dx, fs, eo, no⟩ := W.ob
    rcases bind_some hres with ⟨k, e, rfl⟩ | ⟨_, s1, e, hres⟩
    · exact ⟨_, rfl, a, dx, _, rfl, eo, no (by decide +kernel), a, l, n, s, gBL, _, ar2 sBL, by decide, W, e, kk⟩
    refine ⟨_, rfl, a, dx, _, rfl, eo, no (by decide +kernel), a, l, n, s, gBL, _, ar2 sBL, by decide, W, e, fun _ H1 k1 W1 _ => ?_⟩
    rcases bind_some hres with ⟨k, e1, rfl⟩ | ⟨t, s2, e1, hres⟩
    · exact hit _ rfl H1 s1 _ _ W1 e1 fun dd H2 k2 hd => kk dd H2 (k1.trans k2) hd
    refine hit _ rfl H1 s1 _ _ W1 e1 fun v H2 k2 W2 hv => ⟨Nat.le_of_lt two, fun D hD => ?_⟩
    have mkD : Mk1 Cho.d H (upd H2 D (.lst [v])) D [t] := Mk1.one (k1.trans k2) hD (hv.early k1)
    have kD := kx_new (o := .lst [v]) (k1.trans k2) hD
    have WD := W2.same (same_new (o := .lst [v]) hD)
    generalize upd H2 D (.lst [v]) = HD at kD WD mkD ⊢
    have ln : [t].length + s2.r.length ≤ 4001 := by
      have h1 := shc _ _ _ e1
      have h2 := skip_lt (by decide) e
      obtain ⟨_, _, _, _, _, _, _, _, e5⟩ := W.tok
      have := W.le
      simp only [List.length_singleton]; omega
    rcases bind_some hres with ⟨k, e3, rfl⟩ | ⟨ts, s6, e3, hres⟩
    · exact rd_many sSemi (by decide) shc (hit _ rfl) rfl rfl kD W.alive.2 W.alive.1 WD mkD ln e3 (by decide +kernel) (fun k dd H5 e5 k5 hd => by cases e5; exact kk dd H5 k5 hd) (fun xs s7 H5 z => nomatch z)
    refine rd_many sSemi (by decide) shc (hit _ rfl) rfl rfl kD W.alive.2 W.alive.1 WD mkD ln e3 (by decide +kernel) (fun k dd H5 z => nomatch z) (fun xs s7 H5 z k5 W5 mk5 l5 => ?_)
    cases z
    obtain ⟨dx5, fs5, eo5, no5⟩ := W5.ob
    rcases bind_some hres with ⟨k, e5, rfl⟩ | ⟨_, s8, e5, hres⟩
    · exact ⟨_, rfl, a, dx5, _, rfl, eo5, no5 (by decide +kernel), a, l, n, _, gBR, _, ar2 sBR, by decide, W5, e5, fun dd H6 k6 hd => kk dd H6 (k5.trans k6) hd⟩
    cases hres
    exact ⟨_, rfl, a, dx5, _, rfl, eo5, no5 (by decide +kernel), a, l, n, _, gBR, _, ar2 sBR, by decide, W5, e5, fun _ H6 k6 W6 _ => ⟨_, rfl, kk _ _ (k5.trans k6) W6 (mk5.kx k6 W.alive.1).nw⟩⟩
end
def spMe (C CT : Addr) (dd : Nat) : Sp := fun vs H Q E => ∃ nn : Nat, spP C CT (memberM nn (termM nn dd)) (fun H H' v t => Nw H H' v t.d) vs H Q E
def sp_Parser_member (_K : PySem.W.Frag) (d : Cd) : Sp := spMe d.C_Parser d.C_TextError 12
section
variable {P : Program} {w : World} {K : PySem.W.Frag} {mg : Str → Option Value} {base : Heap} {d : Cd}
-- def Parser_member: level 45, calls [('Parser_optional_conditions', 44), ('Parser_term', 41)], cells [], gens 0, raising True
theorem ok_Parser_member (T : Txt P w K mg base d) (c_Parser_optional_conditions : MetX P w K mg base 44 d.C_Parser "optional_conditions" (sp_Parser_optional_conditions K d)) (c_Parser_term : MetX P w K mg base 41 d.C_Parser "term" (sp_Parser_term K d)) :
    MetX P w K mg base 45 d.C_Parser "member" (sp_Parser_member K d) := by
  refine metX (ps := ["self"]) T.C_Parser.cl T.Parser_member (fun _ _ _ _ _ _ us hl => match us, hl with | [_], _ => rfl) sc_Parser_member (fun vs H Q E h => ?_) (fun f c A outer s H vs Q E hr h => ?_)
  · obtain ⟨nn, h⟩ := h; exact spP_len h
  · obtain ⟨nn, a, l, n, s, res, rfl, W, hres, kk⟩ := h
    refine ⟨_, (pss_cons (ps_set (i := 1) sc_Parser_member.nd rfl (Or.inl rfl) (pe_mtX0 c_Parser_term (takes_of rfl rfl rfl rfl) hr (by decide) (pv 0)))
    (pss_one (ps_ret (pe_tup (pa_cons pe_str (pa_cons (pv 1) (pa_cons (pe_mtX0 c_Parser_optional_conditions (takes_of rfl rfl rfl rfl) hr (by decide) (pv 0)) pa_nil))))))), ?_⟩
    unfold memberM at hres
    obtain ⟨dx, fs, eo, no⟩ := W.ob
    rcases bind_some hres with ⟨k, e, rfl⟩ | ⟨x, s1, e, hres⟩
    · exact ⟨_, rfl, a, dx, _, rfl, eo, no (by decide +kernel), nn, a, l, n, s, _, rfl, W, e, kk⟩
    refine ⟨_, rfl, a, dx, _, rfl, eo, no (by decide +kernel), nn, a, l, n, s, _, rfl, W, e, fun v H1 k1 W1 hv => ?_⟩
    obtain ⟨dx1, fs1, eo1, no1⟩ := W1.ob
    rcases bind_some hres with ⟨k, e1, rfl⟩ | ⟨y, s2, e1, hres⟩
    · exact ⟨_, rfl, _, rfl, a, dx1, _, rfl, eo1, no1 (by decide +kernel), nn, a, l, n, s1, _, rfl, W1, e1, fun dd H2 k2 hd => kk dd H2 (k1.trans k2) hd⟩
    refine ⟨_, rfl, _, rfl, a, dx1, _, rfl, eo1, no1 (by decide +kernel), nn, a, l, n, s1, _, rfl, W1, e1, fun v2 H2 k2 W2 hv2 => ⟨three, fun p hp => ?_⟩⟩
    cases hres
    exact kk _ _ (kx_new (k1.trans k2) hp) (W2.same (same_new hp)) (Nw.tup (k1.trans k2) hp fun M hM => .cons (.str _) (.cons ((hv.kx k2 W.alive.1) M hM) (.cons ((hv2.early k1) M hM) .nil)))
end
def spMs (C CT : Addr) (dd : Nat) : Sp := fun vs H Q E => ∃ nn : Nat, spP C CT (listM nn (memberM nn (termM nn dd))) (fun H H' v t => Nw H H' v (msD t)) vs H Q E
def sp_Parser_members (_K : PySem.W.Frag) (d : Cd) : Sp := spMs d.C_Parser d.C_TextError 12
section
variable {P : Program} {w : World} {K : PySem.W.Frag} {mg : Str → Option Value} {base : Heap} {d : Cd}
-- def Parser_members: level 46, calls [('Parser_member', 45), ('Parser_passed', 2), ('Parser_skip', 4)], cells [], gens 0, raising True
theorem ok_Parser_members (T : Txt P w K mg base d) (c_Parser_member : MetX P w K mg base 45 d.C_Parser "member" (sp_Parser_member K d)) (c_Parser_passed : Met P w K mg base 2 d.C_Parser "passed" (sp_Parser_passed K d) []) (c_Parser_skip : MetX P w K mg base 4 d.C_Parser "skip" (sp_Parser_skip K d)) :
    MetX P w K mg base 46 d.C_Parser "members" (sp_Parser_members K d) := by
  refine metX (ps := ["self"]) T.C_Parser.cl T.Parser_members (fun _ _ _ _ _ _ us hl => match us, hl with | [_], _ => rfl) sc_Parser_members (fun vs H Q E h => ?_) (fun f c A outer s H vs Q E hr h => ?_)
  · obtain ⟨nn, h⟩ := h; exact spP_len h
  · obtain ⟨nn, a, l, n, s, res, rfl, W, hres, kk⟩ := h
    refine ⟨_, (pss_cons (ps_expr (pe_mtX c_Parser_skip (takes_of rfl rfl rfl rfl) hr (by decide) (pv 0) (pa_cons pe_str pa_nil)))
    (pss_cons (ps_set (i := 1) sc_Parser_members.nd rfl (Or.inl rfl) (pe_lst (pa_cons (pe_mtX0 c_Parser_member (takes_of rfl rfl rfl rfl) hr (by decide) (pv 0)) pa_nil)))
    (pss_cons (ps_while (passes_of rfl) (pt_val (pe_mt c_Parser_passed hr (by decide) (pv 0) (pa_cons pe_str pa_nil)))
      (pss_one (ps_expr (pe_bm PySem.F.plainAttrs_list PySem.F.slot_list_append PySem.F.type_list_append mt_append (pv 1) (pa_cons (pe_mtX0 c_Parser_member (takes_of rfl rfl rfl rfl) hr (by decide) (pv 0)) pa_nil)))))
    (pss_cons (ps_expr (pe_mtX c_Parser_skip (takes_of rfl rfl rfl rfl) hr (by decide) (pv 0) (pa_cons pe_str pa_nil)))
    (pss_one (ps_ret (pv 1))))))), ?_⟩
    have hit : ∀ (σ : L2.St), σ[0]? = some (some (.ref a)) → ItemOk d.C_Parser d.C_TextError a l n E σ (memberM nn (termM nn 12)) Mem.d (tMeth d.C_Parser "member" (sp_Parser_member K d) [] E (tVar 0) tNil) := fun σ h0 H2 s2 r2 Qk W2 e2 o2 => by
      obtain ⟨dx2, fs2, eo2, no2⟩ := W2.ob
      exact ⟨_, h0, a, dx2, _, rfl, eo2, no2 (by decide +kernel), nn, a, l, n, s2, r2, rfl, W2, e2, o2⟩
    have shc : Shr (memberM nn (termM nn 12)) := member_sh (shr_t nn)
    unfold listM at hres
    obtain ⟨dx, fs, eo, no⟩ := W.ob
    rcases bind_some hres with ⟨k, e, rfl⟩ | ⟨_, s1, e, hres⟩
    · exact ⟨_, rfl, a, dx, _, rfl, eo, no (by decide +kernel), a, l, n, s, gBL, _, ar2 sBL, by decide, W, e, kk⟩
    refine ⟨_, rfl, a, dx, _, rfl, eo, no (by decide +kernel), a, l, n, s, gBL, _, ar2 sBL, by decide, W, e, fun _ H1 k1 W1 _ => ?_⟩
    rcases bind_some hres with ⟨k, e1, rfl⟩ | ⟨t, s2, e1, hres⟩
    · exact hit _ rfl H1 s1 _ _ W1 e1 fun dd H2 k2 hd => kk dd H2 (k1.trans k2) hd
    refine hit _ rfl H1 s1 _ _ W1 e1 fun v H2 k2 W2 hv => ⟨Nat.le_of_lt two, fun D hD => ?_⟩
    have mkD : Mk1 Mem.d H (upd H2 D (.lst [v])) D [t] := Mk1.one (k1.trans k2) hD (hv.early k1)
    have kD := kx_new (o := .lst [v]) (k1.trans k2) hD
    have WD := W2.same (same_new (o := .lst [v]) hD)
    generalize upd H2 D (.lst [v]) = HD at kD WD mkD ⊢
    have ln : [t].length + s2.r.length ≤ 4001 := by
      have h1 := shc _ _ _ e1
      have h2 := skip_lt (by decide) e
      obtain ⟨_, _, _, _, _, _, _, _, e5⟩ := W.tok
      have := W.le
      simp only [List.length_singleton]; omega
    rcases bind_some hres with ⟨k, e3, rfl⟩ | ⟨ts, s6, e3, hres⟩
    · exact rd_many sSemi (by decide) shc (hit _ rfl) rfl rfl kD W.alive.2 W.alive.1 WD mkD ln e3 (by decide +kernel) (fun k dd H5 e5 k5 hd => by cases e5; exact kk dd H5 k5 hd) (fun xs s7 H5 z => nomatch z)
    refine rd_many sSemi (by decide) shc (hit _ rfl) rfl rfl kD W.alive.2 W.alive.1 WD mkD ln e3 (by decide +kernel) (fun k dd H5 z => nomatch z) (fun xs s7 H5 z k5 W5 mk5 l5 => ?_)
    cases z
    obtain ⟨dx5, fs5, eo5, no5⟩ := W5.ob
    rcases bind_some hres with ⟨k, e5, rfl⟩ | ⟨_, s8, e5, hres⟩
    · exact ⟨_, rfl, a, dx5, _, rfl, eo5, no5 (by decide +kernel), a, l, n, _, gBR, _, ar2 sBR, by decide, W5, e5, fun dd H6 k6 hd => kk dd H6 (k5.trans k6) hd⟩
    cases hres
    exact ⟨_, rfl, a, dx5, _, rfl, eo5, no5 (by decide +kernel), a, l, n, _, gBR, _, ar2 sBR, by decide, W5, e5, fun _ H6 k6 W6 _ => ⟨_, rfl, kk _ _ (k5.trans k6) W6 (mk5.kx k6 W.alive.1).nw⟩⟩
end
def spPt (C CT : Addr) (dd : Nat) : Sp := fun vs H Q E => ∃ nn : Nat, spP C CT (partM nn (termM nn dd)) (fun H H' v t => Nw H H' v t.d) vs H Q E
def sp_Parser_part (_K : PySem.W.Frag) (d : Cd) : Sp := spPt d.C_Parser d.C_TextError 12
section
variable {P : Program} {w : World} {K : PySem.W.Frag} {mg : Str → Option Value} {base : Heap} {d : Cd}
-- def Parser_part: level 47, calls [('Parser_condition', 43), ('Parser_members', 46), ('Parser_one_of', 4), ('Parser_passed', 2), ('Parser_term', 41)], cells [], gens 0, raising True
theorem ok_Parser_part (T : Txt P w K mg base d) (c_Parser_condition : MetX P w K mg base 43 d.C_Parser "condition" (sp_Parser_condition K d)) (c_Parser_members : MetX P w K mg base 46 d.C_Parser "members" (sp_Parser_members K d)) (c_Parser_one_of : MetX P w K mg base 4 d.C_Parser "one_of" (sp_Parser_one_of K d)) (c_Parser_passed : Met P w K mg base 2 d.C_Parser "passed" (sp_Parser_passed K d) []) (c_Parser_term : MetX P w K mg base 41 d.C_Parser "term" (sp_Parser_term K d)) :
    MetX P w K mg base 47 d.C_Parser "part" (sp_Parser_part K d) := by
  refine metX (ps := ["self"]) T.C_Parser.cl T.Parser_part (fun _ _ _ _ _ _ us hl => match us, hl with | [_], _ => rfl) sc_Parser_part (fun vs H Q E h => ?_) (fun f c A outer s H vs Q E hr h => ?_)
  · obtain ⟨nn, h⟩ := h; exact spP_len h
  · obtain ⟨nn, a, l, n, s, res, rfl, W, hres, kk⟩ := h
    refine ⟨_, (pss_cons (ps_if (pt_not (pt_val (pe_mt c_Parser_passed hr (by decide) (pv 0) (pa_cons pe_str pa_nil))))
      (pss_one (ps_ret (pe_mtX0 c_Parser_condition (takes_of rfl rfl rfl rfl) hr (by decide) (pv 0))))
      pss_nil)
    (pss_cons (ps_set (i := 1) sc_Parser_part.nd rfl (Or.inl rfl) (pe_mtX0 c_Parser_members (takes_of rfl rfl rfl rfl) hr (by decide) (pv 0)))
    (pss_cons (ps_set (i := 2) sc_Parser_part.nd rfl (Or.inl rfl) (pe_mtX c_Parser_one_of (takes_of rfl rfl rfl rfl) hr (by decide) (pv 0) (pa_cons (pe_gc rfl T.g_SUM_RELATIONS) pa_nil)))
    (pss_one (ps_ret (pe_tup (pa_cons pe_str (pa_cons (pv 2) (pa_cons (pv 1) (pa_cons (pe_mtX0 c_Parser_term (takes_of rfl rfl rfl rfl) hr (by decide) (pv 0)) pa_nil)))))))))), ?_⟩
    unfold partM at hres
    obtain ⟨dx, fs, eo, no⟩ := W.ob
    refine ⟨_, rfl, a, dx, _, rfl, eo, no (by decide +kernel), a, l, n, s, wSum, ar2 sSum, by decide, W, fun h1 => ⟨_, rfl, iteT' rfl ?_⟩, fun h1 H1 k1 W1 => ⟨_, rfl, iteF' rfl ?_⟩⟩
    · rw [if_neg h1] at hres
      rcases bind_some hres with ⟨k, e, rfl⟩ | ⟨x, s1, e, hres⟩
      · exact ⟨_, rfl, a, dx, _, rfl, eo, no (by decide +kernel), nn, a, l, n, s, _, rfl, W, e, kk⟩
      · cases hres
        exact ⟨_, rfl, a, dx, _, rfl, eo, no (by decide +kernel), nn, a, l, n, s, _, rfl, W, e, fun v H1 k1 W1 hv => kk v H1 k1 W1 hv⟩
    rw [if_pos h1] at hres
    obtain ⟨dx1, fs1, eo1, no1⟩ := W1.ob
    rcases bind_some hres with ⟨k, e, rfl⟩ | ⟨x, s1, e, hres⟩
    · exact ⟨_, rfl, a, dx1, _, rfl, eo1, no1 (by decide +kernel), nn, a, l, n, _, _, rfl, W1, e, fun dd H2 k2 hd => kk dd H2 (k1.trans k2) hd⟩
    refine ⟨_, rfl, a, dx1, _, rfl, eo1, no1 (by decide +kernel), nn, a, l, n, _, _, rfl, W1, e, fun v H2 k2 W2 hv => ?_⟩
    obtain ⟨dx2, fs2, eo2, no2⟩ := W2.ob
    rcases bind_some hres with ⟨k, e1, rfl⟩ | ⟨y, s2, e1, hres⟩
    · exact ⟨_, rfl, a, dx2, _, rfl, eo2, no2 (by decide +kernel), a, l, d.a_SUM_RELATIONS, n, s1, SRELS, _, rfl, by decide, T.t_SUM_RELATIONS _, W2, e1, fun dd H3 k3 hd => kk dd H3 ((k1.trans k2).trans k3) hd⟩
    refine ⟨_, rfl, a, dx2, _, rfl, eo2, no2 (by decide +kernel), a, l, d.a_SUM_RELATIONS, n, s1, SRELS, _, rfl, by decide, T.t_SUM_RELATIONS _, W2, e1, fun v2 H3 k3 W3 hv2 => ?_⟩
    obtain rfl : v2 = .str _ := hv2
    obtain ⟨dx3, fs3, eo3, no3⟩ := W3.ob
    rcases bind_some hres with ⟨k, e2, rfl⟩ | ⟨z, s3, e2, hres⟩
    · exact ⟨_, rfl, _, rfl, _, rfl, a, dx3, _, rfl, eo3, no3 (by decide +kernel), nn, a, l, n, s2, _, rfl, W3, e2, fun dd H4 k4 hd => kk dd H4 (((k1.trans k2).trans k3).trans k4) hd⟩
    refine ⟨_, rfl, _, rfl, _, rfl, a, dx3, _, rfl, eo3, no3 (by decide +kernel), nn, a, l, n, s2, _, rfl, W3, e2, fun v3 H4 k4 W4 hv3 => ⟨four, fun p hp => ?_⟩⟩
    cases hres
    have hv' := ((hv.early k1).kx k3 W.alive.1).kx k4 W.alive.1
    have hv3' := hv3.early ((k1.trans k2).trans k3)
    exact kk _ _ (kx_new (((k1.trans k2).trans k3).trans k4) hp) (W4.same (same_new hp)) (Nw.tup (((k1.trans k2).trans k3).trans k4) hp fun M hM => .cons (.str _) (.cons (.str _) (.cons (hv' M hM) (.cons (hv3' M hM) .nil))))
end
def spBd (C CT : Addr) (dd : Nat) : Sp := fun vs H Q E => ∃ nn : Nat, spP C CT (bodyM nn (termM nn dd)) (fun H H' v t => Nw H H' v (bdD t)) vs H Q E
def sp_Parser_optional_body (_K : PySem.W.Frag) (d : Cd) : Sp := spBd d.C_Parser d.C_TextError 12
section
variable {P : Program} {w : World} {K : PySem.W.Frag} {mg : Str → Option Value} {base : Heap} {d : Cd}
-- def Parser_optional_body: level 48, calls [('Parser_part', 47), ('Parser_passed', 2)], cells [], gens 0, raising True
theorem ok_Parser_optional_body (T : Txt P w K mg base d) (c_Parser_part : MetX P w K mg base 47 d.C_Parser "part" (sp_Parser_part K d)) (c_Parser_passed : Met P w K mg base 2 d.C_Parser "passed" (sp_Parser_passed K d) []) :
    MetX P w K mg base 48 d.C_Parser "optional_body" (sp_Parser_optional_body K d) := by
  refine metX (ps := ["self"]) T.C_Parser.cl T.Parser_optional_body (fun _ _ _ _ _ _ us hl => match us, hl with | [_], _ => rfl) sc_Parser_optional_body (fun vs H Q E h => ?_) (fun f c A outer s H vs Q E hr h => ?_)
  · obtain ⟨nn, h⟩ := h; exact spP_len h
  · obtain ⟨nn, a, l, n, s, res, rfl, W, hres, kk⟩ := h
    refine ⟨_, (pss_cons (ps_set (i := 1) sc_Parser_optional_body.nd rfl (Or.inl rfl) (pe_lst pa_nil))
    (pss_cons (ps_if (pt_val (pe_mt c_Parser_passed hr (by decide) (pv 0) (pa_cons pe_str pa_nil)))
      (pss_cons (ps_expr (pe_bm PySem.F.plainAttrs_list PySem.F.slot_list_append PySem.F.type_list_append mt_append (pv 1) (pa_cons (pe_mtX0 c_Parser_part (takes_of rfl rfl rfl rfl) hr (by decide) (pv 0)) pa_nil)))
      (pss_one (ps_while (passes_of rfl) (pt_val (pe_mt c_Parser_passed hr (by decide) (pv 0) (pa_cons pe_str pa_nil)))
        (pss_one (ps_expr (pe_bm PySem.F.plainAttrs_list PySem.F.slot_list_append PySem.F.type_list_append mt_append (pv 1) (pa_cons (pe_mtX0 c_Parser_part (takes_of rfl rfl rfl rfl) hr (by decide) (pv 0)) pa_nil)))))))
      pss_nil)
    (pss_one (ps_ret (pv 1))))), ?_⟩
    unfold bodyM optM at hres
    refine ⟨Nat.zero_le _, fun D hD => ?_⟩
    have hit : ∀ (σ : L2.St), σ[0]? = some (some (.ref a)) → ItemOk d.C_Parser d.C_TextError a l n E σ (partM nn (termM nn 12)) Prt.d (tMeth d.C_Parser "part" (sp_Parser_part K d) [] E (tVar 0) tNil) := fun σ h0 H2 s2 r2 Qk W2 e2 o2 => by
      obtain ⟨dx2, fs2, eo2, no2⟩ := W2.ob
      exact ⟨_, h0, a, dx2, _, rfl, eo2, no2 (by decide +kernel), nn, a, l, n, s2, r2, rfl, W2, e2, o2⟩
    have shc : Shr (partM nn (termM nn 12)) := part_sh (shr_t nn)
    have kD : Kz (PX.one a) H (upd H D (.lst [])) := Kz.new hD
    have WD := W.same (same_new (o := .lst []) hD)
    have mkD : Mk1 Prt.d H (upd H D (.lst [])) D [] := Mk1.nil (L := PX.one a) (Kz.refl H) hD
    generalize upd H D (.lst []) = HD at kD WD mkD ⊢
    obtain ⟨dx1, fs1, eo1, no1⟩ := WD.ob
    refine ⟨_, rfl, a, dx1, _, rfl, eo1, no1 (by decide +kernel), a, l, n, s, gIf, ar2 sIf, by decide, WD, fun h3 => ⟨_, rfl, iteF' rfl ?_⟩, fun h3 H3 k3 W3 => ⟨_, rfl, iteT' rfl ?_⟩⟩
    · rw [if_neg h3] at hres
      cases hres
      exact ⟨_, rfl, kk _ _ kD WD mkD.nw⟩
    rw [if_pos h3] at hres
    rcases bind_some hres with ⟨k, e2, rfl⟩ | ⟨t, s2, e2, hres⟩
    · exact rd_one (hit _ rfl) rfl (kD.trans k3) W.alive.2 W.alive.1 W3 (mkD.kx k3 W.alive.1) (Nat.zero_le _) e2 (fun k dd H4 e4 k4 hd => by cases e4; exact kk dd H4 k4 hd) (fun x s2 H4 z => nomatch z)
    refine rd_one (hit _ rfl) rfl (kD.trans k3) W.alive.2 W.alive.1 W3 (mkD.kx k3 W.alive.1) (Nat.zero_le _) e2 (fun k dd H4 e4 => nomatch e4) (fun t' s2' H4 z k4 W4 mk4 => ?_)
    cases z
    have ln : ([] ++ [t]).length + s2.r.length ≤ 4001 := by
      have h1 := shc _ _ _ e2
      obtain ⟨_, _, _, _, _, _, _, _, e5⟩ := W.tok
      have h2 : s.nx.r.length + 1 = s.r.length := by have := List.length_pos_iff.mpr W.wt.ne; show s.r.tail.length + 1 = _; rw [List.length_tail]; omega
      have := W.le
      simp only [List.nil_append, List.length_singleton]; omega
    refine rd_many sComma (by decide) shc (hit _ rfl) rfl rfl k4 W.alive.2 W.alive.1 W4 mk4 ln hres (by decide +kernel) (fun k dd H5 e5 k5 hd => by cases e5; exact kk dd H5 k5 hd) (fun xs s7 H5 z k5 W5 mk5 l5 => ?_)
    cases z
    exact ⟨_, rfl, kk _ _ k5 W5 mk5.nw⟩
end
def spCo (C CT : Addr) (dd : Nat) : Sp := fun vs H Q E => ∃ nn : Nat, spP C CT (chooseM nn (termM nn dd)) (fun H H' v t => Nw H H' v t.d) vs H Q E
def sp_Parser_choose (_K : PySem.W.Frag) (d : Cd) : Sp := spCo d.C_Parser d.C_TextError 12
section
variable {P : Program} {w : World} {K : PySem.W.Frag} {mg : Str → Option Value} {base : Heap} {d : Cd}
-- def Parser_choose: level 49, calls [('Parser_choices', 46), ('Parser_optional_body', 48), ('Parser_optional_integer', 5)], cells [], gens 0, raising True
theorem ok_Parser_choose (T : Txt P w K mg base d) (c_Parser_choices : MetX P w K mg base 46 d.C_Parser "choices" (sp_Parser_choices K d)) (c_Parser_optional_body : MetX P w K mg base 48 d.C_Parser "optional_body" (sp_Parser_optional_body K d)) (c_Parser_optional_integer : MetX P w K mg base 5 d.C_Parser "optional_integer" (sp_Parser_optional_integer K d)) :
    MetX P w K mg base 49 d.C_Parser "choose" (sp_Parser_choose K d) := by
  refine metX (ps := ["self"]) T.C_Parser.cl T.Parser_choose (fun _ _ _ _ _ _ us hl => match us, hl with | [_], _ => rfl) sc_Parser_choose (fun vs H Q E h => ?_) (fun f c A outer s H vs Q E hr h => ?_)
  · obtain ⟨nn, h⟩ := h; exact spP_len h
  · obtain ⟨nn, a, l, n, s, res, rfl, W, hres, kk⟩ := h
    refine ⟨_, (pss_cons (ps_set (i := 1) sc_Parser_choose.nd rfl (Or.inl rfl) (pe_mtX0 c_Parser_optional_integer (takes_of rfl rfl rfl rfl) hr (by decide) (pv 0)))
    (pss_cons (ps_set (i := 2) sc_Parser_choose.nd rfl (Or.inl rfl) (pe_mtX0 c_Parser_choices (takes_of rfl rfl rfl rfl) hr (by decide) (pv 0)))
    (pss_cons (ps_set (i := 3) sc_Parser_choose.nd rfl (Or.inl rfl) (pe_mtX0 c_Parser_optional_integer (takes_of rfl rfl rfl rfl) hr (by decide) (pv 0)))
    (pss_one (ps_ret (pe_tup (pa_cons pe_str (pa_cons (pv 1) (pa_cons (pv 2) (pa_cons (pv 3) (pa_cons (pe_mtX0 c_Parser_optional_body (takes_of rfl rfl rfl rfl) hr (by decide) (pv 0)) pa_nil))))))))))), ?_⟩
    unfold chooseM at hres
    obtain ⟨dx, fs, eo, no⟩ := W.ob
    rcases bind_some hres with ⟨k, e, rfl⟩ | ⟨lo, s1, e, hres⟩
    · exact ⟨_, rfl, a, dx, _, rfl, eo, no (by decide +kernel), a, l, n, s, _, rfl, W, e, kk⟩
    refine ⟨_, rfl, a, dx, _, rfl, eo, no (by decide +kernel), a, l, n, s, _, rfl, W, e, fun v1 H1 k1 W1 hv1 => ?_⟩
    obtain rfl : v1 = oI lo := hv1
    obtain ⟨dx1, fs1, eo1, no1⟩ := W1.ob
    rcases bind_some hres with ⟨k, e, rfl⟩ | ⟨ch, s2, e, hres⟩
    · exact ⟨_, rfl, a, dx1, _, rfl, eo1, no1 (by decide +kernel), nn, a, l, n, _, _, rfl, W1, e, fun dd H2 k2 hd => kk dd H2 (k1.trans k2) hd⟩
    refine ⟨_, rfl, a, dx1, _, rfl, eo1, no1 (by decide +kernel), nn, a, l, n, _, _, rfl, W1, e, fun v2 H2 k2 W2 hv2 => ?_⟩
    obtain ⟨dx2, fs2, eo2, no2⟩ := W2.ob
    rcases bind_some hres with ⟨k, e, rfl⟩ | ⟨hi, s3, e, hres⟩
    · exact ⟨_, rfl, a, dx2, _, rfl, eo2, no2 (by decide +kernel), a, l, n, _, _, rfl, W2, e, fun dd H3 k3 hd => kk dd H3 ((k1.trans k2).trans k3) hd⟩
    refine ⟨_, rfl, a, dx2, _, rfl, eo2, no2 (by decide +kernel), a, l, n, _, _, rfl, W2, e, fun v3 H3 k3 W3 hv3 => ?_⟩
    obtain rfl : v3 = oI hi := hv3
    obtain ⟨dx3, fs3, eo3, no3⟩ := W3.ob
    rcases bind_some hres with ⟨k, e, rfl⟩ | ⟨b, s4, e, hres⟩
    · exact ⟨_, rfl, _, rfl, _, rfl, _, rfl, a, dx3, _, rfl, eo3, no3 (by decide +kernel), nn, a, l, n, _, _, rfl, W3, e, fun dd H4 k4 hd => kk dd H4 (((k1.trans k2).trans k3).trans k4) hd⟩
    refine ⟨_, rfl, _, rfl, _, rfl, _, rfl, a, dx3, _, rfl, eo3, no3 (by decide +kernel), nn, a, l, n, _, _, rfl, W3, e, fun v4 H4 k4 W4 hv4 => ⟨(by decide : 5 ≤ sizeLine), fun p hp => ?_⟩⟩
    cases hres
    have h2 := ((hv2.early k1).kx k3 W.alive.1).kx k4 W.alive.1
    have h4 := hv4.early ((k1.trans k2).trans k3)
    exact kk _ _ (kx_new (((k1.trans k2).trans k3).trans k4) hp) (W4.same (same_new hp)) (Nw.tup (((k1.trans k2).trans k3).trans k4) hp fun M hM => .cons (.str _) (.cons (Nw.oI (H := H) lo M hM) (.cons (h2 M hM) (.cons (Nw.oI (H := H) hi M hM) (.cons (h4 M hM) .nil)))))
end
def spBs (C CT : Addr) (dd : Nat) : Sp := fun vs H Q E => ∃ nn : Nat, spP C CT (bareM nn (termM nn dd)) (fun H H' v t => Nw H H' v t.d) vs H Q E
def sp_Parser_bare_statement (_K : PySem.W.Frag) (d : Cd) : Sp := spBs d.C_Parser d.C_TextError 12
section
variable {P : Program} {w : World} {K : PySem.W.Frag} {mg : Str → Option Value} {base : Heap} {d : Cd}
-- def Parser_bare_statement: level 50, calls [('Parser_atom', 42), ('Parser_choose', 49), ('Parser_integer', 4), ('Parser_kind', 1), ('Parser_members', 46), ('Parser_optional_body', 48), ('Parser_passed', 2), ('Parser_text', 1)], cells [], gens 0, raising True
theorem ok_Parser_bare_statement (T : Txt P w K mg base d) (c_Parser_atom : MetX P w K mg base 42 d.C_Parser "atom" (sp_Parser_atom K d)) (c_Parser_choose : MetX P w K mg base 49 d.C_Parser "choose" (sp_Parser_choose K d)) (c_Parser_integer : MetX P w K mg base 4 d.C_Parser "integer" (sp_Parser_integer K d)) (c_Parser_kind : Met P w K mg base 1 d.C_Parser "kind" (sp_Parser_kind K d) []) (c_Parser_members : MetX P w K mg base 46 d.C_Parser "members" (sp_Parser_members K d)) (c_Parser_optional_body : MetX P w K mg base 48 d.C_Parser "optional_body" (sp_Parser_optional_body K d)) (c_Parser_passed : Met P w K mg base 2 d.C_Parser "passed" (sp_Parser_passed K d) []) (c_Parser_text : Met P w K mg base 1 d.C_Parser "text" (sp_Parser_text K d) []) :
    MetX P w K mg base 50 d.C_Parser "bare_statement" (sp_Parser_bare_statement K d) := by
  refine metX (ps := ["self"]) T.C_Parser.cl T.Parser_bare_statement (fun _ _ _ _ _ _ us hl => match us, hl with | [_], _ => rfl) sc_Parser_bare_statement (fun vs H Q E h => ?_) (fun f c A outer s H vs Q E hr h => ?_)
  · obtain ⟨nn, h⟩ := h; exact spP_len h
  · obtain ⟨nn, a, l, n, s, res, rfl, W, hres, kk⟩ := h
    refine ⟨_, (pss_cons (ps_if (pt_cmpR op_eq (pe_mt0 c_Parser_text hr (by decide) (pv 0)) pe_str (nomark _))
      (pss_one (ps_ret (pe_tup (pa_cons pe_str (pa_cons (pe_mtX0 c_Parser_optional_body (takes_of rfl rfl rfl rfl) hr (by decide) (pv 0)) pa_nil)))))
      pss_nil)
    (pss_cons (ps_if (pt_val (pe_mt c_Parser_passed hr (by decide) (pv 0) (pa_cons pe_str pa_nil)))
      (pss_cons (ps_set (i := 1) sc_Parser_bare_statement.nd rfl (Or.inl rfl) (pe_mtX0 c_Parser_integer (takes_of rfl rfl rfl rfl) hr (by decide) (pv 0)))
      (pss_one (ps_ret (pe_tup (pa_cons pe_str (pa_cons (pv 1) (pa_cons (pe_mtX0 c_Parser_integer (takes_of rfl rfl rfl rfl) hr (by decide) (pv 0)) pa_nil)))))))
      pss_nil)
    (pss_cons (ps_if (pt_val (pe_mt c_Parser_passed hr (by decide) (pv 0) (pa_cons pe_str pa_nil)))
      (pss_one (ps_ret (pe_tup (pa_cons pe_str (pa_cons (pe_mtX0 c_Parser_members (takes_of rfl rfl rfl rfl) hr (by decide) (pv 0)) pa_nil)))))
      pss_nil)
    (pss_cons (ps_if (PW.pt (pw_or (pt_cmpR op_eq (pe_mt0 c_Parser_text hr (by decide) (pv 0)) pe_str (nomark _)) (pw_or1 (pt_cmpR op_eq (pe_mt0 c_Parser_kind hr (by decide) (pv 0)) pe_str (nomark _)))))
      (pss_one (ps_ret (pe_mtX0 c_Parser_choose (takes_of rfl rfl rfl rfl) hr (by decide) (pv 0))))
      pss_nil)
    (pss_cons (ps_set (i := 2) sc_Parser_bare_statement.nd rfl (Or.inl rfl) (pe_mtX0 c_Parser_atom (takes_of rfl rfl rfl rfl) hr (by decide) (pv 0)))
    (pss_one (ps_ret (pe_tup (pa_cons pe_str (pa_cons (pv 2) (pa_cons (pe_mtX0 c_Parser_optional_body (takes_of rfl rfl rfl rfl) hr (by decide) (pv 0)) pa_nil))))))))))), ?_⟩
    unfold bareM at hres
    obtain ⟨dx, fs, eo, no⟩ := W.ob
    refine ⟨_, rfl, a, dx, _, rfl, eo, no (by decide +kernel), a, l, n, s, rfl, W, rfl, _, rfl, ite2 (fun h1 => ?_) (fun h1 => ?_)⟩
    · rw [if_pos (S_t sIf h1)] at hres
      rcases bind_some hres with ⟨k, e, rfl⟩ | ⟨x, s1, e, hres⟩
      · exact ⟨_, rfl, a, dx, _, rfl, eo, no (by decide +kernel), nn, a, l, n, s, _, rfl, W, e, kk⟩
      · cases hres
        refine ⟨_, rfl, a, dx, _, rfl, eo, no (by decide +kernel), nn, a, l, n, s, _, rfl, W, e, fun v H1 k1 W1 hv => ⟨two, fun p hp => ?_⟩⟩
        exact kk _ _ (kx_new k1 hp) (W1.same (same_new hp)) (Nw.tup k1 hp fun M hM => .cons (.str _) (.cons (hv M hM) .nil))
    rw [if_neg (S_f sIf h1)] at hres
    refine ⟨_, rfl, a, dx, _, rfl, eo, no (by decide +kernel), a, l, n, s, wRange, ar2 sRange, by decide, W, fun h2 => ⟨_, rfl, iteF' rfl ?_⟩, fun h2 H1 k1 W1 => ⟨_, rfl, iteT' rfl ?_⟩⟩
    · rw [if_neg h2] at hres
      refine ⟨_, rfl, a, dx, _, rfl, eo, no (by decide +kernel), a, l, n, s, wMin, ar2 sMin, by decide, W, fun h3 => ⟨_, rfl, iteF' rfl ?_⟩, fun h3 H1 k1 W1 => ⟨_, rfl, iteT' rfl ?_⟩⟩
      · rw [if_neg h3] at hres
        have hA : ¬ (s.x = gBL ∨ s.k = .int) → tSeq (tAsg (tMeth d.C_Parser "atom" (sp_Parser_atom K d) [] E (tVar 0) tNil) (gName 2)) (tRet (tTup (tCons (tC (.str "rule")) (tCons (tVar 2) (tCons (tMeth d.C_Parser "optional_body" (sp_Parser_optional_body K d) [] E (tVar 0) tNil) tNil))))) { nx := fun _ H' => Q .non H', rt := Q } [some (.ref a), none, none] H := fun h4 => by
          rw [if_neg h4] at hres
          rcases bind_some hres with ⟨k, e, rfl⟩ | ⟨x, s1, e, hres⟩
          · exact ⟨_, rfl, a, dx, _, rfl, eo, no (by decide +kernel), nn, a, l, n, s, _, rfl, W, e, kk⟩
          refine ⟨_, rfl, a, dx, _, rfl, eo, no (by decide +kernel), nn, a, l, n, s, _, rfl, W, e, fun v H1 k1 W1 hv => ?_⟩
          obtain ⟨dx1, fs1, eo1, no1⟩ := W1.ob
          rcases bind_some hres with ⟨k, e1, rfl⟩ | ⟨y, s2, e1, hres⟩
          · exact ⟨_, rfl, _, rfl, a, dx1, _, rfl, eo1, no1 (by decide +kernel), nn, a, l, n, s1, _, rfl, W1, e1, fun dd H2 k2 hd => kk dd H2 (k1.trans k2) hd⟩
          refine ⟨_, rfl, _, rfl, a, dx1, _, rfl, eo1, no1 (by decide +kernel), nn, a, l, n, s1, _, rfl, W1, e1, fun v2 H2 k2 W2 hv2 => ⟨three, fun p hp => ?_⟩⟩
          cases hres
          exact kk _ _ (kx_new (k1.trans k2) hp) (W2.same (same_new hp)) (Nw.tup (k1.trans k2) hp fun M hM => .cons (.str _) (.cons ((hv.kx k2 W.alive.1) M hM) (.cons ((hv2.early k1) M hM) .nil)))
        have hC : s.x = gBL ∨ s.k = .int → tRet (tMeth d.C_Parser "choose" (sp_Parser_choose K d) [] E (tVar 0) tNil) { nx := fun _ H' => Q .non H', rt := Q } [some (.ref a), none, none] H := fun h4 => by
          rw [if_pos h4] at hres
          exact ⟨_, rfl, a, dx, _, rfl, eo, no (by decide +kernel), nn, a, l, n, s, _, rfl, W, hres, kk⟩
        refine ⟨_, rfl, a, dx, _, rfl, eo, no (by decide +kernel), a, l, n, s, rfl, W, rfl, _, rfl, ite2 (fun h4 => ?_) (fun h4 => ?_)⟩
        · exact iteT' rfl (hC (.inl (S_t sBL h4)))
        · refine ⟨_, rfl, a, dx, _, rfl, eo, no (by decide +kernel), a, l, n, s, rfl, W, rfl, _, rfl, ite2 (fun h5 => ?_) (fun h5 => ?_)⟩
          · exact hC (.inr (kS_t (b := .int) h5))
          · exact hA fun z => z.elim (S_f sBL h4) (kS_f (b := .int) h5)
      · rw [if_pos h3] at hres
        obtain ⟨dx1, fs1, eo1, no1⟩ := W1.ob
        rcases bind_some hres with ⟨k, e, rfl⟩ | ⟨x, s1, e, hres⟩
        · exact ⟨_, rfl, a, dx1, _, rfl, eo1, no1 (by decide +kernel), nn, a, l, n, _, _, rfl, W1, e, fun dd H2 k2 hd => kk dd H2 (k1.trans k2) hd⟩
        · cases hres
          refine ⟨_, rfl, a, dx1, _, rfl, eo1, no1 (by decide +kernel), nn, a, l, n, _, _, rfl, W1, e, fun v H2 k2 W2 hv => ⟨two, fun p hp => ?_⟩⟩
          exact kk _ _ (kx_new (k1.trans k2) hp) (W2.same (same_new hp)) (Nw.tup (k1.trans k2) hp fun M hM => .cons (.str _) (.cons ((hv.early k1) M hM) .nil))
    · rw [if_pos h2] at hres
      obtain ⟨dx1, fs1, eo1, no1⟩ := W1.ob
      rcases bind_some hres with ⟨k, e, rfl⟩ | ⟨x, s1, e, hres⟩
      · exact ⟨_, rfl, a, dx1, _, rfl, eo1, no1 (by decide +kernel), a, l, n, _, _, rfl, W1, e, fun dd H2 k2 hd => kk dd H2 (k1.trans k2) hd⟩
      refine ⟨_, rfl, a, dx1, _, rfl, eo1, no1 (by decide +kernel), a, l, n, _, _, rfl, W1, e, fun v H2 k2 W2 hv => ?_⟩
      obtain rfl : v = .int x := hv
      obtain ⟨dx2, fs2, eo2, no2⟩ := W2.ob
      rcases bind_some hres with ⟨k, e1, rfl⟩ | ⟨y, s2, e1, hres⟩
      · exact ⟨_, rfl, _, rfl, a, dx2, _, rfl, eo2, no2 (by decide +kernel), a, l, n, _, _, rfl, W2, e1, fun dd H3 k3 hd => kk dd H3 ((k1.trans k2).trans k3) hd⟩
      refine ⟨_, rfl, _, rfl, a, dx2, _, rfl, eo2, no2 (by decide +kernel), a, l, n, _, _, rfl, W2, e1, fun v2 H3 k3 W3 hv2 => ⟨three, fun p hp => ?_⟩⟩
      obtain rfl : v2 = .int y := hv2
      cases hres
      exact kk _ _ (kx_new ((k1.trans k2).trans k3) hp) (W3.same (same_new hp)) (Nw.tup ((k1.trans k2).trans k3) hp fun M hM => .cons (.str _) (.cons (.int _) (.cons (.int _) .nil)))
end
def spSt (C CT : Addr) (dd : Nat) : Sp := fun vs H Q E => ∃ nn : Nat, spP C CT (stmM nn (termM nn dd)) (fun H H' v t => Nw H H' v t.d) vs H Q E
def sp_Parser_statement (_K : PySem.W.Frag) (d : Cd) : Sp := spSt d.C_Parser d.C_TextError 12
section
variable {P : Program} {w : World} {K : PySem.W.Frag} {mg : Str → Option Value} {base : Heap} {d : Cd}
-- def Parser_statement: level 51, calls [('Parser_bare_statement', 50), ('Parser_skip', 4)], cells [], gens 0, raising True
theorem ok_Parser_statement (T : Txt P w K mg base d) (c_Parser_bare_statement : MetX P w K mg base 50 d.C_Parser "bare_statement" (sp_Parser_bare_statement K d)) (c_Parser_skip : MetX P w K mg base 4 d.C_Parser "skip" (sp_Parser_skip K d)) :
    MetX P w K mg base 51 d.C_Parser "statement" (sp_Parser_statement K d) := by
  refine metX (ps := ["self"]) T.C_Parser.cl T.Parser_statement (fun _ _ _ _ _ _ us hl => match us, hl with | [_], _ => rfl) sc_Parser_statement (fun vs H Q E h => ?_) (fun f c A outer s H vs Q E hr h => ?_)
  · obtain ⟨nn, h⟩ := h; exact spP_len h
  · obtain ⟨nn, a, l, n, s, res, rfl, W, hres, kk⟩ := h
    refine ⟨_, (pss_cons (ps_set (i := 1) sc_Parser_statement.nd rfl (Or.inl rfl) (pe_mtX0 c_Parser_bare_statement (takes_of rfl rfl rfl rfl) hr (by decide) (pv 0)))
    (pss_cons (ps_expr (pe_mtX c_Parser_skip (takes_of rfl rfl rfl rfl) hr (by decide) (pv 0) (pa_cons pe_str pa_nil)))
    (pss_one (ps_ret (pv 1))))), ?_⟩
    unfold stmM at hres
    obtain ⟨dx, fs, eo, no⟩ := W.ob
    rcases bind_some hres with ⟨k, e, rfl⟩ | ⟨x, s1, e, hres⟩
    · exact ⟨_, rfl, a, dx, _, rfl, eo, no (by decide +kernel), nn, a, l, n, s, _, rfl, W, e, kk⟩
    refine ⟨_, rfl, a, dx, _, rfl, eo, no (by decide +kernel), nn, a, l, n, s, _, rfl, W, e, fun v H1 k1 W1 hv => ?_⟩
    obtain ⟨dx1, fs1, eo1, no1⟩ := W1.ob
    rcases bind_some hres with ⟨k, e1, rfl⟩ | ⟨_, s2, e1, hres⟩
    · exact ⟨_, rfl, a, dx1, _, rfl, eo1, no1 (by decide +kernel), a, l, n, _, gDot, _, ar2 sDot, by decide, W1, e1, fun dd H2 k2 hd => kk dd H2 (k1.trans k2) hd⟩
    cases hres
    exact ⟨_, rfl, a, dx1, _, rfl, eo1, no1 (by decide +kernel), a, l, n, _, gDot, _, ar2 sDot, by decide, W1, e1, fun _ H2 k2 W2 _ => ⟨_, rfl, kk _ _ (k1.trans k2) W2 (hv.kx k2 W.alive.1)⟩⟩
end
end K04
set_option Elab.async false
set_option maxRecDepth 100000
set_option maxHeartbeats 4000000
namespace K04
open PySem L2 C8 SX GX LC LG LR SU PM PX
def spChar (f : Nat → Bool) : Sp := fun vs H Q _ => ∃ c, vs = [.str (S [c])] ∧ Q (.bl (f c)) H
def sp_is_lower (_K : PySem.W.Frag) (_ts : Tbs) : Sp := spChar K1.isLower
section
variable {P : Program} {w : World} {K : PySem.W.Frag} {mg : Str → Option Value} {base : Heap} {d : Cd}
-- def is_lower: level 1, calls [], cells [], gens 0, raising False
theorem ok_is_lower (T : Txt P w K mg base d) :
    Cal P w K mg base 1 "is_lower" (sp_is_lower K d.ts) [] := by
  obtain ⟨c, F⟩ := T.«is_lower»
  refine cal (ps := ["char"]) F (fun _ _ _ _ _ _ us hl => match us, hl with | [_], _ => rfl) sc_is_lower (fun vs H Q E h => ?_) (fun f A outer s H vs Q E hr h => ?_)
  · obtain ⟨c, rfl, _⟩ := h; rfl
  · obtain ⟨c, rfl, k⟩ := h
    refine ⟨_, (pss_one (ps_ret (pe_chain op_le_str op_le_str pe_str (pv 0) pe_str))), ?_⟩
    refine ⟨_, rfl, _, _, rfl, rfl, _, rfl, ?_⟩
    rw [le_sign (a := 97) (by decide +kernel)]
    refine ite2 (fun h => ?_) (fun h => ?_)
    · refine ⟨_, _, rfl, rfl, ?_⟩
      rw [sign_le (a := 122) (by decide +kernel)]
      unfold K1.isLower at k; rw [h, Bool.true_and] at k; exact k
    · rw [Bool.not_eq_true] at h; unfold K1.isLower at k; rw [h, Bool.false_and] at k; exact k
end
def sp_is_upper (_K : PySem.W.Frag) (_ts : Tbs) : Sp := spChar K1.isUpper
section
variable {P : Program} {w : World} {K : PySem.W.Frag} {mg : Str → Option Value} {base : Heap} {d : Cd}
-- def is_upper: level 1, calls [], cells [], gens 0, raising False
theorem ok_is_upper (T : Txt P w K mg base d) :
    Cal P w K mg base 1 "is_upper" (sp_is_upper K d.ts) [] := by
  obtain ⟨c, F⟩ := T.«is_upper»
  refine cal (ps := ["char"]) F (fun _ _ _ _ _ _ us hl => match us, hl with | [_], _ => rfl) sc_is_upper (fun vs H Q E h => ?_) (fun f A outer s H vs Q E hr h => ?_)
  · obtain ⟨c, rfl, _⟩ := h; rfl
  · obtain ⟨c, rfl, k⟩ := h
    refine ⟨_, (pss_one (ps_ret (pe_chain op_le_str op_le_str pe_str (pv 0) pe_str))), ?_⟩
    refine ⟨_, rfl, _, _, rfl, rfl, _, rfl, ?_⟩
    rw [le_sign (a := 65) (by decide +kernel)]
    refine ite2 (fun h => ?_) (fun h => ?_)
    · refine ⟨_, _, rfl, rfl, ?_⟩
      rw [sign_le (a := 90) (by decide +kernel)]
      unfold K1.isUpper at k; rw [h, Bool.true_and] at k; exact k
    · rw [Bool.not_eq_true] at h; unfold K1.isUpper at k; rw [h, Bool.false_and] at k; exact k
end
def sp_is_digit (_K : PySem.W.Frag) (_ts : Tbs) : Sp := spChar K1.isDigit
section
variable {P : Program} {w : World} {K : PySem.W.Frag} {mg : Str → Option Value} {base : Heap} {d : Cd}
-- def is_digit: level 1, calls [], cells [], gens 0, raising False
theorem ok_is_digit (T : Txt P w K mg base d) :
    Cal P w K mg base 1 "is_digit" (sp_is_digit K d.ts) [] := by
  obtain ⟨c, F⟩ := T.«is_digit»
  refine cal (ps := ["char"]) F (fun _ _ _ _ _ _ us hl => match us, hl with | [_], _ => rfl) sc_is_digit (fun vs H Q E h => ?_) (fun f A outer s H vs Q E hr h => ?_)
  · obtain ⟨c, rfl, _⟩ := h; rfl
  · obtain ⟨c, rfl, k⟩ := h
    refine ⟨_, (pss_one (ps_ret (pe_chain op_le_str op_le_str pe_str (pv 0) pe_str))), ?_⟩
    refine ⟨_, rfl, _, _, rfl, rfl, _, rfl, ?_⟩
    rw [le_sign (a := 48) (by decide +kernel)]
    refine ite2 (fun h => ?_) (fun h => ?_)
    · refine ⟨_, _, rfl, rfl, ?_⟩
      rw [sign_le (a := 57) (by decide +kernel)]
      unfold K1.isDigit at k; rw [h, Bool.true_and] at k; exact k
    · rw [Bool.not_eq_true] at h; unfold K1.isDigit at k; rw [h, Bool.false_and] at k; exact k
end
def sp_is_word (_K : PySem.W.Frag) (_ts : Tbs) : Sp := spChar K1.isWord
section
variable {P : Program} {w : World} {K : PySem.W.Frag} {mg : Str → Option Value} {base : Heap} {d : Cd}
-- def is_word: level 2, calls [('is_digit', 1), ('is_lower', 1), ('is_upper', 1)], cells [], gens 0, raising False
theorem ok_is_word (T : Txt P w K mg base d) (c_is_digit : Cal P w K mg base 1 "is_digit" (sp_is_digit K d.ts) []) (c_is_lower : Cal P w K mg base 1 "is_lower" (sp_is_lower K d.ts) []) (c_is_upper : Cal P w K mg base 1 "is_upper" (sp_is_upper K d.ts) []) :
    Cal P w K mg base 2 "is_word" (sp_is_word K d.ts) [] := by
  obtain ⟨c, F⟩ := T.«is_word»
  refine cal (ps := ["char"]) F (fun _ _ _ _ _ _ us hl => match us, hl with | [_], _ => rfl) sc_is_word (fun vs H Q E h => ?_) (fun f A outer s H vs Q E hr h => ?_)
  · obtain ⟨c, rfl, _⟩ := h; rfl
  · obtain ⟨c, rfl, k⟩ := h
    refine ⟨_, (pss_one (ps_ret (pe_or (pe_c c_is_lower hr (by decide) rfl (pa_cons (pv 0) pa_nil)) (pe_or (pe_c c_is_upper hr (by decide) rfl (pa_cons (pv 0) pa_nil)) (pe_or (pe_c c_is_digit hr (by decide) rfl (pa_cons (pv 0) pa_nil)) (pe_one (pe_cmpR op_eq (pv 0) pe_str (nomark _)))))))), ?_⟩
    refine ⟨_, rfl, _, rfl, _, rfl, ite2 (fun h1 => ?_) (fun h1 => ?_)⟩
    · unfold K1.isWord at k; rw [h1, Bool.true_or, Bool.true_or, Bool.true_or] at k; exact k
    refine ⟨_, rfl, _, rfl, _, rfl, ite2 (fun h2 => ?_) (fun h2 => ?_)⟩
    · unfold K1.isWord at k; rw [h2, Bool.or_true, Bool.true_or, Bool.true_or] at k; exact k
    refine ⟨_, rfl, _, rfl, _, rfl, ite2 (fun h3 => ?_) (fun h3 => ?_)⟩
    · unfold K1.isWord at k; rw [h3, Bool.or_true, Bool.true_or] at k; exact k
    refine ⟨_, rfl, rfl, ?_⟩
    rw [Bool.not_eq_true] at h1 h2 h3
    unfold K1.isWord at k; rw [h1, h2, h3, Bool.false_or, Bool.false_or, Bool.false_or] at k
    have e : decide (V.str (S [c]) = V.str (Str.ofString "_")) = decide (c = 95) := by
      have e0 : Str.ofString "_" = S [95] := by decide +kernel
      rw [e0]
      by_cases h : c = 95
      · subst h; simp
      · rw [decide_eq_false h, decide_eq_false]
        intro z
        have z1 := V.str.inj z
        have z2 := SX.S_inj z1
        exact h (List.cons.inj z2).1
    rw [e]; exact k
end
def spRun (g : List Nat → Nat → List Nat) : Sp := fun vs H Q _ => ∃ (l : List Nat) (p : Nat), vs = [.str (S l), .int p] ∧ l.length ≤ 4000 ∧ p < l.length ∧ Q (.str (S (g l p))) H
def sp_word_at (_K : PySem.W.Frag) (_ts : Tbs) : Sp := spRun fun l p => (l.drop p).take (K1.wordLen (l.drop (p + 1)))
section
variable {P : Program} {w : World} {K : PySem.W.Frag} {mg : Str → Option Value} {base : Heap} {d : Cd}
-- def word_at: level 3, calls [('is_word', 2)], cells [], gens 0, raising False
theorem ok_word_at (T : Txt P w K mg base d) (c_is_word : Cal P w K mg base 2 "is_word" (sp_is_word K d.ts) []) :
    Cal P w K mg base 3 "word_at" (sp_word_at K d.ts) [] := by
  obtain ⟨c, F⟩ := T.«word_at»
  refine cal (ps := ["text", "at"]) F (fun _ _ _ _ _ _ us hl => match us, hl with | [_, _], _ => rfl) sc_word_at (fun vs H Q E h => ?_) (fun f A outer s H vs Q E hr h => ?_)
  · obtain ⟨l, p, rfl, _⟩ := h; rfl
  · obtain ⟨l, p, rfl, hl, hp, k⟩ := h
    refine ⟨_, (pss_cons (ps_set (i := 2) sc_word_at.nd rfl (Or.inl rfl) (pe_op op_add (pv 1) pe_int))
    (pss_cons (ps_while PassesOwn.never (PW.pt (pw_and (pt_cmpR op_lt (pv 2) (pe_callB call_len_str (by rfl) T.b_len PySem.boot_len (pa_cons (pv 0) pa_nil)) (nomark _)) (pw_and (pt_cmpR op_lt (pe_op op_sub (pv 2) (pv 1)) (pe_gc rfl T.g_LONGEST_WORD) (nomark _)) (pw_and1 (pt_val (pe_c c_is_word hr (by decide) rfl (pa_cons (pe_ix ix_str (pv 0) (pv 2) (fun _ _ => rfl)) pa_nil)))))))
      (pss_one (ps_aug (i := 2) sc_word_at.nd rfl (Or.inl rfl) pe_int ip_add)))
    (pss_one (ps_ret (pe_slice sl_str (pv 0) (po_some (pv 1)) (po_some (pv 2))))))), ?_⟩
    refine ⟨_, rfl, _, _, rfl, rfl, ?_⟩
    have hR := K1.run_le K1.isWord 19 (l.drop (p + 1))
    have hD : (l.drop (p + 1)).length = l.length - (p + 1) := List.length_drop
    refine ⟨fun m σ H' => ∃ j : Nat, H' = H ∧ σ = [some (.str (S l)), some (.int p), some (.int (p + 1 + j : Nat))] ∧ j ≤ K1.run K1.isWord 19 (l.drop (p + 1)) ∧ m = K1.run K1.isWord 19 (l.drop (p + 1)) - j,
      ⟨_, 0, rfl, rfl, Nat.zero_le _, rfl⟩, ?_⟩
    rintro m σ H' ⟨j, rfl, rfl, hj, rfl⟩
    have hat := K1.run_at K1.isWord 19 (l.drop (p + 1)) j hj
    rw [List.getElem?_drop] at hat
    have out : ∀ (hx : ¬ j < K1.run K1.isWord 19 (l.drop (p + 1))), Q (V.str (cutS (S l) (some (p : Int)) (some ((p + 1 + j : Nat) : Int)))) H' := fun hx => by
      have ej : j = K1.run K1.isWord 19 (l.drop (p + 1)) := by omega
      rw [cut_nat l (by omega) (by omega), show p + 1 + j - p = K1.wordLen (l.drop (p + 1)) by unfold K1.wordLen; omega]
      exact k
    refine ⟨_, rfl, _, rfl, _, rfl, S_len4 hl, _, _, rfl, rfl, _, rfl, ite2 (fun h1 => ?_) (fun h1 => ?_)⟩
    · rw [decide_eq_true_eq, S_len] at h1
      have h1' : p + 1 + j < l.length := by omega
      refine ⟨_, rfl, _, rfl, _, _, rfl, rfl, _, _, rfl, rfl, _, rfl, ite2 (fun h2 => ?_) (fun h2 => ?_)⟩
      · rw [decide_eq_true_eq] at h2
        have hc : l[p + 1 + j]? = some l[p + 1 + j] := List.getElem?_eq_getElem h1'
        refine ⟨_, rfl, _, rfl, _, _, _, rfl, rfl, S_len4 hl, at_nat hc, _, rfl, _, rfl, ?_⟩
        refine ite2 (fun h3 => ?_) (fun h3 => ?_)
        · have hlt : j < K1.run K1.isWord 19 (l.drop (p + 1)) := hat.mpr ⟨by omega, _, hc, h3⟩
          refine ⟨_, fun _ _ h => h, ?_⟩
          refine ⟨_, rfl, _, _, rfl, rfl, ?_⟩
          exact ⟨K1.run K1.isWord 19 (l.drop (p + 1)) - (j + 1), by omega, j + 1, rfl, rfl, hlt, rfl⟩
        · refine ⟨_, rfl, _, rfl, _, rfl, _, rfl, _, rfl, _, rfl, S_len4 hl, ?_⟩
          refine out fun hx => ?_
          obtain ⟨_, c, hc', hf⟩ := hat.mp hx
          rw [hc] at hc'; cases hc'; exact h3 hf
      · rw [decide_eq_true_eq] at h2
        refine iteF ⟨_, rfl, _, rfl, _, rfl, _, rfl, _, rfl, _, rfl, S_len4 hl, ?_⟩
        exact out fun hx => by omega
    · rw [decide_eq_true_eq, S_len] at h1
      refine iteF ⟨_, rfl, _, rfl, _, rfl, _, rfl, _, rfl, _, rfl, S_len4 hl, ?_⟩
      exact out fun hx => by omega
end
def sp_integer_at (_K : PySem.W.Frag) (_ts : Tbs) : Sp := spRun fun l p => (l.drop p).take (K1.intLen (l.getD p 0) (l.drop (p + 1)))
section
variable {P : Program} {w : World} {K : PySem.W.Frag} {mg : Str → Option Value} {base : Heap} {d : Cd}
-- def integer_at: level 2, calls [('is_digit', 1)], cells [], gens 0, raising False
theorem ok_integer_at (T : Txt P w K mg base d) (c_is_digit : Cal P w K mg base 1 "is_digit" (sp_is_digit K d.ts) []) :
    Cal P w K mg base 2 "integer_at" (sp_integer_at K d.ts) [] := by
  obtain ⟨c, F⟩ := T.«integer_at»
  refine cal (ps := ["text", "at"]) F (fun _ _ _ _ _ _ us hl => match us, hl with | [_, _], _ => rfl) sc_integer_at (fun vs H Q E h => ?_) (fun f A outer s H vs Q E hr h => ?_)
  · obtain ⟨l, p, rfl, _⟩ := h; rfl
  · obtain ⟨l, p, rfl, hl, hp, k⟩ := h
    refine ⟨_, (pss_cons (ps_if (pt_cmpR op_eq (pe_ix ix_str (pv 0) (pv 1) (fun _ _ => rfl)) pe_str (nomark _))
      (pss_one (ps_ret pe_str))
      pss_nil)
    (pss_cons (ps_set (i := 2) sc_integer_at.nd rfl (Or.inl rfl) (pe_op op_add (pv 1) pe_int))
    (pss_cons (ps_while PassesOwn.never (PW.pt (pw_and (pt_cmpR op_lt (pv 2) (pe_callB call_len_str (by rfl) T.b_len PySem.boot_len (pa_cons (pv 0) pa_nil)) (nomark _)) (pw_and (pt_cmpR op_lt (pe_op op_sub (pv 2) (pv 1)) (pe_gc rfl T.g_LONGEST_INTEGER) (nomark _)) (pw_and1 (pt_val (pe_c c_is_digit hr (by decide) rfl (pa_cons (pe_ix ix_str (pv 0) (pv 2) (fun _ _ => rfl)) pa_nil)))))))
      (pss_one (ps_aug (i := 2) sc_integer_at.nd rfl (Or.inl rfl) pe_int ip_add)))
    (pss_one (ps_ret (pe_slice sl_str (pv 0) (po_some (pv 1)) (po_some (pv 2)))))))), ?_⟩
    have hc0 : l[p]? = some l[p] := List.getElem?_eq_getElem hp
    have hg : l.getD p 0 = l[p] := by rw [List.getD_eq_getElem?_getD, hc0, Option.getD_some]
    dsimp only at k
    rw [hg] at k
    refine ⟨_, rfl, _, rfl, _, _, _, rfl, rfl, S_len4 hl, at_nat hc0, rfl, _, rfl, ?_⟩
    rw [eq_sign (a := 48) (by decide +kernel)]
    refine ite2 (fun h0 => ?_) (fun h0 => ?_)
    · rw [decide_eq_true_eq] at h0
      unfold K1.intLen at k
      rw [if_pos h0, List.drop_eq_getElem_cons hp, h0] at k
      exact k
    rw [decide_eq_true_eq] at h0
    unfold K1.intLen at k
    rw [if_neg h0] at k
    refine ⟨_, rfl, _, _, rfl, rfl, ?_⟩
    have hR := K1.run_le K1.isDigit 3 (l.drop (p + 1))
    have hD : (l.drop (p + 1)).length = l.length - (p + 1) := List.length_drop
    refine ⟨fun m σ H' => ∃ j : Nat, H' = H ∧ σ = [some (.str (S l)), some (.int p), some (.int (p + 1 + j : Nat))] ∧ j ≤ K1.run K1.isDigit 3 (l.drop (p + 1)) ∧ m = K1.run K1.isDigit 3 (l.drop (p + 1)) - j,
      ⟨_, 0, rfl, rfl, Nat.zero_le _, rfl⟩, ?_⟩
    rintro m σ H' ⟨j, rfl, rfl, hj, rfl⟩
    have hat := K1.run_at K1.isDigit 3 (l.drop (p + 1)) j hj
    rw [List.getElem?_drop] at hat
    have out : ∀ (hx : ¬ j < K1.run K1.isDigit 3 (l.drop (p + 1))), Q (V.str (cutS (S l) (some (p : Int)) (some ((p + 1 + j : Nat) : Int)))) H' := fun hx => by
      have ej : j = K1.run K1.isDigit 3 (l.drop (p + 1)) := by omega
      rw [cut_nat l (by omega) (by omega), show p + 1 + j - p = 1 + K1.run K1.isDigit 3 (l.drop (p + 1)) by omega]
      exact k
    refine ⟨_, rfl, _, rfl, _, rfl, S_len4 hl, _, _, rfl, rfl, _, rfl, ite2 (fun h1 => ?_) (fun h1 => ?_)⟩
    · rw [decide_eq_true_eq, S_len] at h1
      have h1' : p + 1 + j < l.length := by omega
      refine ⟨_, rfl, _, rfl, _, _, rfl, rfl, _, _, rfl, rfl, _, rfl, ite2 (fun h2 => ?_) (fun h2 => ?_)⟩
      · rw [decide_eq_true_eq] at h2
        have hc : l[p + 1 + j]? = some l[p + 1 + j] := List.getElem?_eq_getElem h1'
        refine ⟨_, rfl, _, rfl, _, _, _, rfl, rfl, S_len4 hl, at_nat hc, _, rfl, _, rfl, ?_⟩
        refine ite2 (fun h3 => ?_) (fun h3 => ?_)
        · have hlt : j < K1.run K1.isDigit 3 (l.drop (p + 1)) := hat.mpr ⟨by omega, _, hc, h3⟩
          refine ⟨_, fun _ _ h => h, ?_⟩
          refine ⟨_, rfl, _, _, rfl, rfl, ?_⟩
          exact ⟨K1.run K1.isDigit 3 (l.drop (p + 1)) - (j + 1), by omega, j + 1, rfl, rfl, hlt, rfl⟩
        · refine ⟨_, rfl, _, rfl, _, rfl, _, rfl, _, rfl, _, rfl, S_len4 hl, ?_⟩
          refine out fun hx => ?_
          obtain ⟨_, c, hc', hf⟩ := hat.mp hx
          rw [hc] at hc'; cases hc'; exact h3 hf
      · rw [decide_eq_true_eq] at h2
        refine iteF ⟨_, rfl, _, rfl, _, rfl, _, rfl, _, rfl, _, rfl, S_len4 hl, ?_⟩
        exact out fun hx => by omega
    · rw [decide_eq_true_eq, S_len] at h1
      refine iteF ⟨_, rfl, _, rfl, _, rfl, _, rfl, _, rfl, _, rfl, S_len4 hl, ?_⟩
      exact out fun hx => by omega
end
def spSignX (C : Addr) : Sp := fun vs H Q E => ∃ (l : List Nat) (p : Nat), vs = [.str (S l), .int p] ∧ l.length ≤ 4000 ∧ p < l.length ∧ (∀ g, K1.sigAt (l.drop p) = some g → Q (.str (S g)) H) ∧
  (K1.sigAt (l.drop p) = none → ∀ d, H d = none → E (.ref C) (some d) (upd H d (.xd [("at", .int p)])))
def sp_sign_at (_K : PySem.W.Frag) (d : Cd) : Sp := spSignX d.C_TextError
section
variable {P : Program} {w : World} {K : PySem.W.Frag} {mg : Str → Option Value} {base : Heap} {d : Cd}
-- def sign_at: level 3, calls [], cells [], gens 0, raising True
theorem ok_sign_at (T : Txt P w K mg base d) :
    CalX P w K mg base 3 "sign_at" (sp_sign_at K d) := by
  obtain ⟨c, F⟩ := T.«sign_at»
  refine calX (ps := ["text", "at"]) F (fun _ _ _ _ _ _ us hl => match us, hl with | [_, _], _ => rfl) sc_sign_at (fun vs H Q E h => ?_) (fun f A outer s H vs Q E hr h => ?_)
  · obtain ⟨l, p, rfl, _⟩ := h; rfl
  · obtain ⟨l, p, rfl, hl, hp, k1, k2⟩ := h
    refine ⟨_, (pss_cons (ps_for (passes_of rfl) rfl (pit (K := K) rfl (pe_gc rfl T.g_SIGNS)) (pg_name (i := 2) sc_sign_at.nd rfl (Or.inl rfl))
      (pss_one (ps_if (pt_val (pe_bm PySem.F.plainAttrs_str PySem.F.slot_str_startswith PySem.F.type_str_startswith mt_startswith3 (pv 0) (pa_cons (pv 2) (pa_cons (pv 1) pa_nil))))
        (pss_one (ps_ret (pv 2)))
        pss_nil)))
    (pss_one (ps_err T.TextError hr (by decide) (by rfl) (pa_cons (pe_joined (.cons pe_str (.cons (pe_fmt (pv 1)) (.cons pe_str .nil)))) (pa_cons (pv 1) pa_nil))))), ?_⟩
    refine ⟨_, rfl, ⟨_, T.t_SIGNS _⟩, for_tup (K := K) (a := d.a_SIGNS) (xs := K1.sigs.map fun g => V.str (S g)) (fun i σ H' => H' = H ∧ (∃ v, σ = [some (.str (S l)), some (.int p), v]) ∧ (K1.sigs.drop i).find? (fun g => TL.pre g (l.drop p)) = K1.sigAt (l.drop p))
      ⟨rfl, ⟨_, rfl⟩, rfl⟩ (fun i σ H' _ _ => T.t_SIGNS _) ?_ ?_⟩
    · rintro i x σ H' hx ⟨rfl, ⟨v, rfl⟩, hf⟩
      rw [List.getElem?_map] at hx
      obtain ⟨s, hs, rfl⟩ := Option.map_eq_some_iff.mp hx
      have hs2 : s.length ≤ 2 := by
        obtain ⟨_, _, _, _, _, _, _, _, _, h⟩ := K1.sig_heads s (List.mem_of_getElem? hs)
        exact h
      refine ⟨_, rfl, rfl, _, rfl, _, rfl, _, _, _, rfl, rfl, _, rfl, ?_⟩
      rw [starts_at l s hp hs2]
      obtain ⟨hi, e⟩ := List.getElem?_eq_some_iff.mp hs
      rw [List.drop_eq_getElem_cons hi, e] at hf
      refine ite2 (fun h => ?_) (fun h => ?_)
      · simp only [List.find?_cons, h] at hf
        exact ⟨_, rfl, k1 s hf.symm⟩
      · simp only [List.find?_cons, h] at hf
        exact ⟨rfl, ⟨_, rfl⟩, hf⟩
    · rintro σ H' ⟨rfl, ⟨v, rfl⟩, hf⟩
      rw [List.length_map, List.drop_length] at hf
      have s0 : Str.empty.length = 0 := rfl
      have s1 : (Str.ofString "the character at ").length = 17 := by decide +kernel
      have s2 : (Str.ofString " belongs to no token").length = 20 := by decide +kernel
      have s3 := int_short (i := p) (by omega)
      refine ⟨_, rfl, ?_, _, rfl, .inr ⟨_, rfl, int_log (by omega), _, rfl, ?_, _, rfl, ?_, _, rfl, mkErr (k2 hf.symm)⟩⟩
      · rw [sizeLine_eq, app_len]; omega
      · rw [sizeLine_eq, app_len, app_len]; omega
      · rw [sizeLine_eq, app_len, app_len, app_len]; omega
end
def spTokenAt : Sp := fun vs H Q _ => ∃ (l : List Nat) (p : Nat) (k : K1.Kind) (t : List Nat), vs = [.str (S l), .int p] ∧ l.length ≤ 4000 ∧ p < l.length ∧ K1.tok1 (l.drop p) = some (k, t) ∧
  ∀ a, H a = none → Q (.ref a) (upd H a (.tup [.str (K1.kStr k), .str (S t), .int p]))
def sp_token_at (_K : PySem.W.Frag) (_d : Cd) : Sp := spTokenAt
section
variable {P : Program} {w : World} {K : PySem.W.Frag} {mg : Str → Option Value} {base : Heap} {d : Cd}
-- def token_at: level 4, calls [('integer_at', 2), ('is_digit', 1), ('is_lower', 1), ('is_upper', 1), ('sign_at', 3), ('word_at', 3)], cells [], gens 0, raising True
theorem ok_token_at (T : Txt P w K mg base d) (c_integer_at : Cal P w K mg base 2 "integer_at" (sp_integer_at K d.ts) []) (c_is_digit : Cal P w K mg base 1 "is_digit" (sp_is_digit K d.ts) []) (c_is_lower : Cal P w K mg base 1 "is_lower" (sp_is_lower K d.ts) []) (c_is_upper : Cal P w K mg base 1 "is_upper" (sp_is_upper K d.ts) []) (c_sign_at : CalX P w K mg base 3 "sign_at" (sp_sign_at K d)) (c_word_at : Cal P w K mg base 3 "word_at" (sp_word_at K d.ts) []) :
    CalX P w K mg base 4 "token_at" (sp_token_at K d) := by
  obtain ⟨c, F⟩ := T.«token_at»
  refine calX (ps := ["text", "at"]) F (fun _ _ _ _ _ _ us hl => match us, hl with | [_, _], _ => rfl) sc_token_at (fun vs H Q E h => ?_) (fun f A outer s H vs Q E hr h => ?_)
  · obtain ⟨l, p, k, t, rfl, _⟩ := h; rfl
  · obtain ⟨l, p, k, t, rfl, hl, hp, ht, kk⟩ := h
    refine ⟨_, (pss_cons (ps_set (i := 2) sc_token_at.nd rfl (Or.inl rfl) (pe_ix ix_str (pv 0) (pv 1) (fun _ _ => rfl)))
    (pss_cons (ps_if (pt_val (pe_c c_is_lower hr (by decide) rfl (pa_cons (pv 2) pa_nil)))
      (pss_one (ps_ret (pe_tup (pa_cons pe_str (pa_cons (pe_c c_word_at hr (by decide) rfl (pa_cons (pv 0) (pa_cons (pv 1) pa_nil))) (pa_cons (pv 1) pa_nil))))))
      pss_nil)
    (pss_cons (ps_if (pt_val (pe_c c_is_upper hr (by decide) rfl (pa_cons (pv 2) pa_nil)))
      (pss_one (ps_ret (pe_tup (pa_cons pe_str (pa_cons (pe_c c_word_at hr (by decide) rfl (pa_cons (pv 0) (pa_cons (pv 1) pa_nil))) (pa_cons (pv 1) pa_nil))))))
      pss_nil)
    (pss_cons (ps_if (pt_val (pe_c c_is_digit hr (by decide) rfl (pa_cons (pv 2) pa_nil)))
      (pss_one (ps_ret (pe_tup (pa_cons pe_str (pa_cons (pe_c c_integer_at hr (by decide) rfl (pa_cons (pv 0) (pa_cons (pv 1) pa_nil))) (pa_cons (pv 1) pa_nil))))))
      pss_nil)
    (pss_one (ps_ret (pe_tup (pa_cons pe_str (pa_cons (pe_cX c_sign_at (takes_of rfl rfl rfl rfl) hr (by decide) rfl (pa_cons (pv 0) (pa_cons (pv 1) pa_nil))) (pa_cons (pv 1) pa_nil)))))))))), ?_⟩
    have hc : l[p]? = some l[p] := List.getElem?_eq_getElem hp
    have ed := List.drop_eq_getElem_cons hp
    rw [ed] at ht
    refine ⟨_, rfl, _, rfl, _, _, _, rfl, rfl, S_len4 hl, at_nat hc, ?_⟩
    unfold K1.tok1 at ht
    dsimp only at ht
    refine ⟨_, rfl, _, rfl, _, rfl, ite2 (fun h1 => ?_) (fun h1 => ?_)⟩
    · rw [if_pos h1] at ht
      cases ht
      refine ⟨_, rfl, _, rfl, l, p, rfl, hl, hp, _, rfl, three, fun a ha => ?_⟩
      have := kk a ha
      rw [← ed] at this
      exact this
    rw [if_neg h1] at ht
    refine ⟨_, rfl, _, rfl, _, rfl, ite2 (fun h2 => ?_) (fun h2 => ?_)⟩
    · rw [if_pos h2] at ht
      cases ht
      refine ⟨_, rfl, _, rfl, l, p, rfl, hl, hp, _, rfl, three, fun a ha => ?_⟩
      have := kk a ha
      rw [← ed] at this
      exact this
    rw [if_neg h2] at ht
    refine ⟨_, rfl, _, rfl, _, rfl, ite2 (fun h3 => ?_) (fun h3 => ?_)⟩
    · rw [if_pos h3] at ht
      cases ht
      refine ⟨_, rfl, _, rfl, l, p, rfl, hl, hp, _, rfl, three, fun a ha => ?_⟩
      have := kk a ha
      rw [← ed] at this
      dsimp only
      rw [show l.getD p 0 = l[p] by rw [List.getD_eq_getElem?_getD, hc, Option.getD_some]]
      exact this
    rw [if_neg h3] at ht
    obtain ⟨g, hg, e⟩ := Option.map_eq_some_iff.mp ht
    cases e
    refine ⟨_, rfl, _, rfl, l, p, rfl, hl, hp, fun g hg2 => ?_, fun hn => ?_⟩
    · rw [ed, hg] at hg2
      cases hg2
      exact ⟨_, rfl, three, fun a ha => kk a ha⟩
    · rw [ed, hg] at hn; cases hn
end
def spTokens : Sp := fun vs H Q _ => ∃ (l : List Nat) (ts : List Tk), vs = [.str (S l)] ∧ l.length ≤ 4000 ∧ K1.Lex 0 l ts ∧ ∀ a xs H', Same H H' → H a = none → H' a = some (.lst xs) → ToksAt H' xs ts → Q (.ref a) H'
def sp_tokens (_K : PySem.W.Frag) (_d : Cd) : Sp := spTokens
section
variable {P : Program} {w : World} {K : PySem.W.Frag} {mg : Str → Option Value} {base : Heap} {d : Cd}
-- def tokens: level 5, calls [('token_at', 4)], cells [], gens 0, raising True
theorem ok_tokens (T : Txt P w K mg base d) (c_token_at : CalX P w K mg base 4 "token_at" (sp_token_at K d)) :
    CalX P w K mg base 5 "tokens" (sp_tokens K d) := by
  obtain ⟨c, F⟩ := T.«tokens»
  refine calX (ps := ["text"]) F (fun _ _ _ _ _ _ us hl => match us, hl with | [_], _ => rfl) sc_tokens (fun vs H Q E h => ?_) (fun f A outer s H vs Q E hr h => ?_)
  · obtain ⟨l, ts, rfl, _⟩ := h; rfl
  · obtain ⟨l, ts, rfl, hl, hlex, kk⟩ := h
    refine ⟨_, (pss_cons (ps_if (pt_cmpR op_gt (pe_callB call_len_str (by rfl) T.b_len PySem.boot_len (pa_cons (pv 0) pa_nil)) (pe_gc rfl T.g_LONGEST_TEXT) (nomark _))
      (pss_one (ps_err T.TextError hr (by decide) (by rfl) (pa_cons (pe_joined (.cons pe_str (.cons (pe_fmt (pe_gc rfl T.g_LONGEST_TEXT)) (.cons pe_str .nil)))) (pa_cons pe_int pa_nil))))
      pss_nil)
    (pss_cons (ps_set (i := 1) sc_tokens.nd rfl (Or.inl rfl) (pe_lst pa_nil))
    (pss_cons (ps_set (i := 2) sc_tokens.nd rfl (Or.inl rfl) pe_int)
    (pss_cons (ps_while (passes_of rfl) (pt_cmpR op_lt (pv 2) (pe_callB call_len_str (by rfl) T.b_len PySem.boot_len (pa_cons (pv 0) pa_nil)) (nomark _))
      (pss_one (ps_if (pt_cmpR (opin (K := K) rfl) (pe_ix ix_str (pv 0) (pv 2) (fun _ _ => rfl)) (pe_tup (pa_cons pe_str (pa_cons pe_str pa_nil))) rfl)
        (pss_one (ps_aug (i := 2) sc_tokens.nd rfl (Or.inl rfl) pe_int ip_add))
        (pss_cons (ps_set (i := 3) sc_tokens.nd rfl (Or.inl rfl) (pe_cX c_token_at (takes_of rfl rfl rfl rfl) hr (by decide) rfl (pa_cons (pv 0) (pa_cons (pv 2) pa_nil))))
        (pss_cons (ps_expr (pe_bm PySem.F.plainAttrs_list PySem.F.slot_list_append PySem.F.type_list_append mt_append (pv 1) (pa_cons (pv 3) pa_nil)))
        (pss_one (ps_aug (i := 2) sc_tokens.nd rfl (Or.inl rfl) (pe_callB call_len_str (by rfl) T.b_len PySem.boot_len (pa_cons (pe_ix (ixt (K := K) rfl) (pv 3) pe_int (fun _ _ => rfl)) pa_nil)) ip_add)))))))
    (pss_cons (ps_expr (pe_bm PySem.F.plainAttrs_list PySem.F.slot_list_append PySem.F.type_list_append mt_append (pv 1) (pa_cons (pe_tup (pa_cons pe_str (pa_cons pe_str (pa_cons (pe_callB call_len_str (by rfl) T.b_len PySem.boot_len (pa_cons (pv 0) pa_nil)) pa_nil)))) pa_nil)))
    (pss_one (ps_ret (pv 1)))))))), ?_⟩
    refine ⟨_, rfl, _, rfl, S_len4 hl, _, _, rfl, rfl, _, rfl, ?_⟩
    refine ite2 (fun h1 => ?_) (fun _ => ?_)
    · rw [decide_eq_true_eq, S_len] at h1; omega
    refine ⟨Nat.zero_le _, fun a ha => ?_⟩
    refine ⟨fun m σ H' => ∃ (n : Nat) (xs : List V) (done rest : List Tk) (v : Option V), σ = [some (.str (S l)), some (.ref a), some (.int n), v] ∧ H' a = some (.lst xs) ∧ Same H H' ∧ ToksAt H' xs done ∧ done ++ rest = ts ∧ K1.Lex n (l.drop n) rest ∧
      n ≤ l.length ∧ xs.length ≤ n ∧ m = l.length - n, ⟨_, 0, [], [], ts, none, rfl, upd_same, Same.new ha, .nil, rfl, hlex, Nat.zero_le _, Nat.zero_le _, rfl⟩, ?_⟩
    rintro m σ H' ⟨n, xs, done, rest, v, rfl, hA, hS, hT, rfl, hx, hn, hxs, rfl⟩
    refine ⟨_, rfl, _, rfl, _, rfl, S_len4 hl, _, _, rfl, rfl, _, rfl, ite2 (fun h1 => ?_) (fun h1 => ?_)⟩
    · rw [decide_eq_true_eq, S_len] at h1
      have h1' : n < l.length := by omega
      have hc : l[n]? = some l[n] := List.getElem?_eq_getElem h1'
      have ed := List.drop_eq_getElem_cons h1'
      refine ⟨_, fun _ _ h => h, ?_⟩
      refine ⟨_, rfl, _, rfl, _, _, _, rfl, rfl, S_len4 hl, at_nat hc, (by show 2 ≤ sizeLine; decide), fun q hq => ?_⟩
      refine ⟨q, _, rfl, .inr (SqT.of upd_same), rfl, rfl, _, rfl, ?_⟩
      have eI : (if false = true then !inV (V.str (S [l[n]])) [.str (Str.ofString " "), .str (Str.ofString "\n")] else inV (V.str (S [l[n]])) [.str (Str.ofString " "), .str (Str.ofString "\n")]) = decide (l[n] = 32 ∨ l[n] = 10) := by
        rw [if_neg Bool.false_ne_true]; exact inV_ws _
      have nqa : a ≠ q := ne_of_none hA hq
      have hSq : Same H' (upd H' q (.tup [.str (Str.ofString " "), .str (Str.ofString "\n")])) := Same.new hq
      refine ite2 (fun h2 => ?_) (fun h2 => ?_)
      · rw [show ((if false = true then !inV (V.str ⟨#[l[n]]⟩) [.str (Str.ofString " "), .str (Str.ofString "\n")] else inV (V.str ⟨#[l[n]]⟩) [.str (Str.ofString " "), .str (Str.ofString "\n")]) = true) = (decide (l[n] = 32 ∨ l[n] = 10) = true) from congrArg (· = true) eI] at h2
        rw [decide_eq_true_eq] at h2
        refine ⟨_, rfl, _, _, rfl, rfl, ?_⟩
        rw [ed] at hx
        cases hx with
        | ws _ hr' => exact ⟨_, Nat.lt_of_lt_of_le (by omega : l.length - (n + 1) < l.length - n) (Nat.le_refl _), n + 1, xs, done, rest, v, rfl, by rw [upd_ne nqa]; exact hA, hS.trans hSq, (keepT_of hSq).toks hT, rfl, hr', h1', by omega, rfl⟩
        | tok hw _ _ _ _ => exact absurd h2 (by omega)
      · rw [show ((if false = true then !inV (V.str ⟨#[l[n]]⟩) [.str (Str.ofString " "), .str (Str.ofString "\n")] else inV (V.str ⟨#[l[n]]⟩) [.str (Str.ofString " "), .str (Str.ofString "\n")]) = true) = (decide (l[n] = 32 ∨ l[n] = 10) = true) from congrArg (· = true) eI] at h2
        rw [decide_eq_true_eq] at h2
        have hx' := hx
        rw [ed] at hx'
        generalize er : l.drop (n + 1) = r at hx'
        cases hx' with
        | ws hw _ => exact absurd hw h2
        | @tok _ _ _ t k ts' hw htok hne hle hr' =>
          refine ⟨_, rfl, _, rfl, l, n, k, t, rfl, hl, h1', by rw [ed, er]; exact htok, fun b hb => ?_⟩
          have hb' : H' b = none := hSq.free hb
          have nab : a ≠ b := ne_of_none hA hb'
          have hSb := hSq.trans (Same.new (o := .tup [.str (K1.kStr k), .str (S t), .int n]) hb)
          have hA2 := hSb _ _ hA
          have hlen : l.drop n = l[n] :: r := by rw [ed, er]
          have hrl : r.length + 1 = l.length - n := by
            have := congrArg List.length hlen
            rw [List.length_drop, List.length_cons] at this; omega
          have ht0 : 0 < t.length := List.length_pos_iff.mpr hne
          refine ⟨_, rfl, .inl ⟨rfl, _, SqL.of hA2⟩, _, rfl, a, xs, _, rfl, rfl, hA2, Nat.lt_of_le_of_lt (by omega : xs.length ≤ 4000) (by decide), ?_⟩
          refine ⟨_, rfl, _, rfl, _, _, _, _, rfl, rfl, SqT.of (by rw [upd_ne nab.symm]; exact upd_same), (show atI _ ((1 : Nat) : Int) = _ from atI_nat rfl), _, rfl, by rw [S_len]; exact sz (by omega), ?_⟩
          refine ⟨_, _, rfl, rfl, ?_⟩
          have e1 : (n : Int) + ((S t).length : Nat) = ((n + t.length : Nat) : Int) := by rw [S_len]; omega
          have kT : KeepT H' (upd (upd (upd H' q (.tup [.str (Str.ofString " "), .str (Str.ofString "\n")])) b (.tup [.str (K1.kStr k), .str (S t), .int n])) a (.lst (xs ++ [.ref b]))) := (keepT_of hSb).put hA2
          refine ⟨_, (by omega : l.length - (n + t.length) < l.length - n), n + t.length, xs ++ [.ref b], done ++ [(k, t, n)], ts', some (.ref b), ?_, upd_same, ?_, ?_, ?_, ?_, by omega, by rw [List.length_append, List.length_singleton]; omega, rfl⟩
          · show [some (V.str (S l)), some (V.ref a), some (V.int ((n : Int) + ((S t).length : Nat))), some (V.ref b)] = _
            rw [e1]
          · exact Same.put (hS.trans hSb) ha
          · exact toks_snoc ⟨b, rfl, by rw [upd_ne nab.symm]; exact upd_same⟩ (kT.toks hT)
          · rw [List.append_assoc]; rfl
          · rw [← hlen, List.drop_drop] at hr'
            exact hr'
    · rw [decide_eq_true_eq, S_len] at h1
      have en : n = l.length := by omega
      subst en
      rw [List.drop_length] at hx
      cases hx
      refine ⟨_, rfl, .inl ⟨rfl, _, SqL.of hA⟩, _, rfl, _, rfl, S_len4 hl, three, fun b hb => ?_⟩
      have nab : a ≠ b := ne_of_none hA hb
      refine ⟨a, xs, _, rfl, rfl, by rw [upd_ne nab]; exact hA, Nat.lt_of_le_of_lt (by omega : xs.length ≤ 4000) (by decide), ?_⟩
      refine ⟨_, rfl, ?_⟩
      have hSb := Same.new (o := .tup [.str (Str.ofString "end"), .str (Str.ofString ""), .int ((S l).length : Nat)]) hb
      refine kk a (xs ++ [.ref b]) _ (Same.put (hS.trans hSb) ha) ha upd_same (toks_snoc ⟨b, rfl, ?_⟩ (((keepT_of hSb).put (o := .lst (xs ++ [.ref b])) (by rw [upd_ne nab]; exact hA)).toks hT))
      rw [upd_ne nab.symm, S_len]
      exact upd_same
end
end K04
set_option Elab.async false
set_option maxRecDepth 100000
set_option maxHeartbeats 4000000
namespace K04
open PySem L2 C8 SX GX LC LG LR SU PM PX
def spBra (CT : Addr) : Sp := fun vs H Q E => ∃ (l : Addr) (tvs : List V) (toks : List Tk), vs = [.ref l] ∧ H l = some (.lst tvs) ∧ ToksAt H tvs toks ∧ (tooDeep 0 toks = false → Q .non H) ∧ (tooDeep 0 toks = true → ∀ dd, H dd = none → E (.ref CT) (some dd) (upd H dd (.xd [("at", .int 0)])))
def sp_check_brackets (_K : PySem.W.Frag) (d : Cd) : Sp := spBra d.C_TextError
theorem deep_cons (l : Int) (t : Tk) (r : List Tk) : tooDeep l (t :: r) = (decide ((if t.2.1 = gL then l + 1 else if t.2.1 = gR then l - 1 else l) > 10) || tooDeep (if t.2.1 = gL then l + 1 else if t.2.1 = gR then l - 1 else l) r) := rfl
theorem ten_len : (PySem.Str.ofString (toString (10 : Int))).length ≤ 5 := by decide +kernel
section
variable {P : Program} {w : World} {K : PySem.W.Frag} {mg : Str → Option Value} {base : Heap} {d : Cd}
-- def check_brackets: level 3, calls [], cells [], gens 0, raising True
theorem ok_check_brackets (T : Txt P w K mg base d) :
    CalX P w K mg base 3 "check_brackets" (sp_check_brackets K d) := by
  obtain ⟨c, F⟩ := T.«check_brackets»
  refine calX (ps := ["listed"]) F (fun _ _ _ _ _ _ us hl => match us, hl with | [_], _ => rfl) sc_check_brackets (fun vs H Q E h => ?_) (fun f A outer s H vs Q E hr h => ?_)
  · obtain ⟨l, tvs, toks, rfl, _⟩ := h; rfl
  · obtain ⟨l, tvs, toks, rfl, hl, ht, kk0, kk1⟩ := h
    refine ⟨_, (pss_cons (ps_set (i := 1) sc_check_brackets.nd rfl (Or.inl rfl) pe_int)
    (pss_one (ps_for (passes_of rfl) rfl (pil (K := K) rfl (pv 0)) (pgtup (K := K) rfl rfl (pgs_cons (pg_name (i := 2) sc_check_brackets.nd rfl (Or.inl rfl)) (pgs_cons (pg_name (i := 3) sc_check_brackets.nd rfl (Or.inl rfl)) (pgs_cons (pg_name (i := 2) sc_check_brackets.nd rfl (Or.inl rfl)) pgs_nil))))
      (pss_cut (ps_if (pt_cmpR op_eq (pv 3) pe_str (nomark _))
        (pss_one (ps_aug (i := 1) sc_check_brackets.nd rfl (Or.inl rfl) pe_int ip_add))
        (pss_one (ps_if (pt_cmpR op_eq (pv 3) pe_str (nomark _))
          (pss_one (ps_aug (i := 1) sc_check_brackets.nd rfl (Or.inl rfl) pe_int ip_sub))
          pss_nil)))
      (pss_one (ps_if (pt_cmpR op_gt (pv 1) (pe_gc rfl T.g_DEEPEST_BRACKETS) (nomark _))
        (pss_one (ps_err T.TextError hr (by decide) (by rfl) (pa_cons (pe_joined (.cons pe_str (.cons (pe_fmt (pe_gc rfl T.g_DEEPEST_BRACKETS)) (.cons pe_str .nil)))) (pa_cons pe_int pa_nil))))
        pss_nil)))))), ?_⟩
    refine ⟨_, rfl, l, rfl, ⟨_, SqL.of hl⟩, for_list (K := K) (a := l) (xs := tvs) (fun i σ H' => ∃ (lv : Int) (v2 v3 : Option V), σ = [some (.ref l), some (.int lv), v2, v3] ∧ H' = H ∧ tooDeep lv (toks.drop i) = tooDeep 0 toks)
      ⟨0, none, none, rfl, rfl, rfl⟩ (fun i σ H' _ ⟨_, _, _, _, e, _⟩ => by rw [e]; exact SqL.of hl) ?_ ?_⟩
    · rintro i x σ H' hx ⟨lv, v2, v3, rfl, rfl, hd⟩
      have hlen := Paired.length ht
      have hi : i < toks.length := by have := (List.getElem?_eq_some_iff.mp hx).1; omega
      obtain ⟨x', hx', b, rfl, hb⟩ := pair_at ht (List.getElem?_eq_getElem hi)
      rw [hx] at hx'
      cases hx'
      rw [List.drop_eq_getElem_cons hi] at hd
      refine ⟨b, _, rfl, SqT.of hb, rfl, _, _, rfl, _, _, rfl, _, _, rfl, rfl, ?_⟩
      generalize toks[i] = t at hd hb
      refine ⟨fun σ' H'' => ∃ (lv1 : Int) (u2 u3 : Option V), σ' = [some (.ref l), some (.int lv1), u2, u3] ∧ H'' = H' ∧ (decide (lv1 > 10) || tooDeep lv1 (toks.drop (i + 1))) = tooDeep 0 toks, ?_, ?_⟩
      · rw [deep_cons] at hd
        refine ⟨_, rfl, rfl, _, rfl, ite2 (fun h1 => ?_) (fun h1 => ?_)⟩
        · rw [if_pos (S_t sL h1)] at hd
          exact ⟨_, rfl, _, _, rfl, rfl, lv + 1, _, _, rfl, rfl, hd⟩
        · rw [if_neg (S_f sL h1)] at hd
          refine ⟨_, rfl, rfl, _, rfl, ite2 (fun h2 => ?_) (fun h2 => ?_)⟩
          · rw [if_pos (S_t sR h2)] at hd
            exact ⟨_, rfl, _, _, rfl, rfl, lv - 1, _, _, rfl, rfl, hd⟩
          · rw [if_neg (S_f sR h2)] at hd
            exact ⟨lv, _, _, rfl, rfl, hd⟩
      · rintro σ' H'' ⟨lv1, u2, u3, rfl, rfl, hd1⟩
        refine ⟨_, rfl, _, _, rfl, rfl, _, rfl, ite2 (fun h1 => ?_) (fun h1 => ?_)⟩
        · have s0 : Str.empty.length = 0 := rfl
          have s1 : (Str.ofString "brackets are nested more than ").length = 30 := by decide +kernel
          have s2 : (Str.ofString " deep").length = 5 := by decide +kernel
          have s3 := ten_len
          rw [h1, Bool.true_or] at hd1
          refine ⟨_, rfl, ?_, .inr ⟨_, rfl, by decide, _, rfl, ?_, _, rfl, ?_, mkErr fun dd hd => kk1 hd1.symm dd hd⟩⟩
          · rw [sizeLine_eq, PX.app_len]; omega
          · rw [sizeLine_eq, PX.app_len, PX.app_len]; omega
          · rw [sizeLine_eq, PX.app_len, PX.app_len, PX.app_len]; omega
        · rw [Bool.not_eq_true] at h1
          rw [h1, Bool.false_or] at hd1
          exact ⟨lv1, _, _, rfl, rfl, hd1⟩
    · rintro σ H' ⟨lv, v2, v3, rfl, rfl, hd⟩
      rw [Paired.length ht, List.drop_length] at hd
      exact kk0 hd.symm
end
def spCnt : Sp := fun vs H Q _ => ∃ (l : Addr) (tvs : List V) (toks : List Tk), vs = [.ref l] ∧ H l = some (.lst tvs) ∧ ToksAt H tvs toks ∧ toks.length ≤ 4001 ∧ ∀ H', Same H H' → Q (.int (wordsN toks : Nat)) H'
def sp_count_words (_K : PySem.W.Frag) (_ts : Tbs) : Sp := spCnt
theorem words_snoc (ts : List Tk) (t : Tk) : wordsN (ts ++ [t]) = wordsN ts + (if t.1 = .sign then 0 else 1) := by
  unfold wordsN
  rw [List.filter_append, List.length_append]
  congr 1
  by_cases h : t.1 = .sign
  · simp [h]
  · simp [h]
theorem words_le (ts : List Tk) : wordsN ts ≤ ts.length := List.length_filter_le _ _
section
variable {P : Program} {w : World} {K : PySem.W.Frag} {mg : Str → Option Value} {base : Heap} {d : Cd}
-- def count_words: level 1, calls [], cells [], gens 0, raising False
theorem ok_count_words (T : Txt P w K mg base d) :
    Cal P w K mg base 1 "count_words" (sp_count_words K d.ts) [] := by
  obtain ⟨c, F⟩ := T.«count_words»
  refine cal (ps := ["listed"]) F (fun _ _ _ _ _ _ us hl => match us, hl with | [_], _ => rfl) sc_count_words (fun vs H Q E h => ?_) (fun f A outer s H vs Q E hr h => ?_)
  · obtain ⟨l, tvs, toks, rfl, _⟩ := h; rfl
  · obtain ⟨l, tvs, toks, rfl, hl, ht, hle, kk⟩ := h
    refine ⟨_, (pss_one (ps_ret (pe_callB (clen (K := K) rfl) (by rfl) T.b_len PySem.boot_len (pa_cons (pe_lc (own := [("kind", 1), ("_", 2)]) rfl sc_count_words.nd (pil (K := K) rfl (pv 0)) (blkOk_by (N := N_count_words) (sc := fnScope s_count_words) (by decide +kernel)) (fun _ _ _ _ _ => (pgtup (K := K) (n := 3) rfl rfl (pgs_cons (pg_name (i := 1) sc_count_words.nd rfl (Or.inl rfl)) (pgs_cons (pg_name (i := 2) sc_count_words.nd rfl (Or.inl rfl)) (pgs_cons (pg_name (i := 2) sc_count_words.nd rfl (Or.inl rfl)) pgs_nil))))) (fun _ _ _ _ _ => (pts_one (pt_cmpR op_ne (pv 1) pe_str (nomark _)))) (fun _ _ _ _ _ => (pv 1))) pa_nil)))), ?_⟩
    have hlen := Paired.length ht
    refine ⟨_, rfl, l, rfl, ⟨_, SqL.of hl⟩, fun D hD => lc_list (K := K) (a := l) (xs := tvs) (fun i H' => ∃ ys, H' D = some (.lst ys) ∧ Same H H' ∧ ys.length = wordsN (toks.take i)) ⟨[], upd_same, same_new hD, by simp [wordsN]⟩ (fun i H' _ ⟨_, _, s, _⟩ => SqL.of (s _ _ hl)) ?_ ?_⟩
    · rintro i x H' hx ⟨ys, ey, s, ly⟩
      have hi : i < toks.length := by have := (List.getElem?_eq_some_iff.mp hx).1; omega
      obtain ⟨x', hx', b, rfl, hb⟩ := pair_at ht (List.getElem?_eq_getElem hi)
      rw [hx] at hx'
      cases hx'
      have et : toks.take (i + 1) = toks.take i ++ [toks[i]] := by rw [List.take_add_one, List.getElem?_eq_getElem hi]; rfl
      refine ⟨b, _, rfl, SqT.of (s _ _ hb), rfl, _, _, rfl, _, _, rfl, _, _, rfl, rfl, rfl, _, rfl, rfl, _, rfl, ite2 (fun h1 => ?_) (fun h1 => ?_)⟩
      · have h1 := kS_nt (b := .sign) h1
        have hw := words_le (toks.take i)
        rw [List.length_take] at hw
        refine ⟨_, rfl, ys, ey, Nat.lt_of_le_of_lt (by omega : ys.length ≤ 4001) (by decide), ys ++ [_], upd_same, ?_, ?_⟩
        · exact fun b' o e => by rw [upd_ne (ne_of_none e hD)]; exact s b' o e
        · rw [et, words_snoc, if_neg h1, List.length_append, ly]; rfl
      · have h1 := kS_nf (b := .sign) h1
        exact ⟨ys, ey, s, by rw [et, words_snoc, if_pos h1, ly]; rfl⟩
    · rintro H' ⟨ys, ey, s, ly⟩
      rw [hlen, List.take_length] at ly
      refine ⟨D, _, rfl, .inl (SqL.of ey), ?_⟩
      rw [ly]
      exact kk H' s
end
end K04
set_option Elab.async false
set_option maxRecDepth 100000
set_option maxHeartbeats 4000000
namespace K04
open PySem L2 C8 SX GX LC LG LR SU PM PX
def spParse (CT : Addr) : Sp := fun vs H Q E => ∃ (l : List Nat) (ts : List Tk) (nn : Nat) (res : Except Nat (List Stm)), vs = [.str (S l)] ∧ l.length ≤ 4000 ∧ K1.Lex 0 l ts ∧ parseM nn 12 ts = some res ∧ (match res with
  | .ok ss => ∀ v H', Same H H' → Nw H H' v (stD ss) → Q v H'
  | .error k => ∀ dd H', Same H H' → H' dd = none → E (.ref CT) (some dd) (upd H' dd (.xd [("at", .int (k : Nat))])))
def sp_parse (_K : PySem.W.Frag) (d : Cd) : Sp := spParse d.C_TextError
section
variable {P : Program} {w : World} {K : PySem.W.Frag} {mg : Str → Option Value} {base : Heap} {d : Cd}
-- def parse: level 52, calls [('Parser___init__', 1), ('Parser_kind', 1), ('Parser_statement', 51), ('check_brackets', 3), ('count_words', 1), ('tokens', 5)], cells [], gens 0, raising True
theorem ok_parse (T : Txt P w K mg base d) (c_Parser___init__ : Mak P w K mg base 1 "Parser" d.C_Parser (sp_Parser___init__ K d) []) (c_Parser_kind : Met P w K mg base 1 d.C_Parser "kind" (sp_Parser_kind K d) []) (c_Parser_statement : MetX P w K mg base 51 d.C_Parser "statement" (sp_Parser_statement K d)) (c_check_brackets : CalX P w K mg base 3 "check_brackets" (sp_check_brackets K d)) (c_count_words : Cal P w K mg base 1 "count_words" (sp_count_words K d.ts) []) (c_tokens : CalX P w K mg base 5 "tokens" (sp_tokens K d)) :
    CalX P w K mg base 52 "parse" (sp_parse K d) := by
  obtain ⟨c, F⟩ := T.«parse»
  refine calX (ps := ["text"]) F (fun _ _ _ _ _ _ us hl => match us, hl with | [_], _ => rfl) sc_parse (fun vs H Q E h => ?_) (fun f A outer s H vs Q E hr h => ?_)
  · obtain ⟨l, ts, nn, res, rfl, _⟩ := h; rfl
  · obtain ⟨l, ts, nn, res, rfl, hl, hlex, hres, kk⟩ := h
    refine ⟨_, (pss_cons (ps_set (i := 1) sc_parse.nd rfl (Or.inl rfl) (pe_cX c_tokens (takes_of rfl rfl rfl rfl) hr (by decide) rfl (pa_cons (pv 0) pa_nil)))
    (pss_cons (ps_expr (pe_cX c_check_brackets (takes_of rfl rfl rfl rfl) hr (by decide) rfl (pa_cons (pv 1) pa_nil)))
    (pss_cons (ps_set (i := 2) sc_parse.nd rfl (Or.inl rfl) (pe_mk c_Parser___init__ hr (by decide) rfl (pa_cons (pv 1) pa_nil)))
    (pss_cons (ps_set (i := 3) sc_parse.nd rfl (Or.inl rfl) (pe_lst pa_nil))
    (pss_cons (ps_set (i := 4) sc_parse.nd rfl (Or.inl rfl) pe_int)
    (pss_cons (ps_while (passes_of rfl) (pt_cmpR op_ne (pe_mt0 c_Parser_kind hr (by decide) (pv 2)) pe_str (nomark _))
      (pss_cons (ps_set (i := 5) sc_parse.nd rfl (Or.inl rfl) (pe_fld (pv 2) rfl))
      (pss_cons (ps_expr (pe_bm PySem.F.plainAttrs_list PySem.F.slot_list_append PySem.F.type_list_append mt_append (pv 3) (pa_cons (pe_mtX0 c_Parser_statement (takes_of rfl rfl rfl rfl) hr (by decide) (pv 2)) pa_nil)))
      (pss_one (ps_set (i := 4) sc_parse.nd rfl (Or.inl rfl) (pe_callB (call_max2 rfl) (by rfl) T.b_max (by decide +kernel) (pa_cons (pv 4) (pa_cons (pe_c c_count_words hr (by decide) rfl (pa_cons (pe_slice (slL (K := K) rfl) (pv 1) (po_some (pv 5)) (po_some (pe_fld (pv 2) rfl))) pa_nil)) pa_nil))))))))
    (pss_cons (ps_if (pt_cmpR op_gt (pe_callB (clen (K := K) rfl) (by rfl) T.b_len PySem.boot_len (pa_cons (pv 3) pa_nil)) (pe_gc rfl T.g_MOST_STATEMENTS) (nomark _))
      (pss_one (ps_err T.TextError hr (by decide) (by rfl) (pa_cons (pe_joined (.cons pe_str (.cons (pe_fmt (pe_gc rfl T.g_MOST_STATEMENTS)) (.cons pe_str .nil)))) (pa_cons pe_int pa_nil))))
      pss_nil)
    (pss_cons (ps_if (pt_cmpR op_gt (pv 4) (pe_gc rfl T.g_MOST_WORDS) (nomark _))
      (pss_one (ps_err T.TextError hr (by decide) (by rfl) (pa_cons (pe_joined (.cons pe_str (.cons (pe_fmt (pe_gc rfl T.g_MOST_WORDS)) (.cons pe_str .nil)))) (pa_cons pe_int pa_nil))))
      pss_nil)
    (pss_cons (ps_if (pt_cmpR op_gt (pe_fld (pv 2) rfl) (pe_gc rfl T.g_MOST_TERMS) (nomark _))
      (pss_one (ps_err T.TextError hr (by decide) (by rfl) (pa_cons (pe_joined (.cons pe_str (.cons (pe_fmt (pe_gc rfl T.g_MOST_TERMS)) (.cons pe_str .nil)))) (pa_cons pe_int pa_nil))))
      pss_nil)
    (pss_one (ps_ret (pv 3)))))))))))), ?_⟩
    have hwt := lex_wt hlex (by omega)
    have hln := lex_len hlex
    refine ⟨_, rfl, l, ts, rfl, hl, hlex, fun lst tvs H1 s1 nl e1 t1 => ?_⟩
    unfold parseM at hres
    refine ⟨_, rfl, lst, tvs, ts, rfl, e1, t1, fun hb => ?_, fun hb dd hd => ?_⟩
    rotate_left
    · rw [if_pos hb] at hres
      obtain rfl : Except.error 0 = res := Option.some.inj hres
      exact kk dd H1 s1 hd
    rw [hb, if_neg Bool.false_ne_true] at hres
    refine ⟨_, rfl, fun a dx na ndx nex => ?_⟩
    have sU : Same H1 (upd (upd H1 dx (.own a)) a (.ins d.C_Parser dx [])) := fun b o e => by rw [upd_ne (ne_of_none e na), upd_ne (ne_of_none e ndx)]; exact e
    refine ⟨a, lst, dx, ts, tvs, rfl, upd_same, sU _ _ e1, toks_kx t1 (L := fun _ => False) (Kz.of sU) (fun _ _ z => z.elim), hwt, by omega, fun H3 k3 P3 => ⟨rfl, ?_⟩⟩
    have s3 : Same H H3 := k3.same (s1.trans sU) fun b z => by rw [show b = a from z]; exact s1.free na
    have sN : ∀ {H' : Hp}, Kz (PX.one a) H3 H' → Same H H' := fun k => k.same s3 fun b z => by rw [show b = a from z]; exact s1.free na
    have e3 : H3 lst = some (.lst tvs) := k3 lst _ (ne_of_none e1 na) (sU _ _ e1)
    have t3 : ToksAt H3 tvs ts := toks_kx (toks_kx t1 (L := fun _ => False) (Kz.of sU) (fun _ _ z => z.elim)) k3 (fun b ys z q => by rw [show b = a from z, upd_same] at q; cases q)
    have na3 : ∀ (b : Addr) (ys : List V), PX.one a b → H3 b ≠ some (.tup ys) := fun b ys z q => by
      obtain ⟨dx1, p1, tvs1, toks1, e1, _⟩ := P3.ex
      rw [show b = a from z, e1] at q; cases q
    have hlt3 := Paired.length t3
    refine ⟨Nat.zero_le _, fun D hD => ?_⟩
    have hit : ∀ (σ : L2.St), σ[2]? = some (some (.ref a)) → ItemOk d.C_Parser d.C_TextError a lst ts.length E σ (stmM nn (termM nn 12)) Stm.d (tMeth d.C_Parser "statement" (sp_Parser_statement K d) [] E (tVar 2) tNil) := fun σ h0 H2 s2 r2 Qk W2 e2 o2 => by
      obtain ⟨dx2, fs2, eo2, no2⟩ := W2.ob
      exact ⟨_, h0, a, dx2, _, rfl, eo2, no2 (by decide +kernel), nn, a, lst, ts.length, s2, r2, rfl, W2, e2, o2⟩
    have sD : Same H3 (upd H3 D (.lst [])) := same_new hD
    obtain ⟨r0, hr0⟩ : ∃ r0, stmsM (stmM nn (termM nn 12)) nn [] 0 ⟨ts, 0⟩ = some r0 := by
      cases e : stmsM (stmM nn (termM nn 12)) nn [] 0 ⟨ts, 0⟩ with
      | none => rw [e] at hres; cases hres
      | some r => exact ⟨r, rfl⟩
    rw [hr0] at hres
    have mk0 : Mk1 Stm.d H3 (upd H3 D (.lst [])) D [] := Mk1.nil (L := PX.one a) (Kz.refl H3) hD
    refine ⟨fun m σ H' => ∃ (xs : List Stm) (mw : Nat) (s : PM.PS) (v5 : Option V), σ = [some (.str (S l)), some (.ref lst), some (.ref a), some (.ref D), some (.int (mw : Nat)), v5] ∧ Kz (PX.one a) H3 H' ∧ PAt d.C_Parser H' a lst ts.length s ∧ Mk1 Stm.d H3 H' D xs ∧ xs.length + s.r.length ≤ 4001 ∧ stmsM (stmM nn (termM nn 12)) m xs mw s = some r0,
      ⟨nn, [], 0, _, none, rfl, Kz.of sD, P3.same sD, mk0, by show 0 + ts.length ≤ 4001; omega, hr0⟩, ?_⟩
    rintro m σ H4 ⟨xs, mw, s4, v5, rfl, k4, P4, mk4, ln4, e4⟩
    cases m with
    | zero => cases e4
    | succ m =>
      unfold stmsM at e4
      obtain ⟨dx4, fs4, eo4, no4⟩ := P4.ob
      refine ⟨_, rfl, a, dx4, _, rfl, eo4, no4 (by decide +kernel), a, lst, ts.length, s4, rfl, P4, rfl, _, rfl, ite2 (fun h1 => ?_) (fun h1 => ?_)⟩
      · have h1 := kS_nt (b := .fin) h1
        rw [if_neg h1] at e4
        refine ⟨_, fun _ _ z => z, ?_⟩
        obtain ⟨dx5, p5, f1, f2, f3⟩ := P4.place (k4 lst _ P3.ne.symm e3) (toks_kx t3 k4 na3)
        refine ⟨_, rfl, a, d.C_Parser, dx5, _, _, rfl, f1, T.C_Parser.cl, T.n_Parser_place, look_place _ _ _, ?_⟩
        rcases PM.bind_some e4 with ⟨k, e5, rfl⟩ | ⟨x, s6, e5, e4⟩
        · obtain rfl : Except.error k = res := Option.some.inj hres
          exact rd_one (hit _ rfl) rfl k4 P3.alive.2 P3.alive.1 P4 mk4 (by omega) e5 (fun k' dd H5 q k5 hd => by cases q; exact kk dd H5 (sN k5) hd) (fun x s2 H5 z => nomatch z)
        · refine rd_one (hit _ rfl) rfl k4 P3.alive.2 P3.alive.1 P4 mk4 (by omega) e5 (fun k dd H5 z => nomatch z) (fun x' s6' H6 z k6 P6 mk6 => ?_)
          cases z
          have hlt := stm_lt (shr_t nn) e5
          have e6 := k6 lst _ P3.ne.symm e3
          have t6 := toks_kx t3 k6 na3
          obtain ⟨dx6, p6, g1, g2, g3⟩ := P6.place e6 t6
          refine ⟨_, rfl, _, rfl, _, rfl, _, rfl, _, rfl, a, d.C_Parser, dx6, _, _, rfl, g1, T.C_Parser.cl, T.n_Parser_place, look_place _ _ _, _, rfl, lst, tvs, rfl, SqL.of e6, fun q hq => ?_⟩
          rw [cut_nn tvs (by omega) (by omega)]
          have tq : ToksAt H6 ((tvs.drop p5).take (p6 - p5)) (s4.r.take (s4.r.length - s6.r.length)) := by
            rw [← f2, show (ts.drop p5).length - s6.r.length = p6 - p5 by rw [f2]; omega]
            exact pair_take _ (pair_drop _ t6)
          have sq : Same H6 (upd H6 q (.lst ((tvs.drop p5).take (p6 - p5)))) := same_new hq
          refine ⟨q, _, _, rfl, upd_same, toks_kx tq (L := fun _ => False) (Kz.of sq) (fun _ _ z => z.elim), by rw [List.length_take]; omega, fun H7 s7 => ⟨_, _, rfl, ?_⟩⟩
          rw [maxI]
          exact ⟨m, Nat.lt_succ_self m, _, _, s6, _, rfl, k6.trans (Kz.of (sq.trans s7)), P6.same (sq.trans s7), mk6.same (sq.trans s7), by rw [List.length_append, List.length_singleton]; omega, e4⟩
      · have h1 := kS_nf (b := .fin) h1
        rw [if_pos h1] at e4
        obtain rfl : Rs.ok (xs, mw) s4 = r0 := Option.some.inj e4
        have hres : (if xs.length > 60 ∨ mw > 60 ∨ s4.m > 4 then some (Except.error 0) else some (Except.ok xs)) = some res := hres
        obtain ⟨ys, ey, ly, _⟩ := id mk4.ex
        obtain ⟨dx5, fs5, f1, f2, _⟩ := P4.most
        have s0 : Str.empty.length = 0 := rfl
        have w1 : (Str.ofString "the text has more than ").length = 23 := by decide +kernel
        have w2 : (Str.ofString " statements").length = 11 := by decide +kernel
        have w3 : (Str.ofString "a statement has more than ").length = 26 := by decide +kernel
        have w4 : (Str.ofString " names, variables and integers").length = 30 := by decide +kernel
        have w5 : (Str.ofString "an atom has more than ").length = 22 := by decide +kernel
        have w6 : (Str.ofString " terms").length = 6 := by decide +kernel
        have w7 := sixty_len
        have w8 := four_len
        have bad : (xs.length > 60 ∨ mw > 60 ∨ s4.m > 4) → ∀ dd, H4 dd = none → E (.ref d.C_TextError) (some dd) (upd H4 dd (.xd [("at", .int 0)])) := fun z dd hd => by
          rw [if_pos z] at hres
          obtain rfl : Except.error 0 = res := Option.some.inj hres
          exact kk dd H4 (sN k4) hd
        refine ⟨_, rfl, D, _, rfl, .inl (SqL.of ey), _, _, rfl, rfl, _, rfl, ite2 (fun h2 => ?_) (fun h2 => ?_)⟩
        · rw [decide_eq_true_eq] at h2
          refine ⟨_, rfl, ?_, .inr ⟨_, rfl, by decide, _, rfl, ?_, _, rfl, ?_, mkErr (bad (.inl (by omega)))⟩⟩
          · rw [sizeLine_eq, PX.app_len]; omega
          · rw [sizeLine_eq, PX.app_len, PX.app_len]; omega
          · rw [sizeLine_eq, PX.app_len, PX.app_len, PX.app_len]; omega
        rw [decide_eq_true_eq] at h2
        refine ⟨_, rfl, _, _, rfl, rfl, _, rfl, ite2 (fun h3 => ?_) (fun h3 => ?_)⟩
        · rw [decide_eq_true_eq] at h3
          refine ⟨_, rfl, ?_, .inr ⟨_, rfl, by decide, _, rfl, ?_, _, rfl, ?_, mkErr (bad (.inr (.inl (by omega))))⟩⟩
          · rw [sizeLine_eq, PX.app_len]; omega
          · rw [sizeLine_eq, PX.app_len, PX.app_len]; omega
          · rw [sizeLine_eq, PX.app_len, PX.app_len, PX.app_len]; omega
        rw [decide_eq_true_eq] at h3
        refine ⟨_, rfl, a, d.C_Parser, dx5, _, _, rfl, f1, T.C_Parser.cl, T.n_Parser_most_terms, f2, _, _, rfl, rfl, _, rfl, ite2 (fun h4 => ?_) (fun h4 => ?_)⟩
        · rw [decide_eq_true_eq] at h4
          refine ⟨_, rfl, ?_, .inr ⟨_, rfl, by decide, _, rfl, ?_, _, rfl, ?_, mkErr (bad (.inr (.inr (by omega))))⟩⟩
          · rw [sizeLine_eq, PX.app_len]; omega
          · rw [sizeLine_eq, PX.app_len, PX.app_len]; omega
          · rw [sizeLine_eq, PX.app_len, PX.app_len, PX.app_len]; omega
        rw [decide_eq_true_eq] at h4
        rw [if_neg (by omega)] at hres
        obtain rfl : Except.ok xs = res := Option.some.inj hres
        exact ⟨_, rfl, kk _ H4 (sN k4) (fun M hM => mk4.nw M fun b z => by
          obtain ⟨o, e⟩ := hM b z
          exact ⟨o, s3 _ _ e⟩)⟩
end
end K04
set_option Elab.async false
set_option maxRecDepth 100000
set_option maxHeartbeats 4000000
namespace K04
open PySem L2 C8 SX GX LC LG LR SU PM PX PN CwR
abbrev sp__law_state := spState
abbrev sp__law_draw := spDraw
section
variable {P : Program} {w : World} {K : PySem.W.Frag} {mg : Str → Option Value} {base : Heap} {d : Cd}
-- def _law_state: level 1, calls [], cells [], gens 0, raising False
theorem ok__law_state (T : Txt P w K mg base d) :
    Cal P w K mg base 1 "_law_state" (sp__law_state K d.ts) [] := by
  refine cal (ps := ["script"]) T.«_law_state» (fun _ _ _ _ _ _ us hl => match us, hl with | [_], _ => rfl) sc__law_state (fun vs H Q E h => ?_) (fun f A outer s H vs Q E hr h => ?_)
  · obtain ⟨a, ns, rfl, _⟩ := h; rfl
  · obtain ⟨a, ns, rfl, hS, hn, kk⟩ := h
    refine ⟨_, (pss_cons (ps_set (i := 1) sc__law_state.nd rfl (Or.inl rfl) pe_int)
    (pss_cons (ps_for PassesOwn.never rfl (pil (K := K) rfl (pv 0)) (pg_name (i := 2) sc__law_state.nd rfl (Or.inl rfl))
      (pss_one (ps_set (i := 1) sc__law_state.nd rfl (Or.inl rfl) (pe_op op_mod (pe_callTy call_int1 (by rfl) T.b_int (by decide +kernel) (pa_cons (pe_op op_add (pe_op op_mul (pv 1) pe_int) (pv 2)) pa_nil)) pe_int))))
    (pss_one (ps_ret (pe_lst (pa_cons (pe_lc (own := [("cell", 2)]) rfl sc__law_state.nd (pil (K := K) rfl (pv 0)) (blkOk_by (N := N__law_state) (sc := fnScope s__law_state) (by decide +kernel)) (fun _ _ _ _ _ => (pg_name (i := 2) sc__law_state.nd rfl (Or.inl rfl))) (fun _ _ _ _ _ => pts_nil) (fun _ _ _ _ _ => (pe_callB call_abs (by rfl) T.b_abs (by decide +kernel) (pa_cons (pv 2) pa_nil)))) (pa_cons (pe_op op_add (pv 1) pe_int) (pa_cons (pe_op op_mod (pe_callTy call_int1 (by rfl) T.b_int (by decide +kernel) (pa_cons (pv 1) pa_nil)) pe_int) pa_nil)))))))), ?_⟩
    refine ⟨_, rfl, a, rfl, ⟨_, hS⟩, for_list (K := K) (a := a) (xs := ns.map V.int) (fun i σ H' => H' = H ∧ ∃ sd v, σ = [some (.ref a), some (.int sd), v]) ⟨rfl, _, none, rfl⟩ (fun _ _ _ _ ⟨e, _⟩ => e ▸ hS) ?_ ?_⟩
    · rintro i x σ H' hx ⟨rfl, sd, v, rfl⟩
      obtain ⟨z, rfl⟩ := map_int_at hx
      refine ⟨_, rfl, _, _, rfl, rfl, .inr ⟨by decide, by decide⟩, _, rfl, _, _, rfl, rfl, .inl ⟨_, rfl, _, _, rfl, rfl, (by show (0 : Int) < 1000003; decide), rfl, _, _, rfl⟩⟩
    · rintro σ H' ⟨rfl, sd, v, rfl⟩
      refine ⟨_, rfl, a, rfl, ⟨_, hS⟩, fun D hD => lc_list (K := K) (a := a) (xs := ns.map V.int) (fun i H2 => Same H' H2 ∧ ∃ ms : List Int, H2 D = some (.lst (ms.map V.int)) ∧ ms.length = i) ⟨same_new hD, [], upd_same, rfl⟩ (fun i H2 _ h => h.1.seq hS) ?_ ?_⟩
      · rintro i x H2 hx ⟨hs, ms, hD2, hm⟩
        have hi : i < ns.length := by
          have := (List.getElem?_eq_some_iff.mp hx).1; rwa [List.length_map] at this
        obtain ⟨z, rfl⟩ := map_int_at hx
        refine ⟨rfl, ?_⟩
        refine ⟨_, rfl, _, rfl, ms.map V.int, hD2, by rw [List.length_map]; exact Nat.lt_of_le_of_lt (by omega : ms.length ≤ 63) (by decide), same_put hs hD, ms ++ [if z < 0 then -z else z], ?_, by rw [List.length_append, List.length_singleton, hm]⟩
        rw [List.map_append]; exact upd_same
      · rintro H2 ⟨hs, ms, hD2, hm⟩
        rw [List.length_map] at hm
        refine ⟨_, rfl, _, _, rfl, rfl, _, rfl, .inl ⟨_, rfl, _, _, rfl, rfl, (by show (0 : Int) < 4; decide), three, fun st hst => ?_⟩⟩
        have hst' := hs.free hst
        exact kk st D _ (same_put hs hst') hst' hD ⟨_, _, ms, upd_same, by rw [upd_ne (ne_of_none hD2 hst)]; exact hD2, by omega, Int.emod_nonneg _ (by decide), Int.emod_lt_of_pos _ (by decide)⟩
end
section
variable {P : Program} {w : World} {K : PySem.W.Frag} {mg : Str → Option Value} {base : Heap} {d : Cd}
-- def _law_draw: level 1, calls [], cells [], gens 0, raising False
theorem ok__law_draw (T : Txt P w K mg base d) :
    Cal P w K mg base 1 "_law_draw" (sp__law_draw K d.ts) [] := by
  obtain ⟨c, F⟩ := T.«_law_draw»
  refine cal (ps := ["state", "many"]) F (fun _ _ _ _ _ _ us hl => match us, hl with | [_, _], _ => rfl) sc__law_draw (fun vs H Q E h => ?_) (fun f A outer s H vs Q E hr h => ?_)
  · obtain ⟨st, c, M, many, rfl, _⟩ := h; rfl
  · obtain ⟨st, c, M, many, rfl, hm0, hm1, hw, k0⟩ := h
    refine ⟨_, (pss_cons (ps_set (i := 2) sc__law_draw.nd rfl (Or.inl rfl) (pe_ix (ixl (K := K) rfl) (pv 0) pe_int (fun _ _ => rfl)))
    (pss_cons (ps_for PassesOwn.never rfl (pi_range1 rfl T.b_range (pa_cons (pe_callB (clen (K := K) rfl) (by rfl) T.b_len PySem.boot_len (pa_cons (pv 2) pa_nil)) pa_nil)) (pg_name (i := 3) sc__law_draw.nd rfl (Or.inl rfl))
      (pss_one (ps_if (PW.pt (pw_and (pt_cmpR op_eq (pe_ix (ixl (K := K) rfl) (pv 2) pe_int (fun _ _ => rfl)) pe_int (nomark _)) (pw_and1 (pt_cmpR op_gt (pe_callB (clen (K := K) rfl) (by rfl) T.b_len PySem.boot_len (pa_cons (pv 2) pa_nil)) pe_int (nomark _)))))
        (pss_one (ps_expr (pe_bm PySem.F.plainAttrs_list PySem.F.slot_list_pop PySem.F.type_list_pop mt_popAt (pv 2) (pa_cons pe_int pa_nil))))
        pss_nil)))
    (pss_cons (ps_if (PW.pt (pw_and (pt_cmpR op_gt (pe_callB (clen (K := K) rfl) (by rfl) T.b_len PySem.boot_len (pa_cons (pv 2) pa_nil)) pe_int (nomark _)) (pw_and1 (pt_cmpR op_gt (pe_ix (ixl (K := K) rfl) (pv 2) pe_int (fun _ _ => rfl)) pe_int (nomark _)))))
      (pss_cons (ps_set (i := 4) sc__law_draw.nd rfl (Or.inl rfl) (pe_ix (ixl (K := K) rfl) (pv 2) pe_int (fun _ _ => rfl)))
      (pss_cons (ps_asg (pe_op op_fdiv (pv 4) (pv 1)) (pg_sub (pv 2) pe_int set_list))
      (pss_one (ps_ret (pe_op op_mod (pe_callTy call_int1 (by rfl) T.b_int (by decide +kernel) (pa_cons (pv 4) pa_nil)) (pv 1))))))
      pss_nil)
    (pss_cons (ps_set (i := 5) sc__law_draw.nd rfl (Or.inl rfl) (pe_op op_mod (pe_callTy call_int1 (by rfl) T.b_int (by decide +kernel) (pa_cons (pe_op op_add (pe_op op_mul (pe_ix (ixl (K := K) rfl) (pv 0) pe_int (fun _ _ => rfl)) pe_int) pe_int) pa_nil)) pe_int))
    (pss_cons (ps_asg (pv 5) (pg_sub (pv 0) pe_int set_list))
    (pss_one (ps_ret (pe_op op_mod (pe_callTy call_int1 (by rfl) T.b_int (by decide +kernel) (pa_cons (pe_op op_fdiv (pv 5) pe_int) pa_nil)) (pv 1))))))))), ?_⟩
    have kk : ∀ (d : Int) H', 0 ≤ d → d < many → StAt H' st c → Keep2 st c H H' → Q (.int d) H' := fun d H' h1 h2 s k => k0 d H' h1 h2 (hw.draw s k).1 (hw.draw s k).2
    have hst := hw.stat
    have hne := hst.ne
    obtain ⟨sd, kd, ns, h1, h2, hn, hkd⟩ := hst
    refine ⟨_, rfl, st, _, 0, _, rfl, rfl, SqL.of h1, rfl, ?_⟩
    refine ⟨_, rfl, c, _, rfl, .inl (SqL.of h2), _, rfl, by omega, by rw [List.length_map]; omega, ?_⟩
    rw [Int.toNat_natCast, List.length_map]
    refine for_range (lo := 0) (n := ns.length) (fun i σ H' => ∃ (v : Option V) (ms : List Int), σ = [some (.ref st), some (.int many), some (.ref c), v, none, none] ∧ H' st = some (.lst [.ref c, .int sd, .int kd]) ∧ H' c = some (.lst (ms.map V.int)) ∧ ms.length ≤ 63 ∧ (ns.length ≠ 0 → ms ≠ []) ∧ Keep2 st c H H')
      ⟨none, ns, rfl, h1, h2, hn, fun h z => h (by rw [z]; rfl), Keep2.refl H⟩ ?_ ?_
    · rintro i σ H' hi ⟨v, ms, rfl, g1, g2, gm, gne, gk⟩
      have hms := gne (by omega)
      obtain ⟨m0, mr, rfl⟩ : ∃ m0 mr, ms = m0 :: mr := by
        cases ms with
        | nil => exact absurd rfl hms
        | cons a b => exact ⟨a, b, rfl⟩
      refine ⟨_, rfl, c, _, 0, _, rfl, rfl, SqL.of g2, at0, rfl, _, rfl, ite2 (fun _ => ?_) (fun _ => ?_)⟩
      · refine ⟨_, rfl, c, _, rfl, .inl (SqL.of g2), _, _, rfl, rfl, _, rfl, ite2 (fun h4 => ?_) (fun _ => ?_)⟩
        · rw [decide_eq_true_eq, List.length_map, List.length_cons] at h4
          refine ⟨_, rfl, .inl ⟨rfl, _, SqL.of g2⟩, c, _, 0, 0, _, rfl, rfl, g2, by decide, by decide, ?_, rfl, ?_⟩
          · unfold seqIndex?; simp
          · refine ⟨_, mr, rfl, by rw [upd_ne hne]; exact g1, upd_same, by simp only [List.length_cons] at gm; omega, fun _ z => ?_, gk.put_c⟩
            rw [z] at h4; simp at h4
        · exact ⟨_, m0 :: mr, rfl, g1, g2, gm, fun _ => hms, gk⟩
      · exact iteF ⟨_, m0 :: mr, rfl, g1, g2, gm, fun _ => hms, gk⟩
    · rintro σ H' ⟨v, ms, rfl, g1, g2, gm, gne, gk⟩
      have last : ∀ (σ : List (Option V)), σ = [some (.ref st), some (.int many), some (.ref c), v, none, none] →
        (tSeq (tAsg (tOp (rI (fun _ j => 0 < j) fun i j => .int (i % j)) (tCB (fun xs H Q => (∃ i, xs = [.int i] ∧ Q (.int i) H) ∨ ∃ k, xs = [.bl k] ∧ Q (.int (if k then 1 else 0)) H) (tCons (tOp (rI0 fun i j => .int (i + j)) (tOp (rI CMul fun i j => .int (i * j)) (tOp (rIxL K) (tVar 0) (tC (.int 1))) (tC (.int 48271))) (tC (.int 12345))) tNil)) (tC (.int 2147483647))) (gName 5))
          (tSeq (tAsg (tVar 5) (gSub (tVar 0) (tC (.int 1)) rSetL)) (tRet (tOp (rI (fun _ j => 0 < j) fun i j => .int (i % j)) (tCB (fun xs H Q => (∃ i, xs = [.int i] ∧ Q (.int i) H) ∨ ∃ k, xs = [.bl k] ∧ Q (.int (if k then 1 else 0)) H) (tCons (tOp (rI CDiv fun i j => .int (i / j)) (tVar 5) (tC (.int 64))) tNil)) (tVar 1)))))
          { nx := fun _ H' => Q .non H', rt := Q } σ H' := by
        rintro _ rfl
        refine ⟨_, rfl, st, _, 1, _, rfl, rfl, SqL.of g1, rfl, _, _, rfl, rfl, .inr ⟨by decide, by decide⟩, _, _, rfl, rfl, .inl ⟨_, rfl, _, _, rfl, rfl, (by show (0 : Int) < 2147483647; decide), ?_⟩⟩
        refine ⟨_, rfl, _, rfl, st, _, 1, 1, rfl, rfl, g1, rfl, ?_⟩
        refine ⟨_, rfl, _, _, rfl, rfl, ⟨by decide, by decide⟩, .inl ⟨_, rfl, _, rfl, _, _, rfl, rfl, hm0, ?_⟩⟩
        exact kk _ _ (Int.emod_nonneg _ (by omega)) (Int.emod_lt_of_pos _ hm0) ⟨_, _, ms, upd_same, by rw [upd_ne hne.symm]; exact g2, gm, hkd⟩ gk.put_st
      refine ⟨_, rfl, c, _, rfl, .inl (SqL.of g2), _, _, rfl, rfl, _, rfl, ite2 (fun h4 => ?_) (fun _ => ?_)⟩
      · rw [decide_eq_true_eq, List.length_map] at h4
        obtain ⟨m0, mr, rfl⟩ : ∃ m0 mr, ms = m0 :: mr := by
          cases ms with
          | nil => simp at h4
          | cons a b => exact ⟨a, b, rfl⟩
        refine ⟨_, rfl, c, _, 0, _, rfl, rfl, SqL.of g2, at0, _, _, rfl, rfl, _, rfl, ite2 (fun h5 => ?_) (fun _ => ?_)⟩
        · refine ⟨_, rfl, c, _, 0, _, rfl, rfl, SqL.of g2, at0, ?_⟩
          refine ⟨_, rfl, _, rfl, _, _, rfl, rfl, ⟨hm0, hm1⟩, _, rfl, c, _, 0, 0, rfl, rfl, g2, ixN0 (by simp), ?_⟩
          refine ⟨_, rfl, .inl ⟨_, rfl, _, rfl, _, _, rfl, rfl, hm0, ?_⟩⟩
          exact kk _ _ (Int.emod_nonneg _ (by omega)) (Int.emod_lt_of_pos _ hm0) ⟨sd, kd, (m0 / many) :: mr, by rw [upd_ne hne]; exact g1, upd_same, gm, hkd⟩ gk.put_c
        · exact (last _ rfl)
      · exact (last _ rfl)
end
end K04
set_option Elab.async false
set_option maxRecDepth 100000
set_option maxHeartbeats 4000000
namespace K04
open PySem L2 C8 SX GX LC LG LR SU PM PX PN CwR
def spPc (_K : PySem.W.Frag) (ts : Tbs) : Sp := fun vs H Q _ => ∃ (st ca : Addr) (M : Vol), vs = [.ref st] ∧ Wd ts st ca M H ∧ ∀ (s : Stm) H', Wd ts st ca M H' → Ky ts st ca H H' → s ∈ pcs → Q (.str (S (tx (wStm s) ++ [32]))) H'
abbrev sp__law_piece := spPc
section
variable {P : Program} {w : World} {K : PySem.W.Frag} {mg : Str → Option Value} {base : Heap} {d : Cd}
-- def _law_piece: level 2, calls [('_law_draw', 1)], cells [], gens 0, raising False
theorem ok__law_piece (T : Txt P w K mg base d) (c__law_draw : Cal P w K mg base 1 "_law_draw" (sp__law_draw K d.ts) []) :
    Cal P w K mg base 2 "_law_piece" (sp__law_piece K d.ts) [] := by
  obtain ⟨c, F⟩ := T.«_law_piece»
  refine cal (ps := ["state"]) F (fun _ _ _ _ _ _ us hl => match us, hl with | [_], _ => rfl) sc__law_piece (fun vs H Q E h => ?_) (fun f A outer s H vs Q E hr h => ?_)
  · obtain ⟨st, c, M, rfl, _⟩ := h; rfl
  · obtain ⟨st, ca, M, rfl, hw, kk⟩ := h
    refine ⟨_, (pss_cons (ps_set (i := 1) sc__law_piece.nd rfl (Or.inl rfl) (pe_lst (pa_cons pe_str (pa_cons pe_str pa_nil))))
    (pss_cons (ps_set (i := 1) sc__law_piece.nd rfl (Or.inl rfl) (pe_op op_cat (pv 1) (pe_lst (pa_cons pe_str (pa_cons pe_str pa_nil)))))
    (pss_cons (ps_set (i := 1) sc__law_piece.nd rfl (Or.inl rfl) (pe_op op_cat (pv 1) (pe_lst (pa_cons pe_str (pa_cons pe_str (pa_cons pe_str (pa_cons pe_str pa_nil)))))))
    (pss_one (ps_ret (pe_ix (ixl (K := K) rfl) (pv 1) (pe_c c__law_draw hr (by decide) rfl (pa_cons (pv 0) (pa_cons pe_int pa_nil))) (fun _ _ => rfl))))))), ?_⟩
    refine ⟨two, fun l1 h1 => ?_⟩
    have w1 := hw.new (o := HO.lst [.str "p(X) :- q(X), not r. ", .str "1 {a; b : c} 2 :- not d, X != 3. "]) h1
    have s1 : Same H (upd H l1 (HO.lst [.str "p(X) :- q(X), not r. ", .str "1 {a; b : c} 2 :- not d, X != 3. "])) := same_new h1
    have e1 : upd H l1 (HO.lst [.str "p(X) :- q(X), not r. ", .str "1 {a; b : c} 2 :- not d, X != 3. "]) l1 = some (HO.lst [.str "p(X) :- q(X), not r. ", .str "1 {a; b : c} 2 :- not d, X != 3. "]) := upd_same
    have n1 := hw.fresh h1
    generalize upd H l1 (HO.lst [.str "p(X) :- q(X), not r. ", .str "1 {a; b : c} 2 :- not d, X != 3. "]) = H1 at w1 s1 e1 ⊢
    refine ⟨_, rfl, two, fun l2 h2 => ?_⟩
    have w2 := w1.new (o := HO.lst [.str ":- p(X, Y + 1), X < Y. ", .str "range 1 4. "]) h2
    have s2 : Same H1 (upd H1 l2 (HO.lst [.str ":- p(X, Y + 1), X < Y. ", .str "range 1 4. "])) := same_new h2
    have e2 : upd H1 l2 (HO.lst [.str ":- p(X, Y + 1), X < Y. ", .str "range 1 4. "]) l2 = some (HO.lst [.str ":- p(X, Y + 1), X < Y. ", .str "range 1 4. "]) := upd_same
    have n2 := w1.fresh h2
    generalize upd H1 l2 (HO.lst [.str ":- p(X, Y + 1), X < Y. ", .str "range 1 4. "]) = H2 at w2 s2 e2 ⊢
    refine ⟨l1, l2, _, _, rfl, rfl, s2 _ _ e1, e2, by decide, fun l3 h3 => ?_⟩
    have w3 := w2.new (o := HO.lst ([.str "p(X) :- q(X), not r. ", .str "1 {a; b : c} 2 :- not d, X != 3. "] ++ [.str ":- p(X, Y + 1), X < Y. ", .str "range 1 4. "])) h3
    have s3 : Same H2 (upd H2 l3 (HO.lst ([.str "p(X) :- q(X), not r. ", .str "1 {a; b : c} 2 :- not d, X != 3. "] ++ [.str ":- p(X, Y + 1), X < Y. ", .str "range 1 4. "]))) := same_new h3
    have e3 : upd H2 l3 (HO.lst ([.str "p(X) :- q(X), not r. ", .str "1 {a; b : c} 2 :- not d, X != 3. "] ++ [.str ":- p(X, Y + 1), X < Y. ", .str "range 1 4. "])) l3 = some (HO.lst ([.str "p(X) :- q(X), not r. ", .str "1 {a; b : c} 2 :- not d, X != 3. "] ++ [.str ":- p(X, Y + 1), X < Y. ", .str "range 1 4. "])) := upd_same
    have n3 := w2.fresh h3
    generalize upd H2 l3 (HO.lst ([.str "p(X) :- q(X), not r. ", .str "1 {a; b : c} 2 :- not d, X != 3. "] ++ [.str ":- p(X, Y + 1), X < Y. ", .str "range 1 4. "])) = H3 at w3 s3 e3 ⊢
    refine ⟨_, rfl, four, fun l4 h4 => ?_⟩
    have w4 := w3.new (o := HO.lst [.str "minimize {X : p(X); 2}. ", .str "q :- sum {1 : a; W : b(W)} >= 2. ", .str "r(f, (1 + 2) * 3). ", .str "{s}. "]) h4
    have s4 : Same H3 (upd H3 l4 (HO.lst [.str "minimize {X : p(X); 2}. ", .str "q :- sum {1 : a; W : b(W)} >= 2. ", .str "r(f, (1 + 2) * 3). ", .str "{s}. "])) := same_new h4
    have e4 : upd H3 l4 (HO.lst [.str "minimize {X : p(X); 2}. ", .str "q :- sum {1 : a; W : b(W)} >= 2. ", .str "r(f, (1 + 2) * 3). ", .str "{s}. "]) l4 = some (HO.lst [.str "minimize {X : p(X); 2}. ", .str "q :- sum {1 : a; W : b(W)} >= 2. ", .str "r(f, (1 + 2) * 3). ", .str "{s}. "]) := upd_same
    have n4 := w3.fresh h4
    generalize upd H3 l4 (HO.lst [.str "minimize {X : p(X); 2}. ", .str "q :- sum {1 : a; W : b(W)} >= 2. ", .str "r(f, (1 + 2) * 3). ", .str "{s}. "]) = H4 at w4 s4 e4 ⊢
    refine ⟨l3, l4, _, _, rfl, rfl, s4 _ _ e3, e4, by decide, fun l5 h5 => ?_⟩
    have w5 := w4.new (o := HO.lst (([.str "p(X) :- q(X), not r. ", .str "1 {a; b : c} 2 :- not d, X != 3. "] ++ [.str ":- p(X, Y + 1), X < Y. ", .str "range 1 4. "]) ++ [.str "minimize {X : p(X); 2}. ", .str "q :- sum {1 : a; W : b(W)} >= 2. ", .str "r(f, (1 + 2) * 3). ", .str "{s}. "])) h5
    have s5 : Same H4 (upd H4 l5 (HO.lst (([.str "p(X) :- q(X), not r. ", .str "1 {a; b : c} 2 :- not d, X != 3. "] ++ [.str ":- p(X, Y + 1), X < Y. ", .str "range 1 4. "]) ++ [.str "minimize {X : p(X); 2}. ", .str "q :- sum {1 : a; W : b(W)} >= 2. ", .str "r(f, (1 + 2) * 3). ", .str "{s}. "]))) := same_new h5
    have e5 : upd H4 l5 (HO.lst (([.str "p(X) :- q(X), not r. ", .str "1 {a; b : c} 2 :- not d, X != 3. "] ++ [.str ":- p(X, Y + 1), X < Y. ", .str "range 1 4. "]) ++ [.str "minimize {X : p(X); 2}. ", .str "q :- sum {1 : a; W : b(W)} >= 2. ", .str "r(f, (1 + 2) * 3). ", .str "{s}. "])) l5 = some (HO.lst (([.str "p(X) :- q(X), not r. ", .str "1 {a; b : c} 2 :- not d, X != 3. "] ++ [.str ":- p(X, Y + 1), X < Y. ", .str "range 1 4. "]) ++ [.str "minimize {X : p(X); 2}. ", .str "q :- sum {1 : a; W : b(W)} >= 2. ", .str "r(f, (1 + 2) * 3). ", .str "{s}. "])) := upd_same
    have n5 := w4.fresh h5
    generalize upd H4 l5 (HO.lst (([.str "p(X) :- q(X), not r. ", .str "1 {a; b : c} 2 :- not d, X != 3. "] ++ [.str ":- p(X, Y + 1), X < Y. ", .str "range 1 4. "]) ++ [.str "minimize {X : p(X); 2}. ", .str "q :- sum {1 : a; W : b(W)} >= 2. ", .str "r(f, (1 + 2) * 3). ", .str "{s}. "])) = H5 at w5 s5 e5 ⊢
    refine ⟨_, rfl, _, rfl, st, ca, M, 8, rfl, by decide, by decide, w5, fun dd H6 a0 a1 w6 k6 => ?_⟩
    obtain ⟨x, hx, ex⟩ := at_mem (xs := txs) a0 (by simpa [txs] using a1)
    have hx2 := hx
    rw [txs_ok] at hx2
    obtain ⟨s, hs, rfl⟩ := List.mem_map.mp hx2
    exact ⟨l5, _, dd, _, rfl, rfl, SqL.of (k6 l5 _ (w5.nl n5) e5), ex V.str, kk s H6 w6 ((Kx.of (((s1.trans s2).trans s3).trans (s4.trans s5))).trans k6) hs⟩
end
def spIdx (_K : PySem.W.Frag) (_ts : Tbs) : Sp := fun vs H Q _ => ∃ (l : List Nat) (i : Int), vs = [.str (S l)] ∧ l.length ≤ 4000 ∧ Idx l i ∧ ∀ H', Same H H' → Q (.int i) H'
abbrev sp__law_index := spIdx
section
variable {P : Program} {w : World} {K : PySem.W.Frag} {mg : Str → Option Value} {base : Heap} {d : Cd}
-- def _law_index: level 53, calls [('parse', 52)], cells [], gens 0, raising False
theorem ok__law_index (T : Txt P w K mg base d) (c_parse : CalX P w K mg base 52 "parse" (sp_parse K d)) :
    Cal P w K mg base 53 "_law_index" (sp__law_index K d.ts) [] := by
  obtain ⟨c, F⟩ := T.«_law_index»
  refine cal (ps := ["text"]) F (fun _ _ _ _ _ _ us hl => match us, hl with | [_], _ => rfl) sc__law_index (fun vs H Q E h => ?_) (fun f A outer s H vs Q E hr h => ?_)
  · obtain ⟨l, i, rfl, _⟩ := h; rfl
  · obtain ⟨l, i, rfl, hl, ⟨ts, nn, res, hlex, hres, hi⟩, kk⟩ := h
    refine ⟨_, (pss_cons (ps_try_as (i := 1) (c := .ref d.C_TextError) (Wout := fun _ _ _ _ => False) rfl rfl sc__law_index.nd rfl rfl ⟨rfl, by decide, Or.inl T.TextError.gC⟩ L2.takes0
      (fun W pn xe tk _ => (pss_one (ps_expr (pe_cX c_parse tk hr (by decide) rfl (pa_cons (pv 0) pa_nil)))))
      (fun a oe cls dz pn hz hf => pss_one (ps_ret (pe_xf T.xf_TextError T.no_TextError hz hf (pv 1)))))
    (pss_one (ps_ret (pe_un un_neg pe_int)))), ?_⟩
    refine ⟨_, rfl, l, ts, nn, res, rfl, hl, hlex, hres, ?_⟩
    cases res with
    | ok ss =>
      have hi : (-1 : Int) = i := hi
      subst hi
      exact fun v H' s n => ⟨_, rfl, kk H' s⟩
    | error k =>
      have hi : (k : Int) = i := hi
      subst hi
      intro dd H' hs hd
      refine ⟨true, T.te_TextError, fun _ a ha => ?_, fun z => Bool.noConfusion z⟩
      exact ⟨_, rfl, rfl, rfl, dd, _, _, rfl, upd_same, rfl, kk _ (Same.put hs (hs.free hd))⟩
end
end K04
set_option Elab.async false
set_option maxRecDepth 100000
set_option maxHeartbeats 4000000
namespace K04
open PySem L2 C8 SX GX LC LG LR SU PM PX PN CwR
def spB (_K : PySem.W.Frag) (ts : Tbs) : Sp := fun vs H Q _ => ∃ (st ca : Addr) (M : Vol) (ss : List Stm), vs = [.ref st, .str (S (tx (wP ss)))] ∧ Ahd ss ∧ Wd ts st ca M H ∧ ∀ H', Q (.bl true) H'
abbrev sp__law_wrong := spB
section
variable {P : Program} {w : World} {K : PySem.W.Frag} {mg : Str → Option Value} {base : Heap} {d : Cd}
-- def _law_wrong: level 54, calls [('_law_draw', 1), ('_law_index', 53)], cells [], gens 0, raising False
theorem ok__law_wrong (T : Txt P w K mg base d) (c__law_draw : Cal P w K mg base 1 "_law_draw" (sp__law_draw K d.ts) []) (c__law_index : Cal P w K mg base 53 "_law_index" (sp__law_index K d.ts) []) :
    Cal P w K mg base 54 "_law_wrong" (sp__law_wrong K d.ts) [] := by
  obtain ⟨c, F⟩ := T.«_law_wrong»
  refine cal (ps := ["state", "before"]) F (fun _ _ _ _ _ _ us hl => match us, hl with | [_, _], _ => rfl) sc__law_wrong (fun vs H Q E h => ?_) (fun f A outer s H vs Q E hr h => ?_)
  · obtain ⟨st, c, M, ss, rfl, _⟩ := h; rfl
  · obtain ⟨st, ca, M, ss, rfl, ha, hw, kk⟩ := h
    refine ⟨_, (pss_cons (ps_set (i := 2) sc__law_wrong.nd rfl (Or.inl rfl) (pe_lst (pa_cons (pe_lst (pa_cons pe_str (pa_cons pe_str pa_nil))) (pa_cons (pe_lst (pa_cons pe_str (pa_cons pe_str pa_nil))) (pa_cons (pe_lst (pa_cons pe_str (pa_cons pe_str pa_nil))) (pa_cons (pe_lst (pa_cons pe_str (pa_cons pe_str pa_nil))) (pa_cons (pe_lst (pa_cons pe_str (pa_cons pe_str pa_nil))) (pa_cons (pe_lst (pa_cons pe_str (pa_cons pe_str pa_nil))) (pa_cons (pe_lst (pa_cons pe_str (pa_cons pe_str pa_nil))) pa_nil)))))))))
    (pss_cons (ps_set (i := 2) sc__law_wrong.nd rfl (Or.inl rfl) (pe_op op_cat (pv 2) (pe_lst (pa_cons (pe_lst (pa_cons pe_str (pa_cons pe_str pa_nil))) (pa_cons (pe_lst (pa_cons pe_str (pa_cons pe_str pa_nil))) (pa_cons (pe_lst (pa_cons pe_str (pa_cons pe_str pa_nil))) (pa_cons (pe_lst (pa_cons pe_str (pa_cons pe_str pa_nil))) pa_nil)))))))
    (pss_cons (ps_set (i := 2) sc__law_wrong.nd rfl (Or.inl rfl) (pe_op op_cat (pv 2) (pe_lst (pa_cons (pe_lst (pa_cons pe_str (pa_cons pe_str pa_nil))) (pa_cons (pe_lst (pa_cons pe_str (pa_cons pe_str pa_nil))) (pa_cons (pe_lst (pa_cons pe_str (pa_cons pe_str pa_nil))) (pa_cons (pe_lst (pa_cons pe_str (pa_cons pe_str pa_nil))) (pa_cons (pe_lst (pa_cons pe_str (pa_cons pe_str pa_nil))) pa_nil))))))))
    (pss_cons (ps_set (i := 2) sc__law_wrong.nd rfl (Or.inl rfl) (pe_op op_cat (pv 2) (pe_lst (pa_cons (pe_lst (pa_cons pe_str (pa_cons pe_str pa_nil))) pa_nil))))
    (pss_cons (ps_asg (pe_ix (ixl (K := K) rfl) (pv 2) (pe_c c__law_draw hr (by decide) rfl (pa_cons (pv 0) (pa_cons pe_int pa_nil))) (fun _ _ => rfl)) (pglst (K := K) rfl rfl (pgs_cons (pg_name (i := 3) sc__law_wrong.nd rfl (Or.inl rfl)) (pgs_cons (pg_name (i := 4) sc__law_wrong.nd rfl (Or.inl rfl)) pgs_nil))))
    (pss_one (ps_ret (pe_cmpR op_eq (pe_c c__law_index hr (by decide) rfl (pa_cons (pe_op op_add_str (pe_op op_add_str (pe_op op_add_str (pv 1) (pv 3)) (pv 4)) pe_str) pa_nil)) (pe_callB call_len_str (by rfl) T.b_len PySem.boot_len (pa_cons (pe_op op_add_str (pv 1) (pv 3)) pa_nil)) (nomark _))))))))), ?_⟩
    have q0 : PL M H [] [] := .nil
    refine ⟨two, fun p1 h1 => ?_⟩
    have q1 := PL.add (a := []) (b := [41, 46, 32, 113, 46]) (x := "") (y := "). q.") h1 (hw.fresh h1) (by decide +kernel) (by decide +kernel) q0
    have w1 := hw.new (o := HO.lst [.str "", .str "). q."]) h1
    generalize upd H p1 (HO.lst [.str "", .str "). q."]) = H1 at w1 q1 ⊢
    refine ⟨two, fun p2 h2 => ?_⟩
    have q2 := PL.add (a := []) (b := [44, 32, 112, 46]) (x := "") (y := ", p.") h2 (w1.fresh h2) (by decide +kernel) (by decide +kernel) q1
    have w2 := w1.new (o := HO.lst [.str "", .str ", p."]) h2
    generalize upd H1 p2 (HO.lst [.str "", .str ", p."]) = H2 at w2 q2 ⊢
    refine ⟨two, fun p3 h3 => ?_⟩
    have q3 := PL.add (a := []) (b := [61, 32, 51, 46]) (x := "") (y := "= 3.") h3 (w2.fresh h3) (by decide +kernel) (by decide +kernel) q2
    have w3 := w2.new (o := HO.lst [.str "", .str "= 3."]) h3
    generalize upd H2 p3 (HO.lst [.str "", .str "= 3."]) = H3 at w3 q3 ⊢
    refine ⟨two, fun p4 h4 => ?_⟩
    have q4 := PL.add (a := [112, 40]) (b := [41, 46]) (x := "p(") (y := ").") h4 (w3.fresh h4) (by decide +kernel) (by decide +kernel) q3
    have w4 := w3.new (o := HO.lst [.str "p(", .str ")."]) h4
    generalize upd H3 p4 (HO.lst [.str "p(", .str ")."]) = H4 at w4 q4 ⊢
    refine ⟨two, fun p5 h5 => ?_⟩
    have q5 := PL.add (a := [112, 40, 88]) (b := [46]) (x := "p(X") (y := ".") h5 (w4.fresh h5) (by decide +kernel) (by decide +kernel) q4
    have w5 := w4.new (o := HO.lst [.str "p(X", .str "."]) h5
    generalize upd H4 p5 (HO.lst [.str "p(X", .str "."]) = H5 at w5 q5 ⊢
    refine ⟨two, fun p6 h6 => ?_⟩
    have q6 := PL.add (a := [112, 32, 58, 45, 32, 113]) (b := [59, 32, 114, 46]) (x := "p :- q") (y := "; r.") h6 (w5.fresh h6) (by decide +kernel) (by decide +kernel) q5
    have w6 := w5.new (o := HO.lst [.str "p :- q", .str "; r."]) h6
    generalize upd H5 p6 (HO.lst [.str "p :- q", .str "; r."]) = H6 at w6 q6 ⊢
    refine ⟨two, fun p7 h7 => ?_⟩
    have q7 := PL.add (a := [112, 32, 58, 45, 32]) (b := [46]) (x := "p :- ") (y := ".") h7 (w6.fresh h7) (by decide +kernel) (by decide +kernel) q6
    have w7 := w6.new (o := HO.lst [.str "p :- ", .str "."]) h7
    generalize upd H6 p7 (HO.lst [.str "p :- ", .str "."]) = H7 at w7 q7 ⊢
    refine ⟨Nat.le_trans (by show 7 ≤ 100; decide) (by decide : 100 ≤ sizeLine), fun p8 h8 => ?_⟩
    have q8 := PL.new (o := HO.lst [V.ref p1, V.ref p2, V.ref p3, V.ref p4, V.ref p5, V.ref p6, V.ref p7]) h8 q7
    have ec8 : upd H7 p8 (HO.lst [V.ref p1, V.ref p2, V.ref p3, V.ref p4, V.ref p5, V.ref p6, V.ref p7]) p8 = some (HO.lst [V.ref p1, V.ref p2, V.ref p3, V.ref p4, V.ref p5, V.ref p6, V.ref p7]) := upd_same
    have w8 := w7.new (o := HO.lst [V.ref p1, V.ref p2, V.ref p3, V.ref p4, V.ref p5, V.ref p6, V.ref p7]) h8
    generalize upd H7 p8 (HO.lst [V.ref p1, V.ref p2, V.ref p3, V.ref p4, V.ref p5, V.ref p6, V.ref p7]) = H8 at w8 q8 ec8 ⊢
    refine ⟨_, rfl, ?_⟩
    refine ⟨two, fun p9 h9 => ?_⟩
    have q9 := PL.add (a := [112, 40, 88, 41, 32, 58, 45, 32, 88, 32]) (b := [44, 32, 113, 46]) (x := "p(X) :- X ") (y := ", q.") h9 (w8.fresh h9) (by decide +kernel) (by decide +kernel) q8
    have w9 := w8.new (o := HO.lst [.str "p(X) :- X ", .str ", q."]) h9
    have el9 := (same_new (o := HO.lst [.str "p(X) :- X ", .str ", q."]) h9) _ _ ec8
    generalize upd H8 p9 (HO.lst [.str "p(X) :- X ", .str ", q."]) = H9 at w9 q9 el9 ⊢
    refine ⟨two, fun p10 h10 => ?_⟩
    have q10 := PL.add (a := [123, 97]) (b := [46, 32, 125, 46]) (x := "{a") (y := ". }.") h10 (w9.fresh h10) (by decide +kernel) (by decide +kernel) q9
    have w10 := w9.new (o := HO.lst [.str "{a", .str ". }."]) h10
    have el10 := (same_new (o := HO.lst [.str "{a", .str ". }."]) h10) _ _ el9
    generalize upd H9 p10 (HO.lst [.str "{a", .str ". }."]) = H10 at w10 q10 el10 ⊢
    refine ⟨two, fun p11 h11 => ?_⟩
    have q11 := PL.add (a := [114, 97, 110, 103, 101, 32, 49, 32]) (b := [46, 32, 113, 46]) (x := "range 1 ") (y := ". q.") h11 (w10.fresh h11) (by decide +kernel) (by decide +kernel) q10
    have w11 := w10.new (o := HO.lst [.str "range 1 ", .str ". q."]) h11
    have el11 := (same_new (o := HO.lst [.str "range 1 ", .str ". q."]) h11) _ _ el10
    generalize upd H10 p11 (HO.lst [.str "range 1 ", .str ". q."]) = H11 at w11 q11 el11 ⊢
    refine ⟨two, fun p12 h12 => ?_⟩
    have q12 := PL.add (a := [112, 32, 58, 45, 32, 115, 117, 109, 32, 123, 49, 32, 58, 32, 97, 125, 32]) (b := [60, 32, 50, 46]) (x := "p :- sum {1 : a} ") (y := "< 2.") h12 (w11.fresh h12) (by decide +kernel) (by decide +kernel) q11
    have w12 := w11.new (o := HO.lst [.str "p :- sum {1 : a} ", .str "< 2."]) h12
    have el12 := (same_new (o := HO.lst [.str "p :- sum {1 : a} ", .str "< 2."]) h12) _ _ el11
    generalize upd H11 p12 (HO.lst [.str "p :- sum {1 : a} ", .str "< 2."]) = H12 at w12 q12 el12 ⊢
    refine ⟨Nat.le_trans (by show 4 ≤ 100; decide) (by decide : 100 ≤ sizeLine), fun p13 h13 => ?_⟩
    have q13 := PL.new (o := HO.lst [V.ref p9, V.ref p10, V.ref p11, V.ref p12]) h13 q12
    have ec13 : upd H12 p13 (HO.lst [V.ref p9, V.ref p10, V.ref p11, V.ref p12]) p13 = some (HO.lst [V.ref p9, V.ref p10, V.ref p11, V.ref p12]) := upd_same
    have w13 := w12.new (o := HO.lst [V.ref p9, V.ref p10, V.ref p11, V.ref p12]) h13
    have el13 := (same_new (o := HO.lst [V.ref p9, V.ref p10, V.ref p11, V.ref p12]) h13) _ _ el12
    generalize upd H12 p13 (HO.lst [V.ref p9, V.ref p10, V.ref p11, V.ref p12]) = H13 at w13 q13 ec13 el13 ⊢
    refine ⟨p8, p13, _, _, rfl, rfl, el13, ec13, Nat.le_trans (by simp : _ ≤ 100) (by decide : 100 ≤ sizeLine), fun p14 h14 => ?_⟩
    have q14 := PL.new (o := HO.lst ([V.ref p1, V.ref p2, V.ref p3, V.ref p4, V.ref p5, V.ref p6, V.ref p7] ++ [V.ref p9, V.ref p10, V.ref p11, V.ref p12])) h14 q13
    have nf14 := w13.fresh h14
    have ec14 : upd H13 p14 (HO.lst ([V.ref p1, V.ref p2, V.ref p3, V.ref p4, V.ref p5, V.ref p6, V.ref p7] ++ [V.ref p9, V.ref p10, V.ref p11, V.ref p12])) p14 = some (HO.lst ([V.ref p1, V.ref p2, V.ref p3, V.ref p4, V.ref p5, V.ref p6, V.ref p7] ++ [V.ref p9, V.ref p10, V.ref p11, V.ref p12])) := upd_same
    have w14 := w13.new (o := HO.lst ([V.ref p1, V.ref p2, V.ref p3, V.ref p4, V.ref p5, V.ref p6, V.ref p7] ++ [V.ref p9, V.ref p10, V.ref p11, V.ref p12])) h14
    generalize upd H13 p14 (HO.lst ([V.ref p1, V.ref p2, V.ref p3, V.ref p4, V.ref p5, V.ref p6, V.ref p7] ++ [V.ref p9, V.ref p10, V.ref p11, V.ref p12])) = H14 at w14 q14 ec14 ⊢
    refine ⟨_, rfl, ?_⟩
    refine ⟨two, fun p15 h15 => ?_⟩
    have q15 := PL.add (a := [112, 32]) (b := [113, 46]) (x := "p ") (y := "q.") h15 (w14.fresh h15) (by decide +kernel) (by decide +kernel) q14
    have w15 := w14.new (o := HO.lst [.str "p ", .str "q."]) h15
    have el15 := (same_new (o := HO.lst [.str "p ", .str "q."]) h15) _ _ ec14
    generalize upd H14 p15 (HO.lst [.str "p ", .str "q."]) = H15 at w15 q15 el15 ⊢
    refine ⟨two, fun p16 h16 => ?_⟩
    have q16 := PL.add (a := [49, 32]) (b := [97, 46]) (x := "1 ") (y := "a.") h16 (w15.fresh h16) (by decide +kernel) (by decide +kernel) q15
    have w16 := w15.new (o := HO.lst [.str "1 ", .str "a."]) h16
    have el16 := (same_new (o := HO.lst [.str "1 ", .str "a."]) h16) _ _ el15
    generalize upd H15 p16 (HO.lst [.str "1 ", .str "a."]) = H16 at w16 q16 el16 ⊢
    refine ⟨two, fun p17 h17 => ?_⟩
    have q17 := PL.add (a := [109, 105, 110, 105, 109, 105, 122, 101, 32]) (b := [112, 46]) (x := "minimize ") (y := "p.") h17 (w16.fresh h17) (by decide +kernel) (by decide +kernel) q16
    have w17 := w16.new (o := HO.lst [.str "minimize ", .str "p."]) h17
    have el17 := (same_new (o := HO.lst [.str "minimize ", .str "p."]) h17) _ _ el16
    generalize upd H16 p17 (HO.lst [.str "minimize ", .str "p."]) = H17 at w17 q17 el17 ⊢
    refine ⟨two, fun p18 h18 => ?_⟩
    have q18 := PL.add (a := [112, 32, 58, 45, 32, 110, 111, 116, 32]) (b := [110, 111, 116, 32, 113, 46]) (x := "p :- not ") (y := "not q.") h18 (w17.fresh h18) (by decide +kernel) (by decide +kernel) q17
    have w18 := w17.new (o := HO.lst [.str "p :- not ", .str "not q."]) h18
    have el18 := (same_new (o := HO.lst [.str "p :- not ", .str "not q."]) h18) _ _ el17
    generalize upd H17 p18 (HO.lst [.str "p :- not ", .str "not q."]) = H18 at w18 q18 el18 ⊢
    refine ⟨two, fun p19 h19 => ?_⟩
    have q19 := PL.add (a := []) (b := [115, 117, 109, 46]) (x := "") (y := "sum.") h19 (w18.fresh h19) (by decide +kernel) (by decide +kernel) q18
    have w19 := w18.new (o := HO.lst [.str "", .str "sum."]) h19
    have el19 := (same_new (o := HO.lst [.str "", .str "sum."]) h19) _ _ el18
    generalize upd H18 p19 (HO.lst [.str "", .str "sum."]) = H19 at w19 q19 el19 ⊢
    refine ⟨Nat.le_trans (by show 5 ≤ 100; decide) (by decide : 100 ≤ sizeLine), fun p20 h20 => ?_⟩
    have q20 := PL.new (o := HO.lst [V.ref p15, V.ref p16, V.ref p17, V.ref p18, V.ref p19]) h20 q19
    have ec20 : upd H19 p20 (HO.lst [V.ref p15, V.ref p16, V.ref p17, V.ref p18, V.ref p19]) p20 = some (HO.lst [V.ref p15, V.ref p16, V.ref p17, V.ref p18, V.ref p19]) := upd_same
    have w20 := w19.new (o := HO.lst [V.ref p15, V.ref p16, V.ref p17, V.ref p18, V.ref p19]) h20
    have el20 := (same_new (o := HO.lst [V.ref p15, V.ref p16, V.ref p17, V.ref p18, V.ref p19]) h20) _ _ el19
    generalize upd H19 p20 (HO.lst [V.ref p15, V.ref p16, V.ref p17, V.ref p18, V.ref p19]) = H20 at w20 q20 ec20 el20 ⊢
    refine ⟨p14, p20, _, _, rfl, rfl, el20, ec20, Nat.le_trans (by simp : _ ≤ 100) (by decide : 100 ≤ sizeLine), fun p21 h21 => ?_⟩
    have q21 := PL.new (o := HO.lst (([V.ref p1, V.ref p2, V.ref p3, V.ref p4, V.ref p5, V.ref p6, V.ref p7] ++ [V.ref p9, V.ref p10, V.ref p11, V.ref p12]) ++ [V.ref p15, V.ref p16, V.ref p17, V.ref p18, V.ref p19])) h21 q20
    have nf21 := w20.fresh h21
    have ec21 : upd H20 p21 (HO.lst (([V.ref p1, V.ref p2, V.ref p3, V.ref p4, V.ref p5, V.ref p6, V.ref p7] ++ [V.ref p9, V.ref p10, V.ref p11, V.ref p12]) ++ [V.ref p15, V.ref p16, V.ref p17, V.ref p18, V.ref p19])) p21 = some (HO.lst (([V.ref p1, V.ref p2, V.ref p3, V.ref p4, V.ref p5, V.ref p6, V.ref p7] ++ [V.ref p9, V.ref p10, V.ref p11, V.ref p12]) ++ [V.ref p15, V.ref p16, V.ref p17, V.ref p18, V.ref p19])) := upd_same
    have w21 := w20.new (o := HO.lst (([V.ref p1, V.ref p2, V.ref p3, V.ref p4, V.ref p5, V.ref p6, V.ref p7] ++ [V.ref p9, V.ref p10, V.ref p11, V.ref p12]) ++ [V.ref p15, V.ref p16, V.ref p17, V.ref p18, V.ref p19])) h21
    generalize upd H20 p21 (HO.lst (([V.ref p1, V.ref p2, V.ref p3, V.ref p4, V.ref p5, V.ref p6, V.ref p7] ++ [V.ref p9, V.ref p10, V.ref p11, V.ref p12]) ++ [V.ref p15, V.ref p16, V.ref p17, V.ref p18, V.ref p19])) = H21 at w21 q21 ec21 ⊢
    refine ⟨_, rfl, ?_⟩
    refine ⟨two, fun p22 h22 => ?_⟩
    have q22 := PL.add (a := [113, 40]) (b := [110, 111, 116, 41, 46]) (x := "q(") (y := "not).") h22 (w21.fresh h22) (by decide +kernel) (by decide +kernel) q21
    have w22 := w21.new (o := HO.lst [.str "q(", .str "not)."]) h22
    have el22 := (same_new (o := HO.lst [.str "q(", .str "not)."]) h22) _ _ ec21
    generalize upd H21 p22 (HO.lst [.str "q(", .str "not)."]) = H22 at w22 q22 el22 ⊢
    refine ⟨Nat.le_trans (by show 1 ≤ 100; decide) (by decide : 100 ≤ sizeLine), fun p23 h23 => ?_⟩
    have q23 := PL.new (o := HO.lst [V.ref p22]) h23 q22
    have ec23 : upd H22 p23 (HO.lst [V.ref p22]) p23 = some (HO.lst [V.ref p22]) := upd_same
    have w23 := w22.new (o := HO.lst [V.ref p22]) h23
    have el23 := (same_new (o := HO.lst [V.ref p22]) h23) _ _ el22
    generalize upd H22 p23 (HO.lst [V.ref p22]) = H23 at w23 q23 ec23 el23 ⊢
    refine ⟨p21, p23, _, _, rfl, rfl, el23, ec23, Nat.le_trans (by simp : _ ≤ 100) (by decide : 100 ≤ sizeLine), fun p24 h24 => ?_⟩
    have q24 := PL.new (o := HO.lst ((([V.ref p1, V.ref p2, V.ref p3, V.ref p4, V.ref p5, V.ref p6, V.ref p7] ++ [V.ref p9, V.ref p10, V.ref p11, V.ref p12]) ++ [V.ref p15, V.ref p16, V.ref p17, V.ref p18, V.ref p19]) ++ [V.ref p22])) h24 q23
    have nf24 := w23.fresh h24
    have ec24 : upd H23 p24 (HO.lst ((([V.ref p1, V.ref p2, V.ref p3, V.ref p4, V.ref p5, V.ref p6, V.ref p7] ++ [V.ref p9, V.ref p10, V.ref p11, V.ref p12]) ++ [V.ref p15, V.ref p16, V.ref p17, V.ref p18, V.ref p19]) ++ [V.ref p22])) p24 = some (HO.lst ((([V.ref p1, V.ref p2, V.ref p3, V.ref p4, V.ref p5, V.ref p6, V.ref p7] ++ [V.ref p9, V.ref p10, V.ref p11, V.ref p12]) ++ [V.ref p15, V.ref p16, V.ref p17, V.ref p18, V.ref p19]) ++ [V.ref p22])) := upd_same
    have w24 := w23.new (o := HO.lst ((([V.ref p1, V.ref p2, V.ref p3, V.ref p4, V.ref p5, V.ref p6, V.ref p7] ++ [V.ref p9, V.ref p10, V.ref p11, V.ref p12]) ++ [V.ref p15, V.ref p16, V.ref p17, V.ref p18, V.ref p19]) ++ [V.ref p22])) h24
    generalize upd H23 p24 (HO.lst ((([V.ref p1, V.ref p2, V.ref p3, V.ref p4, V.ref p5, V.ref p6, V.ref p7] ++ [V.ref p9, V.ref p10, V.ref p11, V.ref p12]) ++ [V.ref p15, V.ref p16, V.ref p17, V.ref p18, V.ref p19]) ++ [V.ref p22])) = H24 at w24 q24 ec24 ⊢
    refine ⟨_, rfl, _, rfl, st, ca, M, 17, rfl, by decide, by decide, w24, fun dd HD a0 a1 wD kD => ?_⟩
    obtain ⟨a, b, hab, hrun⟩ : ∃ a b, wr[dd.toNat]? = some (a, b) ∧ ∀ off m, run off m (a ++ (b ++ [32, 112, 46])) = some (false, false, some (.er (off + a.length))) := by
      obtain ⟨a, b, h1, _⟩ := wr_ok dd.toNat (by omega) 0 0
      refine ⟨a, b, h1, fun off m => ?_⟩
      obtain ⟨a', b', h2, h3⟩ := wr_ok dd.toNat (by omega) off m
      rw [h1] at h2
      cases h2
      exact h3
    obtain ⟨r, hr, nr, er⟩ := PL.at_ (p := (a, b)) q24 hab
    have hlen : a.length + b.length ≤ 60 := by
      have : ∀ p ∈ wr, p.1.length + p.2.length ≤ 60 := by decide
      exact this _ (List.mem_of_getElem? hab)
    have erD : HD r = some (.lst [.str (S a), .str (S b)]) := kD r _ (w24.nl nr) er
    refine ⟨p24, _, dd, _, rfl, rfl, SqL.of (kD p24 _ (w24.nl nf24) ec24), by rw [← Int.toNat_of_nonneg a0]; exact atI_nat hr, ?_⟩
    have hb := ha.len
    have hi := idx_er (ss := ss) (fl := a ++ (b ++ [32, 112, 46])) (k := a.length) (ha.pre0 (by simp only [List.length_append, List.length_cons, List.length_nil]; omega)) (Nat.lt_of_le_of_lt ha.l (by decide)) hrun
    have e3 : Str.ofString " p." = S [32, 112, 46] := by decide +kernel
    refine ⟨r, _, rfl, SqL.of erD, rfl, _, _, rfl, _, _, rfl, rfl, ?_⟩
    refine ⟨_, rfl, _, rfl, _, _, rfl, rfl, ?_, _, rfl, _, _, rfl, rfl, ?_, _, _, rfl, rfl, ?_, tx (wP ss) ++ (a ++ (b ++ [32, 112, 46])), _, ?_, ?_, hi, fun HE sE => ?_⟩
    · rw [S_len, S_len, sizeLine_eq]; omega
    · rw [S_cat, S_len, S_len, sizeLine_eq, List.length_append]; omega
    · rw [S_cat, S_cat, e3, S_len, S_len, sizeLine_eq, List.length_append, List.length_append]; show _ + 3 ≤ _; omega
    · rw [S_cat, S_cat, e3, S_cat, List.append_assoc, List.append_assoc]; rfl
    · rw [List.length_append, List.length_append, List.length_append]; show _ + (_ + (_ + 3)) ≤ 4000; omega
    refine ⟨_, rfl, _, rfl, _, _, rfl, rfl, ?_, _, rfl, ?_, rfl, ?_⟩
    · rw [S_len, S_len, sizeLine_eq]; omega
    · rw [S_cat, S_len, sizeLine_eq, List.length_append]; omega
    have e := kk HE
    rw [← (decide_eq_true rfl : decide (V.int (((tx (wP ss)).length + a.length : Nat) : Int) = V.int (((tx (wP ss)).length + a.length : Nat) : Int)) = true)] at e
    have e4 : ((S (tx (wP ss)) ++ S a : Str).length) = (tx (wP ss)).length + a.length := by rw [S_cat, S_len, List.length_append]
    rw [e4]
    exact e
end
end K04
set_option Elab.async false
set_option maxRecDepth 100000
set_option maxHeartbeats 4000000
namespace K04
open PySem L2 C8 SX GX LC LG LR SU PM PX PN CwR
theorem row0 : ([Str.ofString "p", Str.ofString "(", Str.ofString "X", Str.ofString ",", Str.ofString "Y", Str.ofString ")", Str.ofString ":-", Str.ofString "not", Str.ofString "q", Str.ofString ",", Str.ofString "X", Str.ofString "<", Str.ofString "3", Str.ofString "*", Str.ofString "Y", Str.ofString "."] : List Str) = cut0.map S := by decide +kernel
theorem rowV0 : [V.str (Str.ofString "p"), V.str (Str.ofString "("), V.str (Str.ofString "X"), V.str (Str.ofString ","), V.str (Str.ofString "Y"), V.str (Str.ofString ")"), V.str (Str.ofString ":-"), V.str (Str.ofString "not"), V.str (Str.ofString "q"), V.str (Str.ofString ","), V.str (Str.ofString "X"), V.str (Str.ofString "<"), V.str (Str.ofString "3"), V.str (Str.ofString "*"), V.str (Str.ofString "Y"), V.str (Str.ofString ".")] = cut0.map fun t => V.str (S t) := by
  have := congrArg (List.map V.str) row0
  rw [List.map_map] at this
  exact this
theorem row1 : ([Str.ofString "1", Str.ofString "{", Str.ofString "a", Str.ofString ";", Str.ofString "b", Str.ofString ":", Str.ofString "c", Str.ofString ",", Str.ofString "not", Str.ofString "d", Str.ofString "}", Str.ofString "2", Str.ofString ":-", Str.ofString "e", Str.ofString "."] : List Str) = cut1.map S := by decide +kernel
theorem rowV1 : [V.str (Str.ofString "1"), V.str (Str.ofString "{"), V.str (Str.ofString "a"), V.str (Str.ofString ";"), V.str (Str.ofString "b"), V.str (Str.ofString ":"), V.str (Str.ofString "c"), V.str (Str.ofString ","), V.str (Str.ofString "not"), V.str (Str.ofString "d"), V.str (Str.ofString "}"), V.str (Str.ofString "2"), V.str (Str.ofString ":-"), V.str (Str.ofString "e"), V.str (Str.ofString ".")] = cut1.map fun t => V.str (S t) := by
  have := congrArg (List.map V.str) row1
  rw [List.map_map] at this
  exact this
theorem row2 : ([Str.ofString ":-", Str.ofString "sum", Str.ofString "{", Str.ofString "1", Str.ofString ":", Str.ofString "a", Str.ofString "}", Str.ofString ">=", Str.ofString "2", Str.ofString "+", Str.ofString "X", Str.ofString "."] : List Str) = cut2.map S := by decide +kernel
theorem rowV2 : [V.str (Str.ofString ":-"), V.str (Str.ofString "sum"), V.str (Str.ofString "{"), V.str (Str.ofString "1"), V.str (Str.ofString ":"), V.str (Str.ofString "a"), V.str (Str.ofString "}"), V.str (Str.ofString ">="), V.str (Str.ofString "2"), V.str (Str.ofString "+"), V.str (Str.ofString "X"), V.str (Str.ofString ".")] = cut2.map fun t => V.str (S t) := by
  have := congrArg (List.map V.str) row2
  rw [List.map_map] at this
  exact this
theorem row3 : ([Str.ofString "minimize", Str.ofString "{", Str.ofString "3", Str.ofString "*", Str.ofString "(", Str.ofString "X", Str.ofString "-", Str.ofString "1", Str.ofString ")", Str.ofString ":", Str.ofString "p", Str.ofString "(", Str.ofString "X", Str.ofString ")", Str.ofString "}", Str.ofString "."] : List Str) = cut3.map S := by decide +kernel
theorem rowV3 : [V.str (Str.ofString "minimize"), V.str (Str.ofString "{"), V.str (Str.ofString "3"), V.str (Str.ofString "*"), V.str (Str.ofString "("), V.str (Str.ofString "X"), V.str (Str.ofString "-"), V.str (Str.ofString "1"), V.str (Str.ofString ")"), V.str (Str.ofString ":"), V.str (Str.ofString "p"), V.str (Str.ofString "("), V.str (Str.ofString "X"), V.str (Str.ofString ")"), V.str (Str.ofString "}"), V.str (Str.ofString ".")] = cut3.map fun t => V.str (S t) := by
  have := congrArg (List.map V.str) row3
  rw [List.map_map] at this
  exact this
/-- a row of tokens that is cut -/
structure CutOk (row : List (List Nat)) (n : Nat) : Prop where
  len : row.length = n + 1
  le : 0 < n ∧ n ≤ 16
  run : ∀ i, i < n → ∀ off m, run off m (TL.joinL [32] (row.take (i + 1))) = some (false, false, some (.er (off + (TL.joinL [32] (row.take (i + 1))).length)))
  jl : ∀ i, i < n → (TL.joinL [32] (row.take (i + 1))).length ≤ 100
  sum : ∀ i, i < n → (((row.take (i + 1)).map S).map (·.length)).sum ≤ 100
theorem cutOk0 : CutOk cut0 15 := ⟨by decide, by decide, cut0_ok, by decide +kernel, by decide +kernel⟩
theorem cutOk1 : CutOk cut1 14 := ⟨by decide, by decide, cut1_ok, by decide +kernel, by decide +kernel⟩
theorem cutOk2 : CutOk cut2 11 := ⟨by decide, by decide, cut2_ok, by decide +kernel, by decide +kernel⟩
theorem cutOk3 : CutOk cut3 15 := ⟨by decide, by decide, cut3_ok, by decide +kernel, by decide +kernel⟩
abbrev sp__law_cut := spB
section
variable {P : Program} {w : World} {K : PySem.W.Frag} {mg : Str → Option Value} {base : Heap} {d : Cd}
-- def _law_cut: level 54, calls [('_law_draw', 1), ('_law_index', 53)], cells [], gens 0, raising False
theorem ok__law_cut (T : Txt P w K mg base d) (c__law_draw : Cal P w K mg base 1 "_law_draw" (sp__law_draw K d.ts) []) (c__law_index : Cal P w K mg base 53 "_law_index" (sp__law_index K d.ts) []) :
    Cal P w K mg base 54 "_law_cut" (sp__law_cut K d.ts) [] := by
  obtain ⟨c, F⟩ := T.«_law_cut»
  refine cal (ps := ["state", "before"]) F (fun _ _ _ _ _ _ us hl => match us, hl with | [_, _], _ => rfl) sc__law_cut (fun vs H Q E h => ?_) (fun f A outer s H vs Q E hr h => ?_)
  · obtain ⟨st, c, M, ss, rfl, _⟩ := h; rfl
  · obtain ⟨st, ca, M, ss, rfl, ha, hw, kk⟩ := h
    refine ⟨_, (pss_cons (ps_set (i := 2) sc__law_cut.nd rfl (Or.inl rfl) (pe_lst (pa_cons (pe_lst (pa_cons pe_str (pa_cons pe_str (pa_cons pe_str (pa_cons pe_str (pa_cons pe_str (pa_cons pe_str (pa_cons pe_str (pa_cons pe_str (pa_cons pe_str (pa_cons pe_str (pa_cons pe_str (pa_cons pe_str (pa_cons pe_str (pa_cons pe_str (pa_cons pe_str (pa_cons pe_str pa_nil))))))))))))))))) (pa_cons (pe_lst (pa_cons pe_str (pa_cons pe_str (pa_cons pe_str (pa_cons pe_str (pa_cons pe_str (pa_cons pe_str (pa_cons pe_str (pa_cons pe_str (pa_cons pe_str (pa_cons pe_str (pa_cons pe_str (pa_cons pe_str (pa_cons pe_str (pa_cons pe_str (pa_cons pe_str pa_nil)))))))))))))))) (pa_cons (pe_lst (pa_cons pe_str (pa_cons pe_str (pa_cons pe_str (pa_cons pe_str (pa_cons pe_str (pa_cons pe_str (pa_cons pe_str (pa_cons pe_str (pa_cons pe_str (pa_cons pe_str (pa_cons pe_str (pa_cons pe_str pa_nil))))))))))))) (pa_cons (pe_lst (pa_cons pe_str (pa_cons pe_str (pa_cons pe_str (pa_cons pe_str (pa_cons pe_str (pa_cons pe_str (pa_cons pe_str (pa_cons pe_str (pa_cons pe_str (pa_cons pe_str (pa_cons pe_str (pa_cons pe_str (pa_cons pe_str (pa_cons pe_str (pa_cons pe_str (pa_cons pe_str pa_nil))))))))))))))))) pa_nil))))))
    (pss_cons (ps_set (i := 3) sc__law_cut.nd rfl (Or.inl rfl) (pe_ix (ixl (K := K) rfl) (pv 2) (pe_c c__law_draw hr (by decide) rfl (pa_cons (pv 0) (pa_cons pe_int pa_nil))) (fun _ _ => rfl)))
    (pss_cons (ps_set (i := 4) sc__law_cut.nd rfl (Or.inl rfl) (pe_op op_add_str (pv 1) (pe_bm PySem.F.plainAttrs_str PySem.F.slot_str_join PySem.F.type_str_join mt_join pe_str (pa_cons (pe_slice (slL (K := K) rfl) (pv 3) po_none (po_some (pe_op op_add pe_int (pe_c c__law_draw hr (by decide) rfl (pa_cons (pv 0) (pa_cons (pe_op op_sub (pe_callB (clen (K := K) rfl) (by rfl) T.b_len PySem.boot_len (pa_cons (pv 3) pa_nil)) pe_int) pa_nil)))))) pa_nil))))
    (pss_one (ps_ret (pe_cmpR op_eq (pe_c c__law_index hr (by decide) rfl (pa_cons (pv 4) pa_nil)) (pe_callB call_len_str (by rfl) T.b_len PySem.boot_len (pa_cons (pv 4) pa_nil)) (nomark _))))))), ?_⟩
    refine ⟨Nat.le_trans (by show 16 ≤ 100; decide) (by decide : 100 ≤ sizeLine), fun p1 h1 => ?_⟩
    have w1 := hw.new (o := HO.lst [V.str (Str.ofString "p"), V.str (Str.ofString "("), V.str (Str.ofString "X"), V.str (Str.ofString ","), V.str (Str.ofString "Y"), V.str (Str.ofString ")"), V.str (Str.ofString ":-"), V.str (Str.ofString "not"), V.str (Str.ofString "q"), V.str (Str.ofString ","), V.str (Str.ofString "X"), V.str (Str.ofString "<"), V.str (Str.ofString "3"), V.str (Str.ofString "*"), V.str (Str.ofString "Y"), V.str (Str.ofString ".")]) h1
    have nf1 := hw.fresh h1
    have e1 : upd H p1 (HO.lst [V.str (Str.ofString "p"), V.str (Str.ofString "("), V.str (Str.ofString "X"), V.str (Str.ofString ","), V.str (Str.ofString "Y"), V.str (Str.ofString ")"), V.str (Str.ofString ":-"), V.str (Str.ofString "not"), V.str (Str.ofString "q"), V.str (Str.ofString ","), V.str (Str.ofString "X"), V.str (Str.ofString "<"), V.str (Str.ofString "3"), V.str (Str.ofString "*"), V.str (Str.ofString "Y"), V.str (Str.ofString ".")]) p1 = some (.lst (cut0.map fun t => V.str (S t))) := by rw [upd_same, rowV0]
    generalize upd H p1 (HO.lst [V.str (Str.ofString "p"), V.str (Str.ofString "("), V.str (Str.ofString "X"), V.str (Str.ofString ","), V.str (Str.ofString "Y"), V.str (Str.ofString ")"), V.str (Str.ofString ":-"), V.str (Str.ofString "not"), V.str (Str.ofString "q"), V.str (Str.ofString ","), V.str (Str.ofString "X"), V.str (Str.ofString "<"), V.str (Str.ofString "3"), V.str (Str.ofString "*"), V.str (Str.ofString "Y"), V.str (Str.ofString ".")]) = H1 at w1 e1 ⊢
    refine ⟨Nat.le_trans (by show 15 ≤ 100; decide) (by decide : 100 ≤ sizeLine), fun p2 h2 => ?_⟩
    have w2 := w1.new (o := HO.lst [V.str (Str.ofString "1"), V.str (Str.ofString "{"), V.str (Str.ofString "a"), V.str (Str.ofString ";"), V.str (Str.ofString "b"), V.str (Str.ofString ":"), V.str (Str.ofString "c"), V.str (Str.ofString ","), V.str (Str.ofString "not"), V.str (Str.ofString "d"), V.str (Str.ofString "}"), V.str (Str.ofString "2"), V.str (Str.ofString ":-"), V.str (Str.ofString "e"), V.str (Str.ofString ".")]) h2
    have nf2 := w1.fresh h2
    have e2 : upd H1 p2 (HO.lst [V.str (Str.ofString "1"), V.str (Str.ofString "{"), V.str (Str.ofString "a"), V.str (Str.ofString ";"), V.str (Str.ofString "b"), V.str (Str.ofString ":"), V.str (Str.ofString "c"), V.str (Str.ofString ","), V.str (Str.ofString "not"), V.str (Str.ofString "d"), V.str (Str.ofString "}"), V.str (Str.ofString "2"), V.str (Str.ofString ":-"), V.str (Str.ofString "e"), V.str (Str.ofString ".")]) p2 = some (.lst (cut1.map fun t => V.str (S t))) := by rw [upd_same, rowV1]
    have e1 := (same_new (o := HO.lst [V.str (Str.ofString "1"), V.str (Str.ofString "{"), V.str (Str.ofString "a"), V.str (Str.ofString ";"), V.str (Str.ofString "b"), V.str (Str.ofString ":"), V.str (Str.ofString "c"), V.str (Str.ofString ","), V.str (Str.ofString "not"), V.str (Str.ofString "d"), V.str (Str.ofString "}"), V.str (Str.ofString "2"), V.str (Str.ofString ":-"), V.str (Str.ofString "e"), V.str (Str.ofString ".")]) h2) _ _ e1
    generalize upd H1 p2 (HO.lst [V.str (Str.ofString "1"), V.str (Str.ofString "{"), V.str (Str.ofString "a"), V.str (Str.ofString ";"), V.str (Str.ofString "b"), V.str (Str.ofString ":"), V.str (Str.ofString "c"), V.str (Str.ofString ","), V.str (Str.ofString "not"), V.str (Str.ofString "d"), V.str (Str.ofString "}"), V.str (Str.ofString "2"), V.str (Str.ofString ":-"), V.str (Str.ofString "e"), V.str (Str.ofString ".")]) = H2 at w2 e1 e2 ⊢
    refine ⟨Nat.le_trans (by show 12 ≤ 100; decide) (by decide : 100 ≤ sizeLine), fun p3 h3 => ?_⟩
    have w3 := w2.new (o := HO.lst [V.str (Str.ofString ":-"), V.str (Str.ofString "sum"), V.str (Str.ofString "{"), V.str (Str.ofString "1"), V.str (Str.ofString ":"), V.str (Str.ofString "a"), V.str (Str.ofString "}"), V.str (Str.ofString ">="), V.str (Str.ofString "2"), V.str (Str.ofString "+"), V.str (Str.ofString "X"), V.str (Str.ofString ".")]) h3
    have nf3 := w2.fresh h3
    have e3 : upd H2 p3 (HO.lst [V.str (Str.ofString ":-"), V.str (Str.ofString "sum"), V.str (Str.ofString "{"), V.str (Str.ofString "1"), V.str (Str.ofString ":"), V.str (Str.ofString "a"), V.str (Str.ofString "}"), V.str (Str.ofString ">="), V.str (Str.ofString "2"), V.str (Str.ofString "+"), V.str (Str.ofString "X"), V.str (Str.ofString ".")]) p3 = some (.lst (cut2.map fun t => V.str (S t))) := by rw [upd_same, rowV2]
    have e1 := (same_new (o := HO.lst [V.str (Str.ofString ":-"), V.str (Str.ofString "sum"), V.str (Str.ofString "{"), V.str (Str.ofString "1"), V.str (Str.ofString ":"), V.str (Str.ofString "a"), V.str (Str.ofString "}"), V.str (Str.ofString ">="), V.str (Str.ofString "2"), V.str (Str.ofString "+"), V.str (Str.ofString "X"), V.str (Str.ofString ".")]) h3) _ _ e1
    have e2 := (same_new (o := HO.lst [V.str (Str.ofString ":-"), V.str (Str.ofString "sum"), V.str (Str.ofString "{"), V.str (Str.ofString "1"), V.str (Str.ofString ":"), V.str (Str.ofString "a"), V.str (Str.ofString "}"), V.str (Str.ofString ">="), V.str (Str.ofString "2"), V.str (Str.ofString "+"), V.str (Str.ofString "X"), V.str (Str.ofString ".")]) h3) _ _ e2
    generalize upd H2 p3 (HO.lst [V.str (Str.ofString ":-"), V.str (Str.ofString "sum"), V.str (Str.ofString "{"), V.str (Str.ofString "1"), V.str (Str.ofString ":"), V.str (Str.ofString "a"), V.str (Str.ofString "}"), V.str (Str.ofString ">="), V.str (Str.ofString "2"), V.str (Str.ofString "+"), V.str (Str.ofString "X"), V.str (Str.ofString ".")]) = H3 at w3 e1 e2 e3 ⊢
    refine ⟨Nat.le_trans (by show 16 ≤ 100; decide) (by decide : 100 ≤ sizeLine), fun p4 h4 => ?_⟩
    have w4 := w3.new (o := HO.lst [V.str (Str.ofString "minimize"), V.str (Str.ofString "{"), V.str (Str.ofString "3"), V.str (Str.ofString "*"), V.str (Str.ofString "("), V.str (Str.ofString "X"), V.str (Str.ofString "-"), V.str (Str.ofString "1"), V.str (Str.ofString ")"), V.str (Str.ofString ":"), V.str (Str.ofString "p"), V.str (Str.ofString "("), V.str (Str.ofString "X"), V.str (Str.ofString ")"), V.str (Str.ofString "}"), V.str (Str.ofString ".")]) h4
    have nf4 := w3.fresh h4
    have e4 : upd H3 p4 (HO.lst [V.str (Str.ofString "minimize"), V.str (Str.ofString "{"), V.str (Str.ofString "3"), V.str (Str.ofString "*"), V.str (Str.ofString "("), V.str (Str.ofString "X"), V.str (Str.ofString "-"), V.str (Str.ofString "1"), V.str (Str.ofString ")"), V.str (Str.ofString ":"), V.str (Str.ofString "p"), V.str (Str.ofString "("), V.str (Str.ofString "X"), V.str (Str.ofString ")"), V.str (Str.ofString "}"), V.str (Str.ofString ".")]) p4 = some (.lst (cut3.map fun t => V.str (S t))) := by rw [upd_same, rowV3]
    have e1 := (same_new (o := HO.lst [V.str (Str.ofString "minimize"), V.str (Str.ofString "{"), V.str (Str.ofString "3"), V.str (Str.ofString "*"), V.str (Str.ofString "("), V.str (Str.ofString "X"), V.str (Str.ofString "-"), V.str (Str.ofString "1"), V.str (Str.ofString ")"), V.str (Str.ofString ":"), V.str (Str.ofString "p"), V.str (Str.ofString "("), V.str (Str.ofString "X"), V.str (Str.ofString ")"), V.str (Str.ofString "}"), V.str (Str.ofString ".")]) h4) _ _ e1
    have e2 := (same_new (o := HO.lst [V.str (Str.ofString "minimize"), V.str (Str.ofString "{"), V.str (Str.ofString "3"), V.str (Str.ofString "*"), V.str (Str.ofString "("), V.str (Str.ofString "X"), V.str (Str.ofString "-"), V.str (Str.ofString "1"), V.str (Str.ofString ")"), V.str (Str.ofString ":"), V.str (Str.ofString "p"), V.str (Str.ofString "("), V.str (Str.ofString "X"), V.str (Str.ofString ")"), V.str (Str.ofString "}"), V.str (Str.ofString ".")]) h4) _ _ e2
    have e3 := (same_new (o := HO.lst [V.str (Str.ofString "minimize"), V.str (Str.ofString "{"), V.str (Str.ofString "3"), V.str (Str.ofString "*"), V.str (Str.ofString "("), V.str (Str.ofString "X"), V.str (Str.ofString "-"), V.str (Str.ofString "1"), V.str (Str.ofString ")"), V.str (Str.ofString ":"), V.str (Str.ofString "p"), V.str (Str.ofString "("), V.str (Str.ofString "X"), V.str (Str.ofString ")"), V.str (Str.ofString "}"), V.str (Str.ofString ".")]) h4) _ _ e3
    generalize upd H3 p4 (HO.lst [V.str (Str.ofString "minimize"), V.str (Str.ofString "{"), V.str (Str.ofString "3"), V.str (Str.ofString "*"), V.str (Str.ofString "("), V.str (Str.ofString "X"), V.str (Str.ofString "-"), V.str (Str.ofString "1"), V.str (Str.ofString ")"), V.str (Str.ofString ":"), V.str (Str.ofString "p"), V.str (Str.ofString "("), V.str (Str.ofString "X"), V.str (Str.ofString ")"), V.str (Str.ofString "}"), V.str (Str.ofString ".")]) = H4 at w4 e1 e2 e3 e4 ⊢
    refine ⟨four, fun p5 h5 => ?_⟩
    have w5 := w4.new (o := HO.lst [.ref p1, .ref p2, .ref p3, .ref p4]) h5
    have s5 : Same H4 (upd H4 p5 (HO.lst [.ref p1, .ref p2, .ref p3, .ref p4])) := same_new h5
    have e5 : upd H4 p5 (HO.lst [.ref p1, .ref p2, .ref p3, .ref p4]) p5 = some (HO.lst [.ref p1, .ref p2, .ref p3, .ref p4]) := upd_same
    have n5 := w4.fresh h5
    generalize upd H4 p5 (HO.lst [.ref p1, .ref p2, .ref p3, .ref p4]) = H5 at w5 s5 e5 ⊢
    refine ⟨_, rfl, _, rfl, st, ca, M, 4, rfl, by decide, by decide, w5, fun dd H6 a0 a1 w6 k6 => ?_⟩
    obtain ⟨pr, row, n, hat, er, npr, ok⟩ : ∃ (pr : Addr) (row : List (List Nat)) (n : Nat), atI [V.ref p1, .ref p2, .ref p3, .ref p4] dd = some (.ref pr) ∧ H5 pr = some (.lst (row.map fun t => V.str (S t))) ∧ ¬ M pr ∧ CutOk row n := by
      have hd : dd = 0 ∨ dd = 1 ∨ dd = 2 ∨ dd = 3 := by omega
      rcases hd with rfl | rfl | rfl | rfl
      · exact ⟨p1, cut0, _, rfl, s5 _ _ e1, nf1, cutOk0⟩
      · exact ⟨p2, cut1, _, rfl, s5 _ _ e2, nf2, cutOk1⟩
      · exact ⟨p3, cut2, _, rfl, s5 _ _ e3, nf3, cutOk2⟩
      · exact ⟨p4, cut3, _, rfl, s5 _ _ e4, nf4, cutOk3⟩
    refine ⟨p5, _, dd, _, rfl, rfl, SqL.of (k6 p5 _ (w5.nl n5) e5), hat, ?_⟩
    have er6 := k6 pr _ (w5.nl npr) er
    clear hat er e1 e2 e3 e4 e5 s5
    have hlen := ok.len
    have hle := ok.le
    refine ⟨_, rfl, rfl, _, rfl, _, rfl, _, rfl, pr, _, rfl, .inl (SqL.of er6), _, _, rfl, rfl, st, ca, M, _, rfl, ?_, ?_, w6, fun d7 H7 b0 b1 w7 k7 => ⟨_, _, rfl, rfl, _, rfl, pr, _, rfl, SqL.of (k7 pr _ (w6.nl npr) er6), fun wl hwl => ?_⟩⟩
    · show 0 < ((row.map fun t => V.str (S t)).length : Int) - 1
      rw [List.length_map]; omega
    · show ((row.map fun t => V.str (S t)).length : Int) - 1 < 1073741824
      rw [List.length_map]; omega
    have b2 : d7 < (n : Int) := by
      have : d7 < ((row.map fun t => V.str (S t)).length : Int) - 1 := b1
      rw [List.length_map] at this; omega
    obtain ⟨i, rfl⟩ : ∃ i : Nat, d7 = i := ⟨d7.toNat, by omega⟩
    have hin : i < n := by omega
    have ecut : cutV (row.map fun t => V.str (S t)) none (some (1 + (i : Int))) = ((row.take (i + 1)).map S).map V.str := by
      rw [show (1 + (i : Int)) = ((i + 1 : Nat) : Int) by omega, cut_to, ← List.map_take, List.map_map]; rfl
    have hj := ok.jl i hin
    have hb := ha.len
    have hi := idx_er (ss := ss) (fl := TL.joinL [32] (row.take (i + 1))) (ha.pre0 (by omega)) (Nat.lt_of_le_of_lt ha.l (by decide)) (ok.run i hin)
    have ej : Txt.join (Str.ofString " ") ((row.take (i + 1)).map S) = S (TL.joinL [32] (row.take (i + 1))) := by
      rw [show Str.ofString " " = S [32] by decide +kernel, join_S]
    refine ⟨_, wl, (row.take (i + 1)).map S, rfl, rfl, .inl (SqL.of (by rw [upd_same, ecut])), ?_, _, _, rfl, rfl, ?_, ?_⟩
    · have h1 := ok.sum i hin
      have h2 : ((row.take (i + 1)).map S).length ≤ 100 := by rw [List.length_map, List.length_take]; omega
      have h3 : (Str.ofString " ").length = 1 := by decide +kernel
      rw [h3]; omega
    · rw [ej, S_len, S_len, sizeLine_eq]; omega
    rw [ej, S_cat]
    refine ⟨_, rfl, tx (wP ss) ++ TL.joinL [32] (row.take (i + 1)), _, rfl, by rw [List.length_append]; omega, hi, fun HE sE => ⟨_, rfl, _, rfl, ?_, rfl, ?_⟩⟩
    · rw [S_len, sizeLine_eq, List.length_append]; omega
    have e := kk HE
    rw [← (decide_eq_true rfl : decide (V.int (((tx (wP ss)).length + (TL.joinL [32] (row.take (i + 1))).length : Nat) : Int) = V.int (((tx (wP ss)).length + (TL.joinL [32] (row.take (i + 1))).length : Nat) : Int)) = true)] at e
    rw [S_len, List.length_append]
    exact e
end
end K04
set_option Elab.async false
set_option maxRecDepth 100000
set_option maxHeartbeats 4000000
namespace K04
open PySem L2 C8 SX GX LC LG LR SU PM PX PN CwR
def deepL (n : Nat) : List Nat := ((List.replicate n [40]).flatten ++ [49]) ++ (List.replicate n [41]).flatten
def spDeep (_K : PySem.W.Frag) (_ts : Tbs) : Sp := fun vs H Q _ => ∃ n : Nat, vs = [.int (n : Int)] ∧ n ≤ 100 ∧ Q (.str (S (deepL n))) H
abbrev sp__law_deep := spDeep
theorem flat1 (n c : Nat) : (List.replicate n [c]).flatten.length = n := by simp
section
variable {P : Program} {w : World} {K : PySem.W.Frag} {mg : Str → Option Value} {base : Heap} {d : Cd}
-- def _law_deep: level 1, calls [], cells [], gens 0, raising False
theorem ok__law_deep (T : Txt P w K mg base d) :
    Cal P w K mg base 1 "_law_deep" (sp__law_deep K d.ts) [] := by
  obtain ⟨c, F⟩ := T.«_law_deep»
  refine cal (ps := ["count"]) F (fun _ _ _ _ _ _ us hl => match us, hl with | [_], _ => rfl) sc__law_deep (fun vs H Q E h => ?_) (fun f A outer s H vs Q E hr h => ?_)
  · obtain ⟨n, rfl, _⟩ := h; rfl
  · obtain ⟨n, rfl, hn, kk⟩ := h
    refine ⟨_, (pss_one (ps_ret (pe_op op_add_str (pe_op op_add_str (pe_op op_mulS pe_str (pv 0)) pe_str) (pe_op op_mulS pe_str (pv 0))))), ?_⟩
    have e1 : Txt.mul (Str.ofString "(") n = S ((List.replicate n [40]).flatten) := by rw [show Str.ofString "(" = S [40] by decide +kernel, mul_S]
    have e2 : Txt.mul (Str.ofString ")") n = S ((List.replicate n [41]).flatten) := by rw [show Str.ofString ")" = S [41] by decide +kernel, mul_S]
    have e3 : Str.ofString "1" = S [49] := by decide +kernel
    refine ⟨_, rfl, _, n, rfl, rfl, by omega, by decide, ?_⟩
    rw [e1]
    refine ⟨_, _, rfl, rfl, ?_, _, rfl, _, n, rfl, rfl, by omega, by decide, ?_⟩
    · rw [e3, S_len, S_len, sizeLine_eq, flat1]; show n + 1 ≤ _; omega
    rw [e2]
    refine ⟨_, _, rfl, rfl, ?_, ?_⟩
    · rw [e3, S_cat, S_len, S_len, sizeLine_eq, List.length_append, flat1, flat1]; show (n + 1) + n ≤ _; omega
    rw [e3, S_cat, S_cat]
    exact kk
end
theorem i_one {ss : List Stm} (ha : Ahd ss) {fl : List Nat} {wn c : Nat} (hf : fl.length ≤ 300) (hr : ∀ off m, m ≤ 4 → runW off m fl = some (false, false, some (wn, max m c, true))) (i : Int) (hi : (if wn > 60 ∨ c > 4 then (0 : Int) else -1) = i) : Idx (tx (wP ss) ++ fl) i := by
  have h := idx_one (ha.pre0 hf) (Nat.le_trans ha.l (by decide)) hr
  have hl := ha.l
  rw [← hi]
  by_cases hc : wn > 60 ∨ c > 4
  · rw [if_pos (.inr hc)] at h
    rw [if_pos hc]; exact h
  · rw [if_neg (fun z => z.elim (fun z => by omega) hc)] at h
    rw [if_neg hc]; exact h
theorem i_deep9 {ss : List Stm} (ha : Ahd ss) : Idx (tx (wP ss) ++ deep9) (-1) := i_one ha (by decide) deep9_ok _ (by decide)
theorem i_four {ss : List Stm} (ha : Ahd ss) : Idx (tx (wP ss) ++ PN.four) (-1) := i_one ha (by decide) four_ok _ (by decide)
theorem i_five {ss : List Stm} (ha : Ahd ss) : Idx (tx (wP ss) ++ PN.five) 0 := i_one ha (by decide) five_ok _ (by decide)
theorem i_w60 {ss : List Stm} (ha : Ahd ss) : Idx (tx (wP ss) ++ w60) (-1) := i_one ha (by decide) w60_ok _ (by decide)
theorem i_w61 {ss : List Stm} (ha : Ahd ss) : Idx (tx (wP ss) ++ w61) 0 := i_one ha (by decide) w61_ok _ (by decide)
def mny (n : Nat) : List Nat := (List.replicate n [112, 46, 32]).flatten
theorem mny_len (n : Nat) : (mny n).length = 3 * n := by unfold mny; simp; omega
theorem mny_eq {ss : List Stm} (n : Nat) : tx (wP ss) ++ mny n = tx (wP (ss ++ List.replicate n pS)) := by rw [wP_app, tx_app, pS_wP]; rfl
theorem i_many {ss : List Stm} (ha : Ahd ss) : Idx (tx (wP ss) ++ mny (60 - ss.length)) (-1) := by
  rw [mny_eq]
  have hl := ha.l
  exact idx_all (ha.pre (by omega) (by decide)) (by rw [List.length_append, List.length_replicate]; omega)
theorem i_many1 {ss : List Stm} (ha : Ahd ss) : Idx (tx (wP ss) ++ mny (60 - ss.length) ++ pDot) 0 := by
  rw [mny_eq]
  have hl := ha.l
  have h := idx_one (ss := ss ++ List.replicate (60 - ss.length) pS) (ha.pre (by omega) (by decide)) (by rw [List.length_append, List.length_replicate]; omega) pDot_ok
  rw [if_pos (.inl (by rw [List.length_append, List.length_replicate]; omega))] at h
  exact h
theorem i_wrong {ss : List Stm} (ha : Ahd ss) : Idx (tx (wP ss) ++ mny (60 - ss.length) ++ [112, 46, 32, 58, 45, 32, 46]) (((tx (wP ss)).length + 3 * (60 - ss.length) + 6 : Nat) : Int) := by
  have hl := ha.l
  have e : tx (wP ss) ++ mny (60 - ss.length) ++ [112, 46, 32, 58, 45, 32, 46] = tx (wP (ss ++ List.replicate (60 - ss.length + 1) pS)) ++ pIf := by
    rw [← mny_eq, List.append_assoc, List.append_assoc]
    congr 1
    unfold mny
    rw [List.replicate_succ', List.flatten_append, List.append_assoc]
    rfl
  have h := idx_er (ss := ss ++ List.replicate (60 - ss.length + 1) pS) (ha.pre (by omega) (by decide)) (by rw [List.length_append, List.length_replicate]; show _ < 600; omega) pIf_ok
  rw [← mny_eq, List.length_append, mny_len] at h
  rw [e, show (tx (wP ss)).length + 3 * (60 - ss.length) + 6 = (tx (wP ss)).length + 3 * (60 - ss.length + 1) + 3 by omega]
  rw [mny_eq] at h
  exact h
theorem i_deep10 {ss : List Stm} (ha : Ahd ss) : Idx (tx (wP ss) ++ deep10) 0 := idx_deep (ha.pre0 (by decide)) deep10_ok
theorem i_deep10q {ss : List Stm} (ha : Ahd ss) : Idx (tx (wP ss) ++ deep10q) 0 := idx_deep (ha.pre0 (by decide)) deep10q_ok
abbrev sp__law_limits := spB
section
variable {P : Program} {w : World} {K : PySem.W.Frag} {mg : Str → Option Value} {base : Heap} {d : Cd}
-- def _law_limits: level 54, calls [('_law_deep', 1), ('_law_draw', 1), ('_law_index', 53)], cells [], gens 0, raising False
theorem ok__law_limits (T : Txt P w K mg base d) (c__law_deep : Cal P w K mg base 1 "_law_deep" (sp__law_deep K d.ts) []) (c__law_draw : Cal P w K mg base 1 "_law_draw" (sp__law_draw K d.ts) []) (c__law_index : Cal P w K mg base 53 "_law_index" (sp__law_index K d.ts) []) :
    Cal P w K mg base 54 "_law_limits" (sp__law_limits K d.ts) [] := by
  obtain ⟨c, F⟩ := T.«_law_limits»
  refine cal (ps := ["state", "before"]) F (fun _ _ _ _ _ _ us hl => match us, hl with | [_, _], _ => rfl) sc__law_limits (fun vs H Q E h => ?_) (fun f A outer s H vs Q E hr h => ?_)
  · obtain ⟨st, c, M, ss, rfl, _⟩ := h; rfl
  · obtain ⟨st, ca, M, ss, rfl, ha, hw, kk⟩ := h
    refine ⟨_, (pss_cons (ps_set (i := 2) sc__law_limits.nd rfl (Or.inl rfl) (pe_c c__law_draw hr (by decide) rfl (pa_cons (pv 0) (pa_cons pe_int pa_nil))))
    (pss_cons (ps_if (pt_cmpR op_eq (pv 2) pe_int (nomark _))
      (pss_cons (ps_set (i := 3) sc__law_limits.nd rfl (Or.inl rfl) (pe_ix (ixl (K := K) rfl) (pe_lst (pa_cons pe_str (pa_cons pe_str pa_nil))) (pe_c c__law_draw hr (by decide) rfl (pa_cons (pv 0) (pa_cons pe_int pa_nil))) (fun _ _ => rfl)))
      (pss_cons (ps_if (pt_cmpR op_ne (pe_c c__law_index hr (by decide) rfl (pa_cons (pe_op op_add_str (pe_op op_add_str (pe_op op_add_str (pv 1) pe_str) (pe_c c__law_deep hr (by decide) rfl (pa_cons pe_int pa_nil))) pe_str) pa_nil)) (pe_un un_neg pe_int) (nomark _))
        (pss_one (ps_ret pe_bl))
        pss_nil)
      (pss_one (ps_ret (pe_cmpR op_eq (pe_c c__law_index hr (by decide) rfl (pa_cons (pe_op op_add_str (pe_op op_add_str (pe_op op_add_str (pe_op op_add_str (pv 1) pe_str) (pe_c c__law_deep hr (by decide) rfl (pa_cons pe_int pa_nil))) pe_str) (pv 3)) pa_nil)) pe_int (nomark _))))))
      pss_nil)
    (pss_cons (ps_if (pt_cmpR op_eq (pv 2) pe_int (nomark _))
      (pss_one (ps_ret (pe_and (pe_cmpR op_eq (pe_c c__law_index hr (by decide) rfl (pa_cons (pe_op op_add_str (pv 1) pe_str) pa_nil)) (pe_un un_neg pe_int) (nomark _)) (pe_one (pe_cmpR op_eq (pe_c c__law_index hr (by decide) rfl (pa_cons (pe_op op_add_str (pv 1) pe_str) pa_nil)) pe_int (nomark _))))))
      pss_nil)
    (pss_cons (ps_if (pt_cmpR op_eq (pv 2) pe_int (nomark _))
      (pss_cons (ps_set (i := 4) sc__law_limits.nd rfl (Or.inl rfl) (pe_bm PySem.F.plainAttrs_str PySem.F.slot_str_join PySem.F.type_str_join mt_join pe_str (pa_cons (pe_op op_rep (pe_lst (pa_cons pe_str pa_nil)) pe_int) pa_nil)))
      (pss_cons (ps_if (pt_cmpR op_ne (pe_c c__law_index hr (by decide) rfl (pa_cons (pe_op op_add_str (pe_op op_add_str (pe_op op_add_str (pv 1) pe_str) (pv 4)) pe_str) pa_nil)) (pe_un un_neg pe_int) (nomark _))
        (pss_one (ps_ret pe_bl))
        pss_nil)
      (pss_one (ps_ret (pe_cmpR op_eq (pe_c c__law_index hr (by decide) rfl (pa_cons (pe_op op_add_str (pe_op op_add_str (pe_op op_add_str (pv 1) pe_str) (pv 4)) pe_str) pa_nil)) pe_int (nomark _))))))
      pss_nil)
    (pss_cons (ps_set (i := 5) sc__law_limits.nd rfl (Or.inl rfl) (pe_op op_mulS pe_str (pe_op op_sub pe_int (pe_bm PySem.F.plainAttrs_str PySem.F.slot_str_count PySem.F.type_str_count mt_count (pv 1) (pa_cons pe_str pa_nil)))))
    (pss_cons (ps_set (i := 6) sc__law_limits.nd rfl (Or.inl rfl) (pe_op op_add_str (pe_op op_add_str (pv 1) (pv 5)) pe_str))
    (pss_cons (ps_if (PW.pt (pw_or (pt_cmpR op_ne (pe_c c__law_index hr (by decide) rfl (pa_cons (pe_op op_add_str (pv 1) (pv 5)) pa_nil)) (pe_un un_neg pe_int) (nomark _)) (pw_or1 (pt_cmpR op_ne (pe_c c__law_index hr (by decide) rfl (pa_cons (pe_op op_add_str (pe_op op_add_str (pv 1) (pv 5)) pe_str) pa_nil)) pe_int (nomark _)))))
      (pss_one (ps_ret pe_bl))
      pss_nil)
    (pss_one (ps_ret (pe_cmpR op_eq (pe_c c__law_index hr (by decide) rfl (pa_cons (pv 6) pa_nil)) (pe_op op_sub (pe_callB call_len_str (by rfl) T.b_len PySem.boot_len (pa_cons (pv 6) pa_nil)) pe_int) (nomark _))))))))))), ?_⟩
    have hb := ha.len
    have hl4 := ha.l
    have hd9 : (deepL 9).length = 19 := by decide
    have hd10 : (deepL 10).length = 21 := by decide
    have eo : Str.ofString "p(" = S [112, 40] := by decide +kernel
    have ec : Str.ofString ")." = S [41, 46] := by decide +kernel
    refine ⟨_, rfl, st, ca, M, 4, rfl, by decide, by decide, hw, fun kind H1 a0 a1 w1 k1 => ?_⟩
    refine ⟨_, rfl, rfl, _, rfl, ite2 (fun c1 => ?_) (fun c1 => ?_)⟩
    · refine ⟨two, fun l hl => ?_⟩
      have w2 := w1.new (o := HO.lst [.str "", .str " q q."]) hl
      have s2 : Same H1 (upd H1 l (HO.lst [.str "", .str " q q."])) := same_new hl
      have e2 : upd H1 l (HO.lst [.str "", .str " q q."]) l = some (HO.lst [.str "", .str " q q."]) := upd_same
      have n2 := w1.fresh hl
      generalize upd H1 l (HO.lst [.str "", .str " q q."]) = H2 at w2 s2 e2 ⊢
      refine ⟨_, rfl, st, ca, M, 2, rfl, by decide, by decide, w2, fun d3 H3 b0 b1 w3 k3 => ?_⟩
      obtain ⟨br, fl, hat, hfl, hid, hbl⟩ : ∃ br fl : List Nat, atI [V.str "", .str " q q."] d3 = some (.str (S br)) ∧ fl = (([112, 40] ++ deepL 10) ++ [41, 46]) ++ br ∧ Idx (tx (wP ss) ++ fl) 0 ∧ br.length ≤ 5 := by
        have hd : d3 = 0 ∨ d3 = 1 := by omega
        rcases hd with rfl | rfl
        · exact ⟨[], deep10, by rw [show S [] = Str.ofString "" by decide +kernel]; rfl, by decide, i_deep10 ha, by decide⟩
        · exact ⟨[32, 113, 32, 113, 46], deep10q, by rw [show S [32, 113, 32, 113, 46] = Str.ofString " q q." by decide +kernel]; rfl, by decide, i_deep10q ha, by decide⟩
      refine ⟨l, _, d3, _, rfl, rfl, SqL.of (k3 l _ (w2.nl n2) e2), hat, ?_⟩
      refine ⟨_, rfl, _, _, rfl, rfl, ?_, 9, rfl, by decide, _, _, rfl, rfl, ?_, _, _, rfl, rfl, ?_, tx (wP ss) ++ deep9, _, ?_, ?_, i_deep9 ha, fun HE sE => ⟨_, rfl, rfl, _, rfl, iteF' (by decide) ?_⟩⟩
      · rw [eo]; simp only [S_cat, S_len, List.length_append, sizeLine_eq, hd9, List.length_cons, List.length_nil]; omega
      · rw [eo]; simp only [S_cat, S_len, List.length_append, sizeLine_eq, hd9, List.length_cons, List.length_nil]; omega
      · rw [eo, ec]; simp only [S_cat, S_len, List.length_append, sizeLine_eq, hd9, List.length_cons, List.length_nil]; omega
      · rw [eo, ec, S_cat, S_cat, S_cat, List.append_assoc, List.append_assoc]; rfl
      · rw [List.length_append, show deep9.length = 23 by decide]; omega
      refine ⟨_, rfl, _, _, rfl, rfl, ?_, 10, rfl, by decide, _, _, rfl, rfl, ?_, _, _, rfl, rfl, ?_, _, rfl, _, _, rfl, rfl, ?_, tx (wP ss) ++ fl, 0, ?_, ?_, hid, fun HF sF => ⟨rfl, ?_⟩⟩
      · rw [eo]; simp only [S_cat, S_len, List.length_append, sizeLine_eq, hd10, List.length_cons, List.length_nil]; omega
      · rw [eo]; simp only [S_cat, S_len, List.length_append, sizeLine_eq, hd10, List.length_cons, List.length_nil]; omega
      · rw [eo, ec]; simp only [S_cat, S_len, List.length_append, sizeLine_eq, hd10, List.length_cons, List.length_nil]; omega
      · rw [eo, ec]; simp only [S_cat, S_len, List.length_append, sizeLine_eq, hd10, List.length_cons, List.length_nil]; omega
      · rw [eo, ec, S_cat, S_cat, S_cat, S_cat, hfl, List.append_assoc, List.append_assoc, List.append_assoc, List.append_assoc, List.append_assoc]; rfl
      · rw [hfl]; simp only [List.length_append, hd10, List.length_cons, List.length_nil]; omega
      exact kk HF
    refine ⟨_, rfl, rfl, _, rfl, ite2 (fun c2 => ?_) (fun c2 => ?_)⟩
    · have e4 : Str.ofString "p(1, 2, 3, 4)." = S PN.four := by decide +kernel
      have e5 : Str.ofString "p(1, 2, 3, 4, X)." = S PN.five := by decide +kernel
      have l4 : PN.four.length = 14 := by decide
      have l5 : PN.five.length = 17 := by decide
      refine ⟨_, rfl, _, _, rfl, rfl, ?_, tx (wP ss) ++ PN.four, _, ?_, ?_, i_four ha, fun HE sE => ⟨_, rfl, rfl, _, rfl, iteT' (by decide) ⟨_, rfl, _, _, rfl, rfl, ?_, tx (wP ss) ++ PN.five, _, ?_, ?_, i_five ha, fun HF sF => ⟨rfl, kk HF⟩⟩⟩⟩
      · rw [e4]; simp only [S_len, sizeLine_eq, l4]; omega
      · rw [e4, S_cat]; rfl
      · rw [List.length_append, l4]; omega
      · rw [e5]; simp only [S_len, sizeLine_eq, l5]; omega
      · rw [e5, S_cat]; rfl
      · rw [List.length_append, l5]; omega
    refine ⟨_, rfl, rfl, _, rfl, ite2 (fun c3 => ?_) (fun c3 => ?_)⟩
    · have ew : Txt.join (Str.ofString ", ") (List.replicate 59 (Str.ofString "a")) = S (TL.joinL [44, 32] (List.replicate 59 [97])) := by
        rw [show Str.ofString ", " = S [44, 32] by decide +kernel, show List.replicate 59 (Str.ofString "a") = (List.replicate 59 [97]).map S by decide +kernel, join_S]
      have lw : (TL.joinL [44, 32] (List.replicate 59 [97])).length = 175 := by decide
      have ep : Str.ofString "p :- " = S [112, 32, 58, 45, 32] := by decide +kernel
      have ed : Str.ofString "." = S [46] := by decide +kernel
      have ebb : Str.ofString ", b." = S [44, 32, 98, 46] := by decide +kernel
      refine ⟨rfl, Nat.le_trans (by show 1 ≤ 100; decide) (by decide : 100 ≤ sizeLine), fun l hl => ⟨l, 59, _, rfl, rfl, upd_same, by decide, by decide, Nat.le_trans (by show 1 * 59 ≤ 100; decide) (by decide : 100 ≤ sizeLine), fun p hp => ⟨_, p, List.replicate 59 (Str.ofString "a"), rfl, rfl, .inl (SqL.of upd_same), ?_, ?_⟩⟩⟩
      · exact Nat.le_trans (by decide +kernel : _ ≤ 1000) (by decide)
      rw [ew]
      refine ⟨_, rfl, _, _, rfl, rfl, ?_, _, rfl, _, _, rfl, rfl, ?_, _, _, rfl, rfl, ?_, tx (wP ss) ++ w60, _, ?_, ?_, i_w60 ha, fun HE sE => ⟨_, rfl, rfl, _, rfl, iteF' (by decide) ?_⟩⟩
      · rw [ep]; simp only [S_cat, S_len, List.length_append, sizeLine_eq, lw, List.length_cons, List.length_nil]; omega
      · rw [ep]; simp only [S_cat, S_len, List.length_append, sizeLine_eq, lw, List.length_cons, List.length_nil]; omega
      · rw [ep, ed]; simp only [S_cat, S_len, List.length_append, sizeLine_eq, lw, List.length_cons, List.length_nil]; omega
      · rw [ep, ed, S_cat, S_cat, S_cat, List.append_assoc, List.append_assoc, show [112, 32, 58, 45, 32] ++ (TL.joinL [44, 32] (List.replicate 59 [97]) ++ [46]) = w60 by decide +kernel]; rfl
      · rw [List.length_append, show w60.length = 181 by decide]; omega
      refine ⟨_, rfl, _, _, rfl, rfl, ?_, _, rfl, _, _, rfl, rfl, ?_, _, _, rfl, rfl, ?_, tx (wP ss) ++ w61, _, ?_, ?_, i_w61 ha, fun HF sF => ⟨rfl, kk HF⟩⟩
      · rw [ep]; simp only [S_cat, S_len, List.length_append, sizeLine_eq, lw, List.length_cons, List.length_nil]; omega
      · rw [ep]; simp only [S_cat, S_len, List.length_append, sizeLine_eq, lw, List.length_cons, List.length_nil]; omega
      · rw [ep, ebb]; simp only [S_cat, S_len, List.length_append, sizeLine_eq, lw, List.length_cons, List.length_nil]; omega
      · rw [ep, ebb, S_cat, S_cat, S_cat, List.append_assoc, List.append_assoc, show [112, 32, 58, 45, 32] ++ (TL.joinL [44, 32] (List.replicate 59 [97]) ++ [44, 32, 98, 46]) = w61 by decide +kernel]; rfl
      · rw [List.length_append, show w61.length = 184 by decide]; omega
    have ecn : Txt.count (S (tx (wP ss))) (Str.ofString ". ") = (ss.length : Nat) := by rw [show Str.ofString ". " = S [46, 32] by decide +kernel]; exact count_ss ha.m
    have em : Txt.mul (Str.ofString "p. ") ((60 - ss.length : Nat) : Int) = S (mny (60 - ss.length)) := by rw [show Str.ofString "p. " = S [112, 46, 32] by decide +kernel, mul_S]; rfl
    have ef : Str.ofString "p. :- ." = S [112, 46, 32, 58, 45, 32, 46] := by decide +kernel
    have eg : Str.ofString "p." = S [112, 46] := by decide +kernel
    have lm := mny_len (60 - ss.length)
    refine ⟨_, rfl, rfl, _, _, rfl, rfl, ?_⟩
    rw [ecn]
    refine ⟨_, _, rfl, rfl, _, 60 - ss.length, rfl, ?_, by omega, by decide +kernel, ?_⟩
    · show V.int (60 - ((ss.length : Nat) : Int)) = V.int (((60 - ss.length : Nat)) : Int)
      rw [show (60 - ((ss.length : Nat) : Int)) = ((60 - ss.length : Nat) : Int) by omega]
    rw [em]
    refine ⟨_, rfl, _, rfl, _, _, rfl, rfl, ?_, _, _, rfl, rfl, ?_, ?_⟩
    · simp only [S_len, sizeLine_eq, lm]; omega
    · rw [ef]; simp only [S_cat, S_len, List.length_append, sizeLine_eq, lm, List.length_cons, List.length_nil]; omega
    refine ⟨_, rfl, _, rfl, _, _, rfl, rfl, ?_, tx (wP ss) ++ mny (60 - ss.length), _, ?_, ?_, i_many ha, fun HE sE => ⟨_, rfl, rfl, _, rfl, iteF' (by decide) ?_⟩⟩
    · simp only [S_len, sizeLine_eq, lm]; omega
    · rw [S_cat]; rfl
    · rw [List.length_append, lm]; omega
    refine ⟨_, rfl, _, rfl, _, _, rfl, rfl, ?_, _, _, rfl, rfl, ?_, tx (wP ss) ++ mny (60 - ss.length) ++ pDot, _, ?_, ?_, i_many1 ha, fun HF sF => ⟨rfl, _, rfl, iteF' (by decide) ?_⟩⟩
    · simp only [S_len, sizeLine_eq, lm]; omega
    · rw [eg]; simp only [S_cat, S_len, List.length_append, sizeLine_eq, lm, List.length_cons, List.length_nil]; omega
    · rw [eg, S_cat, S_cat]; rfl
    · rw [List.length_append, List.length_append, lm]; show _ + 2 ≤ 4000; omega
    refine ⟨_, rfl, tx (wP ss) ++ mny (60 - ss.length) ++ [112, 46, 32, 58, 45, 32, 46], _, ?_, ?_, i_wrong ha, fun HG sG => ⟨_, rfl, _, rfl, ?_, _, _, rfl, rfl, rfl, ?_⟩⟩
    · rw [ef, S_cat, S_cat]; rfl
    · rw [List.length_append, List.length_append, lm]; show _ + 7 ≤ 4000; omega
    · rw [ef]; simp only [S_cat, S_len, List.length_append, sizeLine_eq, lm, List.length_cons, List.length_nil]; omega
    have e := kk HG
    have hz : (((tx (wP ss)).length + 3 * (60 - ss.length) + 6 : Nat) : Int) = (((S (tx (wP ss)) ++ S (mny (60 - ss.length)) : Str) ++ Str.ofString "p. :- ." : Str).length : Int) - 1 := by
      rw [ef, S_cat, S_cat, S_len, List.length_append, List.length_append, lm]
      show _ = (((tx (wP ss)).length + 3 * (60 - ss.length) + 7 : Nat) : Int) - 1
      omega
    rw [hz]
    rw [← (decide_eq_true rfl : decide (V.int ((((S (tx (wP ss)) ++ S (mny (60 - ss.length)) : Str) ++ Str.ofString "p. :- ." : Str).length : Int) - 1) = V.int ((((S (tx (wP ss)) ++ S (mny (60 - ss.length)) : Str) ++ Str.ofString "p. :- ." : Str).length : Int) - 1)) = true)] at e
    exact e
end
end K04
set_option Elab.async false
set_option maxRecDepth 100000
set_option maxHeartbeats 4000000
namespace K04
open PySem L2 C8 SX GX LC LG LR SU PM PX PN CwR
def spLaw (K : PySem.W.Frag) (ts : Tbs) : Sp := fun vs H Q _ => ∃ (a : Addr) (ns : List Int), vs = [.ref a] ∧ SqL K H a (ns.map V.int) ∧ ns.length ≤ 63 ∧ (∀ P ∈ ts.all, H P = some (.tbl #[])) ∧ ts.one ∈ ts.all ∧ ∀ H', Q (.bl true) H'
abbrev sp_law := spLaw
theorem world {ts : Tbs} {st ca : Addr} {H H' : Hp} (hT : ∀ P ∈ ts.all, H P = some (.tbl #[])) (ho : ts.one ∈ ts.all) (s : Same H H') (h : StAt H' st ca) : Wd ts st ca (Lx ts st ca) H' := by
  refine ⟨fun b hb => ?_, h, .inl rfl, .inr rfl, fun P hP => ⟨#[], s _ _ (hT P hP), trivial⟩, ⟨#[], s _ _ (hT _ ho), trivial, fun pos cv e => nomatch (show (none : Option Value) = some cv from e)⟩⟩
  obtain ⟨sd, kd, ns, h1, h2, _⟩ := h
  rcases hb with z | z
  · exact .inl ⟨_, by rw [z]; exact h1, rfl⟩
  · exact .inl ⟨_, by rw [z]; exact h2, rfl⟩
theorem wd_same {ts : Tbs} {st ca : Addr} {M : Vol} {H H' : Hp} (w : Wd ts st ca M H) (s : Same H H') : Wd ts st ca M H' := by
  refine ⟨fun b hb => (w.live b hb).elim (fun ⟨o, e, t⟩ => .inl ⟨o, s _ _ e, t⟩) .inr, ?_, w.lst, w.lc, fun P hP => (w.tab P hP).keep fun b u e => s _ _ e, w.tab1.keep fun b u e => s _ _ e⟩
  obtain ⟨sd, kd, ns, h1, h2, r⟩ := w.stat
  exact ⟨sd, kd, ns, s _ _ h1, s _ _ h2, r⟩
theorem joinL_nil : ∀ xs : List (List Nat), TL.joinL [] xs = xs.flatten
  | [] => rfl
  | [x] => by simp [TL.joinL]
  | x :: y :: r => by
    show x ++ ([] ++ TL.joinL [] (y :: r)) = _
    rw [joinL_nil (y :: r), List.nil_append]; simp
theorem wP_tx : ∀ ss : List Stm, tx (wP ss) = (ss.map fun s => tx (wStm s) ++ [32]).flatten
  | [] => rfl
  | s :: r => by rw [wP_cons, wP_tx r, List.map_cons, List.flatten_cons, List.append_assoc]; rfl
theorem dms_str {α : Type} {M : Vol} {H : Hp} {f : α → Str} : ∀ {xs : List α} {ys : List V}, DMs M H ys (xs.map fun x => PyData.str (f x)) → ys = (xs.map f).map V.str
  | [], _, h => by cases h; rfl
  | a :: r, _, h => by
    cases h with
    | cons h1 h2 =>
      cases h1
      rw [dms_str h2]; rfl
theorem sum_le {ss : List Stm} (h : ∀ s ∈ ss, s ∈ pcs) : ((ss.map fun s => S (tx (wStm s) ++ [32])).map (·.length)).sum ≤ ss.length * 46 := by
  induction ss with
  | nil => exact Nat.zero_le _
  | cons s r ih =>
    have h1 := (pcs_ok s (List.mem_cons_of_mem _ (h s List.mem_cons_self))).2.2
    have h2 := ih fun z hz => h z (List.mem_cons_of_mem _ hz)
    rw [List.map_cons, List.map_cons, List.sum_cons, S_len, List.length_append, show (s :: r).length = r.length + 1 from rfl, Nat.succ_mul]
    show (tx (wStm s)).length + 1 + _ ≤ _
    omega
section
variable {P : Program} {w : World} {K : PySem.W.Frag} {mg : Str → Option Value} {base : Heap} {d : Cd}
-- def law: level 55, calls [('_law_cut', 54), ('_law_draw', 1), ('_law_index', 53), ('_law_limits', 54), ('_law_piece', 2), ('_law_state', 1), ('_law_wrong', 54)], cells ['state'], gens 0, raising False
theorem ok_law (T : Txt P w K mg base d) (c__law_cut : Cal P w K mg base 54 "_law_cut" (sp__law_cut K d.ts) []) (c__law_draw : Cal P w K mg base 1 "_law_draw" (sp__law_draw K d.ts) []) (c__law_index : Cal P w K mg base 53 "_law_index" (sp__law_index K d.ts) []) (c__law_limits : Cal P w K mg base 54 "_law_limits" (sp__law_limits K d.ts) []) (c__law_piece : Cal P w K mg base 2 "_law_piece" (sp__law_piece K d.ts) []) (c__law_state : Cal P w K mg base 1 "_law_state" (sp__law_state K d.ts) []) (c__law_wrong : Cal P w K mg base 54 "_law_wrong" (sp__law_wrong K d.ts) []) :
    ∀ (f : Addr) (fd : FuncData) (c : Addr), FunC K "law" "law" s_law f fd c → FnOk P w K mg base C8.CX0 55 f fd ["script"] (sp_law K d.ts) := by
  intro f fd c F
  refine fnC (ps := ["script"]) F sc_law (fun vs H Q E h => ?_) (fun A outer s H vs Q E hr h => ?_)
  · obtain ⟨a, ns, rfl, _⟩ := h; rfl
  · obtain ⟨a, ns, rfl, hS, hn, hT, ho, kk⟩ := h
    refine ⟨_, (pss_cons (ps_set (i := 1) sc_law.nd rfl (Or.inr rfl) (pe_c c__law_state hr (by decide) rfl (pa_cons (pv 0) pa_nil)))
    (pss_cons (ps_set (i := 2) sc_law.nd rfl (Or.inl rfl) (pe_bm PySem.F.plainAttrs_str PySem.F.slot_str_join PySem.F.type_str_join mt_join pe_str (pa_cons (pe_lc (own := [("k", 4)]) rfl sc_law.nd (pi_range1 rfl T.b_range (pa_cons (pe_c c__law_draw hr (by decide) rfl (pa_cons (pv 1) (pa_cons pe_int pa_nil))) pa_nil)) (blkOk_by (N := N_law) (sc := fnScope s_law) (by decide +kernel)) (fun _ _ _ _ _ => (pg_name (i := 4) sc_law.nd rfl (Or.inl rfl))) (fun _ _ _ _ _ => pts_nil) (fun _ _ _ _ _ => (pe_c c__law_piece hr (by decide) rfl (pa_cons (pv 1) pa_nil)))) pa_nil)))
    (pss_cons (ps_if (pt_cmpR op_ne (pe_c c__law_index hr (by decide) rfl (pa_cons (pv 2) pa_nil)) (pe_un un_neg pe_int) (nomark _))
      (pss_one (ps_ret pe_bl))
      pss_nil)
    (pss_cons (ps_set (i := 3) sc_law.nd rfl (Or.inl rfl) (pe_c c__law_draw hr (by decide) rfl (pa_cons (pv 1) (pa_cons pe_int pa_nil))))
    (pss_cons (ps_if (pt_cmpR op_eq (pv 3) pe_int (nomark _))
      (pss_one (ps_ret (pe_c c__law_cut hr (by decide) rfl (pa_cons (pv 1) (pa_cons (pv 2) pa_nil)))))
      pss_nil)
    (pss_cons (ps_if (pt_cmpR op_eq (pv 3) pe_int (nomark _))
      (pss_one (ps_ret (pe_c c__law_wrong hr (by decide) rfl (pa_cons (pv 1) (pa_cons (pv 2) pa_nil)))))
      pss_nil)
    (pss_one (ps_ret (pe_c c__law_limits hr (by decide) rfl (pa_cons (pv 1) (pa_cons (pv 2) pa_nil))))))))))), ?_⟩
    refine ⟨_, rfl, a, ns, rfl, hS, hn, fun st ca H1 s1 nst nca stat => ?_⟩
    have w1 := world hT ho s1 stat
    refine ⟨rfl, _, rfl, st, ca, _, 5, rfl, by decide, by decide, w1, fun n H2 q0 q1 w2 k2 => ⟨_, rfl, by omega, by omega, fun D hD => ?_⟩⟩
    refine lc_draw (n := n.toNat) (dat := fun s : Stm => PyData.str (S (tx (wStm s) ++ [32]))) (good := fun s => s ∈ pcs) w2 hD (by omega) (fun i H4 w4 k4 Qk F hk => ?_) (fun ss ys H4 w4 k4 nD eD dD l4 g4 => ?_)
    · exact ⟨rfl, _, rfl, st, ca, _, rfl, w4, fun s H5 w5 k5 hs => hk s _ H5 w5 k5 (.str _) hs⟩
    have hy := dms_str dD
    subst hy
    have ha : Ahd ss := ⟨g4, by omega⟩
    have hsum := sum_le g4
    have ej : Txt.join (Str.ofString "") (ss.map fun s => S (tx (wStm s) ++ [32])) = S (tx (wP ss)) := by
      rw [show Str.ofString "" = S [] by decide +kernel, show (ss.map fun s => S (tx (wStm s) ++ [32])) = (ss.map fun s => tx (wStm s) ++ [32]).map S by rw [List.map_map]; rfl, join_S, joinL_nil, wP_tx]
    refine ⟨_, D, ss.map (fun s => S (tx (wStm s) ++ [32])), rfl, rfl, .inl (SqL.of eD), ?_, ?_⟩
    · have hl := ha.l
      rw [show (Str.ofString "").length = 0 by decide +kernel, Nat.mul_zero]
      omega
    rw [ej]
    have hb := ha.len
    refine ⟨_, rfl, tx (wP ss), _, rfl, by omega, idx_all (ha.pre0 (by decide)) (Nat.le_trans ha.l (by decide)), fun HE sE => ⟨_, rfl, rfl, _, rfl, iteF' (by decide) ?_⟩⟩
    have wE := wd_same w4 sE
    refine ⟨_, rfl, st, ca, _, 3, rfl, by decide, by decide, wE, fun kind H5 a0 a1 w5 k5 => ?_⟩
    refine ⟨_, rfl, rfl, _, rfl, ite2 (fun _ => ?_) (fun _ => ?_)⟩
    · exact ⟨_, rfl, _, rfl, st, ca, _, ss, rfl, ha, w5, fun H' => kk H'⟩
    refine ⟨_, rfl, rfl, _, rfl, ite2 (fun _ => ?_) (fun _ => ?_)⟩
    · exact ⟨_, rfl, _, rfl, st, ca, _, ss, rfl, ha, w5, fun H' => kk H'⟩
    · exact ⟨_, rfl, _, rfl, st, ca, _, ss, rfl, ha, w5, fun H' => kk H'⟩
end
end K04
set_option Elab.async false
set_option maxRecDepth 100000
set_option maxHeartbeats 4000000
namespace K04
open PySem L2 C8 SX GX LC LG LR SU PM PN PX
open LX LamX NdefX PySem.Spec PyProof.Rows
def s_TE : Stmt := inCls (top 2) 0
theorem sc_TE : NScope PX.N_init PX.P_init ["__class__"] (fnScope s_TE) := nscope_by (by decide +kernel)
theorem fn_TE {P : Program} {w : World} {K : PySem.W.Frag} {mg : Str → Option Value} {base : Heap} {k : Nat} {C f c cc : Addr} {doc pm ctv : Value} (T : XInit P K mg C f cc (PX.F_init s_TE c cc) PX.N_init PX.P_init doc pm ctv) (no : PySem.W.findIn K (.ref C) "at" = some none) :
    FnOk P w K mg base C8.CX0 (k + 1) f ((PX.F_init s_TE c cc).fd doc pm ctv) PX.P_init (PX.spInit C) := by
  refine fn_init T (x1 := "why") (fun vs H Q E => ?_) rfl (fun L => rfl) (fun L => rfl) rfl rfl (fun x e => ?_) (by decide) ?_
  · rintro ⟨a, y, z, rfl, _⟩
    rfl
  · cases e
    rfl
  · rintro A outer s H vs Q E hr ⟨a, y, z, rfl, ea, q⟩
    refine ⟨a, y, _, rfl, rfl, ea, pss_cons (ps_ost (pv 0) (pv 2)) pss_nil, ?_⟩
    refine ⟨z, rfl, ⟨.ref a, rfl, a, C, rfl, T.cls, no, .inl ⟨ea, fun dx n ne => q dx n ne⟩⟩⟩
theorem te_mk {l : PySem.W.OpenLaw} {w : World} {K : PySem.W.Frag} {h : Heap} {mg : Str → Option Value} (X : K.In h) (G : h.Ns mainGlobals mg) {C N fi c cc : Addr} {tf : Tok}
    {nm q file : Str} {bs bm : List Value} {sn : List Str} {sub : List Value} {ab : Bool} {col : Option Bool} {dd od kld cdd : Option Addr} {m0 m1 m2 m3 m5 : Option Value} {oc doc pm ctv kl ccl : Value} {osl csl ccs : Array (Option Value)} {vs : Array Value}
    (e1 : PySem.W.nsIn K mainGlobals "TextError" = some (some (.ref C)))
    (x1 : K.lookup C = some (excClassObj nm q C N bs bm true sn sub ab col dd m0 m1 m2 m3 m5 "ValueError.__new__"))
    (x0 : PySem.HandSPX.refsVE bm = true)
    (x2 : PySem.W.findIn K (.ref C) "__setattr__" = some (some (.builtin "object.__setattr__")))
    (x3 : PySem.W.subIn K (.ref C) (.type "BaseException") = some true)
    (x4 : PySem.W.typeIn K (.ref C) = some (.type "type"))
    (x5 : PySem.W.keepIn K (.ref C) = true)
    (x6 : PySem.W.findIn K (.ref C) "__init__" = some (some (.ref fi)))
    (x7 : PySem.W.typeIn K (.ref fi) = some (.type "function"))
    (x8 : K.lookup fi = some ⟨oc, od, .func ((PX.F_init s_TE c cc).fd doc pm ctv), osl⟩)
    (x9 : PySem.W.codeIn K (.ref c) "TextError.__init__" = true)
    (y1 : K.lookup cc = some ⟨kl, kld, .cell (some (.ref C)), csl⟩)
    (y2 : K.lookup c = some ⟨ccl, cdd, .fields vs, ccs⟩)
    (y3 : vs[2]? = some (.str file tf))
    (y4 : ((l.prog.main.file : Str) == file) = true)
    (y5 : (l.prog.main.scope.names.lookup ("super" : Str)).isSome = false)
    (y6 : PySem.W.nsIn K cStatics "thirdparty.any" = some none)
    (y7 : PySem.W.ks_superIn K C C "__init__" = some (some (.builtin "ValueError.__init__")))
    (y8 : PySem.W.subIn K (.ref C) (.type "ValueError") = some true)
    (y9 : PySem.W.mroIn K C (.ref C) = some true)
    (z8 : PySem.W.nsIn K mainGlobals "super" = some none)
    (w1 : PySem.W.findIn K (.ref C) "at" = some none) : ∀ base : Heap, TErr l.prog w K mg base C := fun base => by
  have XI : XInit l.prog K mg C fi cc (PX.F_init s_TE c cc) PX.N_init PX.P_init doc pm ctv :=
    { cls := ⟨⟨nm, q, N, bs, _, sn, sub, ab, col, dd, m0, m1, m2, m3, m5, x1, x0⟩, x2, x3, x4, x5⟩
      fn := ⟨_, _, _, x8⟩
      cod := x9
      sc := sc_TE
      cl := rfl
      cell := ⟨_, _, _, y1⟩
      code := ⟨_, _, _, _, _, _, y2, y3, y4⟩
      top := y5
      sup := PySem.W.mg_none_of X G z8
      glob := rfl
      third := y6
      way := y7
      ve := y8
      own := y9
      head := ⟨_, rfl, rfl, rfl⟩ }
  exact ⟨⟨fi, _, XI.cls, fun k => fn_TE XI w1, .all fun us hl => match us, hl with | [_, _, _], _ => rfl, x6, x7⟩, PySem.W.mg_of X G e1⟩
theorem all_mk {l : PySem.W.OpenLaw} {w : World} {K : PySem.W.Frag} {h : Heap} {mg : Str → Option Value} {fa : Addr} {d : Cd} (X : K.In h) (G : h.Ns mainGlobals mg) (hfa : mg "law" = some (.ref fa))
    (h0 : ∃ c, Has K mg "is_lower" s_is_lower c)
    (h1 : ∃ c, Has K mg "is_upper" s_is_upper c)
    (h2 : ∃ c, Has K mg "is_digit" s_is_digit c)
    (h3 : ∃ c, Has K mg "is_word" s_is_word c)
    (h4 : ∃ c, Has K mg "word_at" s_word_at c)
    (h5 : ∃ c, Has K mg "integer_at" s_integer_at c)
    (h6 : ∃ c, Has K mg "sign_at" s_sign_at c)
    (h7 : ∃ c, Has K mg "token_at" s_token_at c)
    (h8 : ∃ c, Has K mg "tokens" s_tokens c)
    (h9 : MHas K d.C_Parser "__init__" "Parser.__init__" s_Parser___init__)
    (h10 : MHas K d.C_Parser "kind" "Parser.kind" s_Parser_kind)
    (h11 : MHas K d.C_Parser "text" "Parser.text" s_Parser_text)
    (h12 : MHas K d.C_Parser "fail" "Parser.fail" s_Parser_fail)
    (h13 : MHas K d.C_Parser "skip" "Parser.skip" s_Parser_skip)
    (h14 : MHas K d.C_Parser "passed" "Parser.passed" s_Parser_passed)
    (h15 : MHas K d.C_Parser "one_of" "Parser.one_of" s_Parser_one_of)
    (h16 : MHas K d.C_Parser "integer" "Parser.integer" s_Parser_integer)
    (h17 : MHas K d.C_Parser "optional_integer" "Parser.optional_integer" s_Parser_optional_integer)
    (h18 : MHas K d.C_Parser "on_name" "Parser.on_name" s_Parser_on_name)
    (h19 : MHas K d.C_Parser "name" "Parser.name" s_Parser_name)
    (h20 : MHas K d.C_Parser "factor" "Parser.factor" s_Parser_factor)
    (h21 : MHas K d.C_Parser "product" "Parser.product" s_Parser_product)
    (h22 : MHas K d.C_Parser "term" "Parser.term" s_Parser_term)
    (h23 : MHas K d.C_Parser "atom" "Parser.atom" s_Parser_atom)
    (h24 : MHas K d.C_Parser "on_atom" "Parser.on_atom" s_Parser_on_atom)
    (h25 : MHas K d.C_Parser "condition" "Parser.condition" s_Parser_condition)
    (h26 : MHas K d.C_Parser "optional_conditions" "Parser.optional_conditions" s_Parser_optional_conditions)
    (h27 : MHas K d.C_Parser "choice" "Parser.choice" s_Parser_choice)
    (h28 : MHas K d.C_Parser "choices" "Parser.choices" s_Parser_choices)
    (h29 : MHas K d.C_Parser "member" "Parser.member" s_Parser_member)
    (h30 : MHas K d.C_Parser "members" "Parser.members" s_Parser_members)
    (h31 : MHas K d.C_Parser "part" "Parser.part" s_Parser_part)
    (h32 : MHas K d.C_Parser "optional_body" "Parser.optional_body" s_Parser_optional_body)
    (h33 : MHas K d.C_Parser "choose" "Parser.choose" s_Parser_choose)
    (h34 : MHas K d.C_Parser "bare_statement" "Parser.bare_statement" s_Parser_bare_statement)
    (h35 : MHas K d.C_Parser "statement" "Parser.statement" s_Parser_statement)
    (h36 : ∃ c, Has K mg "check_brackets" s_check_brackets c)
    (h37 : ∃ c, Has K mg "count_words" s_count_words c)
    (h38 : ∃ c, Has K mg "parse" s_parse c)
    (h39 : Has K mg "_law_state" s__law_state d.c__law_state)
    (h41 : ∃ c, Has K mg "_law_draw" s__law_draw c)
    (h42 : ∃ c, Has K mg "_law_piece" s__law_piece c)
    (h43 : ∃ c, Has K mg "_law_index" s__law_index c)
    (h44 : ∃ c, Has K mg "_law_cut" s__law_cut c)
    (h45 : ∃ c, Has K mg "_law_wrong" s__law_wrong c)
    (h46 : ∃ c, Has K mg "_law_deep" s__law_deep c)
    (h47 : ∃ c, Has K mg "_law_limits" s__law_limits c)
    (h48 : ∃ c, Has K mg "law" s_law c)
    (h49 : HasC K mg "Parser" d.C_Parser)
    (h50 : NoAttr K d.C_Parser "listed")
    (h51 : NoAttr K d.C_Parser "place")
    (h52 : NoAttr K d.C_Parser "most_terms")
    (h53 : ∀ base : Heap, TErr l.prog w K mg base d.C_TextError)
    (h54 : XfC K d.C_TextError)
    (h55 : PySem.W.findIn K (.ref d.C_TextError) "at" = some none)
    (h56 : PySem.W.exmOne K (.ref d.C_TextError) (.ref d.C_TextError) = some true)
    (h57 : ∃ u, mg "LONGEST_TEXT" = some u ∧ RelV (.int 4000) u)
    (h58 : ∃ u, mg "LONGEST_WORD" = some u ∧ RelV (.int 20) u)
    (h59 : ∃ u, mg "LONGEST_INTEGER" = some u ∧ RelV (.int 4) u)
    (h60 : ∃ u, mg "MOST_STATEMENTS" = some u ∧ RelV (.int 60) u)
    (h61 : ∃ u, mg "MOST_WORDS" = some u ∧ RelV (.int 60) u)
    (h62 : ∃ u, mg "MOST_TERMS" = some u ∧ RelV (.int 4) u)
    (h63 : ∃ u, mg "DEEPEST_BRACKETS" = some u ∧ RelV (.int 10) u)
    (h64 : ∃ u, mg "SIGNS" = some u ∧ RelV (.ref d.a_SIGNS) u)
    (h65 : ∀ H, SqT K H d.a_SIGNS (K1.sigs.map fun g => V.str (S g)))
    (h66 : ∃ u, mg "KEYWORDS" = some u ∧ RelV (.ref d.a_KEYWORDS) u)
    (h67 : ∀ H, SqT K H d.a_KEYWORDS (PM.KW.map fun g => V.str (S g)))
    (h68 : ∃ u, mg "RELATIONS" = some u ∧ RelV (.ref d.a_RELATIONS) u)
    (h69 : ∀ H, SqT K H d.a_RELATIONS (PM.RELS.map fun g => V.str (S g)))
    (h70 : ∃ u, mg "SUM_RELATIONS" = some u ∧ RelV (.ref d.a_SUM_RELATIONS) u)
    (h71 : ∀ H, SqT K H d.a_SUM_RELATIONS (PM.SRELS.map fun g => V.str (S g)))
    (h72 : ∃ u, mg "OPERATORS" = some u ∧ RelV (.ref d.a_OPERATORS) u)
    (h73 : ∀ H, SqT K H d.a_OPERATORS (PM.OPS.map fun g => V.str (S g)))
    (h74 : PySem.W.nsIn K mainGlobals "abs" = some none)
    (h75 : PySem.W.nsIn K mainGlobals "int" = some none)
    (h76 : PySem.W.nsIn K mainGlobals "len" = some none)
    (h77 : PySem.W.nsIn K mainGlobals "max" = some none)
    (h78 : PySem.W.nsIn K mainGlobals "range" = some none)
    
    (hT : ∀ p ∈ d.cs, h.get? p.2 = some { cls := .none, data := .fields #[] }) (nT : ∀ p ∈ d.cs, K.lookup p.2 = none) (C : ∀ p ∈ d.cs, PySem.W.CodeHd h p.1 p.2) :
    LawAtG l w K 55 63 "script" mg fa h := by
  obtain ⟨cl, f, fd, F, hm, kp, df⟩ := id h48
  have e := hfa.symm.trans hm
  cases e
  obtain ⟨oc, od, dV, kV, doc, pm, an, ct, osl, rfl, lk, hcd⟩ := F.ex
  have e : dV = .none := df
  subst e
  refine ⟨PySem.W.fnOf "law" "law" (fnArgs s_law) (fnBody s_law) (fnScope s_law) .none kV doc pm an (.ref cl) ct, d.cs, spLaw K d.ts, ⟨hT, nT, C⟩, fun s v => .of_eq rfl, fun H a ns hn hTb hS => ⟨a, ns, rfl, hS, hn, ?_, by simp [Cd.ts], fun _ => rfl⟩, fun base _ _ TB => ?_⟩
  · intro P hP
    have e : d.ts.all = d.cs.map (·.2) := rfl
    rw [e] at hP
    obtain ⟨p, hp, rfl⟩ := List.mem_map.mp hP
    exact hTb p hp
  have bm : ∃ P0, base.BuiltinsAt mg P0 := ⟨_, (TB (d.c__law_state, d.P__law_state) (by simp [Cd.cs])).bm⟩
  have T : Txt l.prog w K mg base d := ⟨h0, h1, h2, h3, h4, h5, h6, h7, h8, h9, h10, h11, h12, h13, h14, h15, h16, h17, h18, h19, h20, h21, h22, h23, h24, h25, h26, h27, h28, h29, h30, h31, h32, h33, h34, h35, h36, h37, h38, h39, (TB (d.c__law_state, d.P__law_state) (by simp [Cd.cs])).code, h41, h42, h43, h44, h45, h46, h47, h48, h49, h50, h51, h52, (h53 base), h54, h55, h56, h57, h58, h59, h60, h61, h62, h63, h64, h65, h66, h67, h68, h69, h70, h71, h72, h73, PySem.W.mg_none_of X G h74, PySem.W.mg_none_of X G h75, PySem.W.mg_none_of X G h76, PySem.W.mg_none_of X G h77, PySem.W.mg_none_of X G h78, bm⟩
  have q_is_lower := ok_is_lower T 
  have q_is_upper := ok_is_upper T 
  have q_is_digit := ok_is_digit T 
  have q_is_word := ok_is_word T q_is_digit q_is_lower q_is_upper
  have q_word_at := ok_word_at T q_is_word
  have q_integer_at := ok_integer_at T q_is_digit
  have q_sign_at := ok_sign_at T 
  have q_token_at := ok_token_at T q_integer_at q_is_digit q_is_lower q_is_upper q_sign_at q_word_at
  have q_tokens := ok_tokens T q_token_at
  have q_Parser___init__ := ok_Parser___init__ T 
  have q_Parser_kind := ok_Parser_kind T 
  have q_Parser_text := ok_Parser_text T 
  have q_Parser_fail := ok_Parser_fail T q_Parser_kind
  have q_Parser_skip := ok_Parser_skip T q_Parser_fail q_Parser_text
  have q_Parser_passed := ok_Parser_passed T q_Parser_text
  have q_Parser_one_of := ok_Parser_one_of T q_Parser_fail q_Parser_text
  have q_Parser_integer := ok_Parser_integer T q_Parser_fail q_Parser_kind
  have q_Parser_optional_integer := ok_Parser_optional_integer T q_Parser_integer q_Parser_kind
  have q_Parser_on_name := ok_Parser_on_name T q_Parser_kind q_Parser_text
  have q_Parser_name := ok_Parser_name T q_Parser_fail q_Parser_on_name
  have q_Parser_term := tm_all T q_Parser_integer q_Parser_kind q_Parser_name q_Parser_passed q_Parser_skip q_Parser_one_of q_Parser_text 12
  have q_Parser_atom := ok_Parser_atom T q_Parser_name q_Parser_passed q_Parser_skip q_Parser_term
  have q_Parser_on_atom := ok_Parser_on_atom T q_Parser_on_name
  have q_Parser_condition := ok_Parser_condition T q_Parser_atom q_Parser_on_atom q_Parser_one_of q_Parser_passed q_Parser_term
  have q_Parser_optional_conditions := ok_Parser_optional_conditions T q_Parser_condition q_Parser_passed
  have q_Parser_choice := ok_Parser_choice T q_Parser_atom q_Parser_optional_conditions
  have q_Parser_choices := ok_Parser_choices T q_Parser_choice q_Parser_passed q_Parser_skip
  have q_Parser_member := ok_Parser_member T q_Parser_optional_conditions q_Parser_term
  have q_Parser_members := ok_Parser_members T q_Parser_member q_Parser_passed q_Parser_skip
  have q_Parser_part := ok_Parser_part T q_Parser_condition q_Parser_members q_Parser_one_of q_Parser_passed q_Parser_term
  have q_Parser_optional_body := ok_Parser_optional_body T q_Parser_part q_Parser_passed
  have q_Parser_choose := ok_Parser_choose T q_Parser_choices q_Parser_optional_body q_Parser_optional_integer
  have q_Parser_bare_statement := ok_Parser_bare_statement T q_Parser_atom q_Parser_choose q_Parser_integer q_Parser_kind q_Parser_members q_Parser_optional_body q_Parser_passed q_Parser_text
  have q_Parser_statement := ok_Parser_statement T q_Parser_bare_statement q_Parser_skip
  have q_check_brackets := ok_check_brackets T 
  have q_count_words := ok_count_words T 
  have q_parse := ok_parse T q_Parser___init__ q_Parser_kind q_Parser_statement q_check_brackets q_count_words q_tokens
  have q__law_state := ok__law_state T 
  have q__law_draw := ok__law_draw T 
  have q__law_piece := ok__law_piece T q__law_draw
  have q__law_index := ok__law_index T q_parse
  have q__law_cut := ok__law_cut T q__law_draw q__law_index
  have q__law_wrong := ok__law_wrong T q__law_draw q__law_index
  have q__law_deep := ok__law_deep T 
  have q__law_limits := ok__law_limits T q__law_deep q__law_draw q__law_index
  exact fng_of (ok_law T q__law_cut q__law_draw q__law_index q__law_limits q__law_piece q__law_state q__law_wrong _ _ _ F)
theorem all_mk2 {l : PySem.W.OpenLaw} {w : World} {K : PySem.W.Frag} {h : Heap} {mg : Str → Option Value} {fa : Addr} {c__law_state P__law_state C_Parser C_TextError a_SIGNS a_KEYWORDS a_RELATIONS a_SUM_RELATIONS a_OPERATORS : Addr} (X : K.In h) (G : h.Ns mainGlobals mg) (hfa : mg "law" = some (.ref fa))
    (h0 : ∃ c, Has K mg "is_lower" s_is_lower c)
    (h1 : ∃ c, Has K mg "is_upper" s_is_upper c)
    (h2 : ∃ c, Has K mg "is_digit" s_is_digit c)
    (h3 : ∃ c, Has K mg "is_word" s_is_word c)
    (h4 : ∃ c, Has K mg "word_at" s_word_at c)
    (h5 : ∃ c, Has K mg "integer_at" s_integer_at c)
    (h6 : ∃ c, Has K mg "sign_at" s_sign_at c)
    (h7 : ∃ c, Has K mg "token_at" s_token_at c)
    (h8 : ∃ c, Has K mg "tokens" s_tokens c)
    (h9 : MHas K C_Parser "__init__" "Parser.__init__" s_Parser___init__)
    (h10 : MHas K C_Parser "kind" "Parser.kind" s_Parser_kind)
    (h11 : MHas K C_Parser "text" "Parser.text" s_Parser_text)
    (h12 : MHas K C_Parser "fail" "Parser.fail" s_Parser_fail)
    (h13 : MHas K C_Parser "skip" "Parser.skip" s_Parser_skip)
    (h14 : MHas K C_Parser "passed" "Parser.passed" s_Parser_passed)
    (h15 : MHas K C_Parser "one_of" "Parser.one_of" s_Parser_one_of)
    (h16 : MHas K C_Parser "integer" "Parser.integer" s_Parser_integer)
    (h17 : MHas K C_Parser "optional_integer" "Parser.optional_integer" s_Parser_optional_integer)
    (h18 : MHas K C_Parser "on_name" "Parser.on_name" s_Parser_on_name)
    (h19 : MHas K C_Parser "name" "Parser.name" s_Parser_name)
    (h20 : MHas K C_Parser "factor" "Parser.factor" s_Parser_factor)
    (h21 : MHas K C_Parser "product" "Parser.product" s_Parser_product)
    (h22 : MHas K C_Parser "term" "Parser.term" s_Parser_term)
    (h23 : MHas K C_Parser "atom" "Parser.atom" s_Parser_atom)
    (h24 : MHas K C_Parser "on_atom" "Parser.on_atom" s_Parser_on_atom)
    (h25 : MHas K C_Parser "condition" "Parser.condition" s_Parser_condition)
    (h26 : MHas K C_Parser "optional_conditions" "Parser.optional_conditions" s_Parser_optional_conditions)
    (h27 : MHas K C_Parser "choice" "Parser.choice" s_Parser_choice)
    (h28 : MHas K C_Parser "choices" "Parser.choices" s_Parser_choices)
    (h29 : MHas K C_Parser "member" "Parser.member" s_Parser_member)
    (h30 : MHas K C_Parser "members" "Parser.members" s_Parser_members)
    (h31 : MHas K C_Parser "part" "Parser.part" s_Parser_part)
    (h32 : MHas K C_Parser "optional_body" "Parser.optional_body" s_Parser_optional_body)
    (h33 : MHas K C_Parser "choose" "Parser.choose" s_Parser_choose)
    (h34 : MHas K C_Parser "bare_statement" "Parser.bare_statement" s_Parser_bare_statement)
    (h35 : MHas K C_Parser "statement" "Parser.statement" s_Parser_statement)
    (h36 : ∃ c, Has K mg "check_brackets" s_check_brackets c)
    (h37 : ∃ c, Has K mg "count_words" s_count_words c)
    (h38 : ∃ c, Has K mg "parse" s_parse c)
    (h39 : Has K mg "_law_state" s__law_state c__law_state)
    (h41 : ∃ c, Has K mg "_law_draw" s__law_draw c)
    (h42 : ∃ c, Has K mg "_law_piece" s__law_piece c)
    (h43 : ∃ c, Has K mg "_law_index" s__law_index c)
    (h44 : ∃ c, Has K mg "_law_cut" s__law_cut c)
    (h45 : ∃ c, Has K mg "_law_wrong" s__law_wrong c)
    (h46 : ∃ c, Has K mg "_law_deep" s__law_deep c)
    (h47 : ∃ c, Has K mg "_law_limits" s__law_limits c)
    (h48 : ∃ c, Has K mg "law" s_law c)
    (h49 : HasC K mg "Parser" C_Parser)
    (h50 : NoAttr K C_Parser "listed")
    (h51 : NoAttr K C_Parser "place")
    (h52 : NoAttr K C_Parser "most_terms")
    (h53 : ∀ base : Heap, TErr l.prog w K mg base C_TextError)
    (h54 : XfC K C_TextError)
    (h55 : PySem.W.findIn K (.ref C_TextError) "at" = some none)
    (h56 : PySem.W.exmOne K (.ref C_TextError) (.ref C_TextError) = some true)
    (h57 : ∃ u, mg "LONGEST_TEXT" = some u ∧ RelV (.int 4000) u)
    (h58 : ∃ u, mg "LONGEST_WORD" = some u ∧ RelV (.int 20) u)
    (h59 : ∃ u, mg "LONGEST_INTEGER" = some u ∧ RelV (.int 4) u)
    (h60 : ∃ u, mg "MOST_STATEMENTS" = some u ∧ RelV (.int 60) u)
    (h61 : ∃ u, mg "MOST_WORDS" = some u ∧ RelV (.int 60) u)
    (h62 : ∃ u, mg "MOST_TERMS" = some u ∧ RelV (.int 4) u)
    (h63 : ∃ u, mg "DEEPEST_BRACKETS" = some u ∧ RelV (.int 10) u)
    (h64 : ∃ u, mg "SIGNS" = some u ∧ RelV (.ref a_SIGNS) u)
    (h65 : ∀ H, SqT K H a_SIGNS (K1.sigs.map fun g => V.str (S g)))
    (h66 : ∃ u, mg "KEYWORDS" = some u ∧ RelV (.ref a_KEYWORDS) u)
    (h67 : ∀ H, SqT K H a_KEYWORDS (PM.KW.map fun g => V.str (S g)))
    (h68 : ∃ u, mg "RELATIONS" = some u ∧ RelV (.ref a_RELATIONS) u)
    (h69 : ∀ H, SqT K H a_RELATIONS (PM.RELS.map fun g => V.str (S g)))
    (h70 : ∃ u, mg "SUM_RELATIONS" = some u ∧ RelV (.ref a_SUM_RELATIONS) u)
    (h71 : ∀ H, SqT K H a_SUM_RELATIONS (PM.SRELS.map fun g => V.str (S g)))
    (h72 : ∃ u, mg "OPERATORS" = some u ∧ RelV (.ref a_OPERATORS) u)
    (h73 : ∀ H, SqT K H a_OPERATORS (PM.OPS.map fun g => V.str (S g)))
    (h74 : PySem.W.nsIn K mainGlobals "abs" = some none)
    (h75 : PySem.W.nsIn K mainGlobals "int" = some none)
    (h76 : PySem.W.nsIn K mainGlobals "len" = some none)
    (h77 : PySem.W.nsIn K mainGlobals "max" = some none)
    (h78 : PySem.W.nsIn K mainGlobals "range" = some none)
    
    (t0 : PySem.W.CodeHd h c__law_state P__law_state ∧ h.get? P__law_state = some { cls := .none, data := .fields #[] }) (n0 : K.lookup P__law_state = none) :
    LawAtG l w K 55 63 "script" mg fa h := by
  refine all_mk (d := ⟨c__law_state, P__law_state, C_Parser, C_TextError, a_SIGNS, a_KEYWORDS, a_RELATIONS, a_SUM_RELATIONS, a_OPERATORS⟩) X G hfa h0 h1 h2 h3 h4 h5 h6 h7 h8 h9 h10 h11 h12 h13 h14 h15 h16 h17 h18 h19 h20 h21 h22 h23 h24 h25 h26 h27 h28 h29 h30 h31 h32 h33 h34 h35 h36 h37 h38 h39 h41 h42 h43 h44 h45 h46 h47 h48 h49 h50 h51 h52 h53 h54 h55 h56 h57 h58 h59 h60 h61 h62 h63 h64 h65 h66 h67 h68 h69 h70 h71 h72 h73 h74 h75 h76 h77 h78  ?_ ?_ ?_
  · exact List.forall_mem_cons.mpr ⟨t0.2, (fun _ h => nomatch h)⟩
  · exact List.forall_mem_cons.mpr ⟨n0, (fun _ h => nomatch h)⟩
  · exact List.forall_mem_cons.mpr ⟨t0.1, (fun _ h => nomatch h)⟩
end K04
open PySem PySem.W PyProof.Rows
local macro_rules | `(tactic| walk_at "has") => `(tactic| (refine' LC.has_mk (by assumption) (by assumption) ?a ?l ?d ?k; (case a => k_is); (case l => k_is); (case d => k_is); (case k => k_is)))
set_option maxRecDepth 100000 in
set_option maxHeartbeats 0 in
theorem PySem.Challenge.cw_stablepapers_k04_errors_of_parsing_holds : PySem.Challenge.rw_stablepapers_k04_errors_of_parsing.Holds := by
  w_on; o_law; k_head; (case hw => w_witness2)
  k_fill
  refine LG.walkG (l := PySem.Challenge.rw_stablepapers_k04_errors_of_parsing) (n := 63) (k := 55) (x := "script") rfl (by decide) rfl ⟨rfl, by decide, by decide⟩ (fun w h Y => PySem.W.kIn_of Y) ?F
  case F =>
    intro w mg mb fa h Tp KX G hmg
    obtain ⟨lo, mean, Tp⟩ := Tp
    refine' K04.all_mk2 KX G hmg ?h0 ?h1 ?h2 ?h3 ?h4 ?h5 ?h6 ?h7 ?h8 ?h9 ?h10 ?h11 ?h12 ?h13 ?h14 ?h15 ?h16 ?h17 ?h18 ?h19 ?h20 ?h21 ?h22 ?h23 ?h24 ?h25 ?h26 ?h27 ?h28 ?h29 ?h30 ?h31 ?h32 ?h33 ?h34 ?h35 ?h36 ?h37 ?h38 ?h39 ?h41 ?h42 ?h43 ?h44 ?h45 ?h46 ?h47 ?h48 ?h49 ?h50 ?h51 ?h52 ?h53 ?h54 ?h55 ?h56 ?h57 ?h58 ?h59 ?h60 ?h61 ?h62 ?h63 ?h64 ?h65 ?h66 ?h67 ?h68 ?h69 ?h70 ?h71 ?h72 ?h73 ?h74 ?h75 ?h76 ?h77 ?h78  ?t0 ?n0
    (case h49 => refine' PX.hasc_mk KX G ?ca ?cpg ?chd ?cpo ?csa ?cmk ?ckp; (case ca => k_is); (case cpg => (first | k_is | kernel_rfl)); (case chd => (first | k_is | kernel_rfl)); (case cpo => (first | k_is | kernel_rfl)); (case csa => (first | k_is | kernel_rfl)); (case cmk => (first | k_is | kernel_rfl)); (case ckp => (first | k_is | kernel_rfl)))
    (case h53 =>
      refine' K04.te_mk KX G ?e1 ?x1 ?x0 ?x2 ?x3 ?x4 ?x5 ?x6 ?x7 ?x8 ?x9 ?y1 ?y2 ?y3 ?y4 ?y5 ?y6 ?y7 ?y8 ?y9 ?z8 ?w1
      (case e1 => first | k_is | kernel_rfl)
      (case x1 => first | k_is | kernel_rfl)
      (case x0 => first | rfl | kernel_rfl | decide +kernel | k_is)
      (case x2 => first | k_is | kernel_rfl)
      (case x3 => first | k_is | kernel_rfl)
      (case x4 => first | k_is | kernel_rfl)
      (case x5 => first | k_is | kernel_rfl)
      (case x6 => first | k_is | kernel_rfl)
      (case x7 => first | k_is | kernel_rfl)
      (case x8 => first | k_is | kernel_rfl)
      (case x9 => first | k_is | kernel_rfl)
      (case y1 => first | k_is | kernel_rfl)
      (case y2 => first | k_is | kernel_rfl)
      (case y3 => first | rfl | kernel_rfl | decide +kernel | k_is)
      (case y4 => first | rfl | kernel_rfl | decide +kernel | k_is)
      (case y5 => first | rfl | kernel_rfl | decide +kernel | k_is)
      (case y6 => first | k_is | kernel_rfl)
      (case y7 => first | k_is | kernel_rfl)
      (case y8 => first | k_is | kernel_rfl)
      (case y9 => first | k_is | kernel_rfl)
      (case z8 => first | k_is | kernel_rfl)
      (case w1 => first | k_is | kernel_rfl)
      )
    (case h54 => refine' PX.xfc_mk ?xa ?xb ?xc ?xd; (case xa => (first | k_is | kernel_rfl)); (case xb => (first | k_is | kernel_rfl)); (case xc => (first | k_is | kernel_rfl)); (case xd => (first | k_is | kernel_rfl)))
    (case h56 => refine' PX.exm_mk ?xa ?xb ?xc ?xd; (case xa => (first | k_is | kernel_rfl)); (case xb => (first | k_is | kernel_rfl)); (case xc => (first | k_is | kernel_rfl)); (case xd => (first | k_is | kernel_rfl)))
    (case h55 => (first | k_is | kernel_rfl))
    (case h64 => refine' PX.ref_mk KX G ?a; (case a => k_is))
    (case h66 => refine' PX.ref_mk KX G ?a; (case a => k_is))
    (case h68 => refine' PX.ref_mk KX G ?a; (case a => k_is))
    (case h70 => refine' PX.ref_mk KX G ?a; (case a => k_is))
    (case h72 => refine' PX.ref_mk KX G ?a; (case a => k_is))
    (case h65 =>
      refine' PX.signs_mk ?l ?hs ?hv
      (case l => k_is)
      (case hs => decide +kernel)
      (case hv => repeat first | exact Paired.nil | refine Paired.cons (PX.rel_str (by decide +kernel)) ?_))
    (case h67 =>
      refine' PX.signs_mk ?l ?hs ?hv
      (case l => k_is)
      (case hs => decide +kernel)
      (case hv => repeat first | exact Paired.nil | refine Paired.cons (PX.rel_str (by decide +kernel)) ?_))
    (case h69 =>
      refine' PX.signs_mk ?l ?hs ?hv
      (case l => k_is)
      (case hs => decide +kernel)
      (case hv => repeat first | exact Paired.nil | refine Paired.cons (PX.rel_str (by decide +kernel)) ?_))
    (case h71 =>
      refine' PX.signs_mk ?l ?hs ?hv
      (case l => k_is)
      (case hs => decide +kernel)
      (case hv => repeat first | exact Paired.nil | refine Paired.cons (PX.rel_str (by decide +kernel)) ?_))
    (case h73 =>
      refine' PX.signs_mk ?l ?hs ?hv
      (case l => k_is)
      (case hs => decide +kernel)
      (case hv => repeat first | exact Paired.nil | refine Paired.cons (PX.rel_str (by decide +kernel)) ?_))
    (case h50 => refine' PX.noattr_mk ?na; (case na => (first | k_is | kernel_rfl)))
    (case h51 => refine' PX.noattr_mk ?na; (case na => (first | k_is | kernel_rfl)))
    (case h52 => refine' PX.noattr_mk ?na; (case na => (first | k_is | kernel_rfl)))
    (case h9 => refine' PX.mhas_mk ?ma ?mi ?mk ?ml ?md; (case ma => (first | k_is | kernel_rfl)); (case mi => (first | k_is | kernel_rfl)); (case mk => (first | k_is | kernel_rfl)); (case ml => (first | k_is | kernel_rfl)); (case md => (first | k_is | kernel_rfl)))
    (case h10 => refine' PX.mhas_mk ?ma ?mi ?mk ?ml ?md; (case ma => (first | k_is | kernel_rfl)); (case mi => (first | k_is | kernel_rfl)); (case mk => (first | k_is | kernel_rfl)); (case ml => (first | k_is | kernel_rfl)); (case md => (first | k_is | kernel_rfl)))
    (case h11 => refine' PX.mhas_mk ?ma ?mi ?mk ?ml ?md; (case ma => (first | k_is | kernel_rfl)); (case mi => (first | k_is | kernel_rfl)); (case mk => (first | k_is | kernel_rfl)); (case ml => (first | k_is | kernel_rfl)); (case md => (first | k_is | kernel_rfl)))
    (case h12 => refine' PX.mhas_mk ?ma ?mi ?mk ?ml ?md; (case ma => (first | k_is | kernel_rfl)); (case mi => (first | k_is | kernel_rfl)); (case mk => (first | k_is | kernel_rfl)); (case ml => (first | k_is | kernel_rfl)); (case md => (first | k_is | kernel_rfl)))
    (case h13 => refine' PX.mhas_mk ?ma ?mi ?mk ?ml ?md; (case ma => (first | k_is | kernel_rfl)); (case mi => (first | k_is | kernel_rfl)); (case mk => (first | k_is | kernel_rfl)); (case ml => (first | k_is | kernel_rfl)); (case md => (first | k_is | kernel_rfl)))
    (case h14 => refine' PX.mhas_mk ?ma ?mi ?mk ?ml ?md; (case ma => (first | k_is | kernel_rfl)); (case mi => (first | k_is | kernel_rfl)); (case mk => (first | k_is | kernel_rfl)); (case ml => (first | k_is | kernel_rfl)); (case md => (first | k_is | kernel_rfl)))
    (case h15 => refine' PX.mhas_mk ?ma ?mi ?mk ?ml ?md; (case ma => (first | k_is | kernel_rfl)); (case mi => (first | k_is | kernel_rfl)); (case mk => (first | k_is | kernel_rfl)); (case ml => (first | k_is | kernel_rfl)); (case md => (first | k_is | kernel_rfl)))
    (case h16 => refine' PX.mhas_mk ?ma ?mi ?mk ?ml ?md; (case ma => (first | k_is | kernel_rfl)); (case mi => (first | k_is | kernel_rfl)); (case mk => (first | k_is | kernel_rfl)); (case ml => (first | k_is | kernel_rfl)); (case md => (first | k_is | kernel_rfl)))
    (case h17 => refine' PX.mhas_mk ?ma ?mi ?mk ?ml ?md; (case ma => (first | k_is | kernel_rfl)); (case mi => (first | k_is | kernel_rfl)); (case mk => (first | k_is | kernel_rfl)); (case ml => (first | k_is | kernel_rfl)); (case md => (first | k_is | kernel_rfl)))
    (case h18 => refine' PX.mhas_mk ?ma ?mi ?mk ?ml ?md; (case ma => (first | k_is | kernel_rfl)); (case mi => (first | k_is | kernel_rfl)); (case mk => (first | k_is | kernel_rfl)); (case ml => (first | k_is | kernel_rfl)); (case md => (first | k_is | kernel_rfl)))
    (case h19 => refine' PX.mhas_mk ?ma ?mi ?mk ?ml ?md; (case ma => (first | k_is | kernel_rfl)); (case mi => (first | k_is | kernel_rfl)); (case mk => (first | k_is | kernel_rfl)); (case ml => (first | k_is | kernel_rfl)); (case md => (first | k_is | kernel_rfl)))
    (case h20 => refine' PX.mhas_mk ?ma ?mi ?mk ?ml ?md; (case ma => (first | k_is | kernel_rfl)); (case mi => (first | k_is | kernel_rfl)); (case mk => (first | k_is | kernel_rfl)); (case ml => (first | k_is | kernel_rfl)); (case md => (first | k_is | kernel_rfl)))
    (case h21 => refine' PX.mhas_mk ?ma ?mi ?mk ?ml ?md; (case ma => (first | k_is | kernel_rfl)); (case mi => (first | k_is | kernel_rfl)); (case mk => (first | k_is | kernel_rfl)); (case ml => (first | k_is | kernel_rfl)); (case md => (first | k_is | kernel_rfl)))
    (case h22 => refine' PX.mhas_mk ?ma ?mi ?mk ?ml ?md; (case ma => (first | k_is | kernel_rfl)); (case mi => (first | k_is | kernel_rfl)); (case mk => (first | k_is | kernel_rfl)); (case ml => (first | k_is | kernel_rfl)); (case md => (first | k_is | kernel_rfl)))
    (case h23 => refine' PX.mhas_mk ?ma ?mi ?mk ?ml ?md; (case ma => (first | k_is | kernel_rfl)); (case mi => (first | k_is | kernel_rfl)); (case mk => (first | k_is | kernel_rfl)); (case ml => (first | k_is | kernel_rfl)); (case md => (first | k_is | kernel_rfl)))
    (case h24 => refine' PX.mhas_mk ?ma ?mi ?mk ?ml ?md; (case ma => (first | k_is | kernel_rfl)); (case mi => (first | k_is | kernel_rfl)); (case mk => (first | k_is | kernel_rfl)); (case ml => (first | k_is | kernel_rfl)); (case md => (first | k_is | kernel_rfl)))
    (case h25 => refine' PX.mhas_mk ?ma ?mi ?mk ?ml ?md; (case ma => (first | k_is | kernel_rfl)); (case mi => (first | k_is | kernel_rfl)); (case mk => (first | k_is | kernel_rfl)); (case ml => (first | k_is | kernel_rfl)); (case md => (first | k_is | kernel_rfl)))
    (case h26 => refine' PX.mhas_mk ?ma ?mi ?mk ?ml ?md; (case ma => (first | k_is | kernel_rfl)); (case mi => (first | k_is | kernel_rfl)); (case mk => (first | k_is | kernel_rfl)); (case ml => (first | k_is | kernel_rfl)); (case md => (first | k_is | kernel_rfl)))
    (case h27 => refine' PX.mhas_mk ?ma ?mi ?mk ?ml ?md; (case ma => (first | k_is | kernel_rfl)); (case mi => (first | k_is | kernel_rfl)); (case mk => (first | k_is | kernel_rfl)); (case ml => (first | k_is | kernel_rfl)); (case md => (first | k_is | kernel_rfl)))
    (case h28 => refine' PX.mhas_mk ?ma ?mi ?mk ?ml ?md; (case ma => (first | k_is | kernel_rfl)); (case mi => (first | k_is | kernel_rfl)); (case mk => (first | k_is | kernel_rfl)); (case ml => (first | k_is | kernel_rfl)); (case md => (first | k_is | kernel_rfl)))
    (case h29 => refine' PX.mhas_mk ?ma ?mi ?mk ?ml ?md; (case ma => (first | k_is | kernel_rfl)); (case mi => (first | k_is | kernel_rfl)); (case mk => (first | k_is | kernel_rfl)); (case ml => (first | k_is | kernel_rfl)); (case md => (first | k_is | kernel_rfl)))
    (case h30 => refine' PX.mhas_mk ?ma ?mi ?mk ?ml ?md; (case ma => (first | k_is | kernel_rfl)); (case mi => (first | k_is | kernel_rfl)); (case mk => (first | k_is | kernel_rfl)); (case ml => (first | k_is | kernel_rfl)); (case md => (first | k_is | kernel_rfl)))
    (case h31 => refine' PX.mhas_mk ?ma ?mi ?mk ?ml ?md; (case ma => (first | k_is | kernel_rfl)); (case mi => (first | k_is | kernel_rfl)); (case mk => (first | k_is | kernel_rfl)); (case ml => (first | k_is | kernel_rfl)); (case md => (first | k_is | kernel_rfl)))
    (case h32 => refine' PX.mhas_mk ?ma ?mi ?mk ?ml ?md; (case ma => (first | k_is | kernel_rfl)); (case mi => (first | k_is | kernel_rfl)); (case mk => (first | k_is | kernel_rfl)); (case ml => (first | k_is | kernel_rfl)); (case md => (first | k_is | kernel_rfl)))
    (case h33 => refine' PX.mhas_mk ?ma ?mi ?mk ?ml ?md; (case ma => (first | k_is | kernel_rfl)); (case mi => (first | k_is | kernel_rfl)); (case mk => (first | k_is | kernel_rfl)); (case ml => (first | k_is | kernel_rfl)); (case md => (first | k_is | kernel_rfl)))
    (case h34 => refine' PX.mhas_mk ?ma ?mi ?mk ?ml ?md; (case ma => (first | k_is | kernel_rfl)); (case mi => (first | k_is | kernel_rfl)); (case mk => (first | k_is | kernel_rfl)); (case ml => (first | k_is | kernel_rfl)); (case md => (first | k_is | kernel_rfl)))
    (case h35 => refine' PX.mhas_mk ?ma ?mi ?mk ?ml ?md; (case ma => (first | k_is | kernel_rfl)); (case mi => (first | k_is | kernel_rfl)); (case mk => (first | k_is | kernel_rfl)); (case ml => (first | k_is | kernel_rfl)); (case md => (first | k_is | kernel_rfl)))
    (case h57 => refine' PX.int_mk KX G ?a; (case a => k_is))
    (case h58 => refine' PX.int_mk KX G ?a; (case a => k_is))
    (case h59 => refine' PX.int_mk KX G ?a; (case a => k_is))
    (case h60 => refine' PX.int_mk KX G ?a; (case a => k_is))
    (case h61 => refine' PX.int_mk KX G ?a; (case a => k_is))
    (case h62 => refine' PX.int_mk KX G ?a; (case a => k_is))
    (case h63 => refine' PX.int_mk KX G ?a; (case a => k_is))
    (case h74 => k_is)
    (case h75 => k_is)
    (case h76 => k_is)
    (case h77 => k_is)
    (case h78 => k_is)
    (case h39 => walk_at "has")
    (case h0 => exact PX.has_ex (by walk_at "has"))
    (case h1 => exact PX.has_ex (by walk_at "has"))
    (case h2 => exact PX.has_ex (by walk_at "has"))
    (case h3 => exact PX.has_ex (by walk_at "has"))
    (case h4 => exact PX.has_ex (by walk_at "has"))
    (case h5 => exact PX.has_ex (by walk_at "has"))
    (case h6 => exact PX.has_ex (by walk_at "has"))
    (case h7 => exact PX.has_ex (by walk_at "has"))
    (case h8 => exact PX.has_ex (by walk_at "has"))
    (case h36 => exact PX.has_ex (by walk_at "has"))
    (case h37 => exact PX.has_ex (by walk_at "has"))
    (case h38 => exact PX.has_ex (by walk_at "has"))
    (case h41 => exact PX.has_ex (by walk_at "has"))
    (case h42 => exact PX.has_ex (by walk_at "has"))
    (case h43 => exact PX.has_ex (by walk_at "has"))
    (case h44 => exact PX.has_ex (by walk_at "has"))
    (case h45 => exact PX.has_ex (by walk_at "has"))
    (case h46 => exact PX.has_ex (by walk_at "has"))
    (case h47 => exact PX.has_ex (by walk_at "has"))
    (case h48 => exact PX.has_ex (by walk_at "has"))
    (case t0 => (refine' PySem.W.tab_of (x := "_law_state") Tp KX rfl (LC.tab_mk ?a0 ?b0 ?e0 ?c0 ?v0); (case a0 => k_is); (case b0 => k_is); (case e0 => rfl); (case c0 => k_is); (case v0 => rfl))); (case n0 => kernel_rfl)
#print axioms PySem.Challenge.cw_stablepapers_k04_errors_of_parsing_holds
