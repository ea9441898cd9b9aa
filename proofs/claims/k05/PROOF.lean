import PyProof.Rows.All
import HandS.Codes
import HandS.Comp
import HandS.GenList
import HandS.Lambda
import PyProof.GenQ
import HandS.Walk
import HandS.Words
import HandS.WordsList
import HandS.EndTab
import HandS.TupLe
import HandS.Style
import HandS.IsInst
import KE.KNest
import KE.KDictLaws
import HandS.Dict
import HandS.DictComp
import HandS.Conv
import HandS.More
import HandS.SortInts
import HandS.Iter
import HandS.ListItems
import HandS.Deep
import PyProof.ReprReads
import PyProof.ReprRoads
import PyProof.ReprLen
import PyProof.P3Eq
import KE.SortKeyHeap
import HandS.SortKw
import HandS.Keys
import PyProof.Rows.TmSorted
import PyProof.Rows.StrMeet
import PyProof.DictUpdate
import PyProof.DictTable
import HandS.DeepEq
import PySem.Challenge.RW_stablepapers_k05_terms_and_substitutions
import Wide.All
import OpenK.AllK
import Wide.FinOn
set_option Elab.async false
set_option linter.all false
set_option maxRecDepth 100000
set_option maxHeartbeats 1000000
namespace GX
open PySem PySem.Spec PyProof.Rows L2 GenW
/-! generator expressions of any element, drained by all, any, sum: code objects and their tables -/
theorem over_start {A : Around} {elt tg iter : Expr} {ifs : List Expr} {sc : Scope} {pos : Pos} {it acc : Value} {env : Env} :
    A.over (.compStart (.GeneratorExp elt [⟨tg, iter, ifs, 0⟩] sc pos) 0 it acc env) [] = A.deeper env := by
  obtain ⟨hd, d, fr, gs, u⟩ := A
  rfl
theorem over_turn {A : Around} {elt tg iter : Expr} {ifs : List Expr} {sc : Scope} {pos : Pos} {it acc : Value} {env : Env} :
    A.over (.compLoop (.GeneratorExp elt [⟨tg, iter, ifs, 0⟩] sc pos) 0 it acc env) [] = A.deeper env := by
  obtain ⟨hd, d, fr, gs, u⟩ := A
  rfl
/-- the head of a code object, as a thing that may be tracked -/
abbrev hdO (c P : Addr) : HO := .ext fun h => PySem.W.CodeHd h c P
def CodeOK (base : Heap) (H : Hp) (c P : Addr) : Prop := PySem.W.CodeHd base c P ∨ H c = some (hdO c P)
/-- the table at P: n levels of codes within codes are known -/
def TabG : Nat → Hp → Addr → Prop
  | 0, H, P => ∃ ps : Array Value, H P = some (.tbl ps) ∧ TriplesOk ps.toList
  | n + 1, H, P => ∃ ps : Array Value, H P = some (.tbl ps) ∧ TriplesOk ps.toList ∧ ∀ pos cv, codeAmong pos ps.toList = some cv → ∃ c' P', cv = .ref c' ∧ H c' = some (hdO c' P') ∧ P' ≠ P ∧ TabG n H P'
def Known : Nat → Addr → Value → Hp → Prop
  | 0, _, _, _ => True
  | n + 1, P, cv, H => ∃ c' P', cv = .ref c' ∧ H c' = some (hdO c' P') ∧ P' ≠ P ∧ TabG n H P'
/-- all but the table at P is kept -/
def Kp (P : Addr) (H H' : Hp) : Prop := ∀ b o, b ≠ P → H b = some o → H' b = some o
theorem Kp.refl {P : Addr} {H : Hp} : Kp P H H := fun _ _ _ h => h
theorem Kp.trans {P : Addr} {A B C : Hp} (h : Kp P A B) (h' : Kp P B C) : Kp P A C := fun b o n e => h' b o n (h b o n e)
theorem TabG.tbl : ∀ {n : Nat} {H : Hp} {P : Addr}, TabG n H P → ∃ ps : Array Value, H P = some (.tbl ps) ∧ TriplesOk ps.toList
  | 0, _, _, h => h
  | _ + 1, _, _, ⟨ps, h1, h2, _⟩ => ⟨ps, h1, h2⟩
theorem TabG.pred : ∀ {n : Nat} {H : Hp} {P : Addr}, TabG (n + 1) H P → TabG n H P
  | 0, _, _, ⟨ps, h1, h2, _⟩ => ⟨ps, h1, h2⟩
  | _ + 1, _, _, ⟨ps, h1, h2, h3⟩ => ⟨ps, h1, h2, fun pos cv e => by
    obtain ⟨c', P', e1, e2, e3, e4⟩ := h3 pos cv e
    exact ⟨c', P', e1, e2, e3, e4.pred⟩⟩
theorem TabG.zero : ∀ {n : Nat} {H : Hp} {P : Addr}, TabG n H P → TabG 0 H P
  | 0, _, _, h => h
  | n + 1, _, _, h => (h.pred).zero
/-- a table within is grown -/
theorem TabG.within {H H' : Hp} {P P' : Addr} (h : TabG 1 H P) (hne : P' ≠ P) (h0 : TabG 0 H P') (h' : TabG 0 H' P') (k : Kp P' H H') : TabG 1 H' P := by
  obtain ⟨ps, h1, h2, h3⟩ := h
  refine ⟨ps, k _ _ (Ne.symm hne) h1, h2, fun pos cv e => ?_⟩
  obtain ⟨c', P2, e1, e2, e3, e4⟩ := h3 pos cv e
  refine ⟨c', P2, e1, k _ _ (fun z => ?_) e2, e3, ?_⟩
  · obtain ⟨q, h4, _⟩ := h0
    rw [z, h4] at e2; cases e2
  · by_cases hp : P2 = P'
    · rw [hp]; exact h'
    · obtain ⟨r, e5, e6⟩ := e4
      exact ⟨r, k _ _ hp e5, e6⟩
/-- what is away from a table and what is known within it keeps it -/
theorem TabG.keep : ∀ {n : Nat} {H H' : Hp} {P : Addr}, TabG n H P → (∀ b o, H b = some o → H' b = some o) → TabG n H' P
  | 0, _, _, _, ⟨ps, h1, h2⟩, k => ⟨ps, k _ _ h1, h2⟩
  | _ + 1, _, _, _, ⟨ps, h1, h2, h3⟩, k => ⟨ps, k _ _ h1, h2, fun pos cv e => by
    obtain ⟨c', P', e1, e2, e3, e4⟩ := h3 pos cv e
    exact ⟨c', P', e1, k _ _ e2, e3, e4.keep k⟩⟩
theorem among_snoc (pos : Pos) (a b : Int) (c cv : Value) : ∀ l : List Value, TriplesOk l → codeAmong pos (l ++ [rawInt a, rawInt b, c]) = some cv → codeAmong pos l = some cv ∨ cv = c := by
  intro l h
  fun_induction TriplesOk l with
  | case1 =>
    intro e
    simp only [List.nil_append, rawInt, codeAmong] at e
    split at e
    · cases e; exact .inr rfl
    · cases e
  | case2 i t j u x r ih =>
    intro e
    simp only [List.cons_append, codeAmong] at e ⊢
    split at e
    · rename_i hc; rw [if_pos hc]; exact .inl e
    · rename_i hc; rw [if_neg hc]; exact ih h e
  | case3 l h1 h2 => exact h.elim
section
variable {X : Cx} {pins : List (Addr × Obj)} {σ : L2.St} {H : Hp} {s : Shared}
theorem codeHd_at {c P : Addr} (I : Inv X pins σ H s) (C : CodeOK X.base H c P) : PySem.W.CodeHd s.heap c P := by
  rcases C with C | C
  · exact C.keeps fun b o e => I.bk b o e
  · obtain ⟨h, _⟩ := I.hok c _ C
    exact h
theorem hdO_ok {P : Program} {w : World} {H : Hp} {h : Heap} {c T : Addr} (hc : PySem.W.CodeHd h c T) : ObjOk P w H h c (hdO c T) := by
  refine ⟨hc, ?_, fun h1 h2 p k => ?_⟩
  · obtain ⟨o, vs, file, tf, flags, tg, inF, text, tt, e, _⟩ := hc
    exact ⟨o, e⟩
  · obtain ⟨o, vs, file, tf, flags, tg, inF, text, tt, e, r⟩ := p
    exact ⟨o, vs, file, tf, flags, tg, inF, text, tt, k o e, r⟩
/-- the code object of a generator expression: found, or made and kept in the table -/
theorem gen_code {n : Nat} {c P : Addr} {pos : Pos} {q : Str} {sc : Scope} {E : Value → Shared → Prop} {Q : Value → Shared → Prop} (hc : X.env.code = .ref c) (I : Inv X pins σ H s) (C : CodeOK X.base H c P) (T : TabG n H P) (h1n : n ≤ 1)
    (hQ : ∀ cv H' s', Inv X pins σ H' s' → Kp P H H' → TabG n H' P → Known n P cv H' → s.heap.objs.size ≤ s'.heap.objs.size → (∀ b o, s.heap.get? b = some o → H b = none → s'.heap.get? b = some o ∧ H' b = none) → Q cv s') :
    wpAny (model X.prog X.w) X.A (genexprCode X.env pos q sc) Q E s := by
  obtain ⟨ps, hP, ht⟩ := T.tbl
  have hd := codeHd_at I C
  have hPs : s.heap.get? P = some { cls := .none, data := .fields ps } := I.hok P _ hP
  cases hf : codeAmong pos ps.toList with
  | some cv =>
    refine wpAny_genexprCode_hit hc (hd.code hPs ht) hf (hQ cv H s I Kp.refl T ?_ (Nat.le_refl _) fun b o e k => ⟨e, k⟩)
    cases n with
    | zero => trivial
    | succ n =>
      obtain ⟨ps', h1, h2, h3⟩ := T
      rw [hP] at h1; cases h1
      exact h3 pos cv hf
  | none =>
    refine wpAny_genexprCodeX hc (hd.code hPs ht) (hd.tab hPs) hf fun c' h' tk hx hge hlt hco' _ htab' hin => ?_
    obtain ⟨P', hP', hcn, htn⟩ := hin
    obtain ⟨o1, vs, f1, tf, fl, tg, inF, tx, tt, op, _, _, _, _, _, _, _, _, _, htr, _⟩ := id hco'
    have hPl : P < s.heap.objs.size := Heap.lt_size hPs
    have nc : H c' = none := I.hok.fresh hge
    have nP : H P' = none := I.hok.fresh hP'
    have c1 : c' ≠ P := fun z => by rw [z, hP] at nc; cases nc
    have c2 : P' ≠ P := fun z => by rw [z, hP] at nP; cases nP
    have hhd := PySem.W.CodeHd.of hcn htn
    have c3 : c' ≠ P' := by
      obtain ⟨_, _, _, _, _, _, _, _, _, _, _, _, _, _, _, _, _, _, z⟩ := id hhd
      exact z
    let G : Hp := upd (upd (upd H P (.tbl (ps ++ #[rawInt pos.line, rawInt pos.col, .ref c']))) P' (.tbl #[])) c' (hdO c' P')
    have gP : G P = some (.tbl (ps ++ #[rawInt pos.line, rawInt pos.col, .ref c'])) := by
      show upd _ c' _ P = _
      rw [upd_ne (Ne.symm c1), upd_ne (Ne.symm c2), upd_same]
    have gP' : G P' = some (.tbl #[]) := by
      show upd _ c' _ P' = _
      rw [upd_ne (Ne.symm c3), upd_same]
    have gc : G c' = some (hdO c' P') := upd_same
    have go : ∀ b, b ≠ P → b ≠ P' → b ≠ c' → G b = H b := fun b h1 h2 h3 => by
      show upd _ c' _ b = _
      rw [upd_ne h3, upd_ne h2, upd_ne h1]
    have gk : Kp P H G := fun b o h1 e => by
      rw [go b h1 (ne_of_none e nP) (ne_of_none e nc)]; exact e
    have old : ∀ b o, s.heap.get? b = some o → b ≠ P' ∧ b ≠ c' := fun b o e =>
      ⟨fun z => absurd (Nat.lt_of_lt_of_le (Heap.lt_size e) (by rw [z]; exact hP')) (Nat.lt_irrefl _), fun z => absurd (Nat.lt_of_lt_of_le (Heap.lt_size e) (by rw [z]; exact hge)) (Nat.lt_irrefl _)⟩
    have ok : HOk X.prog X.w G h' := fun b u e => by
      by_cases h1 : b = P
      · subst h1
        rw [gP] at e; cases e
        exact htab'.2
      by_cases h2 : b = P'
      · subst h2
        rw [gP'] at e; cases e
        exact htn.2
      by_cases h3 : b = c'
      · subst h3
        rw [gc] at e; cases e
        exact hdO_ok hhd
      · rw [go b h1 h2 h3] at e
        refine (I.hok b u e).stay (fun d v hd r => hx d v ?_ r) (fun d r => gk d _ (fun z => by rw [z, hP] at r; cases r) r) fun d xs r => gk d _ (fun z => by rw [z, hP] at r; cases r) r
        rcases hd with z | z
        · rw [z]; exact h1
        · intro z2; rw [z2, hP] at z; cases z
    have un : Un X.fs [] H G s.heap h' := by
      refine ⟨fun b o e k _ _ => hx b o (fun z => by rw [z, hP] at k; cases k) e, fun b o e k _ _ => ⟨o.slots, hx b o (fun z => by rw [z, hP] at k; cases k) e⟩, fun b o e k _ => ?_, fun b o e _ => ?_, fun b xs e => gk b _ (fun z => by rw [z, hP] at e; cases e) e, fun b o u e => gk b _ (fun z => by rw [z, hP] at e; cases e) e, fun b qs e => ?_⟩
      · obtain ⟨h1, h2⟩ := old b o e
        rw [go b (fun z => by rw [z, hP] at k; cases k) h1 h2]; exact k
      · by_cases h1 : b = P
        · rw [h1]; exact ⟨_, htab'.2⟩
        · exact ⟨o, hx b o h1 e⟩
      · by_cases h1 : b = P
        · subst h1
          rw [hP] at e; cases e
          exact ⟨_, gP⟩
        · exact ⟨#[], by rw [gk b _ h1 e]; simp⟩
    have J := I.un (t' := tk) un ok
    have kn : ∀ m, TabG m G P' := fun m => by
      cases m with
      | zero => exact ⟨#[], gP', trivial⟩
      | succ m => exact ⟨#[], gP', trivial, fun pos cv e => by simp [codeAmong] at e⟩
    have tg' : TabG n G P := by
      cases n with
      | zero => exact ⟨_, gP, htr⟩
      | succ n =>
        obtain ⟨ps', h1, h2, h3⟩ := T
        rw [hP] at h1; cases h1
        refine ⟨_, gP, htr, fun pos' cv e => ?_⟩
        have e' : codeAmong pos' (ps.toList ++ [rawInt pos.line, rawInt pos.col, .ref c']) = some cv := by simpa using e
        rcases among_snoc pos' _ _ _ cv ps.toList ht e' with e2 | e2
        · obtain ⟨c3', P3, f1, f2, f3, f4⟩ := h3 pos' cv e2
          have f5 : c3' ≠ P := fun z => by rw [z, hP] at f2; cases f2
          refine ⟨c3', P3, f1, gk _ _ f5 f2, f3, ?_⟩
          have e0 : n = 0 := by omega
          subst e0
          obtain ⟨r, e5, e6⟩ := f4
          exact ⟨r, gk _ _ f3 e5, e6⟩
        · exact ⟨c', P', e2, gc, c2, kn n⟩
    refine hQ (.ref c') G _ J gk tg' ?_ (Nat.le_of_lt (Nat.lt_of_le_of_lt hge hlt)) fun b o e k => ⟨hx b o (fun z => by rw [z, hP] at k; cases k) e, ?_⟩
    · cases n with
      | zero => trivial
      | succ n => exact ⟨c', P', rfl, gc, c2, kn n⟩
    · obtain ⟨h1, h2⟩ := old b o e
      rw [go b (fun z => by rw [z, hP] at k; cases k) h1 h2]; exact k
end
end GX
set_option Elab.async false
set_option linter.all false
set_option maxRecDepth 100000
set_option maxHeartbeats 1000000
namespace GX
open PySem PySem.Spec PyProof.Rows L2 GenW
/-! the frame of a generator expression as a context -/
abbrev gcx (X : Cx) (A : Around) (s : Shared) (H : Hp) (sc : Scope) (cenv : Env) (fp : List Addr) (pn : List (Addr × Obj)) : Cx :=
  { X with A := A, s_0 := s, H_0 := H, env := cenv, outer := X.stack, stack := cenv :: X.stack, ex := fp, fn := fun x => sc.names.lookup x == some .cell, calm := true, pn := pn, xe := fun _ _ => False }
abbrev genv (X : Cx) (sc : Scope) (C : Addr) (cv : Value) : Env := genEnv sc (cloFrom X.env.cells sc.names []) C cv builtinsNs X.env
section
variable {X : Cx} {pins : List (Addr × Obj)} {σ : L2.St} {H : Hp} {s : Shared}
theorem clo_at {sc : Scope} {own : List (Str × Nat)} (I : Inv X pins σ H s) (ok : BlkOk X.N X.env.scope sc own) {y : Str} {c : Addr} (e : (cloFrom X.env.cells sc.names []).lookup y = some c) : X.env.cells.lookup y = some c ∧ c < s.heap.objs.size := by
  rcases cloFrom_mem (PySem.mem_of_lookup e) with hm | ⟨h1, h2⟩
  · cases hm
  · have hx : ∃ c, X.env.cells.lookup y = some c := by
      rcases ok.free _ h1 rfl with k | k
      · exact I.ok.has _ (.inl k)
      · exact I.ok.has _ (.inr k)
    obtain ⟨c', e'⟩ := hx
    rw [h2, e']
    obtain ⟨v, z⟩ := I.cell _ _ e'
    exact ⟨rfl, z.lt⟩
theorem clo_of {sc : Scope} {own : List (Str × Nat)} (I : Inv X pins σ H s) (ok : BlkOk X.N X.env.scope sc own) {y : Str} (e : sc.names.lookup y = some .free) : ∃ c, (cloFrom X.env.cells sc.names []).lookup y = some c := by
  obtain ⟨c, h⟩ := mem_lookup (cloFrom_has (cells := X.env.cells) (acc := []) (PySem.mem_of_lookup e))
  exact ⟨c, h⟩
theorem gen_start {A : Around} {sc : Scope} {own : List (Str × Nat)} {fp : List Addr} {cv it : Value} {h' : Heap} {go : Obj} {s5 : Shared} (I : Inv X pins σ H s) (ok : BlkOk X.N X.env.scope sc own) (nc : ∀ y ∈ sc.names, y.2 ≠ .cell) (hN : X.N.Nodup)
    (hfp : ∀ b ∈ fp, FpOk X pins H b ∧ b < s.heap.objs.size) (hh : A.handled = none) (hfr : A.frames = some (genv X sc s.heap.objs.size cv :: X.stack))
    (hns : h'.Ns s.heap.objs.size (fun y => if y = ".0" then some it else none)) (hsb : Heap.SameBut s.heap.objs.size (s.heap.push { cls := .type "frame", data := .dict #[] }) h')
    (hgo : ∀ v, go.data ≠ .cell v) (hgp : (h'.push go).get? h'.objs.size = some go) (ho : s5.os = s.os) (hb : AllBare s5.gens) (hk : ∀ b o, (h'.push go).get? b = some o → s5.heap.get? b = some o) :
    Inv (gcx X A s H sc (genv X sc s.heap.objs.size cv) fp [(h'.objs.size, go)]) [] (wipe σ (own.map (·.2))) H s5 := by
  have hsz : h'.objs.size = s.heap.objs.size + 1 := by rw [hsb.1, Heap.size_push]
  have k1 : ∀ b o, s.heap.get? b = some o → h'.get? b = some o := fun b o e => hsb.extBut b o (Nat.ne_of_lt (Heap.lt_size e)) (Heap.get?_push_of_some _ e)
  have kp : ∀ b o, s.heap.get? b = some o → s5.heap.get? b = some o := fun b o e => hk b o (Heap.get?_push_of_some _ (k1 b o e))
  have kindOf : ∀ y k, sc.names.lookup y = some k → k = .local ∨ k = .cell ∨ k = .free → k = .local ∨ k = .free := fun y k e z => by
    rcases z with z | z | z
    · exact .inl z
    · exact absurd z (nc _ (PySem.mem_of_lookup e))
    · exact .inr z
  have okG : (gcx X A s H sc (genv X sc s.heap.objs.size cv) fp [(h'.objs.size, go)]).Ok := by
    refine ⟨I.ok.mod, ok.kind, I.ok.glob, rfl, Nat.le_refl _, fun x y c e1 e2 => ?_, fun x hx => ?_, fun x c z e => ?_, fun _ => hh, hfr, .inr ⟨rfl, rfl⟩, fun b hb => ⟨Nat.ne_of_lt (hfp b hb).2, fun y c e z => ?_⟩,
      I.bs, Nat.le_trans I.ok.bsz I.sz, fun b o e hb => ?_, fun b hb z => ?_, I.stack, I.stkFree⟩
    · exact I.ok.inj x y c (clo_at I ok e1).1 (clo_at I ok e2).1
    · rcases hx with hx | hx
      · exact absurd rfl (nc _ (PySem.mem_of_lookup (show sc.names.lookup x = some .cell from hx)))
      · exact clo_of I ok hx
    · have z : (sc.names.lookup x == some NameKind.cell) = true := z
      have z : sc.names.lookup x = some .cell := by simpa using z
      exact absurd rfl (nc _ (PySem.mem_of_lookup z))
    · exact (hfp b hb).1.2.2.2.2.1 y c (clo_at I ok e).1 z
    · rcases (hfp b hb).1.2.2.2.1 with z | z
      · exact I.ok.noex b o e z
      · exact absurd (Nat.lt_of_lt_of_le (Heap.lt_size e) (Nat.le_trans I.ok.bsz z)) (Nat.lt_irrefl _)
    · rcases List.mem_cons.mp (I.stkSub b z) with z | z
      · exact (hfp b hb).1.2.1 z
      · exact (hfp b hb).1.2.2.1 z
  refine ⟨okG, ho, hb, Un.kept kp, ⟨_, (hns.push go).keeps hk, fun i y v e1 e2 e3 => ?_⟩, fun y c e => ?_, I.hok.fresh (Nat.le_refl _), fun y c e => I.freeC y c (clo_at I ok e).1, fun p hp => ?_, I.hok.kept kp, by rw [wipe_length]; exact I.len⟩
  · obtain ⟨e2, hne⟩ := wipe_some e2
    have e3 : Vis sc y := e3
    have hl : ∀ k, sc.names.lookup y = some k → k = .local ∨ k = .free → k = .free := fun k e z => by
      rcases z with z | z
      · rcases ok.own _ (PySem.mem_of_lookup e) (.inl z) with q | q
        · obtain ⟨p, hp, hpy⟩ := List.mem_map.mp q
          have e5 := ok.ix p hp
          have e6 : p.1 = y := hpy
          rw [e6] at e5
          exact absurd (List.mem_map.mpr ⟨p, hp, nodup_ix hN e5 e1⟩) hne
        · exact absurd (List.mem_of_getElem? e1) q
      · exact z
    have hf : sc.names.lookup y = some .free := by
      rcases e3 with e | e | e
      · have := hl _ e (.inl rfl); rw [e, this]
      · exact absurd rfl (nc _ (PySem.mem_of_lookup e))
      · exact e
    obtain ⟨m, _, hm⟩ := I.loc
    have hv : Vis X.env.scope y := (ok.free _ (PySem.mem_of_lookup hf) rfl).elim (fun k => .inr (.inl k)) fun k => .inr (.inr k)
    obtain ⟨u, r, q⟩ := hm i y v e1 e2 hv
    obtain ⟨c, hc⟩ := clo_of I ok hf
    refine ⟨u, r, .inr ⟨.inr hf, c, hc, ?_⟩⟩
    rcases q with ⟨k, _⟩ | ⟨_, c', e', z⟩
    · have k : X.env.scope.names.lookup y = some .local := k
      rcases ok.free _ (PySem.mem_of_lookup hf) rfl with k' | k' <;> rw [show X.env.scope.names.lookup y = _ from k'] at k <;> cases k
    · rw [(clo_at I ok hc).1] at e'; cases e'
      exact z.keeps kp
  · obtain ⟨v, z⟩ := I.cell y c (clo_at I ok e).1
    exact ⟨v, z.keeps kp⟩
  · have hp : p = (h'.objs.size, go) := by simpa using hp
    subst hp
    have hlt : s.heap.objs.size < h'.objs.size := by omega
    exact ⟨hk _ _ hgp, I.hok.fresh (Nat.le_of_lt hlt), Nat.ne_of_gt hlt, fun z => by
      rcases List.mem_cons.mp (I.stkSub _ z) with z | z
      · have z1 : X.env.locals < s.heap.objs.size := I.lt
        rw [← show h'.objs.size = X.env.locals from z] at z1
        exact Nat.lt_irrefl _ (Nat.lt_trans z1 hlt)
      · exact I.nofs (Nat.le_of_lt hlt) z, hgo⟩
end
end GX
set_option Elab.async false
set_option linter.all false
set_option maxRecDepth 100000
set_option maxHeartbeats 1000000
namespace GX
open PySem PySem.Spec PyProof.Rows L2 GenW
/-! the turns of a generator expression, between two items -/
/-- the drainer's own object stands apart -/
structure Away (X : Cx) (S : Addr) : Prop where
  young : X.s_0.heap.objs.size ≤ S
  loc : S ≠ X.env.locals
  pn : ∀ p ∈ X.pn, p.1 ≠ S
  fs : S ∉ X.fs
  ex : S ∉ X.ex
  cell : ∀ x c, X.env.cells.lookup x = some c → c ≠ S
/-- what the drainer holds by a number -/
abbrev Hold := Int → List (Addr × Obj) → Prop
structure HoldOk (S : Addr) (Hd : Hold) : Prop where
  at_ : ∀ t ps, Hd t ps → ∀ p ∈ ps, p.1 = S ∧ ∀ v, p.2.data ≠ .cell v
/-- the state behind the drainer's own step -/
structure Woke (ps : List (Addr × Obj)) (s s' : Shared) : Prop where
  os : s'.os = s.os
  bare : AllBare s'.gens
  keep : ∀ b o, b ∉ ps.map (·.1) → s.heap.get? b = some o → s'.heap.get? b = some o
abbrev Emit := Int → V → (Int → Hp → Prop) → Hp → Prop
section
variable {X : Cx} {S : Addr} {Hd : Hold}
theorem woken {ps ps' : List (Addr × Obj)} {σ : L2.St} {H : Hp} {s s' : Shared} (I : Inv X ps σ H s) (hp : ∀ p ∈ ps, p.1 = S) (hp' : ∀ p ∈ ps', p.1 ∈ ps.map (·.1) ∧ ∀ v, p.2.data ≠ .cell v) (aw : Away X S) (w : Woke ps s s') (he : ∀ p ∈ ps', s'.heap.get? p.1 = some p.2) :
    Inv X ps' σ H s' := by
  have nS : ∀ b ∈ ps.map (·.1), b = S := fun b hb => by
    obtain ⟨p, h1, h2⟩ := List.mem_map.mp hb
    rw [← h2]; exact hp p h1
  have noH : ∀ b ∈ ps.map (·.1), H b = none := fun b hb => by
    obtain ⟨p, h1, h2⟩ := List.mem_map.mp hb
    rw [← h2]; exact (I.pin p (List.mem_append_right _ h1)).2.1
  have I0 : Inv X [] σ H s := I.pins_of fun p h => by cases h
  obtain ⟨w1, w2, w3⟩ := w
  obtain ⟨hh, g, d, tk, o⟩ := s'
  have e : o = s.os := w1
  subst e
  have nL : X.env.locals ∉ ps.map (·.1) := fun z => aw.loc (nS _ z).symm
  have J : Inv X [] σ H { s with heap := hh, gens := g, drawn := d, toks := tk } := by
    refine I0.step (g' := g) (t' := tk) (d' := d) (ch := ps.map (·.1)) (fun b hb => ?_) (fun b ob _ _ hc q _ => w3 b ob hc q) (fun b ob _ _ hc q _ => ⟨ob.slots, w3 b ob hc q⟩) (fun _ _ _ _ n => n) (fun b ob hc q => ⟨ob, w3 b ob hc q⟩)
      (fun _ _ q => q) (fun _ _ _ q => q) (fun b qs q => ⟨#[], by rw [q]; simp⟩) (fun m hm => ?_) (fun b u q => ?_) w2
    · rw [nS b hb]
      refine ⟨.inr aw.young, aw.loc, aw.cell, fun p h => aw.pn p ?_⟩
      simpa using h
    · obtain ⟨ob, es, ep, h1, r⟩ := hm
      exact ⟨ob, es, ep, w3 _ ob nL h1, r⟩
    · refine (I0.hok b u q).stay (fun c v hc y => w3 c v (fun z => ?_) y) (fun _ y => y) fun _ _ y => y
      have z1 := noH c z
      rcases hc with y | y
      · rw [y, q] at z1; cases z1
      · rw [y] at z1; cases z1
  exact J.pins_of fun p h => by
    obtain ⟨h1, h2⟩ := hp' p h
    refine ⟨he p h, noH _ h1, ?_, ?_, h2⟩
    · rw [nS _ h1]; exact aw.loc
    · rw [nS _ h1]; exact aw.fs
/-- the end of the items; one item -/
def GEnd (X : Cx) (Hd : Hold) (Dn : Int → Hp → Prop) : Nat → Shared → Shared → Prop := fun _ s₀ s₁ => ∃ t ps σ' H, Hd t ps ∧ (∀ p ∈ ps, s₀.heap.get? p.1 = some p.2) ∧ Inv X ps σ' H s₁ ∧ Dn t H
def GItem (X : Cx) (Hd : Hold) (Em : Emit) : Protocol := fun _ s₀ v s kap => ∃ t ps σ' H y Nx, Hd t ps ∧ (∀ p ∈ ps, s₀.heap.get? p.1 = some p.2) ∧ Inv X ps σ' H s ∧ RelV y v ∧ Em t y Nx H ∧
  ∀ t' ps' s'', Nx t' H → Hd t' ps' → (∀ p ∈ ps', p.1 ∈ ps.map (·.1)) → Woke ps s s'' → (∀ p ∈ ps', s''.heap.get? p.1 = some p.2) → kap (.send .none) s''
/-- one turn by the readings -/
def GTurn (J : It) (g : TG) (tt : TT) (te : TE) (vs : List Nat) (σ : L2.St) (Em : Emit) (Dn : Int → Hp → Prop) (W : Nat → Nat → Int → Hp → Prop) : Prop := ∀ i m t H, W i m t H →
  (J.stop i H ∧ Dn t H) ∨ (J.go i H ∧ ∃ Nx : Int → Hp → Prop, (∀ t' H', Nx t' H' → ∃ m', m' < m ∧ W (i + 1) m' t' H') ∧ ∀ x H', J.yld i H x H' → g x (wipe σ vs) H' fun σ2 H2 => wipe σ2 vs = wipe σ vs ∧ tt σ2 H2 fun b H3 =>
    if b = true then te σ2 H3 fun y H4 => Em t y Nx H4 else Nx t H3)
theorem seg_turns {A : Around} {elt tg iter : Expr} {ifs : List Expr} {sc : Scope} {pos : Pos} {it : Addr} {fp : List Addr} {tn : Nat → Heap → Prop} {J : It} {g : TG} {tt : TT} {te : TE} {vs : List Nat} {σ : L2.St} {Em : Emit} {Dn : Int → Hp → Prop} {W : Nat → Nat → Int → Hp → Prop}
    (hA : A.deeper X.env = X.A) (hx : X.xe = fun _ _ => False) (hc : X.calm = true) (hex : X.ex = fp) (hco : X.env.scope.isCoroutine = false) (hpf : ∀ p ∈ X.pn, ∀ b ∈ fp, p.1 ≠ b) (T : Turn X.prog X.w X.K tg J fp it tn) (pg : PG X tg g) (pt : PTs X ifs tt) (pe : PE X elt te) (turn : GTurn J g tt te vs σ Em Dn W)
    (hd : HoldOk S Hd) (aw : Away X S) : ∀ (m i : Nat) (t : Int) (n : Nat) (s₀ s : Shared) (H : Hp) (ps : List (Addr × Obj)), m < n → Hd t ps → (∀ p ∈ ps, s₀.heap.get? p.1 = some p.2) → Inv X ps (wipe σ vs) H s → tn i s.heap → (∀ b ∈ fp, H b = none) → W i m t H →
      Seg (model X.prog X.w) A (fun n s₀ r s₁ => r = .ok .next ∧ GEnd X Hd Dn n s₀ s₁) (GItem X Hd Em) n s₀ (.compLoop (.GeneratorExp elt [⟨tg, iter, ifs, 0⟩] sc pos) 0 (.ref it) .none X.env)
        ((model X.prog X.w).den (.compLoop (.GeneratorExp elt [⟨tg, iter, ifs, 0⟩] sc pos) 0 (.ref it) .none X.env)) [] s := by
  intro m
  induction m using Nat.strongRecOn with
  | ind m ih =>
    intro i t n s₀ s H ps hmn h1 h2 I st fr w
    have stat : ∀ {σ' : L2.St} {H' : Hp} {s' : Shared} {qs : List (Addr × Obj)}, Inv X qs σ' H' s' → (∀ p ∈ qs, p.1 = S) → (∀ b ∈ fp, H' b = none) → ∀ b ∈ fp, FpOk X qs H' b := fun {σ' H' s' qs} I' hq hn b hb => by
      have hbx : b ∈ X.ex := by rw [hex]; exact hb
      refine ⟨hn b hb, (I'.ok.exf b hbx).1, I'.ok.exfs b hbx, .inl hbx, fun x c e => (I'.ok.exf b hbx).2 x c e, fun p hp => ?_⟩
      rcases List.mem_append.mp hp with z | z
      · exact hpf p z b hb
      · rw [hq p z]; intro e; exact aw.ex (by rw [e]; exact hbx)
    have hS : ∀ p ∈ ps, p.1 = S := fun p hp => (hd.at_ t ps h1 p hp).1
    show Seg _ A _ _ n s₀ _ ((compTurn _ 0 (.ref it) .none X.env).onRaise (leaving X.env)) [] s
    rw [compTurn_gen, Sem.onRaise_eq_wrap]
    refine seg_bind_wrap (wpAny_standAt (seg_bind_wrap ?_))
    rw [over_turn, hA]
    rcases turn i m t H w with ⟨stop, qn⟩ | ⟨go, Nx, hN, step⟩
    · refine thnF (T.done X rfl rfl rfl hc i ps s _ H (fun _ _ => False) I (stat I hS fr) st stop) fun r s4 ⟨hr, I4⟩ => ?_
      subst hr
      exact seg_end (.ok .next) ⟨rfl, t, ps, _, H, h1, h2, I4, qn⟩
    · refine thnF (T.item X rfl rfl rfl hc i ps s _ H (fun _ _ => False) I (stat I hS fr) st go) fun r s4 ⟨u, hr, h4⟩ => ?_
      subst hr
      refine seg_bind_wrap ?_
      rw [over_turn, hA]
      refine thnF h4 fun _ s5 ⟨x, H5, I5, r5, y5, st5, fr5⟩ => seg_bind_wrap ?_
      rw [over_turn, hA]
      have I5' := I5.pinned (stat I5 hS fr5) (T.obj _ _ st5)
      have pgr := pg.run _ s5 _ H5 x u _ I5' r5 (step x H5 y5)
      rw [hx] at pgr
      refine thnF pgr fun _ s6 ⟨σ6, H6, I6, hw6, q6⟩ => seg_bind_wrap ?_
      rw [over_turn, hA]
      have ptr := pt.run _ s6 σ6 H6 _ I6 q6
      rw [hx] at ptr
      refine thnF ptr fun b s7 ⟨H7, I7, q7⟩ => ?_
      -- what stays of the iterator's objects
      have back : ∀ {qs : List (Addr × Obj)} {s' : Shared} {H' : Hp}, Inv X (ps ++ pinsAt fp s5.heap) σ6 H' s' → tn (i + 1) s'.heap ∧ (∀ b ∈ fp, H' b = none) ∧ Inv X ps (wipe σ vs) H' s' := fun {qs s' H'} I' => by
        have pin' : ∀ b ∈ fp, ∀ o, s5.heap.get? b = some o → s'.heap.get? b = some o ∧ H' b = none := fun b hb o e =>
          let z := I'.pin (b, o) (List.mem_append_right _ (List.mem_append_right _ (mem_pinsAt hb e)))
          ⟨z.1, z.2.1⟩
        refine ⟨T.keep _ _ _ st5 fun b hb o e => (pin' b hb o e).1, fun b hb => ?_, ?_⟩
        · obtain ⟨o, e, _⟩ := T.obj _ _ st5 b hb
          exact (pin' b hb o e).2
        · refine (I'.unpinned (pins := ps)).weak (by rw [← hw6, wipe_length]) fun j v e => ?_
          rw [← hw6] at e
          exact (wipe_some e).1
      cases b with
      | false =>
        simp only [Bool.false_eq_true, if_false] at q7 ⊢
        obtain ⟨b1, b2, b3⟩ := back (qs := []) I7
        obtain ⟨m', hm, w'⟩ := hN t H7 q7
        exact seg_again rfl (ih m' hm (i + 1) t n s₀ s7 H7 ps (Nat.lt_trans hm hmn) h1 h2 b3 b1 b2 w')
      | true =>
        simp only [if_true] at q7 ⊢
        have hy : ∀ v, yieldOut X.env v = yieldValue v := fun v => by simp only [yieldOut, hco, Bool.false_eq_true, if_false]
        simp only [hy]
        rw [Sem.bind_eq_wrap', Sem.bind_eq_wrap', Sem.wrap_wrap, Sem.wrap_wrap]
        refine seg_wrap ?_
        rw [over_turn, hA]
        have per := pe.run _ s7 σ6 H7 _ I7 q7
        rw [hx] at per
        refine thnF per fun z s8 ⟨y, H8, I8, r8, q8⟩ => ?_
        obtain ⟨n, rfl⟩ : ∃ k, n = k + 1 := ⟨n - 1, by omega⟩
        obtain ⟨b1, b2, b3⟩ := back (qs := []) I8
        refine seg_at (seg_yield rfl rfl rfl ⟨t, ps, _, H8, y, Nx, h1, h2, b3, r8, q8, fun t' ps' s'' nx hp' ha wk he => ?_⟩)
        obtain ⟨m', hm, w'⟩ := hN t' H8 nx
        have I9 := woken b3 hS (fun p hp => ⟨ha p hp, (hd.at_ t' ps' hp' p hp).2⟩) aw wk he
        refine seg_again rfl (ih m' hm (i + 1) t' n s'' s'' H8 ps' (by omega) hp' he I9 (T.keep _ _ _ b1 fun b hb o e => wk.keep b o (fun z => ?_) e) b2 w')
        obtain ⟨p, z1, z2⟩ := List.mem_map.mp z
        rw [hS p z1] at z2
        exact aw.ex (by rw [hex, z2]; exact hb)
end
end GX
set_option Elab.async false
set_option linter.all false
set_option maxRecDepth 100000
set_option maxHeartbeats 1000000
namespace GX
open PySem PySem.Spec PyProof.Rows L2 GenW
/-! the first turn; all, any, sum -/
section
variable {X : Cx} {S : Addr} {Hd : Hold}
theorem seg_begin {A : Around} {elt tg iter : Expr} {ifs : List Expr} {sc : Scope} {pos : Pos} {it : Addr} {fp : List Addr} {tn : Nat → Heap → Prop} {J : It} {g : TG} {tt : TT} {te : TE} {vs : List Nat} {σ : L2.St} {Em : Emit} {Dn : Int → Hp → Prop} {W : Nat → Nat → Int → Hp → Prop}
    (hA : A.deeper X.env = X.A) (hx : X.xe = fun _ _ => False) (hc : X.calm = true) (hex : X.ex = fp) (hco : X.env.scope.isCoroutine = false) (hpf : ∀ p ∈ X.pn, ∀ b ∈ fp, p.1 ≠ b) (T : Turn X.prog X.w X.K tg J fp it tn) (pg : PG X tg g) (pt : PTs X ifs tt) (pe : PE X elt te) (turn : GTurn J g tt te vs σ Em Dn W)
    (hd : HoldOk S Hd) (aw : Away X S) (m : Nat) (t : Int) (n : Nat) (s₀ s : Shared) (H : Hp) (ps : List (Addr × Obj)) (hmn : m < n) (h1 : Hd t ps) (h2 : ∀ p ∈ ps, s₀.heap.get? p.1 = some p.2) (I : Inv X ps (wipe σ vs) H s) (st : tn 0 s.heap) (fr : ∀ b ∈ fp, H b = none) (w : W 0 m t H) :
      Seg (model X.prog X.w) A (fun n s₀ r s₁ => r = .ok .next ∧ GEnd X Hd Dn n s₀ s₁) (GItem X Hd Em) n s₀ (.compStart (.GeneratorExp elt [⟨tg, iter, ifs, 0⟩] sc pos) 0 (.ref it) .none X.env)
        ((model X.prog X.w).den (.compStart (.GeneratorExp elt [⟨tg, iter, ifs, 0⟩] sc pos) 0 (.ref it) .none X.env)) [] s := by
  have loop := seg_turns (iter := iter) (sc := sc) (pos := pos) hA hx hc hex hco hpf T pg pt pe turn hd aw m 0 t n s₀ s H ps hmn h1 h2 I st fr w
  show Seg _ A _ _ n s₀ _ ((compStart _ 0 (.ref it) .none X.env).onRaise (leaving X.env)) [] s
  unfold compStart
  rw [Sem.onRaise_eq_wrap]
  show Seg _ A _ _ n s₀ _ ((ask >>= _).wrap _ _ _ _) [] s
  refine seg_bind_wrap (wpAny_askSetting ?_)
  split
  · exact seg_again rfl loop
  · refine seg_bind_wrap (wpAny_rule ?_)
    show Seg _ A _ _ n s₀ _ ((standAt iter.pos >>= _).wrap _ _ _ _) [] s
    exact seg_bind_wrap (wpAny_standAt (seg_bind_wrap (T.self _ 0 s _ _ st (seg_again rfl loop))))
theorem inv_gens {pins : List (Addr × Obj)} {σ : L2.St} {H : Hp} {s : Shared} {g' : Array GenState} (I : Inv X pins σ H s) (h : AllBare g') : Inv X pins σ H { s with gens := g' } :=
  ⟨I.ok, I.os, h, I.base, I.loc, I.cell, I.free, I.freeC, I.pin, I.hok, I.len⟩
/-- the generator object stands -/
structure GObj (X : Cx) (a : Addr) (g : Nat) (go : Obj) : Prop where
  mem : (a, go) ∈ X.pn
  gen : ∀ h : Heap, h.get? a = some go → h.IsGen a g
theorem GObj.at {a : Addr} {g : Nat} {go : Obj} (G : GObj X a g go) {pins : List (Addr × Obj)} {σ : L2.St} {H : Hp} {s : Shared} (I : Inv X pins σ H s) : s.heap.IsGen a g :=
  G.gen _ (I.pin _ (List.mem_append_left _ G.mem)).1
/-- the generator g sleeps at a, n items at most are left -/
def Rdy (X : Cx) (A : Around) (Hd : Hold) (Em : Emit) (Dn : Int → Hp → Prop) (a : Addr) (g n : Nat) (s : Shared) : Prop :=
  s.heap.IsGen a g ∧ s.heap.NoLimit ∧ ∃ gs, s.gens[g]? = some gs ∧ gs.Goes (model X.prog X.w) A (fun n s₀ r s₁ => r = .ok .next ∧ GEnd X Hd Dn n s₀ s₁) (GItem X Hd Em) n (.send .none) (s.setGen g .running)
theorem next_item {A : Around} {a : Addr} {g n : Nat} {go : Obj} {s : Shared} {Em : Emit} {Dn : Int → Hp → Prop} {Q : Option Value → Shared → Prop} {E : Value → Shared → Prop} (G : GObj X a g go) (hh : A.handled = none) (hd : A.depth < recursionLimit) (r : Rdy X A.in1 Hd Em Dn a g n s)
    (hI : ∀ t ps σ' H y v s1 Nx, Hd t ps → (∀ p ∈ ps, s.heap.get? p.1 = some p.2) → Inv X ps σ' H s1 → RelV y v → Em t y Nx H →
      (∀ t' ps' hp, Nx t' H → Hd t' ps' → (∀ p ∈ ps', p.1 ∈ ps.map (·.1)) → (∀ b o, b ∉ ps.map (·.1) → s1.heap.get? b = some o → hp.get? b = some o) → (∀ p ∈ ps', hp.get? p.1 = some p.2) → hp.IsGen a g → hp.NoLimit → ∃ k, k < n ∧ ∀ tk, Rdy X A.in1 Hd Em Dn a g k { s1 with heap := hp, toks := tk }) → Q (some v) s1)
    (hE : ∀ t ps σ' H s1, Hd t ps → (∀ p ∈ ps, s.heap.get? p.1 = some p.2) → Inv X ps σ' H s1 → Dn t H → Q none s1) :
    wpAny (model X.prog X.w) A (pyNext (.ref a)) Q E s := by
  obtain ⟨h1, h2, gs, h3, h4⟩ := r
  have hgl : g + 1 ≤ s.gens.size := (Array.getElem?_eq_some_iff.mp h3).1
  refine wpAny_gsz (n := g + 1) hgl (wpAny_pyNext_genexpQ (A := A) (P := GEnd X Hd Dn) hh h2 hd h1 h3 h4 (fun v s₁ gs' hb hv => ?_) (fun s₁ hp h' hk => ?_))
  · intro hsz
    have hsz1 : g < s₁.gens.size := by
      have q : (s₁.setGen g gs').gens.size = s₁.gens.size := setGen_size _ _ _
      rw [q] at hsz
      exact hsz
    obtain ⟨t, ps, σ', H, y, Nx, f1, f2, f3, f4, f5, f6⟩ := hv
    have J : Inv X ps σ' H (s₁.setGen g gs') := inv_gens f3 (allBare_setGen f3.bare hb)
    refine hI t ps σ' H y v _ Nx f1 f2 J f4 f5 fun t' ps' hp q1 q2 q3 q4 q5 q6 q7 => ?_
    cases n with
    | zero =>
      exact False.elim (f6 t' ps' { s₁ with heap := hp } q1 q2 q3 ⟨rfl, f3.bare, q4⟩ q5)
    | succ n =>
      refine ⟨n, Nat.lt_succ_self n, fun tk => ⟨q6, q7, gs', setGen_at hsz1, ?_⟩⟩
      exact f6 t' ps' _ q1 q2 q3 ⟨rfl, allBare_setGen (s := { s₁.setGen g gs' with heap := hp, toks := tk }) J.bare rfl, q4⟩ q5
  · intro _
    obtain ⟨t, ps, σ', H, f1, f2, f3, f4⟩ := hp
    refine hE t ps σ' H _ f1 f2 ?_ f4
    exact (inv_gens f3 (allBare_setGen f3.bare rfl)).kept (t' := (s₁.setGen g .finished).toks) hk
/-! all and any -/
def HoldN : Hold := fun t ps => t = 0 ∧ ps = []
theorem holdN_ok : HoldOk S HoldN := ⟨fun t ps h p hp => by rw [h.2] at hp; cases hp⟩
def EmAll (Qf : Hp → Prop) : Emit := fun _ y Nx H => ∃ b, y = .bl b ∧ if b = true then Nx 0 H else Qf H
def EmAny (Qt : Hp → Prop) : Emit := fun _ y Nx H => ∃ b, y = .bl b ∧ if b = true then Qt H else Nx 0 H
theorem all_turns {A : Around} {a : Addr} {g : Nat} {go : Obj} {Qf : Hp → Prop} {Dn : Int → Hp → Prop} {R : Result → Shared → Prop} (G : GObj X a g go) (hh : A.handled = none) (hd : A.depth < recursionLimit)
    (hf : ∀ σ' H s', Inv X [] σ' H s' → Qf H → R (.ok (.ret (.bool false))) s') (ht : ∀ t σ' H s', Inv X [] σ' H s' → Dn t H → R (.ok (.ret (.bool true))) s') :
    ∀ (n : Nat) (s : Shared), Rdy X A.in1.in1 HoldN (EmAll Qf) Dn a g n s → codeAny (model X.prog X.w) A (.builtin "all.loop" ⟨[.ref a], []⟩) R s := by
  intro n
  induction n using Nat.strongRecOn with
  | ind n ih =>
    intro s r
    refine codeAny_builtin F.entry_all_loop ?_
    rw [Around.under_plainId F.plain_all_loop _]
    show wpAny _ A.in1 (pyNext (.ref a) >>= _) _ _ s
    refine wpAny_bind (next_item (A := A.in1) G hh hd r (fun t ps σ' H y v s1 Nx f1 f2 f3 f4 f5 f6 => ?_) fun t ps σ' H s1 f1 f2 f3 f4 => ?_)
    · obtain ⟨b, rfl, f5⟩ := f5
      obtain ⟨rfl, rfl⟩ := f1
      obtain rfl : v = Value.bool b := f4
      refine wpAny_bind (wpAny_holding (wpAny_truthy_bool ?_))
      refine wpAny_bind (wpAny_letGo ?_)
      cases b with
      | true =>
        simp only [if_true] at f5 ⊢
        obtain ⟨k, hk, q⟩ := f6 0 [] s1.heap f5 ⟨rfl, rfl⟩ (fun p hp => by cases hp) (fun _ _ _ e => e) (fun p hp => by cases hp) (G.at f3) f3.nolimit
        exact wpAny_pure ⟨plainId_quiet F.plain_all_loop _, ih k hk s1 (q s1.toks)⟩
      | false =>
        simp only [Bool.false_eq_true, if_false] at f5 ⊢
        exact wpAny_bind (wpAny_rule (wpAny_pure (hf σ' H s1 f3 f5)))
    · obtain ⟨rfl, rfl⟩ := f1
      exact wpAny_bind (wpAny_rule (wpAny_pure (ht 0 σ' H s1 f3 f4)))
theorem any_turns {A : Around} {a : Addr} {g : Nat} {go : Obj} {Qt : Hp → Prop} {Dn : Int → Hp → Prop} {R : Result → Shared → Prop} (G : GObj X a g go) (hh : A.handled = none) (hd : A.depth < recursionLimit)
    (ht : ∀ σ' H s', Inv X [] σ' H s' → Qt H → R (.ok (.ret (.bool true))) s') (hf : ∀ t σ' H s', Inv X [] σ' H s' → Dn t H → R (.ok (.ret (.bool false))) s') :
    ∀ (n : Nat) (s : Shared), Rdy X A.in1.in1 HoldN (EmAny Qt) Dn a g n s → codeAny (model X.prog X.w) A (.builtin "any.loop" ⟨[.ref a], []⟩) R s := by
  intro n
  induction n using Nat.strongRecOn with
  | ind n ih =>
    intro s r
    refine codeAny_builtin F.entry_any_loop ?_
    rw [Around.under_plainId F.plain_any_loop _]
    show wpAny _ A.in1 (pyNext (.ref a) >>= _) _ _ s
    refine wpAny_bind (next_item (A := A.in1) G hh hd r (fun t ps σ' H y v s1 Nx f1 f2 f3 f4 f5 f6 => ?_) fun t ps σ' H s1 f1 f2 f3 f4 => ?_)
    · obtain ⟨b, rfl, f5⟩ := f5
      obtain ⟨rfl, rfl⟩ := f1
      obtain rfl : v = Value.bool b := f4
      refine wpAny_bind (wpAny_holding (wpAny_truthy_bool ?_))
      refine wpAny_bind (wpAny_letGo ?_)
      cases b with
      | true =>
        simp only [if_true] at f5 ⊢
        exact wpAny_bind (wpAny_rule (wpAny_pure (ht σ' H s1 f3 f5)))
      | false =>
        simp only [Bool.false_eq_true, if_false] at f5 ⊢
        obtain ⟨k, hk, q⟩ := f6 0 [] s1.heap f5 ⟨rfl, rfl⟩ (fun p hp => by cases hp) (fun _ _ _ e => e) (fun p hp => by cases hp) (G.at f3) f3.nolimit
        exact wpAny_pure ⟨plainId_quiet F.plain_any_loop _, ih k hk s1 (q s1.toks)⟩
    · obtain ⟨rfl, rfl⟩ := f1
      exact wpAny_bind (wpAny_rule (wpAny_pure (hf 0 σ' H s1 f3 f4)))
/-! sum -/
abbrev totO (t : Int) (tk : Tok) (c : Nat) : Obj := { cls := .type "list", dict := none, data := .seq #[.int t tk] c, slots := #[] }
def HoldS (S : Addr) : Hold := fun t ps => ∃ tk c, ps = [(S, totO t tk c)]
theorem holdS_ok : HoldOk S (HoldS S) := ⟨fun t ps ⟨tk, c, e⟩ p hp => by
  rw [e] at hp
  have e2 : p = (S, totO t tk c) := by simpa using hp
  rw [e2]
  exact ⟨rfl, fun v z => by cases z⟩⟩
def EmSum : Emit := fun t y Nx H => ∃ k, y = .int k ∧ InLong k ∧ InLong (t + k) ∧ Nx (t + k) H
theorem sum_turns {A : Around} {a : Addr} {g : Nat} {go : Obj} {Dn : Int → Hp → Prop} {R : Result → Shared → Prop} (G : GObj X a g go) (hh : A.handled = none) (hd : A.depth < recursionLimit) (hSa : S ≠ a) (hSc : S ≠ cStatics)
    (hf : ∀ t tk σ' H s' ps, Inv X ps σ' H s' → Dn t H → R (.ok (.ret (.int t tk))) s') :
    ∀ (n : Nat) (t : Int) (tk : Tok) (c : Nat) (s : Shared), Rdy X A.in1.in1 (HoldS S) EmSum Dn a g n s → s.heap.get? S = some (totO t tk c) → codeAny (model X.prog X.w) A (.builtin "sum.loop" ⟨[.ref a, .ref S, rawInt 0, rawInt 0], []⟩) R s := by
  intro n
  induction n using Nat.strongRecOn with
  | ind n ih =>
    intro t tk c s r hS
    refine codeAny_builtin F.entry_sum_loop ?_
    rw [Around.under_plainId F.plain_sum_loop _]
    show wpAny _ A.in1 (seqItems? (.ref S) >>= _) _ _ s
    refine wpAny_bind (wpAny_seqItems hS rfl ?_)
    show wpAny _ A.in1 (tryCatch (pyNext (.ref a)) _ >>= _) _ _ s
    refine wpAny_bind (wpAny_tryCatch (next_item (A := A.in1) G hh hd r (fun t1 ps σ' H y v s1 Nx f1 f2 f3 f4 f5 f6 => ?_) fun t1 ps σ' H s1 f1 f2 f3 f4 => ?_))
    · obtain ⟨tk1, c1, rfl⟩ := f1
      have e1 := f2 (S, totO t1 tk1 c1) (List.mem_singleton.mpr rfl)
      rw [hS] at e1
      cases e1
      obtain ⟨k, rfl, ⟨l1, l2⟩, ⟨l3, l4⟩, f5⟩ := f5
      obtain ⟨u, rfl⟩ := f4
      have hS1 : s1.heap.get? S = some (totO t tk c) := (f3.pin _ (List.mem_append_right _ (List.mem_singleton.mpr rfl))).1
      have hc : ((decide (-(2 ^ 63) ≤ k) && decide (k < 2 ^ 63)) && (decide (-(2 ^ 63) ≤ t + k) && decide (t + k < 2 ^ 63))) = true := by
        simp only [Bool.and_eq_true, decide_eq_true_eq]
        exact ⟨⟨l1, l2⟩, l3, l4⟩
      show wpAny _ A.in1 (if (_ : Bool) = true then (mkInt (t + k) >>= _) else _) _ _ _
      split
      · refine wpAny_bind (wpAny_mkInt ?_)
        show wpAny _ A.in1 (updateSeq S (fun _ => #[.int (t + k) s1.toks]) >>= _) _ _ _
        refine wpAny_bind ?_
        have ke : ∀ b o, b ≠ S → s1.heap.get? b = some o → (s1.heap.update S (Obj.mapSeq fun _ => #[.int (t + k) s1.toks])).get? b = some o := fun b o hb e => (Heap.get?_update_other _ _ (Ne.symm hb)).trans e
        have hS2 := Heap.get?_update_self (Obj.mapSeq fun _ => (#[.int (t + k) s1.toks] : Array Value)) hS1 rfl
        obtain ⟨k', hk', q⟩ := f6 (t + k) [(S, _)] (s1.heap.update S (Obj.mapSeq fun _ => #[.int (t + k) s1.toks])) f5 ⟨_, _, rfl⟩ (fun p hp => by
            have : p = (S, _) := List.mem_singleton.mp hp
            rw [this]; exact List.mem_singleton.mpr rfl) (fun b o hb e => ke b o (fun z => hb (by rw [z]; exact List.mem_singleton.mpr rfl)) e) (fun p hp => by
            have : p = (S, _) := List.mem_singleton.mp hp
            rw [this]; exact hS2)
          (let ⟨o, nm, qn, ho, r⟩ := G.at f3; ⟨o, nm, qn, ke _ o (Ne.symm hSa) ho, r⟩) (let ⟨mc, h1, h2⟩ := f3.nolimit; ⟨mc, h1.at' fun o e => ke _ o (Ne.symm hSc) e, h2⟩)
        refine wpAny_updateSeq hS1 rfl (wpAny_pure ⟨plainId_quiet F.plain_sum_loop _, ?_⟩)
        exact ih k' hk' (t + k) s1.toks _ _ (q _) hS2
      · rename_i hneg
        exact absurd hc hneg
    · obtain ⟨tk1, c1, rfl⟩ := f1
      have e1 := f2 (S, totO t1 tk1 c1) (List.mem_singleton.mpr rfl)
      rw [hS] at e1
      cases e1
      exact wpAny_pure (hf t tk σ' H s1 _ f3 f4)
end
end GX
set_option Elab.async false
set_option linter.all false
set_option maxRecDepth 100000
set_option maxHeartbeats 2000000
namespace GX
open PySem PySem.Spec PyProof.Rows L2 GenW
/-! the making of a generator expression, and all(..), any(..), sum(..) of it as expressions -/
section
variable {X : Cx} {pins : List (Addr × Obj)} {σ : L2.St}
/-- a generator expression that has just been made, at a -/
structure Made (X : Cx) (pins : List (Addr × Obj)) (σ : L2.St) (elt tg iter : Expr) (ifs : List Expr) (sc : Scope) (pos : Pos) (J : It) (cv : Value) (H2 : Hp) (s4 : Shared) (it : Addr) (fp : List Addr) (tn : Nat → Heap → Prop) (h' : Heap) (go : Obj) (s5 : Shared) : Prop where
  inv : Inv X pins σ H2 s4
  turn : Turn X.prog X.w X.K tg J fp it tn
  st : tn 0 s4.heap
  fp : ∀ b ∈ fp, FpOk X pins H2 b ∧ b < s4.heap.objs.size
  ns : h'.Ns s4.heap.objs.size (fun y => if y = ".0" then some (.ref it) else none)
  same : Heap.SameBut s4.heap.objs.size (s4.heap.push { cls := .type "frame", data := .dict #[] }) h'
  gen : ∀ h : Heap, h.get? h'.objs.size = some go → h.IsGen h'.objs.size s4.gens.size
  ncell : ∀ v, go.data ≠ .cell v
  got : (h'.push go).get? h'.objs.size = some go
  os : s5.os = s4.os
  heap : s5.heap = h'.push go
  gens : s5.gens = s4.gens.push (.fresh (.compStart (.GeneratorExp elt [⟨tg, iter, ifs, 0⟩] sc pos) 0 (.ref it) .none (genv X sc s4.heap.objs.size cv)))
/-- what the reading asks once the iterable has come -/
def GStart (base : Heap) (n : Nat) (c P : Addr) (R : It → Value → Hp → Prop) (J : It) (H1 : Hp) : Prop :=
  CodeOK base H1 c P ∧ TabG n H1 P ∧ ∀ cv H2, Kp P H1 H2 → TabG n H2 P → Known n P cv H2 → R J cv H2
theorem gen_made {n : Nat} {c P : Addr} {elt tg iter : Expr} {ifs : List Expr} {sc : Scope} {own : List (Str × Nat)} {pos : Pos} {wi : TI} {k : Nat} {H : Hp} {s : Shared} {R : It → Value → Hp → Prop} {Q : Value → Shared → Prop}
    (hr : Room k X.A) (hn : n ≤ 1) (bm : ∃ P0, X.base.BuiltinsAt X.mg P0) (hcode : X.env.code = .ref c) (ok : BlkOk X.N X.env.scope sc own) (nc : ∀ y ∈ sc.names, y.2 ≠ .cell) (h0 : sc.names.lookup (".0" : Str) = some NameKind.local) (hco : sc.isCoroutine = false)
    (hi : PI X tg iter wi) (hs : ∀ v, genFold iter X.env v = pure v) (I : Inv X pins σ H s) (h : wi σ H (GStart X.base n c P R))
    (hQ : ∀ J cv H2 s4 it fp tn h' go s5, Made X pins σ elt tg iter ifs sc pos J cv H2 s4 it fp tn h' go s5 → R J cv H2 → Q (.ref h'.objs.size) s5) :
    wpAny (model X.prog X.w) X.A (eval (.GeneratorExp elt [⟨tg, iter, ifs, 0⟩] sc pos) X.env) Q X.xe s := by
  have hfree : ∀ y ∈ sc.names, y.2 = .free → ∃ c, X.env.cells.lookup y.1 = some c := fun y hy e => by
    rcases ok.free y hy e with k | k
    · exact I.ok.has _ (.inl k)
    · exact I.ok.has _ (.inr k)
  refine wpAny_GeneratorExp_make hco (closure_ok hfree) nc h0 ok.kind hr.depth (thn (hi.run pins s σ H _ I h) fun xv s1 hx => thn hx fun itv s2 h2 => ?_) hs
  obtain ⟨it, fp, tn, J, H1, e, I2, T, st2, f2, hC, hT, q⟩ := h2
  subst e
  have fsz : ∀ b ∈ fp, b < s2.heap.objs.size := fun b hb => by
    obtain ⟨o, e, _⟩ := T.obj _ _ st2 b hb
    exact Heap.lt_size e
  refine ⟨I2.nolimit, gen_code hcode I2 hC hT hn fun cv H2 s4 I4 kp t2 kn sz old => ?_⟩
  obtain ⟨P0, bmA, ob, e1, e2, e3, e4, e5, e6, e7, e8⟩ := bm
  refine wpAny_builtinsFor (m := X.mg) (by rw [I4.ok.glob]; exact I4.mod.glob.keeps I4.bk) e1 e2 (I4.bk _ _ e5) e6 e7 e8 ?_
  intro h' hn' hs'
  have st4 : tn 0 s4.heap := T.keep _ _ _ st2 fun b hb o e => (old b o e (f2 b hb).1).1
  refine hQ J cv H2 s4 it fp tn h' _ _ ⟨I4, T, st4, fun b hb => ?_, hn', hs', (fun hh e => ⟨_, _, _, e, rfl, rfl, rfl⟩), (fun v z => by cases z), Heap.get?_push_size _ rfl, rfl, rfl, rfl⟩ (q cv H2 kp t2 kn)
  obtain ⟨o, e, _⟩ := T.obj _ _ st2 b hb
  exact ⟨⟨(old b o e (f2 b hb).1).2, (f2 b hb).2⟩, Nat.lt_of_lt_of_le (fsz b hb) sz⟩
/-- the generator's own context -/
abbrev Made.cx (X : Cx) (A : Around) (sc : Scope) (cv : Value) (H2 : Hp) (s4 : Shared) (fp : List Addr) (h' : Heap) (go : Obj) : Cx := gcx X (A.deeper (genv X sc s4.heap.objs.size cv)) s4 H2 sc (genv X sc s4.heap.objs.size cv) fp [(h'.objs.size, go)]
section
variable {elt tg iter : Expr} {ifs : List Expr} {sc : Scope} {own : List (Str × Nat)} {pos : Pos} {J : It} {cv : Value} {H2 : Hp} {s4 s5 : Shared} {it : Addr} {fp : List Addr} {tn : Nat → Heap → Prop} {h' : Heap} {go : Obj}
theorem Made.size (M : Made X pins σ elt tg iter ifs sc pos J cv H2 s4 it fp tn h' go s5) : h'.objs.size = s4.heap.objs.size + 1 := by rw [M.same.1, Heap.size_push]
theorem Made.old (M : Made X pins σ elt tg iter ifs sc pos J cv H2 s4 it fp tn h' go s5) : ∀ b o, s4.heap.get? b = some o → s5.heap.get? b = some o := fun b o e => by
  rw [M.heap]
  exact Heap.get?_push_of_some _ (M.same.extBut b o (Nat.ne_of_lt (Heap.lt_size e)) (Heap.get?_push_of_some _ e))
theorem Made.gobj (M : Made X pins σ elt tg iter ifs sc pos J cv H2 s4 it fp tn h' go s5) {A : Around} : GObj (Made.cx X A sc cv H2 s4 fp h' go) h'.objs.size s4.gens.size go :=
  ⟨List.mem_singleton.mpr rfl, M.gen⟩
/-- ready to be drained -/
theorem Made.rdy (M : Made X pins σ elt tg iter ifs sc pos J cv H2 s4 it fp tn h' go s5) {A : Around} {g : TG} {tt : TT} {te : TE} {S : Addr} {Hd : Hold} {Em : Emit} {Dn : Int → Hp → Prop} {W : Nat → Nat → Int → Hp → Prop} {m : Nat} {t : Int} {ps : List (Addr × Obj)} {s6 : Shared}
    (hN : X.N.Nodup) (ok : BlkOk X.N X.env.scope sc own) (nc : ∀ y ∈ sc.names, y.2 ≠ .cell) (hco : sc.isCoroutine = false) (hh : A.handled = none) (hfr : A.frames = X.A.frames)
    (pg : PG (Made.cx X A sc cv H2 s4 fp h' go) tg g) (pt : PTs (Made.cx X A sc cv H2 s4 fp h' go) ifs tt) (pe : PE (Made.cx X A sc cv H2 s4 fp h' go) elt te) (turn : GTurn J g tt te (own.map (·.2)) σ Em Dn W) (w : W 0 m t H2)
    (hd : HoldOk S Hd) (aw : Away (Made.cx X A sc cv H2 s4 fp h' go) S) (hps : Hd t ps) (ho : s6.os = s5.os) (hg : s6.gens = s5.gens) (hk : ∀ b o, s5.heap.get? b = some o → s6.heap.get? b = some o) (hp : ∀ p ∈ ps, s6.heap.get? p.1 = some p.2) :
    Rdy (Made.cx X A sc cv H2 s4 fp h' go) A Hd Em Dn h'.objs.size s4.gens.size (m + 1) s6 := by
  have k6 : ∀ b o, (h'.push go).get? b = some o → s6.heap.get? b = some o := fun b o e => hk b o (by rw [M.heap]; exact e)
  have a6 : s6.heap.get? h'.objs.size = some go := k6 _ _ M.got
  have hgl : s6.gens[s4.gens.size]? = some (.fresh (.compStart (.GeneratorExp elt [⟨tg, iter, ifs, 0⟩] sc pos) 0 (.ref it) .none (genv X sc s4.heap.objs.size cv))) := by
    rw [hg, M.gens]; exact Array.getElem?_push_size ..
  have fr2 : (A.deeper (genv X sc s4.heap.objs.size cv)).frames = some (genv X sc s4.heap.objs.size cv :: X.stack) := by
    show Option.map _ A.frames = _
    rw [hfr, M.inv.ok.frames]; rfl
  have bare6 : AllBare (s6.setGen s4.gens.size .running).gens := allBare_setGen (by rw [hg, M.gens]; exact AllBare.push M.inv.bare rfl) rfl
  have I6 := gen_start (A := A.deeper (genv X sc s4.heap.objs.size cv)) (s5 := s6.setGen s4.gens.size .running) M.inv ok nc hN M.fp hh fr2 M.ns M.same M.ncell M.got (ho.trans M.os) bare6 k6
  have I7 : Inv (Made.cx X A sc cv H2 s4 fp h' go) ps (wipe σ (own.map (·.2))) H2 (s6.setGen s4.gens.size .running) := I6.pins_of fun p hpp => by
    obtain ⟨q1, q2⟩ := hd.at_ t ps hps p hpp
    refine ⟨hp p hpp, ?_, ?_, ?_, q2⟩
    · rw [q1]; exact M.inv.hok.fresh aw.young
    · rw [q1]; exact aw.loc
    · rw [q1]; exact aw.fs
  refine ⟨M.gen _ a6, I6.nolimit, _, hgl, rfl, ?_⟩
  refine seg_begin (X := Made.cx X A sc cv H2 s4 fp h' go) rfl rfl rfl rfl hco (fun p hpp b hb => ?_) M.turn pg pt pe turn hd aw m t (m + 1) _ _ H2 ps (Nat.lt_succ_self m) hps hp I7 (M.turn.keep _ _ _ M.st fun b hb o e => hk b o (M.old b o e)) (fun b hb => (M.fp b hb).1.1) w
  have e : p = (h'.objs.size, go) := List.mem_singleton.mp hpp
  rw [e]
  have := (M.fp b hb).2
  have hsz := M.size
  intro z
  have z2 : h'.objs.size = b := z
  rw [← z2, hsz] at this
  exact absurd (Nat.lt_of_succ_lt this) (Nat.lt_irrefl _)
/-- back in the def -/
theorem Made.back (M : Made X pins σ elt tg iter ifs sc pos J cv H2 s4 it fp tn h' go s5) {A : Around} {ps : List (Addr × Obj)} {σ' : L2.St} {H' : Hp} {s' : Shared} (I : Inv (Made.cx X A sc cv H2 s4 fp h' go) ps σ' H' s') : Inv X pins σ H' s' :=
  M.inv.call' (ch := fp) I.os I.base I.hok I.bare fun b hb => ⟨(M.fp b hb).1.2.2.2.1, (M.fp b hb).1.2.1, (M.fp b hb).1.2.2.2.2.1, (M.fp b hb).1.2.2.2.2.2⟩
theorem Made.away (M : Made X pins σ elt tg iter ifs sc pos J cv H2 s4 it fp tn h' go s5) {A : Around} (ok : BlkOk X.N X.env.scope sc own) {S : Addr} (hS : h'.objs.size < S) : Away (Made.cx X A sc cv H2 s4 fp h' go) S := by
  have hsz := M.size
  have h1 : s4.heap.objs.size < S := by rw [hsz] at hS; exact Nat.lt_of_succ_lt hS
  refine ⟨Nat.le_of_lt h1, Nat.ne_of_gt h1, fun p hp => ?_, fun z => ?_, fun z => ?_, fun x c e => ?_⟩
  · have e : p = (h'.objs.size, go) := List.mem_singleton.mp hp
    rw [e]; exact Nat.ne_of_lt hS
  · rcases List.mem_cons.mp (M.inv.stkSub _ z) with z | z
    · have z1 : X.env.locals < s4.heap.objs.size := M.inv.lt
      rw [← z] at z1
      exact Nat.lt_irrefl _ (Nat.lt_trans z1 h1)
    · exact M.inv.nofs (Nat.le_of_lt h1) z
  · exact Nat.lt_irrefl _ (Nat.lt_trans (M.fp S z).2 h1)
  · exact Nat.ne_of_lt (Nat.lt_trans (clo_at M.inv ok e).2 h1)
end
/-- what a generator expression of a def needs -/
structure GOk (X : Cx) (sc : Scope) (own : List (Str × Nat)) (c : Addr) : Prop where
  nd : X.N.Nodup
  blk : BlkOk X.N X.env.scope sc own
  ncell : ∀ y ∈ sc.names, y.2 ≠ .cell
  dot : sc.names.lookup (".0" : Str) = some NameKind.local
  co : sc.isCoroutine = false
  code : X.env.code = .ref c
  bm : ∃ P0, X.base.BuiltinsAt X.mg P0
/-- a part of the generator expression, in any of its frames -/
abbrev GPart (X : Cx) (sc : Scope) (k : Nat) (F : Cx → Value → Prop) : Prop := ∀ (A : Around) (s : Shared) (H : Hp) (C : Addr) (cv : Value) (fp : List Addr) (pn : List (Addr × Obj)), Room k A → F (gcx X A s H sc (genv X sc C cv) fp pn) cv
def tGen (base : Heap) (n : Nat) (c P : Addr) (wi : TI) (g : TG) (tt : Value → TT) (te : Value → TE) (vs : List Nat) (Em : VK → Emit) (Dn : VK → Int → Hp → Prop) : TE := fun σ H Q => wi σ H (GStart base n c P fun J cv H2 => ∃ W : Nat → Nat → Int → Hp → Prop, (∃ m, W 0 m 0 H2) ∧ GTurn J g (tt cv) (te cv) vs σ (Em Q) (Dn Q) W)
def DnB (b : Bool) : VK → Int → Hp → Prop := fun Q _ H => Q (.bl b) H
section
variable {n k : Nat} {c P : Addr} {elt tg iter : Expr} {ifs : List Expr} {sc : Scope} {own : List (Str × Nat)} {p pos gpos : Pos} {wi : TI} {g : TG} {tt : Value → TT} {te : Value → TE}
theorem room_in {A : Around} (hr : Room (k + 3) A) (env : Env) : Room k (A.in1.in1.deeper env) := (hr.in1.in1).deeper env
theorem pe_all (hr : Room (k + 3) X.A) (hn : n ≤ 1) (hg : Gl X "all") (hm : X.mg "all" = none) (G : GOk X sc own c) (hi : PI X tg iter wi) (pg : GPart X sc k fun Y _ => PG Y tg g) (pt : GPart X sc k fun Y cv => PTs Y ifs (tt cv)) (pe : GPart X sc k fun Y cv => PE Y elt (te cv))
    (hs : ∀ v, genFold iter X.env v = pure v := by intro _; rfl)
    (he : starEach [.GeneratorExp elt [⟨tg, iter, ifs, 0⟩] sc gpos] X.env = (false, eval (.GeneratorExp elt [⟨tg, iter, ifs, 0⟩] sc gpos) X.env) :: starEach [] X.env := by rfl) :
    PE X (.Call (.Name "all" p) [.GeneratorExp elt [⟨tg, iter, ifs, 0⟩] sc gpos] [] pos) (tGen X.base n c P wi g tt te (own.map (·.2)) (fun Q => EmAll fun H => Q (.bl false) H) (DnB true)) := by
  refine ⟨fun pins s σ H Q I h => wpAny_Call_Name_kw (ld_blt I hg hm boot_all (PyProof.Rows.callWith_builtin1 ?_ he (by rfl)))⟩
  rw [he]
  show wpAny _ _ (spliced ((false, eval (.GeneratorExp elt _ sc gpos) X.env) :: backTo pos (starEach [] X.env))) _ _ s
  refine Calls.spliced_cons (gen_made hr hn G.bm G.code G.blk G.ncell G.dot G.co hi hs I h fun J cv H2 s4 it fp tn h' go s5 M q => Calls.spliced_nil ?_)
  obtain ⟨W, ⟨m, w⟩, turn⟩ := q
  have aw := M.away (A := X.A.in1.in1) G.blk (Nat.lt_succ_self _)
  have rd := M.rdy (A := X.A.in1.in1) (s6 := s5) G.nd G.blk G.ncell G.co hr.hd rfl (pg _ _ _ _ cv _ _ (room_in hr _)) (pt _ _ _ _ cv _ _ (room_in hr _)) (pe _ _ _ _ cv _ _ (room_in hr _)) turn w holdN_ok aw ⟨rfl, rfl⟩ rfl rfl (fun _ _ e => e) (fun p hp => by cases hp)
  have hd1 : X.A.in1.depth < recursionLimit := hr.in1.depth
  refine call_function_tree F.kind_all F.plain_all F.entry_all (F.args_all1 _) ?_
  unfold Builtin.«all»
  refine wpAny_bind (m := oneArg "all" _) (wpAny_pure (wpAny_bind (wpAny_pyIter_gen (M.gen _ (by rw [M.heap]; exact M.got)) (wpAny_pure ⟨plainId_quiet F.plain_all_loop _, ?_⟩))))
  exact all_turns M.gobj hr.hd hr.depth (fun σ' H' s' I' q => ⟨.bl false, H', M.back I', rfl, q⟩) (fun t σ' H' s' I' q => ⟨.bl true, H', M.back I', rfl, q⟩) _ _ rd
theorem pe_any (hr : Room (k + 3) X.A) (hn : n ≤ 1) (hg : Gl X "any") (hm : X.mg "any" = none) (G : GOk X sc own c) (hi : PI X tg iter wi) (pg : GPart X sc k fun Y _ => PG Y tg g) (pt : GPart X sc k fun Y cv => PTs Y ifs (tt cv)) (pe : GPart X sc k fun Y cv => PE Y elt (te cv))
    (hs : ∀ v, genFold iter X.env v = pure v := by intro _; rfl)
    (he : starEach [.GeneratorExp elt [⟨tg, iter, ifs, 0⟩] sc gpos] X.env = (false, eval (.GeneratorExp elt [⟨tg, iter, ifs, 0⟩] sc gpos) X.env) :: starEach [] X.env := by rfl) :
    PE X (.Call (.Name "any" p) [.GeneratorExp elt [⟨tg, iter, ifs, 0⟩] sc gpos] [] pos) (tGen X.base n c P wi g tt te (own.map (·.2)) (fun Q => EmAny fun H => Q (.bl true) H) (DnB false)) := by
  refine ⟨fun pins s σ H Q I h => wpAny_Call_Name_kw (ld_blt I hg hm boot_any (PyProof.Rows.callWith_builtin1 ?_ he (by rfl)))⟩
  rw [he]
  show wpAny _ _ (spliced ((false, eval (.GeneratorExp elt _ sc gpos) X.env) :: backTo pos (starEach [] X.env))) _ _ s
  refine Calls.spliced_cons (gen_made hr hn G.bm G.code G.blk G.ncell G.dot G.co hi hs I h fun J cv H2 s4 it fp tn h' go s5 M q => Calls.spliced_nil ?_)
  obtain ⟨W, ⟨m, w⟩, turn⟩ := q
  have aw := M.away (A := X.A.in1.in1) G.blk (Nat.lt_succ_self _)
  have rd := M.rdy (A := X.A.in1.in1) (s6 := s5) G.nd G.blk G.ncell G.co hr.hd rfl (pg _ _ _ _ cv _ _ (room_in hr _)) (pt _ _ _ _ cv _ _ (room_in hr _)) (pe _ _ _ _ cv _ _ (room_in hr _)) turn w holdN_ok aw ⟨rfl, rfl⟩ rfl rfl (fun _ _ e => e) (fun p hp => by cases hp)
  refine call_function_tree F.kind_any F.plain_any F.entry_any (F.args_any1 _) ?_
  unfold Builtin.«any»
  refine wpAny_bind (m := oneArg "any" _) (wpAny_pure (wpAny_bind (wpAny_pyIter_gen (M.gen _ (by rw [M.heap]; exact M.got)) (wpAny_pure ⟨plainId_quiet F.plain_any_loop _, ?_⟩))))
  exact any_turns M.gobj hr.hd hr.depth (fun σ' H' s' I' q => ⟨.bl true, H', M.back I', rfl, q⟩) (fun t σ' H' s' I' q => ⟨.bl false, H', M.back I', rfl, q⟩) _ _ rd
end
end
end GX
set_option Elab.async false
set_option linter.all false
set_option maxRecDepth 100000
set_option maxHeartbeats 2000000
namespace GX
open PySem PySem.Spec PyProof.Rows L2 GenW
def DnS : VK → Int → Hp → Prop := fun Q t H => Q (.int t) H
section
variable {X : Cx} {n k : Nat} {c P : Addr} {elt tg iter : Expr} {ifs : List Expr} {sc : Scope} {own : List (Str × Nat)} {p pos gpos : Pos} {wi : TI} {g : TG} {tt : Value → TT} {te : Value → TE}
theorem pe_sum (hr : Room (k + 3) X.A) (hn : n ≤ 1) (hg : Gl X "sum") (hm : X.mg "sum" = none) (G : GOk X sc own c) (hi : PI X tg iter wi) (pg : GPart X sc k fun Y _ => PG Y tg g) (pt : GPart X sc k fun Y cv => PTs Y ifs (tt cv)) (pe : GPart X sc k fun Y cv => PE Y elt (te cv))
    (hs : ∀ v, genFold iter X.env v = pure v := by intro _; rfl)
    (he : starEach [.GeneratorExp elt [⟨tg, iter, ifs, 0⟩] sc gpos] X.env = (false, eval (.GeneratorExp elt [⟨tg, iter, ifs, 0⟩] sc gpos) X.env) :: starEach [] X.env := by rfl) :
    PE X (.Call (.Name "sum" p) [.GeneratorExp elt [⟨tg, iter, ifs, 0⟩] sc gpos] [] pos) (tGen X.base n c P wi g tt te (own.map (·.2)) (fun _ => EmSum) DnS) := by
  refine ⟨fun pins s σ H Q I h => wpAny_Call_Name_kw (ld_blt I hg hm boot_sum (PyProof.Rows.callWith_builtin1 ?_ he (by rfl)))⟩
  rw [he]
  show wpAny _ _ (spliced ((false, eval (.GeneratorExp elt _ sc gpos) X.env) :: backTo pos (starEach [] X.env))) _ _ s
  refine Calls.spliced_cons (gen_made hr hn G.bm G.code G.blk G.ncell G.dot G.co hi hs I h fun J cv H2 s4 it fp tn h' go s5 M q => Calls.spliced_nil ?_)
  obtain ⟨W, ⟨m, w⟩, turn⟩ := q
  have hS : s5.heap.objs.size = h'.objs.size + 1 := by rw [M.heap, Heap.size_push]
  have aw := M.away (A := X.A.in1.in1) (S := s5.heap.objs.size) G.blk (by rw [hS]; exact Nat.lt_succ_self _)
  refine call_function_tree F.kind_sum F.plain_sum F.entry_sum (F.args_sum1 _) ?_
  unfold Builtin.«sum»
  simp only [List.length_cons, List.length_nil]; rw [if_neg (by decide)]
  refine wpAny_bind (wpAny_of_eq (show Builtin.Builtins.bindParams "sum" ["start"] 0 {} = pure [none] from rfl) (wpAny_bind (wpAny_pyIter_gen (M.gen _ (by rw [M.heap]; exact M.got)) (wpAny_bind (wpAny_mkInt (wpAny_bind (wpAny_pure ?_)))))))
  simp only [List.forIn_cons, List.forIn_nil]
  refine wpAny_bind (wpAny_bind (wpAny_bind (wpAny_isInstance (T := "int") (b := false) (typeIs_int _ _ _) PySem.sub_int_str ?_)))
  simp only [Bool.false_eq_true, if_false]
  refine wpAny_pure (wpAny_bind (wpAny_bind (wpAny_isInstance (T := "int") (b := false) (typeIs_int _ _ _) PySem.sub_int_bytes ?_)))
  simp only [Bool.false_eq_true, if_false]
  refine wpAny_pure (wpAny_bind (wpAny_bind (wpAny_isInstance (T := "int") (b := false) (typeIs_int _ _ _) PySem.sub_int_bytearray ?_)))
  simp only [Bool.false_eq_true, if_false]
  refine wpAny_pure (wpAny_pure (wpAny_bind (wpAny_newObj_type (wpAny_pure ⟨plainId_quiet F.plain_sum_loop _, ?_⟩))))
  have lt2 : h'.objs.size < s5.heap.objs.size := by rw [hS]; exact Nat.lt_succ_self _
  refine sum_turns (S := s5.heap.objs.size) (M.gobj (A := X.A.in1.in1)) hr.hd hr.depth (Nat.ne_of_gt lt2) (fun z => ?_) (fun t tk σ' H' s' ps I' q => ⟨.int t, H', M.back I', ⟨tk, rfl⟩, q⟩) (m + 1) 0 s5.toks 0 _ ?_ (Heap.get?_push_size _ rfl)
  · obtain ⟨_, hns, _⟩ := M.inv.nolimit
    have q : cStatics < s4.heap.objs.size := hns.lt
    have hsz := M.size
    rw [← z] at q
    exact Nat.lt_irrefl _ (Nat.lt_trans (Nat.lt_trans q (by rw [hsz]; exact Nat.lt_succ_self _)) lt2)
  · refine M.rdy (A := X.A.in1.in1) G.nd G.blk G.ncell G.co hr.hd rfl (pg _ _ _ _ cv _ _ (room_in hr _)) (pt _ _ _ _ cv _ _ (room_in hr _)) (pe _ _ _ _ cv _ _ (room_in hr _)) turn w holdS_ok aw ⟨s5.toks, 0, rfl⟩ rfl rfl (fun _ _ e => Heap.get?_push_of_some _ e) (fun p hp => ?_)
    have e : p = (s5.heap.objs.size, totO 0 s5.toks 0) := List.mem_singleton.mp hp
    rw [e]
    exact Heap.get?_push_size _ rfl
end
/-! the forms one uses: over a list or a tuple that stands still -/
section
variable {K : PySem.W.Frag} {a P : Addr} {xs : List V}
theorem sql_kp {H H' : Hp} (h : SqL K H a xs) (hP : ∃ ps, H P = some (.tbl ps)) (k : Kp P H H') : SqL K H' a xs := by
  have ne : ∀ {u : HO}, H a = some u → (∀ ps, u ≠ .tbl ps) → a ≠ P := fun {u} e n z => by
    obtain ⟨ps, hp⟩ := hP
    rw [z, hp] at e
    exact n ps (Option.some.inj e).symm
  rcases h with h | h
  · rcases h with h | ⟨o, h⟩
    · exact .inl (.inl (k _ _ (ne h fun _ z => by cases z) h))
    · exact .inl (.inr ⟨o, k _ _ (ne h fun _ z => by cases z) h⟩)
  · exact .inr h
theorem sqt_kp {H H' : Hp} (h : SqT K H a xs) (hP : ∃ ps, H P = some (.tbl ps)) (k : Kp P H H') : SqT K H' a xs := by
  have ne : ∀ {u : HO}, H a = some u → (∀ ps, u ≠ .tbl ps) → a ≠ P := fun {u} e n z => by
    obtain ⟨ps, hp⟩ := hP
    rw [z, hp] at e
    exact n ps (Option.some.inj e).symm
  rcases h with h | h
  · rcases h with h | ⟨o, h⟩
    · exact .inl (.inl (k _ _ (ne h fun _ z => by cases z) h))
    · exact .inl (.inr ⟨o, k _ _ (ne h fun _ z => by cases z) h⟩)
  · exact .inr h
/-- over a walk of n items: Pv by the turn, the number, the heap -/
theorem gturn_it {J : It} {n : Nat} {Gd : Hp → Prop} {Y : Nat → Hp → V → Hp → Prop} (w : Walk J n Gd Y) {g : TG} {tt : TT} {te : TE} {vs : List Nat} {σ : L2.St} {Em : Emit} {Dn : Int → Hp → Prop} {H : Hp} (Pv : Nat → Int → Hp → Prop) (h0 : Pv 0 0 H) (hG : ∀ i t H, i ≤ n → Pv i t H → Gd H)
    (hs : ∀ i x t H H', i < n → Pv i t H → Y i H x H' → g x (wipe σ vs) H' fun σ2 H2 => wipe σ2 vs = wipe σ vs ∧ tt σ2 H2 fun b H3 => if b = true then te σ2 H3 fun y H4 => Em t y (Pv (i + 1)) H4 else Pv (i + 1) t H3) (hd : ∀ t H, Pv n t H → Dn t H) :
    ∃ W : Nat → Nat → Int → Hp → Prop, (∃ m, W 0 m 0 H) ∧ GTurn J g tt te vs σ Em Dn W := by
  refine ⟨fun i m t H => m = n - i ∧ i ≤ n ∧ Pv i t H, ⟨n, by simp, Nat.zero_le _, h0⟩, ?_⟩
  rintro i m t H ⟨rfl, hi, p⟩
  have q := hG i t H hi p
  by_cases hlt : i < n
  · exact .inr ⟨w.goes i H hlt q, Pv (i + 1), fun t' H' p' => ⟨n - (i + 1), by omega, rfl, hlt, p'⟩, fun x H' y => hs i x t H H' hlt p (w.yields i H x H' hlt q y)⟩
  · have e : i = n := by omega
    subst e
    exact .inl ⟨w.stops H q, hd t H p⟩
end
end GX
set_option Elab.async false
set_option linter.all false
set_option maxRecDepth 100000
set_option maxHeartbeats 2000000
namespace LC
open PySem PySem.Spec PyProof.Rows L2 C8 GX
/-! what every law here uses: volatile addresses, the draws' state, tables -/
abbrev Vol := Addr → Prop
def tb : HO → Bool
  | .tbl _ => true
  | _ => false
/-- all that is no table and not volatile is kept -/
structure Kx (L : Vol) (H H' : Hp) : Prop where
  keep : ∀ (b : Addr) (o : HO) (_ : ¬ L b) (_ : H b = some o) (_ : tb o = false := by rfl), H' b = some o
  alive : ∀ (b : Addr) (o : HO), H b = some o → ∃ u, H' b = some u
instance {L : Vol} {H H' : Hp} : CoeFun (Kx L H H') fun _ => ∀ (b : Addr) (o : HO) (_ : ¬ L b) (_ : H b = some o) (_ : tb o = false := by rfl), H' b = some o := ⟨@Kx.keep L H H'⟩
theorem Kx.refl {L : Vol} (H : Hp) : Kx L H H := ⟨fun _ _ _ h _ => h, fun _ o h => ⟨o, h⟩⟩
theorem Kx.trans {L : Vol} {A B C : Hp} (h : Kx L A B) (h' : Kx L B C) : Kx L A C := ⟨fun b o n e t => h'.keep b o n (h.keep b o n e t) t, fun b o e => by
  obtain ⟨u, e⟩ := h.alive b o e
  exact h'.alive b u e⟩
theorem Kx.mono {L L' : Vol} {A B : Hp} (h : Kx L A B) (i : ∀ b, L b → L' b) : Kx L' A B := ⟨fun b o n e t => h.keep b o (fun z => n (i b z)) e t, h.alive⟩
theorem Kx.of {L : Vol} {A B : Hp} (h : Same A B) : Kx L A B := ⟨fun b o _ e _ => h b o e, fun b o e => ⟨o, h b o e⟩⟩
theorem alive_upd {H : Hp} {p b : Addr} {o u : HO} (e : H b = some u) : ∃ v, upd H p o b = some v := by
  by_cases z : b = p
  · exact ⟨o, by rw [z, upd_same]⟩
  · exact ⟨u, by rw [upd_ne z]; exact e⟩
theorem Kx.new {L : Vol} {H : Hp} {p : Addr} {o : HO} (h : H p = none) : Kx L H (upd H p o) := ⟨fun b u _ e _ => by rw [upd_ne (ne_of_none e h)]; exact e, fun _ _ e => alive_upd e⟩
theorem Kx.put {L : Vol} {H : Hp} {p : Addr} {o : HO} (h : L p) : Kx L H (upd H p o) := ⟨fun b u n e _ => by rw [upd_ne (fun z => n (by rw [z]; exact h))]; exact e, fun _ _ e => alive_upd e⟩
theorem Kx.none {L : Vol} {H H' : Hp} {p : Addr} (k : Kx L H H') (h : H' p = none) : H p = none := by
  cases e : H p with
  | none => rfl
  | some o =>
    obtain ⟨u, e⟩ := k.alive _ _ e
    rw [h] at e; cases e
theorem kp_alive {P : Addr} {H H' : Hp} (k : Kp P H H') (t : ∃ n, TabG n H' P) (b : Addr) (o : HO) (e : H b = some o) : ∃ u, H' b = some u := by
  by_cases z : b = P
  · obtain ⟨n, t⟩ := t
    obtain ⟨ps, e, _⟩ := t.tbl
    exact ⟨_, by rw [z]; exact e⟩
  · exact ⟨o, k b o z e⟩
/-- one more -/
def addV (L : Vol) (D : Addr) : Vol := fun b => L b ∨ b = D
/-- the state of the draws: a list at st whose first item is the list of cells at c -/
def StAt (H : Hp) (st c : Addr) : Prop := ∃ (sd kd : Int) (ns : List Int), H st = some (.lst [.ref c, .int sd, .int kd]) ∧ H c = some (.lst (ns.map V.int)) ∧ ns.length ≤ 63 ∧ 0 ≤ kd ∧ kd < 4
theorem StAt.ne {H : Hp} {st c : Addr} (h : StAt H st c) : st ≠ c := by
  obtain ⟨sd, kd, ns, h1, h2, _⟩ := h
  refine ne_of h1 h2 fun z => ?_
  have z' := HO.lst.inj z
  cases ns with
  | nil => cases z'
  | cons n r => cases (List.cons.inj z').1
/-- the codes' tables: of one it is known what is within it -/
structure Tbs where
  one : Addr
  all : List Addr
/-- the world of a law's run: what is volatile stands, the draws' state, the tables of the codes (each with the depth that is known of it: 0 or 1) -/
structure Wd (ts : Tbs) (st c : Addr) (L : Vol) (H : Hp) : Prop where
  live : ∀ b, L b → (∃ o, H b = some o ∧ tb o = false) ∨ b ∈ ts.all
  stat : StAt H st c
  lst : L st
  lc : L c
  tab : ∀ P ∈ ts.all, TabG 0 H P
  tab1 : TabG 1 H ts.one
section
variable {ts : Tbs} {st c : Addr} {L : Vol} {H H' : Hp}
theorem tbl_of {n : Nat} {P : Addr} (h : TabG n H P) : ∃ ps, H P = some (.tbl ps) := by
  obtain ⟨ps, e, _⟩ := h.tbl
  exact ⟨ps, e⟩
theorem Wd.fresh (w : Wd ts st c L H) {p : Addr} (h : H p = none) : ¬ L p := fun z => by
  rcases w.live p z with ⟨o, e, _⟩ | e
  · rw [h] at e; cases e
  · obtain ⟨ps, e⟩ := tbl_of (w.tab _ e)
    rw [h] at e; cases e
/-- a new object -/
theorem Wd.new (w : Wd ts st c L H) {p : Addr} {o : HO} (h : H p = none) : Wd ts st c L (upd H p o) := by
  have ke : ∀ b u, H b = some u → upd H p o b = some u := fun b u e => by rw [upd_ne (ne_of_none e h)]; exact e
  refine ⟨fun b hb => ?_, ?_, w.lst, w.lc, fun P hP => (w.tab P hP).keep ke, w.tab1.keep ke⟩
  · rcases w.live b hb with ⟨u, e, t⟩ | z
    · exact .inl ⟨u, ke _ _ e, t⟩
    · exact .inr z
  · obtain ⟨sd, kd, ns, h1, h2, h3⟩ := w.stat
    exact ⟨sd, kd, ns, ke _ _ h1, ke _ _ h2, h3⟩
/-- one more is volatile -/
theorem Wd.add (w : Wd ts st c L H) {D : Addr} (h : ∃ o, H D = some o ∧ tb o = false) : Wd ts st c (addV L D) H :=
  ⟨fun b hb => hb.elim (w.live b) fun z => .inl (by rw [z]; exact h), w.stat, .inl w.lst, .inl w.lc, w.tab, w.tab1⟩
/-- a list is written -/
theorem Wd.put (w : Wd ts st c L H) {p : Addr} {o : HO} {u : HO} (h1 : p ≠ st) (h2 : p ≠ c) (hp : H p = some u) (hu : (∃ xs, u = .lst xs) ∨ ∃ ks, u = .dK ks) (ho : tb o = false) : Wd ts st c L (upd H p o) := by
  have nx : ∀ b v, H b = some v → (∀ xs, v ≠ .lst xs) → (∀ ks, v ≠ .dK ks) → upd H p o b = some v := fun b v e z1 z2 => by
    rw [upd_ne fun q => ?_]
    · exact e
    · rw [q, hp] at e
      rcases hu with ⟨xs, hu⟩ | ⟨ks, hu⟩
      · exact z1 xs ((Option.some.inj e).symm.trans hu)
      · exact z2 ks ((Option.some.inj e).symm.trans hu)
  refine ⟨fun b hb => ?_, ?_, w.lst, w.lc, fun P hP => ?_, ?_⟩
  · by_cases e : b = p
    · exact .inl ⟨o, by rw [e, upd_same], ho⟩
    · rw [upd_ne e]; exact w.live b hb
  · obtain ⟨sd, kd, ns, e1, e2, e3⟩ := w.stat
    exact ⟨sd, kd, ns, by rw [upd_ne (Ne.symm h1)]; exact e1, by rw [upd_ne (Ne.symm h2)]; exact e2, e3⟩
  · obtain ⟨ps, h1, h2⟩ := w.tab P hP
    exact ⟨ps, nx _ _ h1 (fun _ z => nomatch z) (fun _ z => nomatch z), h2⟩
  · obtain ⟨ps, h1, h2, h3⟩ := w.tab1
    refine ⟨ps, nx _ _ h1 (fun _ z => nomatch z) (fun _ z => nomatch z), h2, fun pos cv e => ?_⟩
    obtain ⟨c', P', e1, e2, e3, qs, e4, e5⟩ := h3 pos cv e
    exact ⟨c', P', e1, nx _ _ e2 (fun _ z => nomatch z) (fun _ z => nomatch z), e3, qs, nx _ _ e4 (fun _ z => nomatch z) (fun _ z => nomatch z), e5⟩
/-- a table has grown: one of the world's, or one within these -/
theorem Wd.grown0 (w : Wd ts st c L H) {P : Addr} (k : Kp P H H') (t0 : TabG 0 H P) (t : TabG 0 H' P) (own : P = ts.one → TabG 1 H' P) : Wd ts st c L H' ∧ Kx L H H' := by
  obtain ⟨ps, hP, _⟩ := id t0
  have ne : ∀ b u, H b = some u → tb u = false → b ≠ P := fun b u e z q => by rw [q, hP] at e; cases e; cases z
  obtain ⟨sd, kd, ns, e1, e2, e3⟩ := w.stat
  refine ⟨⟨fun b hb => ?_, ⟨sd, kd, ns, k _ _ (ne _ _ e1 rfl) e1, k _ _ (ne _ _ e2 rfl) e2, e3⟩, w.lst, w.lc, fun Q hQ => ?_, ?_⟩, ⟨fun b o _ e z => k b o (ne b o e z) e, kp_alive k ⟨_, t⟩⟩⟩
  · rcases w.live b hb with ⟨u, e, z⟩ | z
    · exact .inl ⟨u, k _ _ (ne _ _ e z) e, z⟩
    · exact .inr z
  · by_cases e : Q = P
    · subst e; exact t
    · obtain ⟨qs, h1, h2⟩ := w.tab Q hQ
      exact ⟨qs, k _ _ e h1, h2⟩
  · by_cases e : P = ts.one
    · rw [← e]; exact own e
    · exact w.tab1.within e t0 t k
end
section
variable {K : PySem.W.Frag} {L : Vol} {H H' : Hp} {a : Addr} {xs : List V}
/-- a tuple or a list that is read and not volatile -/
def TupL (K : PySem.W.Frag) (L : Vol) (H : Hp) (a : Addr) (xs : List V) : Prop := ¬ L a ∧ SqT K H a xs
def LstL (K : PySem.W.Frag) (L : Vol) (H : Hp) (a : Addr) (xs : List V) : Prop := ¬ L a ∧ SqL K H a xs
theorem TupL.kx (h : TupL K L H a xs) (k : Kx L H H') : TupL K L H' a xs := by
  obtain ⟨n, h⟩ := h
  refine ⟨n, ?_⟩
  rcases h with h | h
  · rcases h with h | ⟨o, h⟩
    · exact .inl (.inl (k _ _ n h rfl))
    · exact .inl (.inr ⟨o, k _ _ n h rfl⟩)
  · exact .inr h
theorem LstL.kx (h : LstL K L H a xs) (k : Kx L H H') : LstL K L H' a xs := by
  obtain ⟨n, h⟩ := h
  refine ⟨n, ?_⟩
  rcases h with h | h
  · rcases h with h | ⟨o, h⟩
    · exact .inl (.inl (k _ _ n h rfl))
    · exact .inl (.inr ⟨o, k _ _ n h rfl⟩)
  · exact .inr h
theorem TupL.anti {L' : Vol} (h : TupL K L' H a xs) (i : ∀ b, L b → L' b) : TupL K L H a xs := ⟨fun z => h.1 (i _ z), h.2⟩
theorem LstL.anti {L' : Vol} (h : LstL K L' H a xs) (i : ∀ b, L b → L' b) : LstL K L H a xs := ⟨fun z => h.1 (i _ z), h.2⟩
theorem TupL.mk (n : ¬ L a) (h : H a = some (.tup xs)) : TupL K L H a xs := ⟨n, SqT.of h⟩
theorem LstL.mk (n : ¬ L a) (h : H a = some (.lst xs)) : LstL K L H a xs := ⟨n, SqL.of h⟩
end
/-! three-valued items: None, True, False -/
def tri : Option Bool → V
  | none => .non
  | some b => .bl b
def rIsTri : R2 := fun x y H Q => ∃ (a : Option Bool) (b : Bool), x = tri a ∧ y = .bl b ∧ Q (.bl (decide (a = some b))) H
def rNotTri : R2 := fun x y H Q => ∃ (a : Option Bool) (b : Bool), x = tri a ∧ y = .bl b ∧ Q (.bl (!decide (a = some b))) H
theorem op_isTri {X : Cx} : OpR X (compareOp .Is) rIsTri := by
  intro pins s σ H x y v u Q I rx ry h
  obtain ⟨a, b, rfl, rfl, q⟩ := h
  obtain rfl : u = Value.bool b := ry
  cases a with
  | none =>
    obtain rfl : v = Value.none := rx
    exact wpAny_is_other rfl (fun z => by cases z) ⟨.bl false, H, I, rfl, q⟩
  | some a =>
    obtain rfl : v = Value.bool a := rx
    by_cases e : a = b
    · subst e
      refine wpAny_is_self rfl ⟨.bl true, H, I, rfl, ?_⟩
      rw [decide_eq_true rfl] at q; exact q
    · refine wpAny_is_other rfl (fun z => e (Value.bool.inj z)) ⟨.bl false, H, I, rfl, ?_⟩
      rw [decide_eq_false (fun z => e (Option.some.inj z))] at q; exact q
theorem op_notTri {X : Cx} : OpR X (compareOp .IsNot) rNotTri := by
  intro pins s σ H x y v u Q I rx ry h
  obtain ⟨a, b, rfl, rfl, q⟩ := h
  obtain rfl : u = Value.bool b := ry
  cases a with
  | none =>
    obtain rfl : v = Value.none := rx
    exact wpAny_isNot_other rfl (fun z => by cases z) ⟨.bl true, H, I, rfl, q⟩
  | some a =>
    obtain rfl : v = Value.bool a := rx
    by_cases e : a = b
    · subst e
      refine wpAny_isNot_self rfl ⟨.bl false, H, I, rfl, ?_⟩
      rw [decide_eq_true rfl] at q; exact q
    · refine wpAny_isNot_other rfl (fun z => e (Value.bool.inj z)) ⟨.bl true, H, I, rfl, ?_⟩
      rw [decide_eq_false (fun z => e (Option.some.inj z))] at q; exact q
/-! defs whose code is known -/
structure FunC (K : PySem.W.Frag) (x qual : Str) (st : Stmt) (f : Addr) (fd : FuncData) (c : Addr) : Prop where
  ex : ∃ (oc : Value) (od : Option Addr) (dV kV doc pm : Value) (an : Option Addr) (ct : Value) (osl : Array (Option Value)),
    fd = PySem.W.fnOf x qual (fnArgs st) (fnBody st) (fnScope st) dV kV doc pm an (.ref c) ct ∧ K.lookup f = some ⟨oc, od, .func fd, osl⟩ ∧ PySem.W.codeIn K (.ref c) qual = true
theorem FunC.fun {K : PySem.W.Frag} {x qual : Str} {st : Stmt} {f c : Addr} {fd : FuncData} (F : FunC K x qual st f fd c) : C8.Fun K x qual st f fd := by
  obtain ⟨oc, od, dV, kV, doc, pm, an, ct, osl, h1, h2, h3⟩ := F.ex
  exact ⟨oc, od, dV, kV, doc, pm, an, _, ct, osl, h1, h2, h3⟩
/-- a def of the top without defaults, its code at c -/
def Has (K : PySem.W.Frag) (mg : Str → Option Value) (x : Str) (st : Stmt) (c : Addr) : Prop := ∃ f fd, FunC K x x st f fd c ∧ mg x = some (.ref f) ∧ PySem.W.keepIn K (.ref f) = true ∧ fd.defaults = .none
theorem has_mk {K : PySem.W.Frag} {h : Heap} {mg : Str → Option Value} {x : Str} {st : Stmt} {f c : Addr} {oc : Value} {od an : Option Addr} {osl : Array (Option Value)} {kV doc pm ct : Value} (X : K.In h) (G : h.Ns mainGlobals mg)
    (a : PySem.W.nsIn K mainGlobals x = some (some (.ref f))) (l : K.lookup f = some ⟨oc, od, .func (PySem.W.fnOf x x (fnArgs st) (fnBody st) (fnScope st) .none kV doc pm an (.ref c) ct), osl⟩) (d : PySem.W.codeIn K (.ref c) x = true) (k : PySem.W.keepIn K (.ref f) = true) :
    Has K mg x st c := ⟨f, _, ⟨⟨oc, od, .none, kV, doc, pm, an, ct, osl, rfl, l, d⟩⟩, PySem.W.mg_of X G a, k, rfl⟩
section
variable {P : Program} {w : World} {K : PySem.W.Frag} {mg : Str → Option Value} {base : Heap}
/-- a def's promise by its body -/
theorem cal {x : Str} {st : Stmt} {c : Addr} {N ps : List Str} {k : Nat} {sp : Sp} (F : Has K mg x st c)
    (hb : ∀ (kV doc pm : Value) (an : Option Addr) (cdv ct : Value) (us : List Value), us.length = ps.length → bindArgs (PySem.W.fnOf x x (fnArgs st) (fnBody st) (fnScope st) .none kV doc pm an cdv ct) ⟨us, []⟩ = pure (ps.zip us))
    (S : FnScope N ps (fnScope st)) (len : ∀ vs H Q E, sp vs H Q E → vs.length = ps.length)
    (hbody : ∀ (f : Addr) (A : Around) (outer : List Env) (s : Shared) (H : Hp) (vs : List V) (Q : VK) (E : XK), Room k (A.deeper (envOfC x (fnScope st) s.heap.objs.size f (.ref c))) → sp vs H Q E →
      ∃ t, PSs (cxOf C8.CX0 P w K mg base N x (fnScope st) f (.ref c) A outer s H E).nox (fnBody st) t ∧ t { nx := fun _ H' => Q .non H', rt := Q } (start N vs) H) : Cal P w K mg base (k + 1) x sp [] := by
  obtain ⟨f, fd, F, hm, kp, df⟩ := F
  have b := F.fun.binds df hb
  obtain ⟨oc, od, dV, kV, doc, pm, an, ct, osl, rfl, lk, hcd⟩ := F.ex
  refine ⟨f, _, ps, [], fn_of lk hcd S len fun A outer s H vs Q E hr hsp => ?_, hm, kp, b, .nil⟩
  obtain ⟨t, h, q⟩ := hbody f A outer s H vs Q E hr hsp
  exact ⟨t, h.nox, q⟩
end
section
variable {P : Program} {w : World} {K : PySem.W.Frag} {mg : Str → Option Value} {base : Heap}
theorem fnC {x : Str} {st : Stmt} {f c : Addr} {fd : FuncData} {N ps : List Str} {k : Nat} {sp : Sp} (F : FunC K x x st f fd c) (S : FnScope N ps (fnScope st)) (len : ∀ vs H Q E, sp vs H Q E → vs.length = ps.length)
    (hbody : ∀ (A : Around) (outer : List Env) (s : Shared) (H : Hp) (vs : List V) (Q : VK) (E : XK), Room k (A.deeper (envOfC x (fnScope st) s.heap.objs.size f (.ref c))) → sp vs H Q E →
      ∃ t, PSs (cxOf C8.CX0 P w K mg base N x (fnScope st) f (.ref c) A outer s H E).nox (fnBody st) t ∧ t { nx := fun _ H' => Q .non H', rt := Q } (start N vs) H) : FnOk P w K mg base C8.CX0 (k + 1) f fd ps sp := by
  obtain ⟨oc, od, dV, kV, doc, pm, an, ct, osl, rfl, lk, hcd⟩ := F.ex
  refine fn_of lk hcd S len fun A outer s H vs Q E hr hsp => ?_
  obtain ⟨t, h, q⟩ := hbody A outer s H vs Q E hr hsp
  exact ⟨t, h.nox, q⟩
end
/-! a generator expression of a def -/
def gokC (N : List Str) (sc0 scope : Scope) (own : List (Str × Nat)) : Bool :=
  decide N.Nodup && blkC N sc0 scope own && (scope.names.all fun y => !decide (y.2 = .cell)) && decide (scope.names.lookup (".0" : Str) = some NameKind.local) && !scope.isCoroutine
theorem gok {X : Cx} {N : List Str} {sc0 scope : Scope} {own : List (Str × Nat)} {c : Addr} (e1 : X.N = N) (e2 : X.env.scope = sc0) (hc : X.env.code = .ref c) (bm : ∃ P0, X.base.BuiltinsAt X.mg P0) (h : gokC N sc0 scope own = true) : GOk X scope own c := by
  unfold gokC at h
  simp only [Bool.and_eq_true, Bool.not_eq_true', decide_eq_true_eq, List.all_eq_true, decide_eq_false_iff_not] at h
  obtain ⟨⟨⟨⟨h1, h2⟩, h3⟩, h4⟩, h5⟩ := h
  exact ⟨by rw [e1]; exact h1, by rw [e1, e2]; exact blkOk_by h2, h3, h4, h5, hc, bm⟩
end LC
set_option Elab.async false
set_option linter.all false
set_option maxRecDepth 100000
set_option maxHeartbeats 2000000
namespace LC
open PySem PySem.Spec PyProof.Rows L2 C8 GX
/-! generator expressions and list comprehensions in such a world. Lx: what may change; M: what data are apart from -/
def Lx (_ts : Tbs) (st c : Addr) : Vol := fun b => b = st ∨ b = c
abbrev Ky (ts : Tbs) (st c : Addr) : Hp → Hp → Prop := Kx (Lx ts st c)
/-- a list or a dict -/
def wl : HO → Bool
  | .lst _ => true
  | .dK _ => true
  | _ => false
section
variable {ts : Tbs} {st ca : Addr} {M : Vol} {H H' : Hp}
theorem Wd.sub (w : Wd ts st ca M H) {b : Addr} (h : Lx ts st ca b) : M b := by
  rcases h with h | h
  · rw [h]; exact w.lst
  · rw [h]; exact w.lc
theorem Wd.ky (w : Wd ts st ca M H) (k : Ky ts st ca H H') : Kx M H H' := k.mono fun _ h => w.sub h
theorem Wd.nl (w : Wd ts st ca M H) {b : Addr} (h : ¬ M b) : ¬ Lx ts st ca b := fun z => h (w.sub z)
/-- the world at a smaller M, later -/
theorem Wd.low {M' : Vol} {H0 : Hp} (w0 : Wd ts st ca M H0) (w : Wd ts st ca M' H) (i : ∀ b, M b → M' b) : Wd ts st ca M H :=
  ⟨fun b hb => w.live b (i b hb), w.stat, w0.lst, w0.lc, w.tab, w.tab1⟩
/-- the world at a larger M -/
theorem Wd.up {M' : Vol} {H0 : Hp} (w0 : Wd ts st ca M' H0) (w : Wd ts st ca M H) (k : Ky ts st ca H0 H) : Wd ts st ca M' H := by
  refine ⟨fun b hb => ?_, w.stat, w0.lst, w0.lc, w.tab, w.tab1⟩
  by_cases h : Lx ts st ca b
  · exact w.live b (w.sub h)
  · rcases w0.live b hb with ⟨o, e, t⟩ | z
    · exact .inl ⟨o, k.keep b o h e t, t⟩
    · exact .inr z
theorem Wd.gen (w : Wd ts st ca M H) {P : Addr} (t0 : TabG 0 H P) (hne : P ≠ ts.one) (k : Kp P H H') (t : TabG 0 H' P) : Wd ts st ca M H' ∧ Ky ts st ca H H' := by
  obtain ⟨ps, e, _⟩ := id t0
  exact ⟨(w.grown0 k t0 t fun z => absurd z hne).1, ⟨fun b o _ eb z => k b o (fun q => by rw [q, e] at eb; cases eb; cases z) eb, kp_alive k ⟨_, t⟩⟩⟩
theorem Wd.gen1 (w : Wd ts st ca M H) (k : Kp ts.one H H') (t : TabG 1 H' ts.one) : Wd ts st ca M H' ∧ Ky ts st ca H H' := by
  have t0 := w.tab1.zero
  obtain ⟨ps, e, _⟩ := id t0
  exact ⟨(w.grown0 k t0 t.zero fun _ => t).1, ⟨fun b o _ eb z => k b o (fun q => by rw [q, e] at eb; cases eb; cases z) eb, kp_alive k ⟨_, t⟩⟩⟩
/-- a local list or dict is written -/
theorem Wd.wr (w : Wd ts st ca M H) {D : Addr} {u o : HO} (n : ¬ Lx ts st ca D) (e : H D = some u) (hu : wl u = true := by rfl) (ho : tb o = false := by rfl) : Wd ts st ca M (upd H D o) := by
  refine w.put (fun z => n (.inl z)) (fun z => n (.inr z)) e ?_ ho
  cases u with
  | lst xs => exact .inl ⟨xs, rfl⟩
  | dK ks => exact .inr ⟨ks, rfl⟩
  | _ => cases hu
end
section
variable {K : PySem.W.Frag} {base : Heap} {ts : Tbs} {st ca c P a D : Addr} {M : Vol} {H : Hp} {α : Type} {xs : List α} {f : α → V} {g : TG} {vs : List Nat} {σ : L2.St} {Q : VK}
theorem LstL.of (h : LstL K M H a (xs.map f)) : SqL K H a (xs.map f) := h.2
theorem TupL.of (h : TupL K M H a (xs.map f)) : SqT K H a (xs.map f) := h.2
/-- all(.. for x in a tuple), a walk of any kind that stands while nothing but Lx changes -/
theorem gall_walk {J : It} {Gd : Hp → Prop} {Y : Nat → Hp → V → Hp → Prop} {te : Value → TE} {pr : α → Bool} (W : L2.Walk J xs.length Gd Y) (hG : ∀ H', Ky ts st ca H H' → Gd H') (hY : ∀ i H1 x H2, i < xs.length → Y i H1 x H2 → H2 = H1 ∧ (xs.map f)[i]? = some x)
    (C : PySem.W.CodeHd base c P) (hP : P ∈ ts.all) (hne : P ≠ ts.one) (w : Wd ts st ca M H)
    (step : ∀ cv, ∀ x ∈ xs, ∀ H1, Wd ts st ca M H1 → Ky ts st ca H H1 → ∀ Qk : VK, (∀ H2, Wd ts st ca M H2 → Ky ts st ca H1 H2 → Qk (.bl (pr x)) H2) → g (f x) (wipe σ vs) H1 fun σ2 H2 => wipe σ2 vs = wipe σ vs ∧ te cv σ2 H2 Qk)
    (k : ∀ H1, Wd ts st ca M H1 → Ky ts st ca H H1 → Q (.bl (xs.all pr)) H1) :
    GStart base 0 c P (fun J cv H2 => ∃ W : Nat → Nat → Int → Hp → Prop, (∃ m, W 0 m 0 H2) ∧ GTurn J g tYes (te cv) vs σ (EmAll fun H => Q (.bl false) H) (DnB true Q) W) J H := by
  refine ⟨.inl C, w.tab P hP, fun cv H2 kp t2 _ => ?_⟩
  obtain ⟨w2, k2⟩ := w.gen (w.tab P hP) hne kp t2
  refine gturn_it W (fun i _ H1 => Wd ts st ca M H1 ∧ Ky ts st ca H H1 ∧ (xs.take i).all pr = true) ⟨w2, k2, rfl⟩ (fun i t H1 _ h => hG _ h.2.1) (fun i x t H1 H1' hi ⟨w1, k1, e1⟩ y => ?_) (fun t H1 ⟨w1, k1, e1⟩ => ?_)
  · obtain ⟨rfl, hx⟩ := hY i H1 x H1' hi y
    rw [List.getElem?_map] at hx
    obtain ⟨z, hz, rfl⟩ := Option.map_eq_some_iff.mp hx
    refine step cv z (List.mem_of_getElem? hz) H1' w1 k1 _ fun H4 w4 k4 => ⟨pr z, rfl, ?_⟩
    cases hb : pr z with
    | true =>
      refine iteT ⟨w4, k1.trans k4, ?_⟩
      rw [List.take_add_one, hz, List.all_append, e1]
      show (true && [z].all pr) = true
      simp [hb]
    | false =>
      refine iteF ?_
      have e : xs.all pr = false := by
        rw [List.all_eq_false]
        exact ⟨z, List.mem_of_getElem? hz, by simp [hb]⟩
      rw [← e]
      exact k H4 w4 (k1.trans k4)
  · rw [List.take_length] at e1
    have := k H1 w1 k1
    rw [e1] at this
    exact this
theorem gany_walk {J : It} {Gd : Hp → Prop} {Y : Nat → Hp → V → Hp → Prop} {te : Value → TE} {pr : α → Bool} (W : L2.Walk J xs.length Gd Y) (hG : ∀ H', Ky ts st ca H H' → Gd H') (hY : ∀ i H1 x H2, i < xs.length → Y i H1 x H2 → H2 = H1 ∧ (xs.map f)[i]? = some x)
    (C : PySem.W.CodeHd base c P) (hP : P ∈ ts.all) (hne : P ≠ ts.one) (w : Wd ts st ca M H)
    (step : ∀ cv, ∀ x ∈ xs, ∀ H1, Wd ts st ca M H1 → Ky ts st ca H H1 → ∀ Qk : VK, (∀ H2, Wd ts st ca M H2 → Ky ts st ca H1 H2 → Qk (.bl (pr x)) H2) → g (f x) (wipe σ vs) H1 fun σ2 H2 => wipe σ2 vs = wipe σ vs ∧ te cv σ2 H2 Qk)
    (k : ∀ H1, Wd ts st ca M H1 → Ky ts st ca H H1 → Q (.bl (xs.any pr)) H1) :
    GStart base 0 c P (fun J cv H2 => ∃ W : Nat → Nat → Int → Hp → Prop, (∃ m, W 0 m 0 H2) ∧ GTurn J g tYes (te cv) vs σ (EmAny fun H => Q (.bl true) H) (DnB false Q) W) J H := by
  refine ⟨.inl C, w.tab P hP, fun cv H2 kp t2 _ => ?_⟩
  obtain ⟨w2, k2⟩ := w.gen (w.tab P hP) hne kp t2
  refine gturn_it W (fun i _ H1 => Wd ts st ca M H1 ∧ Ky ts st ca H H1 ∧ (xs.take i).any pr = false) ⟨w2, k2, rfl⟩ (fun i t H1 _ h => hG _ h.2.1) (fun i x t H1 H1' hi ⟨w1, k1, e1⟩ y => ?_) (fun t H1 ⟨w1, k1, e1⟩ => ?_)
  · obtain ⟨rfl, hx⟩ := hY i H1 x H1' hi y
    rw [List.getElem?_map] at hx
    obtain ⟨z, hz, rfl⟩ := Option.map_eq_some_iff.mp hx
    refine step cv z (List.mem_of_getElem? hz) H1' w1 k1 _ fun H4 w4 k4 => ⟨pr z, rfl, ?_⟩
    cases hb : pr z with
    | false =>
      refine iteF ⟨w4, k1.trans k4, ?_⟩
      rw [List.take_add_one, hz, List.any_append, e1]
      show (false || [z].any pr) = false
      simp [hb]
    | true =>
      refine iteT ?_
      have e : xs.any pr = true := List.any_eq_true.mpr ⟨z, List.mem_of_getElem? hz, hb⟩
      rw [← e]
      exact k H4 w4 (k1.trans k4)
  · rw [List.take_length] at e1
    have := k H1 w1 k1
    rw [e1] at this
    exact this
/-- what a sum gives -/
def sumOf (keep : α → Bool) (val : α → Int) (xs : List α) : Int := ((xs.filter keep).map val).sum
theorem sumOf_snoc {keep : α → Bool} {val : α → Int} {x : α} : sumOf keep val (xs ++ [x]) = sumOf keep val xs + if keep x = true then val x else 0 := by
  unfold sumOf
  rw [List.filter_append, List.map_append, List.sum_append]
  cases h : keep x <;> simp [h]
theorem sumOf_le {keep : α → Bool} {val : α → Int} {B : Int} (hB : 0 ≤ B) : ∀ {xs : List α}, (∀ x ∈ xs, 0 ≤ val x ∧ val x ≤ B) → 0 ≤ sumOf keep val xs ∧ sumOf keep val xs ≤ xs.length * B
  | [], _ => by simp [sumOf]
  | x :: r, h => by
    have ih := sumOf_le hB (keep := keep) (xs := r) fun y hy => h y (List.mem_cons_of_mem _ hy)
    have hx := h x List.mem_cons_self
    unfold sumOf at ih ⊢
    have e : ((r.length + 1 : Nat) : Int) * B = r.length * B + B := by rw [Int.natCast_add, Int.add_mul]; simp
    rw [List.filter_cons]
    split
    · rw [List.map_cons, List.sum_cons, List.length_cons, e]; omega
    · rw [List.length_cons, e]; omega
theorem gsum_walk {J : It} {Gd : Hp → Prop} {Y : Nat → Hp → V → Hp → Prop} {tt : Value → TT} {te : Value → TE} {keep : α → Bool} {val : α → Int} (W : L2.Walk J xs.length Gd Y) (hG : ∀ H', Ky ts st ca H H' → Gd H') (hY : ∀ i H1 x H2, i < xs.length → Y i H1 x H2 → H2 = H1 ∧ (xs.map f)[i]? = some x)
    (C : PySem.W.CodeHd base c P) (hP : P ∈ ts.all) (hne : P ≠ ts.one) (w : Wd ts st ca M H) (hv : ∀ x ∈ xs, 0 ≤ val x ∧ val x ≤ 1073741824) (hl : xs.length ≤ 1048576)
    (step : ∀ cv, ∀ x ∈ xs, ∀ H1, Wd ts st ca M H1 → Ky ts st ca H H1 → ∀ (Qk : VK) (F : Hp → Prop), (keep x = true → ∀ H2, Wd ts st ca M H2 → Ky ts st ca H1 H2 → Qk (.int (val x)) H2) → (keep x = false → ∀ H2, Wd ts st ca M H2 → Ky ts st ca H1 H2 → F H2) →
      g (f x) (wipe σ vs) H1 fun σ2 H2 => wipe σ2 vs = wipe σ vs ∧ tt cv σ2 H2 fun b H3 => if b = true then te cv σ2 H3 Qk else F H3)
    (k : ∀ H1, Wd ts st ca M H1 → Ky ts st ca H H1 → Q (.int (sumOf keep val xs)) H1) :
    GStart base 0 c P (fun J cv H2 => ∃ W : Nat → Nat → Int → Hp → Prop, (∃ m, W 0 m 0 H2) ∧ GTurn J g (tt cv) (te cv) vs σ EmSum (DnS Q) W) J H := by
  refine ⟨.inl C, w.tab P hP, fun cv H2 kp t2 _ => ?_⟩
  obtain ⟨w2, k2⟩ := w.gen (w.tab P hP) hne kp t2
  refine gturn_it W (fun i t H1 => Wd ts st ca M H1 ∧ Ky ts st ca H H1 ∧ t = sumOf keep val (xs.take i)) ⟨w2, k2, rfl⟩ (fun i t H1 _ h => hG _ h.2.1) (fun i x t H1 H1' hi ⟨w1, k1, e1⟩ y => ?_) (fun t H1 ⟨w1, k1, e1⟩ => ?_)
  · obtain ⟨rfl, hx⟩ := hY i H1 x H1' hi y
    rw [List.getElem?_map] at hx
    obtain ⟨z, hz, rfl⟩ := Option.map_eq_some_iff.mp hx
    have hzm := List.mem_of_getElem? hz
    have hsn : sumOf keep val (xs.take (i + 1)) = sumOf keep val (xs.take i) + if keep z = true then val z else 0 := by
      rw [List.take_add_one, hz]; exact sumOf_snoc
    have hle := sumOf_le (keep := keep) (B := 1073741824) (by decide) (xs := xs.take i) fun y hy => hv y (List.mem_of_mem_take hy)
    have hln : (xs.take i).length ≤ 1048576 := Nat.le_trans (by rw [List.length_take]; exact Nat.min_le_right _ _) hl
    have hz2 := hv z hzm
    have bnd : sumOf keep val (xs.take i) ≤ 1125899906842624 := by
      have : ((xs.take i).length : Int) * 1073741824 ≤ 1048576 * 1073741824 := Int.mul_le_mul_of_nonneg_right (by omega) (by decide)
      omega
    refine step cv z hzm H1' w1 k1 _ _ (fun hk H4 w4 k4 => ⟨val z, rfl, ?_, ?_, w4, k1.trans k4, ?_⟩) (fun hk H4 w4 k4 => ⟨w4, k1.trans k4, ?_⟩)
    · constructor <;> omega
    · rw [e1]; constructor <;> omega
    · rw [hsn, if_pos hk, e1]
    · rw [hsn, if_neg (by simp [hk]), e1, Int.add_zero]
  · rw [List.take_length] at e1
    show Q (.int t) H1
    rw [e1]
    exact k H1 w1 k1
/-- a sum whose turns use generator expressions within it: their code and its table stand -/
theorem gsum_walk1 {J : It} {Gd : Hp → Prop} {Y : Nat → Hp → V → Hp → Prop} {tt : Value → TT} {te : Value → TE} {keep : α → Bool} {val : α → Int} (W : L2.Walk J xs.length Gd Y) (hG : ∀ H', Ky ts st ca H H' → Gd H') (hY : ∀ i H1 x H2, i < xs.length → Y i H1 x H2 → H2 = H1 ∧ (xs.map f)[i]? = some x)
    (C : PySem.W.CodeHd base c ts.one) (w : Wd ts st ca M H) (hv : ∀ x ∈ xs, 0 ≤ val x ∧ val x ≤ 1073741824) (hl : xs.length ≤ 1048576)
    (step : ∀ c' P', P' ≠ ts.one → ∀ x ∈ xs, ∀ H1, Wd ts st ca M H1 → Ky ts st ca H H1 → H1 c' = some (hdO c' P') → TabG 0 H1 P' → ∀ (Qk : VK) (F : Hp → Prop), (keep x = true → ∀ H2, Wd ts st ca M H2 → Ky ts st ca H1 H2 → H2 c' = some (hdO c' P') → TabG 0 H2 P' → Qk (.int (val x)) H2) → (keep x = false → ∀ H2, Wd ts st ca M H2 → Ky ts st ca H1 H2 → H2 c' = some (hdO c' P') → TabG 0 H2 P' → F H2) →
      g (f x) (wipe σ vs) H1 fun σ2 H2 => wipe σ2 vs = wipe σ vs ∧ tt (.ref c') σ2 H2 fun b H3 => if b = true then te (.ref c') σ2 H3 Qk else F H3)
    (k : ∀ H1, Wd ts st ca M H1 → Ky ts st ca H H1 → Q (.int (sumOf keep val xs)) H1) :
    GStart base 1 c ts.one (fun J cv H2 => ∃ W : Nat → Nat → Int → Hp → Prop, (∃ m, W 0 m 0 H2) ∧ GTurn J g (tt cv) (te cv) vs σ EmSum (DnS Q) W) J H := by
  refine ⟨.inl C, w.tab1, fun cv H2 kp t2 kn => ?_⟩
  obtain ⟨w2, k2⟩ := w.gen1 kp t2
  obtain ⟨c', P', rfl, n1, n2, n3⟩ := kn
  refine gturn_it W (fun i t H1 => Wd ts st ca M H1 ∧ Ky ts st ca H H1 ∧ H1 c' = some (hdO c' P') ∧ TabG 0 H1 P' ∧ t = sumOf keep val (xs.take i)) ⟨w2, k2, n1, n3, rfl⟩ (fun i t H1 _ h => hG _ h.2.1) (fun i x t H1 H1' hi ⟨w1, k1, m1, m2, e1⟩ y => ?_) (fun t H1 ⟨w1, k1, _, _, e1⟩ => ?_)
  · obtain ⟨rfl, hx⟩ := hY i H1 x H1' hi y
    rw [List.getElem?_map] at hx
    obtain ⟨z, hz, rfl⟩ := Option.map_eq_some_iff.mp hx
    have hzm := List.mem_of_getElem? hz
    have hsn : sumOf keep val (xs.take (i + 1)) = sumOf keep val (xs.take i) + if keep z = true then val z else 0 := by
      rw [List.take_add_one, hz]; exact sumOf_snoc
    have hle := sumOf_le (keep := keep) (B := 1073741824) (by decide) (xs := xs.take i) fun y hy => hv y (List.mem_of_mem_take hy)
    have hln : (xs.take i).length ≤ 1048576 := Nat.le_trans (by rw [List.length_take]; exact Nat.min_le_right _ _) hl
    have hz2 := hv z hzm
    have bnd : sumOf keep val (xs.take i) ≤ 1125899906842624 := by
      have : ((xs.take i).length : Int) * 1073741824 ≤ 1048576 * 1073741824 := Int.mul_le_mul_of_nonneg_right (by omega) (by decide)
      omega
    refine step c' P' n2 z hzm H1' w1 k1 m1 m2 _ _ (fun hk H4 w4 k4 a4 b4 => ⟨val z, rfl, ?_, ?_, w4, k1.trans k4, a4, b4, ?_⟩) (fun hk H4 w4 k4 a4 b4 => ⟨w4, k1.trans k4, a4, b4, ?_⟩)
    · constructor <;> omega
    · rw [e1]; constructor <;> omega
    · rw [hsn, if_pos hk, e1]
    · rw [hsn, if_neg (by simp [hk]), e1, Int.add_zero]
  · rw [List.take_length] at e1
    show Q (.int t) H1
    rw [e1]
    exact k H1 w1 k1
/-- all(..), any(..) whose elements change nothing -/
theorem gall_pure {J : It} {Gd : Hp → Prop} {Y : Nat → Hp → V → Hp → Prop} {te : Value → TE} {pr : α → Bool} (W : L2.Walk J xs.length Gd Y) (hG : ∀ H', Kp P H H' → TabG 0 H' P → Gd H') (hY : ∀ i H1 x H2, i < xs.length → Y i H1 x H2 → H2 = H1 ∧ (xs.map f)[i]? = some x)
    (C : CodeOK base H c P) (t0 : TabG 0 H P) (step : ∀ cv, ∀ x ∈ xs, ∀ H1, Kp P H H1 → TabG 0 H1 P → ∀ Qk : VK, Qk (.bl (pr x)) H1 → g (f x) (wipe σ vs) H1 fun σ2 H2 => wipe σ2 vs = wipe σ vs ∧ te cv σ2 H2 Qk)
    (k : ∀ H1, Kp P H H1 → TabG 0 H1 P → Q (.bl (xs.all pr)) H1) :
    GStart base 0 c P (fun J cv H2 => ∃ W : Nat → Nat → Int → Hp → Prop, (∃ m, W 0 m 0 H2) ∧ GTurn J g tYes (te cv) vs σ (EmAll fun H => Q (.bl false) H) (DnB true Q) W) J H := by
  refine ⟨C, t0, fun cv H2 kp t2 _ => ?_⟩
  refine gturn_it W (fun i _ H1 => H1 = H2 ∧ (xs.take i).all pr = true) ⟨rfl, rfl⟩ (fun i t H1 _ h => by rw [h.1]; exact hG _ kp t2) (fun i x t H1 H1' hi ⟨h1, e1⟩ y => ?_) (fun t H1 ⟨h1, e1⟩ => ?_)
  · obtain ⟨rfl, hx⟩ := hY i H1 x H1' hi y
    subst h1
    rw [List.getElem?_map] at hx
    obtain ⟨z, hz, rfl⟩ := Option.map_eq_some_iff.mp hx
    refine step cv z (List.mem_of_getElem? hz) H1' kp t2 _ ⟨pr z, rfl, ?_⟩
    cases hb : pr z with
    | true =>
      refine iteT ⟨rfl, ?_⟩
      rw [List.take_add_one, hz, List.all_append, e1]
      show (true && [z].all pr) = true
      simp [hb]
    | false =>
      refine iteF ?_
      have e : xs.all pr = false := List.all_eq_false.mpr ⟨z, List.mem_of_getElem? hz, by simp [hb]⟩
      rw [← e]
      exact k H1' kp t2
  · subst h1
    rw [List.take_length] at e1
    have := k H1 kp t2
    rw [e1] at this
    exact this
theorem gany_pure {J : It} {Gd : Hp → Prop} {Y : Nat → Hp → V → Hp → Prop} {te : Value → TE} {pr : α → Bool} (W : L2.Walk J xs.length Gd Y) (hG : ∀ H', Kp P H H' → TabG 0 H' P → Gd H') (hY : ∀ i H1 x H2, i < xs.length → Y i H1 x H2 → H2 = H1 ∧ (xs.map f)[i]? = some x)
    (C : CodeOK base H c P) (t0 : TabG 0 H P) (step : ∀ cv, ∀ x ∈ xs, ∀ H1, Kp P H H1 → TabG 0 H1 P → ∀ Qk : VK, Qk (.bl (pr x)) H1 → g (f x) (wipe σ vs) H1 fun σ2 H2 => wipe σ2 vs = wipe σ vs ∧ te cv σ2 H2 Qk)
    (k : ∀ H1, Kp P H H1 → TabG 0 H1 P → Q (.bl (xs.any pr)) H1) :
    GStart base 0 c P (fun J cv H2 => ∃ W : Nat → Nat → Int → Hp → Prop, (∃ m, W 0 m 0 H2) ∧ GTurn J g tYes (te cv) vs σ (EmAny fun H => Q (.bl true) H) (DnB false Q) W) J H := by
  refine ⟨C, t0, fun cv H2 kp t2 _ => ?_⟩
  refine gturn_it W (fun i _ H1 => H1 = H2 ∧ (xs.take i).any pr = false) ⟨rfl, rfl⟩ (fun i t H1 _ h => by rw [h.1]; exact hG _ kp t2) (fun i x t H1 H1' hi ⟨h1, e1⟩ y => ?_) (fun t H1 ⟨h1, e1⟩ => ?_)
  · obtain ⟨rfl, hx⟩ := hY i H1 x H1' hi y
    subst h1
    rw [List.getElem?_map] at hx
    obtain ⟨z, hz, rfl⟩ := Option.map_eq_some_iff.mp hx
    refine step cv z (List.mem_of_getElem? hz) H1' kp t2 _ ⟨pr z, rfl, ?_⟩
    cases hb : pr z with
    | false =>
      refine iteF ⟨rfl, ?_⟩
      rw [List.take_add_one, hz, List.any_append, e1]
      show (false || [z].any pr) = false
      simp [hb]
    | true =>
      refine iteT ?_
      have e : xs.any pr = true := List.any_eq_true.mpr ⟨z, List.mem_of_getElem? hz, hb⟩
      rw [← e]
      exact k H1' kp t2
  · subst h1
    rw [List.take_length] at e1
    have := k H1 kp t2
    rw [e1] at this
    exact this
theorem pair_app {β : Type} {F : α → β → Prop} : ∀ {a c : List α} {b d : List β}, Paired F a b → Paired F c d → Paired F (a ++ c) (b ++ d)
  | _, _, _, _, .nil, h => h
  | _, _, _, _, .cons r t, h => .cons r (pair_app t h)
/-- [.. for x in .. if ..] -/
theorem lc_walkD {Qd : Hp → Prop} {J : It} {Gd : Hp → Prop} {Y : Nat → Hp → V → Hp → Prop} {tt : TT} {te : TE} {keep : α → Bool} {Out : Vol → α → V → Hp → Prop} (stab : ∀ M A B x y, Kx M A B → Out M x y A → Out M x y B) (anti : ∀ (M M' : Vol) A x y, (∀ b, M b → M' b) → Out M' x y A → Out M x y A)
    (W : L2.Walk J xs.length Gd Y) (hG : ∀ H', Ky ts st ca H H' → Gd H') (hY : ∀ i H1 x H2, i < xs.length → Y i H1 x H2 → H2 = H1 ∧ (xs.map f)[i]? = some x) (w : Wd ts st ca M H) (hD : H D = none) (hl : xs.length < sizeLine)
    (step : ∀ x ∈ xs, ∀ H1, Wd ts st ca (addV M D) H1 → Ky ts st ca H H1 → (∃ acc, H1 D = some (.lst acc)) → ∀ (Qk : VK) (F : Hp → Prop), (keep x = true → ∀ y H2, Wd ts st ca (addV M D) H2 → Ky ts st ca H1 H2 → Out (addV M D) x y H2 → Qk y H2) → (keep x = false → ∀ H2, Wd ts st ca (addV M D) H2 → Ky ts st ca H1 H2 → F H2) →
      g (f x) (wipe σ vs) H1 fun σ2 H2 => wipe σ2 vs = wipe σ vs ∧ tt σ2 H2 fun b H3 => if b = true then te σ2 H3 Qk else F H3)
    (k : ∀ ys H1, Wd ts st ca M H1 → Ky ts st ca H H1 → ¬ M D → H1 D = some (.lst ys) → Paired (fun x y => Out M x y H1) (xs.filter keep) ys → Qd H1) :
    ∃ W : Nat → Nat → Hp → Prop, (∃ m, W 0 m (upd H D (.lst []))) ∧ ∀ i m H, W i m H →
      (J.stop i H ∧ Qd H) ∨ (J.go i H ∧ ∃ Nx : Hp → Prop, (∀ H', Nx H' → ∃ m', m' < m ∧ W (i + 1) m' H') ∧ ∀ x H', J.yld i H x H' → g x (wipe σ vs) H' fun σ2 H2 => wipe σ2 vs = wipe σ vs ∧ tt σ2 H2 fun b H3 =>
        if b = true then te σ2 H3 fun y H4 => ∃ acc, H4 D = some (.lst acc) ∧ acc.length < sizeLine ∧ Nx (upd H4 D (.lst (acc ++ [y]))) else Nx H3) := by
  have nM := w.fresh hD
  have nL := w.nl nM
  have w0 : Wd ts st ca (addV M D) (upd H D (.lst [])) := (w.new hD).add ⟨_, upd_same, rfl⟩
  have k0 : Ky ts st ca H (upd H D (.lst [])) := Kx.new hD
  refine lc_it W (fun i H1 => Wd ts st ca (addV M D) H1 ∧ Ky ts st ca H H1 ∧ ∃ ys, H1 D = some (.lst ys) ∧ Paired (fun x y => Out (addV M D) x y H1) ((xs.take i).filter keep) ys) ⟨w0, k0, [], upd_same, .nil⟩ (fun i H1 _ h => hG _ h.2.1) (fun i x H1 H1' hi ⟨w1, k1, ys, e1, p1⟩ y => ?_) (fun H1 ⟨w1, k1, ys, e1, p1⟩ => ?_)
  · obtain ⟨rfl, hx⟩ := hY i H1 x H1' hi y
    rw [List.getElem?_map] at hx
    obtain ⟨z, hz, rfl⟩ := Option.map_eq_some_iff.mp hx
    have hlen : ys.length < sizeLine := by
      rw [← p1.length]
      exact Nat.lt_of_le_of_lt (Nat.le_trans (List.length_filter_le _ _) (by rw [List.length_take]; exact Nat.min_le_right _ _)) hl
    refine step z (List.mem_of_getElem? hz) H1' w1 k1 ⟨ys, e1⟩ _ _ (fun hk y H4 w4 k4 o4 => ⟨ys, k4 D _ nL e1, hlen, w4.wr nL (k4 D _ nL e1), ?_, ys ++ [y], upd_same, ?_⟩) (fun hk H4 w4 k4 => ⟨w4, k1.trans k4, ys, k4 D _ nL e1, ?_⟩)
    · refine ⟨fun b o nb e t => ?_, fun b o e => ?_⟩
      · rw [upd_ne (ne_of_none e hD)]
        exact (k1.trans k4).keep b o nb e t
      · obtain ⟨u, e⟩ := (k1.trans k4).alive b o e
        exact alive_upd e
    · have st' : ∀ x y, Out (addV M D) x y H4 → Out (addV M D) x y (upd H4 D (.lst (ys ++ [y]))) := fun x y o => stab _ H4 _ x y (Kx.put (.inr rfl)) o
      rw [List.take_add_one, hz]
      show Paired _ ((xs.take i ++ [z]).filter keep) _
      rw [List.filter_append]
      have e : [z].filter keep = [z] := by simp [hk]
      rw [e]
      exact pair_app (L2.Paired.mapP p1 fun x y' o => stab _ _ _ x y' (Kx.put (.inr rfl)) (stab _ _ _ x y' (w1.ky k4) o)) (.cons (stab _ _ _ z y (Kx.put (.inr rfl)) o4) .nil)
    · rw [List.take_add_one, hz]
      show Paired _ ((xs.take i ++ [z]).filter keep) _
      rw [List.filter_append]
      have e : [z].filter keep = [] := by simp [hk]
      rw [e, List.append_nil]
      exact L2.Paired.mapP p1 fun x y o => stab _ _ _ x y (w1.ky k4) o
  · rw [List.take_length] at p1
    exact k ys H1 (w.low w1 fun b hb => .inl hb) k1 nM e1 (L2.Paired.mapP p1 fun x y o => anti _ _ _ x y (fun b hb => .inl hb) o)
theorem lc_walk {Qd : Hp → Prop} {J : It} {Gd : Hp → Prop} {Y : Nat → Hp → V → Hp → Prop} {tt : TT} {te : TE} {keep : α → Bool} {Out : Vol → α → V → Hp → Prop} (stab : ∀ M A B x y, Kx M A B → Out M x y A → Out M x y B) (anti : ∀ (M M' : Vol) A x y, (∀ b, M b → M' b) → Out M' x y A → Out M x y A)
    (W : L2.Walk J xs.length Gd Y) (hG : ∀ H', Ky ts st ca H H' → Gd H') (hY : ∀ i H1 x H2, i < xs.length → Y i H1 x H2 → H2 = H1 ∧ (xs.map f)[i]? = some x) (w : Wd ts st ca M H) (hD : H D = none) (hl : xs.length < sizeLine)
    (step : ∀ x ∈ xs, ∀ H1, Wd ts st ca (addV M D) H1 → Ky ts st ca H H1 → ∀ (Qk : VK) (F : Hp → Prop), (keep x = true → ∀ y H2, Wd ts st ca (addV M D) H2 → Ky ts st ca H1 H2 → Out (addV M D) x y H2 → Qk y H2) → (keep x = false → ∀ H2, Wd ts st ca (addV M D) H2 → Ky ts st ca H1 H2 → F H2) →
      g (f x) (wipe σ vs) H1 fun σ2 H2 => wipe σ2 vs = wipe σ vs ∧ tt σ2 H2 fun b H3 => if b = true then te σ2 H3 Qk else F H3)
    (k : ∀ ys H1, Wd ts st ca M H1 → Ky ts st ca H H1 → ¬ M D → H1 D = some (.lst ys) → Paired (fun x y => Out M x y H1) (xs.filter keep) ys → Qd H1) :
    ∃ W : Nat → Nat → Hp → Prop, (∃ m, W 0 m (upd H D (.lst []))) ∧ ∀ i m H, W i m H →
      (J.stop i H ∧ Qd H) ∨ (J.go i H ∧ ∃ Nx : Hp → Prop, (∀ H', Nx H' → ∃ m', m' < m ∧ W (i + 1) m' H') ∧ ∀ x H', J.yld i H x H' → g x (wipe σ vs) H' fun σ2 H2 => wipe σ2 vs = wipe σ vs ∧ tt σ2 H2 fun b H3 =>
        if b = true then te σ2 H3 fun y H4 => ∃ acc, H4 D = some (.lst acc) ∧ acc.length < sizeLine ∧ Nx (upd H4 D (.lst (acc ++ [y]))) else Nx H3) :=
  lc_walkD stab anti W hG hY w hD hl (fun x hx H1 w1 k1 _ => step x hx H1 w1 k1) k
/-- a walk of a list, of a tuple that stands -/
theorem hG_lst (w : Wd ts st ca M H) (h : LstL K M H a (xs.map f)) : ∀ H', Ky ts st ca H H' → SqL K H' a (xs.map f) := fun H' k => (h.kx (w.ky k)).2
theorem hG_tup (w : Wd ts st ca M H) (h : TupL K M H a (xs.map f)) : ∀ H', Ky ts st ca H H' → SqT K H' a (xs.map f) := fun H' k => (h.kx (w.ky k)).2
theorem walk_l : L2.Walk (Itl K a) xs.length (fun H => SqL K H a (xs.map f)) (YAt (xs.map f)) := by
  have := walk_list (K := K) (a := a) (xs := xs.map f)
  rw [List.length_map] at this
  exact this
theorem walk_t : L2.Walk (Itt K a) xs.length (fun H => SqT K H a (xs.map f)) (YAt (xs.map f)) := by
  have := walk_tup (K := K) (a := a) (xs := xs.map f)
  rw [List.length_map] at this
  exact this
theorem hY_at : ∀ i H1 x H2, i < xs.length → YAt (xs.map f) i H1 x H2 → H2 = H1 ∧ (xs.map f)[i]? = some x := fun _ _ _ _ _ h => h
end
end LC
set_option Elab.async false
set_option linter.all false
set_option maxRecDepth 100000
namespace LC
open PySem PySem.Spec PyProof.Rows L2 C8 GX
/-! rules with the written part said: within a comprehension or a generator expression -/
section
variable {X : Cx} {K : PySem.W.Frag}
theorem ixl (e : X.K = K) : IxR X (rIxL K) := by subst e; exact ix_list
theorem ixt (e : X.K = K) : IxR X (rIxT K) := by subst e; exact ix_tup
theorem opin (e : X.K = K) : OpR X (compareOp .In) (rIn K false) := by subst e; exact op_in_seq
theorem opnin (e : X.K = K) : OpR X (compareOp .NotIn) (rIn K true) := by subst e; exact op_notIn_seq
theorem opeqD (e : X.K = K) (hu : X.A.units + 64 < cLine) : OpR X (compareOp .Eq) (rEqD K) := by subst e; exact op_eqD hu
theorem opneD (e : X.K = K) (hu : X.A.units + 64 < cLine) : OpR X (compareOp .NotEq) (rNeD K) := by subst e; exact op_neD hu
theorem pgtup {es : List Expr} {k : Nat} {t : TGs} {n : Nat} {pos : Pos} (e : X.K = K) (hc : X.calm = true) (h : PGs X es t)
    (hn : (assignEach es X.env).length = n := by rfl) (hst : (assignEach es X.env).findIdx? (·.1) = none := by rfl) : PG X (.Tuple es k pos) (gTup K n t) := by subst e; exact pg_tup hc h hn hst
theorem pil {tg l : Expr} {tl : TE} (e : X.K = K) (hl : PE X l tl) : PI X tg l (iList K tl) := by subst e; exact pi_list hl
theorem pit {tg l : Expr} {tl : TE} (e : X.K = K) (hl : PE X l tl) : PI X tg l (iTup K tl) := by subst e; exact pi_tup hl
def rLenQ (K : PySem.W.Frag) : List V → Hp → VK → Prop := fun xs H Q => ∃ p ys, xs = [.ref p] ∧ (SqL K H p ys ∨ SqT K H p ys) ∧ Q (.int (List.length ys)) H
def rListQ (K : PySem.W.Frag) : List V → Hp → VK → Prop := fun xs H Q => ∃ p ys, xs = [.ref p] ∧ (SqL K H p ys ∨ SqT K H p ys) ∧ ∀ l, H l = none → Q (.ref l) (upd H l (.lst ys))
def rTupQ (K : PySem.W.Frag) : List V → Hp → VK → Prop := fun xs H Q => ∃ p ys, xs = [.ref p] ∧ ((SqL K H p ys ∧ ∀ l, H l = none → Q (.ref l) (upd H l (.tup ys))) ∨ (SqT K H p ys ∧ Q (.ref p) H))
theorem clen (e : X.K = K) : CallR X (.builtin "len") (rLenQ K) := by subst e; exact call_len_seq
theorem clist (e : X.K = K) : CallR X (.type "list") (rListQ K) := by subst e; exact call_list_of
theorem ctuple (e : X.K = K) : CallR X (.type "tuple") (rTupQ K) := by subst e; exact call_tuple_of
theorem call_ (e : X.K = K) (hc : X.calm = true) : CallR X (.builtin "all") (rAll K) := by subst e; exact cr_all hc
theorem cany_ (e : X.K = K) (hc : X.calm = true) : CallR X (.builtin "any") (rAny K) := by subst e; exact cr_any hc
theorem csum_ (e : X.K = K) (hc : X.calm = true) : CallR X (.builtin "sum") (rSum K) := by subst e; exact cr_sum hc
theorem cisi (e : X.K = K) : CallR X (.builtin "isinstance") (rIsi K) := by subst e; exact call_isi
theorem slL (e : X.K = K) : SlR X (rSlL K) := by subst e; exact sl_list
end
end LC
set_option Elab.async false
set_option linter.all false
set_option maxRecDepth 100000
namespace LC
open PySem PySem.Spec PyProof.Rows L2 C8 GX
/-! the draws of a law -/
def Keep2 (st c : Addr) (H H' : Hp) : Prop := ∀ b o, H b = some o → b ≠ st → b ≠ c → H' b = some o
theorem Keep2.refl {st c : Addr} (H : Hp) : Keep2 st c H H := fun _ _ h _ _ => h
theorem Keep2.put_st {st c : Addr} {H0 H : Hp} {o : HO} (h : Keep2 st c H0 H) : Keep2 st c H0 (upd H st o) := fun b u e n1 n2 => by rw [upd_ne n1]; exact h b u e n1 n2
theorem Keep2.put_c {st c : Addr} {H0 H : Hp} {o : HO} (h : Keep2 st c H0 H) : Keep2 st c H0 (upd H c o) := fun b u e n1 n2 => by rw [upd_ne n2]; exact h b u e n1 n2
theorem Wd.draw {ts : Tbs} {st c : Addr} {M : Vol} {H H' : Hp} (w : Wd ts st c M H) (s : StAt H' st c) (k : Keep2 st c H H') : Wd ts st c M H' ∧ Ky ts st c H H' := by
  obtain ⟨sd, kd, ns, h1, h2, _⟩ := w.stat
  have kx : ∀ b o, H b = some o → (∀ xs, o ≠ .lst xs) → H' b = some o := fun b o e n => k b o e (fun z => by rw [z, h1] at e; exact n _ (Option.some.inj e).symm) (fun z => by rw [z, h2] at e; exact n _ (Option.some.inj e).symm)
  refine ⟨⟨fun b hb => ?_, s, w.lst, w.lc, fun P hP => ?_, ?_⟩, ⟨fun b o n e _ => k b o e (fun z => n (.inl z)) (fun z => n (.inr z)), fun b o e => ?_⟩⟩
  · by_cases e1 : b = st
    · obtain ⟨sd, kd, ns, h1, _⟩ := s
      exact .inl ⟨_, by rw [e1]; exact h1, rfl⟩
    · by_cases e2 : b = c
      · obtain ⟨sd, kd, ns, _, h2, _⟩ := s
        exact .inl ⟨_, by rw [e2]; exact h2, rfl⟩
      · rcases w.live b hb with ⟨o, e, t⟩ | z
        · exact .inl ⟨o, k b o e e1 e2, t⟩
        · exact .inr z
  · obtain ⟨ps, g1, g2⟩ := w.tab P hP
    exact ⟨ps, kx _ _ g1 (fun _ z => nomatch z), g2⟩
  · obtain ⟨ps, g1, g2, g3⟩ := w.tab1
    refine ⟨ps, kx _ _ g1 (fun _ z => nomatch z), g2, fun pos cv e => ?_⟩
    obtain ⟨c', P', e1, e2, e3, qs, e4, e5⟩ := g3 pos cv e
    exact ⟨c', P', e1, kx _ _ e2 (fun _ z => nomatch z), e3, qs, kx _ _ e4 (fun _ z => nomatch z), e5⟩
  · by_cases e1 : b = st
    · obtain ⟨sd, kd, ns, h1, _⟩ := s
      exact ⟨_, by rw [e1]; exact h1⟩
    · by_cases e2 : b = c
      · obtain ⟨sd, kd, ns, _, h2, _⟩ := s
        exact ⟨_, by rw [e2]; exact h2⟩
      · exact ⟨o, k b o e e1 e2⟩
def spState (K : PySem.W.Frag) (_ts : Tbs) : Sp := fun vs H Q _ => ∃ (a : Addr) (ns : List Int), vs = [.ref a] ∧ SqL K H a (ns.map V.int) ∧ ns.length ≤ 63 ∧ ∀ st c H', Same H H' → H st = none → H c = none → StAt H' st c → Q (.ref st) H'
def spDraw (_K : PySem.W.Frag) (ts : Tbs) : Sp := fun vs H Q _ => ∃ (st ca : Addr) (M : Vol) (many : Int), vs = [.ref st, .int many] ∧ 0 < many ∧ many < 1073741824 ∧ Wd ts st ca M H ∧ ∀ (d : Int) H', 0 ≤ d → d < many → Wd ts st ca M H' → Ky ts st ca H H' → Q (.int d) H'
theorem ixN0 {n : Nat} (h : 0 < n) : ixN n 0 = some 0 := by
  unfold ixN; rw [if_pos (by decide), if_pos (by omega)]; rfl
theorem map_int_at {ns : List Int} {i : Nat} {x : V} (h : (ns.map V.int)[i]? = some x) : ∃ z, x = .int z := by
  rw [List.getElem?_map] at h
  obtain ⟨z, _, e⟩ := Option.map_eq_some_iff.mp h
  exact ⟨z, e.symm⟩
theorem at0 {α : Type} {x : α} {r : List α} : atI (x :: r) 0 = some x := atI_nat (j := 0) rfl
theorem at1 {α : Type} {x y : α} {r : List α} : atI (x :: y :: r) 1 = some y := atI_nat (j := 1) rfl
theorem at2 {α : Type} {x y z : α} {r : List α} : atI (x :: y :: z :: r) 2 = some z := atI_nat (j := 2) rfl
theorem two : 2 ≤ sizeLine := by decide
theorem three : 3 ≤ sizeLine := by decide
theorem four : 4 ≤ sizeLine := by decide
theorem same_new {H : Hp} {p : Addr} {o : HO} (h : H p = none) : Same H (upd H p o) := fun b u e => by rw [upd_ne (ne_of_none e h)]; exact e
theorem same_put {H0 H : Hp} {p : Addr} {o : HO} (s : Same H0 H) (h : H0 p = none) : Same H0 (upd H p o) := fun b u e => by rw [upd_ne (ne_of_none e h)]; exact s b u e
end LC
set_option Elab.async false
set_option linter.all false
set_option maxRecDepth 100000
namespace LC
open PySem PySem.Spec PyProof.Rows L2 C8 GX
section
variable {K : PySem.W.Frag} {ts : Tbs} {st ca a D : Addr} {M : Vol} {H : Hp} {α : Type} {xs : List α} {f : α → V} {g : TG} {vs : List Nat} {σ : L2.St} {Q : VK}
theorem paired_map {val : α → V} : ∀ {zs : List α} {ys : List V}, Paired (fun x y => y = val x) zs ys → ys = zs.map val
  | _, _, .nil => rfl
  | _, _, .cons r t => by rw [r, paired_map t]; rfl
/-- a comprehension whose items are values by themselves -/
theorem lc_val {Qd : Hp → Prop} {J : It} {Gd : Hp → Prop} {Y : Nat → Hp → V → Hp → Prop} {tt : TT} {te : TE} {keep : α → Bool} {val : α → V}
    (W : L2.Walk J xs.length Gd Y) (hG : ∀ H', Ky ts st ca H H' → Gd H') (hY : ∀ i H1 x H2, i < xs.length → Y i H1 x H2 → H2 = H1 ∧ (xs.map f)[i]? = some x) (w : Wd ts st ca M H) (hD : H D = none) (hl : xs.length < sizeLine)
    (step : ∀ x ∈ xs, ∀ H1, Wd ts st ca (addV M D) H1 → Ky ts st ca H H1 → ∀ (Qk : VK) (F : Hp → Prop), (keep x = true → ∀ H2, Wd ts st ca (addV M D) H2 → Ky ts st ca H1 H2 → Qk (val x) H2) → (keep x = false → ∀ H2, Wd ts st ca (addV M D) H2 → Ky ts st ca H1 H2 → F H2) →
      g (f x) (wipe σ vs) H1 fun σ2 H2 => wipe σ2 vs = wipe σ vs ∧ tt σ2 H2 fun b H3 => if b = true then te σ2 H3 Qk else F H3)
    (k : ∀ H1, Wd ts st ca M H1 → Ky ts st ca H H1 → ¬ M D → H1 D = some (.lst ((xs.filter keep).map val)) → Qd H1) :
    ∃ W : Nat → Nat → Hp → Prop, (∃ m, W 0 m (upd H D (.lst []))) ∧ ∀ i m H, W i m H →
      (J.stop i H ∧ Qd H) ∨ (J.go i H ∧ ∃ Nx : Hp → Prop, (∀ H', Nx H' → ∃ m', m' < m ∧ W (i + 1) m' H') ∧ ∀ x H', J.yld i H x H' → g x (wipe σ vs) H' fun σ2 H2 => wipe σ2 vs = wipe σ vs ∧ tt σ2 H2 fun b H3 =>
        if b = true then te σ2 H3 fun y H4 => ∃ acc, H4 D = some (.lst acc) ∧ acc.length < sizeLine ∧ Nx (upd H4 D (.lst (acc ++ [y]))) else Nx H3) :=
  lc_walk (keep := keep) (Out := fun _ x y _ => y = val x) (fun _ _ _ _ _ _ h => h) (fun _ _ _ _ _ _ h => h) W hG hY w hD hl
    (fun x hx H1 w1 k1 Qk F h1 h2 => step x hx H1 w1 k1 Qk F (fun e H2 w2 k2 => h1 e _ H2 w2 k2 rfl) h2) (fun ys H1 w1 k1 n e p => k H1 w1 k1 n (by rw [e, paired_map p]))
/-- a range as a list of turns -/
theorem walk_r {n : Nat} : L2.Walk (Itr 0 n) (List.range n).length (fun _ => True) (YFn fun i => .int (0 + (i : Nat))) := by
  rw [List.length_range]; exact walk_range
theorem hY_r {n : Nat} : ∀ i H1 x H2, i < (List.range n).length → YFn (fun i => V.int (0 + (i : Nat))) i H1 x H2 → H2 = H1 ∧ ((List.range n).map fun i => V.int (0 + (i : Nat)))[i]? = some x := fun i H1 x H2 hi h => by
  rw [List.length_range] at hi
  refine ⟨h.1, ?_⟩
  rw [List.getElem?_map, List.getElem?_range hi, h.2]; rfl
end
theorem cond_true {p : Prop} [Decidable p] (h : p) : decide p = true := decide_eq_true h
theorem filt_true {α : Type} : ∀ {xs : List α}, (xs.filter fun _ => true) = xs := by intro xs; simp
end LC
set_option Elab.async false
set_option linter.all false
set_option maxRecDepth 100000
namespace LC
open PySem PySem.Spec PyProof.Rows L2 C8 GX
/-! the end of a law with tables -/
theorem walkT {l : PySem.W.OpenLaw} {n k : Nat} {q : Program} {loose : List Str} {XP : (Str → Option Value) → Heap → Prop} {YP : World → Heap → Prop} {d : DefRec} {K : Params → PySem.W.Frag} {x : Str}
    (hn : l.most = some n) (hn2 : n ≤ sizeLine) (hdf : d.params.defaults = []) (hr : Room k callerA) (hY : ∀ (w : World) (h : Heap), YP w h → (K w.params).In h)
    (F : ∀ (w : World) (mg mb : Str → Option Value) (fa : Addr) (h : Heap), (∃ loose mean, Top q loose mean mg mb h) → (K w.params).In h → h.Ns mainGlobals mg → mg d.name = some (.ref fa) → LamX.LawAtS l w (K w.params) C8.CX0 k n x mg fa h) :
    PySem.W.WalkO q loose XP YP l.row.toRowW d [] (fun f vs => PySem.call f vs) := by
  refine Att.attach_callB hn hdf fun w s₀ s₁ mg mb fa o pm cd doc a vs ns G Y ho hd hcd hmg hobj hints hlen hbits hg => ?_
  have KX := hY w _ Y
  obtain ⟨fd, cs, sp, hT, nT, C, hb, hsp, hF⟩ := F w mg mb fa _ ⟨_, _, G.T⟩ KX G.T.g hmg
  exact LamX.law_callTs KX G.T.g G.T.b G.T.builtins G.T.nolimit hg hT nT C G.T.bmain hobj hints (Nat.le_trans hlen hn2) hr hF hb (fun H hH hS => hsp H a ns hlen hbits hH hS) fun H e s' z => z
theorem recs_of {q : Program} {x : Str} (h : ((recsOf q).find? fun e => e.name == x).isSome = true) : ∃ d, (recsOf q).find? (fun e => e.name == x) = some d := Option.isSome_iff_exists.mp h
theorem tab_mk {K : PySem.W.Frag} {x : Str} {f c P : Addr} {oc oc2 : Value} {od od2 : Option Addr} {fd : FuncData} {osl osl2 : Array (Option Value)} {vs : Array Value}
    (a : PySem.W.nsIn K mainGlobals x = some (some (.ref f))) (l : K.lookup f = some ⟨oc, od, .func fd, osl⟩) (e : fd.code = .ref c) (lc : K.lookup c = some ⟨oc2, od2, .fields vs, osl2⟩) (v : (vs[11]? : Option Value) = some (.ref P)) :
    PySem.W.tabIn K x = some (c, P) := by
  unfold PySem.W.tabIn
  rw [a]
  simp only [l, e, lc, v]
end LC
set_option Elab.async false
set_option linter.all false
set_option maxRecDepth 100000
set_option maxHeartbeats 2000000
namespace LC
open PySem PySem.Spec PyProof.Rows L2 C8 GX
/-! d.setdefault(k, x) -/
section
variable {X : Cx} {pins : List (Addr × Obj)} {σ : L2.St} {H : Hp} {s : Shared} {a : Addr} {kvs : List (Key × V)} {k : Key} {u r : Value} {z : V} {A : Around} {E : Value → Shared → Prop}
theorem d_setdef {Q : Value → Shared → Prop} (I : Inv X pins σ H s) (e : H a = some (.dK kvs)) (ry : RelV (kV k) u) (rz : RelV z r) (hlt : kvs.length < sizeLine)
    (h1 : ∀ v w' s', valV kvs k = some v → Inv X pins σ H s' → RelV v w' → Q w' s') (h2 : ∀ s', valV kvs k = none → Inv X pins σ (upd H a (.dK (putK kvs k z))) s' → Q r s') :
    wpAny (model X.prog X.w) A (call (.builtin "dict.setdefault") [.ref a, u, r]) Q E s := by
  obtain ⟨zl, hd, vs, rel, dd⟩ := dk_of I.hok e
  have hz : vs.length ≤ sizeLine := by rw [← rel.length]; exact zl
  have hl : (putK kvs k z).length ≤ sizeLine := by have := length_putK kvs k z; omega
  refine call_meetsIn PySem.F.slot_dict_setdefault dd.typeIs PySem.F.entry_dict_setdefault (PySem.F.args_dict_setdefault_3 _ _ _) (kt_meets_setdefault (mixKind X.prog X.w) a (kV_is ry) hd r) ⟨vs, dd, hz, fun v hv => ?_, fun hn h' dd' hs => ?_⟩
  · cases l : valV kvs k with
    | none =>
      have hn : valueAt vs k = none := RelO.none_of (by rw [← l]; exact rel.val k)
      rw [hn] at hv; cases hv
    | some x =>
      obtain ⟨w', hw, rw'⟩ := RelO.some_of (v := x) (o := valueAt vs k) (by rw [← l]; exact rel.val k)
      rw [hw] at hv; cases hv
      exact h1 x _ _ l (I.tok _) rw'
  · have l : valV kvs k = none := by
      cases l : valV kvs k with
      | none => rfl
      | some x =>
        obtain ⟨w', hw, _⟩ := RelO.some_of (v := x) (o := valueAt vs k) (by rw [← l]; exact rel.val k)
        rw [hw] at hn; cases hn
    refine h2 _ l ?_
    have he : ∃ q, h'.get? a = some q := let ⟨q, _, _, hq, _⟩ := dd'; ⟨q, hq⟩
    exact d_write I (by rw [e]; exact True.intro) hs he (dk_new hl hd (rel.put k rz) dd')
end
def tDSet (td ty tx : TE) : TE := fun σ H Q => td σ H fun x H1 => ∃ a, x = .ref a ∧ IsD H1 a ∧ ty σ H1 fun y H2 => tx σ H2 fun z H3 => ∃ kvs k, H3 a = some (.dK kvs) ∧ y = kV k ∧ kvs.length < sizeLine ∧ (∀ v, valV kvs k = some v → Q v H3) ∧ (valV kvs k = none → Q z (upd H3 a (.dK (putK kvs k z))))
theorem pe_dsetdef {X : Cx} {o e f : Expr} {apos cpos : Pos} {td ty tx : TE} (ho : PE X o td) (he : PE X e ty) (hf : PE X f tx) (m : M2 X o "setdefault" apos e f cpos) : PE X (.Call (.Attribute o "setdefault" apos) [e, f] [] cpos) (tDSet td ty tx) := by
  refine ⟨fun pins s σ H Q I h => ?_⟩
  refine wpAny_Call_method m.base m.few m.line PySem.F.plainAttrs_dict PySem.F.slot_dict_setdefault PySem.F.type_dict_setdefault (thn (ho.run pins s σ H _ I h) fun u s1 ⟨x, H1, I1, rx, a, ex, d, q1⟩ => ?_)
  subst ex
  obtain rfl : u = Value.ref a := rx
  obtain ⟨t1, t2, _⟩ := isD_at I1 d
  refine ⟨t1, t2, ?_⟩
  rw [m.trees]
  refine Calls.callWith_builtin rfl (Calls.evalArgs_plain (Calls.spliced_cons (thn (he.run pins s1 σ H1 _ I1 q1) fun iv s2 ⟨y, H2, I2, ry, q2⟩ =>
    Calls.spliced_cons (thn (hf.run pins s2 σ H2 _ I2 q2) fun fv s3 ⟨z, H3, I3, rz, kvs, k, ea, ey, hlt, q3, q4⟩ => Calls.spliced_nil ?_))))
  subst ey
  exact d_setdef I3 ea ry rz hlt (fun v w' s4 l I4 rw' => ⟨v, _, I4, rw', q3 v l⟩) fun s4 l I4 => ⟨z, _, I4, rz, q4 l⟩
theorem u1 {X : Cx} (h : X.A.units + 64 < cLine) : X.A.units + 1 < cLine := by omega
/-- the key of an atom -/
abbrev kN (a : Nat) : Key := .inl (a : Int)
theorem kN_inj {a b : Nat} (h : kN a = kN b) : a = b := by
  have := Sum.inl.inj h
  omega
theorem val_some {kvs : List (Key × V)} {k : Key} : (valV kvs k).isSome = true ↔ k ∈ kvs.map (·.1) := by
  rw [← valV_any, List.any_eq_true]
  constructor
  · rintro ⟨x, hx, e⟩
    exact List.mem_map.mpr ⟨x, hx, of_decide_eq_true e⟩
  · intro h
    obtain ⟨x, hx, e⟩ := List.mem_map.mp h
    exact ⟨x, hx, decide_eq_true e⟩
/-- a dict whose keys are these atoms -/
def KeysAt (H : Hp) (d : Addr) (cs : List Nat) : Prop := ∃ kvs : List (Key × V), H d = some (.dK kvs) ∧ ∀ a, (valV kvs (kN a)).isSome = decide (a ∈ cs)
theorem keys_val {kvs : List (Key × V)} {cs : List Nat} (hk : kvs.map (·.1) = cs.map kN) (a : Nat) : (valV kvs (kN a)).isSome = decide (a ∈ cs) := by
  have h1 : (valV kvs (kN a)).isSome = true ↔ a ∈ cs := by
    rw [val_some, hk, List.mem_map]
    exact ⟨fun ⟨x, hx, z⟩ => by rw [← kN_inj z]; exact hx, fun z => ⟨a, z, rfl⟩⟩
  by_cases hm : a ∈ cs
  · rw [decide_eq_true hm]; exact h1.mpr hm
  · rw [decide_eq_false hm]
    exact Bool.eq_false_iff.mpr fun z => hm (h1.mp z)
theorem keysAt_of {H : Hp} {d : Addr} {kvs : List (Key × V)} {cs : List Nat} (e : H d = some (.dK kvs)) (hk : kvs.map (·.1) = cs.map kN) : KeysAt H d cs := ⟨kvs, e, keys_val hk⟩
theorem KeysAt.get {H : Hp} {d : Addr} {cs : List Nat} (h : KeysAt H d cs) (a : Nat) : ∃ o, DGet H d (.int (a : Int)) o ∧ o.isSome = decide (a ∈ cs) := by
  obtain ⟨kvs, e, hk⟩ := h
  exact ⟨_, DGet.k (k := kN a) e, hk a⟩
def DctL (M : Vol) (H : Hp) (d : Addr) (cs : List Nat) : Prop := ¬ M d ∧ KeysAt H d cs
theorem DctL.kx {M : Vol} {H H' : Hp} {d : Addr} {cs : List Nat} (h : DctL M H d cs) (k : Kx M H H') : DctL M H' d cs := by
  obtain ⟨n, kvs, e, hk⟩ := h
  exact ⟨n, kvs, k.keep _ _ n e, hk⟩
theorem keys_put {kvs : List (Key × V)} {k : Key} {v : V} (h : k ∉ kvs.map (·.1)) : (putK kvs k v).map (·.1) = kvs.map (·.1) ++ [k] := by
  rw [putK_new v (by
    cases e : valV kvs k with
    | none => rfl
    | some x => exact absurd (val_some.mp (by rw [e]; rfl)) h), List.map_append]; rfl
theorem keys_same {kvs : List (Key × V)} {k : Key} {v : V} (h : k ∈ kvs.map (·.1)) : (putK kvs k v).map (·.1) = kvs.map (·.1) := by
  unfold putK
  rw [if_pos (by rw [valV_any]; exact val_some.mpr h), List.map_map]
  refine List.map_congr_left fun x _ => ?_
  show (if x.1 = k then (x.1, v) else x).1 = x.1
  split <;> rfl
/-- a dict comprehension whose keys are atoms and whose values are True -/
theorem dc_atoms {ts : Tbs} {st ca D : Addr} {M : Vol} {H : Hp} {xs : List Nat} {f : Nat → V} {g : TG} {vs : List Nat} {σ : L2.St} {Qd : Hp → Prop} {J : It} {Gd : Hp → Prop} {Y : Nat → Hp → V → Hp → Prop} {tt : TT} {tk tv : TE}
    (W : L2.Walk J xs.length Gd Y) (hG : ∀ H', Ky ts st ca H H' → Gd H') (hY : ∀ i H1 x H2, i < xs.length → Y i H1 x H2 → H2 = H1 ∧ (xs.map f)[i]? = some x) (w : Wd ts st ca M H) (hD : H D = none) (hl : xs.length < sizeLine)
    (step : ∀ x ∈ xs, ∀ (H1 : Hp) (kvs : List (Key × V)) (N : Hp → Prop), H1 D = some (.dK kvs) → kvs.length < sizeLine → N (upd H1 D (.dK (putK kvs (kN x) (.bl true)))) →
      g (f x) (wipe σ vs) H1 fun σ2 H2 => wipe σ2 vs = wipe σ vs ∧ tt σ2 H2 fun b H3 => if b = true then tk σ2 H3 fun y H4 => tv σ2 H4 fun z H5 => ∃ kvs k, y = kV k ∧ H5 D = some (.dK kvs) ∧ kvs.length < sizeLine ∧ N (upd H5 D (.dK (putK kvs k z))) else N H3)
    (k : ∀ (H1 : Hp) (kvs : List (Key × V)) (ds : List Nat), Wd ts st ca M H1 → Ky ts st ca H H1 → ¬ M D → H1 D = some (.dK kvs) → kvs.map (·.1) = ds.map kN → (∀ a, a ∈ ds ↔ a ∈ xs) → ds.length ≤ xs.length → Qd H1) :
    ∃ W : Nat → Nat → Hp → Prop, (∃ m, W 0 m (upd H D (.dK []))) ∧ ∀ i m H, W i m H →
      (J.stop i H ∧ Qd H) ∨ (J.go i H ∧ ∃ Nx : Hp → Prop, (∀ H', Nx H' → ∃ m', m' < m ∧ W (i + 1) m' H') ∧ ∀ x H', J.yld i H x H' → g x (wipe σ vs) H' fun σ2 H2 => wipe σ2 vs = wipe σ vs ∧ tt σ2 H2 fun b H3 =>
        if b = true then tk σ2 H3 fun y H4 => tv σ2 H4 fun z H5 => ∃ kvs k, y = kV k ∧ H5 D = some (.dK kvs) ∧ kvs.length < sizeLine ∧ Nx (upd H5 D (.dK (putK kvs k z))) else Nx H3) := by
  have nM := w.fresh hD
  have nL := w.nl nM
  let Pv : Nat → Hp → Prop := fun i H1 => Wd ts st ca M H1 ∧ Ky ts st ca H H1 ∧ ∃ (kvs : List (Key × V)) (ds : List Nat), H1 D = some (.dK kvs) ∧ kvs.map (·.1) = ds.map kN ∧ (∀ a, a ∈ ds ↔ a ∈ xs.take i) ∧ ds.length ≤ i
  refine ⟨fun i m H1 => m = xs.length - i ∧ i ≤ xs.length ∧ Pv i H1, ⟨xs.length, by simp, Nat.zero_le _, w.new hD, Kx.new hD, [], [], upd_same, rfl, by simp, Nat.zero_le _⟩, ?_⟩
  rintro i m H1 ⟨rfl, hi, w1, k1, kvs, ds, e1, e2, e3, e4⟩
  have q := hG H1 k1
  by_cases hlt : i < xs.length
  · refine .inr ⟨W.goes i H1 hlt q, Pv (i + 1), fun H' p' => ⟨xs.length - (i + 1), by omega, rfl, hlt, p'⟩, fun x H' y => ?_⟩
    obtain ⟨rfl, hx⟩ := hY i H1 x H' hlt (W.yields i H1 x H' hlt q y)
    rw [List.getElem?_map] at hx
    obtain ⟨z, hz, rfl⟩ := Option.map_eq_some_iff.mp hx
    have hlen : kvs.length = ds.length := by
      have := congrArg List.length e2
      rwa [List.length_map, List.length_map] at this
    refine step z (List.mem_of_getElem? hz) H' kvs (Pv (i + 1)) e1 (by omega) ?_
    refine ⟨w1.wr nL e1, ⟨fun b o nb e t => ?_, fun b o e => ?_⟩, ?_⟩
    · rw [upd_ne (ne_of_none e hD)]; exact k1.keep b o nb e t
    · obtain ⟨u, e⟩ := k1.alive b o e
      exact alive_upd e
    · have tk : xs.take (i + 1) = xs.take i ++ [z] := by rw [List.take_add_one, hz]; rfl
      by_cases hm : z ∈ ds
      · refine ⟨_, ds, upd_same, ?_, fun a => ?_, by omega⟩
        · rw [keys_same (by rw [e2]; exact List.mem_map.mpr ⟨z, hm, rfl⟩), e2]
        · rw [tk, List.mem_append, ← e3 a, List.mem_singleton]
          exact ⟨.inl, fun h => h.elim id fun h => by rw [h]; exact hm⟩
      · refine ⟨_, ds ++ [z], upd_same, ?_, fun a => ?_, by rw [List.length_append, List.length_singleton]; omega⟩
        · rw [keys_put (fun h => by
            rw [e2] at h
            obtain ⟨a, ha, ea⟩ := List.mem_map.mp h
            rw [kN_inj ea] at ha
            exact hm ha), e2, List.map_append]; rfl
        · rw [tk, List.mem_append, List.mem_append, e3 a]
  · have e : i = xs.length := by omega
    subst e
    rw [List.take_length] at e3
    exact .inl ⟨W.stops H1 q, k H1 kvs ds w1 k1 nM e1 e2 e3 e4⟩
end LC
set_option Elab.async false
set_option maxRecDepth 100000
set_option maxHeartbeats 2000000
namespace SP
open PySem PySem.Spec PyProof.Rows L2 C8 GX LC
/-! rows, conditions, assignments: the data and the mathematics -/
structure Row where
  w : Int
  yes : List Nat
  no : List Nat
inductive Cond where
  | yes (a : Nat) | no (a : Nat) | least (k : Int) (rows : List Row) | below (k : Int) (rows : List Row)
def vN (n : Nat) : V := .int n
structure Row.Ok (n : Nat) (r : Row) : Prop where
  w0 : 0 ≤ r.w
  w1 : r.w ≤ 1000
  ys : ∀ a ∈ r.yes, a < n
  ns : ∀ a ∈ r.no, a < n
  yl : r.yes.length ≤ 100
  nl : r.no.length ≤ 100
def Cond.Ok (n : Nat) : Cond → Prop
  | .yes a => a < n
  | .no a => a < n
  | .least _ rows => rows.length ≤ 100 ∧ ∀ r ∈ rows, r.Ok n
  | .below _ rows => rows.length ≤ 100 ∧ ∀ r ∈ rows, r.Ok n
def RowAt (K : PySem.W.Frag) (M : Vol) (r : Row) (v : V) (H : Hp) : Prop := ∃ a y n, v = .ref a ∧ TupL K M H a [.int r.w, .ref y, .ref n] ∧ TupL K M H y (r.yes.map vN) ∧ TupL K M H n (r.no.map vN)
def RowsAt (K : PySem.W.Frag) (M : Vol) (rows : List Row) (q : Addr) (H : Hp) : Prop := ∃ zs : List (Row × V), LstL K M H q (zs.map Prod.snd) ∧ zs.map Prod.fst = rows ∧ ∀ z ∈ zs, RowAt K M z.1 z.2 H
def CondAt (K : PySem.W.Frag) (M : Vol) (c : Cond) (v : V) (H : Hp) : Prop := match c with
  | .yes a => ∃ p, v = .ref p ∧ TupL K M H p [.str "yes", .int a]
  | .no a => ∃ p, v = .ref p ∧ TupL K M H p [.str "no", .int a]
  | .least k rows => ∃ p q, v = .ref p ∧ TupL K M H p [.str "least", .int k, .ref q] ∧ RowsAt K M rows q H
  | .below k rows => ∃ p q, v = .ref p ∧ TupL K M H p [.str "below", .int k, .ref q] ∧ RowsAt K M rows q H
section
variable {K : PySem.W.Frag} {M M' : Vol} {A B : Hp}
theorem RowAt.kx {r : Row} {v : V} (h : RowAt K M r v A) (k : Kx M A B) : RowAt K M r v B := by
  obtain ⟨a, y, n, e, h1, h2, h3⟩ := h
  exact ⟨a, y, n, e, h1.kx k, h2.kx k, h3.kx k⟩
theorem RowAt.anti {r : Row} {v : V} (h : RowAt K M' r v A) (i : ∀ b, M b → M' b) : RowAt K M r v A := by
  obtain ⟨a, y, n, e, h1, h2, h3⟩ := h
  exact ⟨a, y, n, e, h1.anti i, h2.anti i, h3.anti i⟩
theorem RowsAt.kx {rs : List Row} {q : Addr} (h : RowsAt K M rs q A) (k : Kx M A B) : RowsAt K M rs q B := by
  obtain ⟨zs, h1, h2, h3⟩ := h
  exact ⟨zs, h1.kx k, h2, fun z hz => (h3 z hz).kx k⟩
theorem RowsAt.anti {rs : List Row} {q : Addr} (h : RowsAt K M' rs q A) (i : ∀ b, M b → M' b) : RowsAt K M rs q A := by
  obtain ⟨zs, h1, h2, h3⟩ := h
  exact ⟨zs, h1.anti i, h2, fun z hz => (h3 z hz).anti i⟩
theorem CondAt.kx {c : Cond} {v : V} (h : CondAt K M c v A) (k : Kx M A B) : CondAt K M c v B := by
  cases c with
  | yes a => obtain ⟨p, e, h1⟩ := h; exact ⟨p, e, h1.kx k⟩
  | no a => obtain ⟨p, e, h1⟩ := h; exact ⟨p, e, h1.kx k⟩
  | least a rs => obtain ⟨p, q, e, h1, h2⟩ := h; exact ⟨p, q, e, h1.kx k, h2.kx k⟩
  | below a rs => obtain ⟨p, q, e, h1, h2⟩ := h; exact ⟨p, q, e, h1.kx k, h2.kx k⟩
theorem CondAt.anti {c : Cond} {v : V} (h : CondAt K M' c v A) (i : ∀ b, M b → M' b) : CondAt K M c v A := by
  cases c with
  | yes a => obtain ⟨p, e, h1⟩ := h; exact ⟨p, e, h1.anti i⟩
  | no a => obtain ⟨p, e, h1⟩ := h; exact ⟨p, e, h1.anti i⟩
  | least a rs => obtain ⟨p, q, e, h1, h2⟩ := h; exact ⟨p, q, e, h1.anti i, h2.anti i⟩
  | below a rs => obtain ⟨p, q, e, h1, h2⟩ := h; exact ⟨p, q, e, h1.anti i, h2.anti i⟩
theorem zipP {α : Type} {F : α → V → Prop} : ∀ {xs : List α} {vs : List V}, Paired F xs vs → ∃ zs : List (α × V), zs.map Prod.fst = xs ∧ zs.map Prod.snd = vs ∧ ∀ z ∈ zs, F z.1 z.2
  | _, _, .nil => ⟨[], rfl, rfl, fun z h => by cases h⟩
  | _, _, .cons (a := a) (b := b) r t => by
    obtain ⟨zs, h1, h2, h3⟩ := zipP t
    refine ⟨(a, b) :: zs, by rw [List.map_cons, h1], by rw [List.map_cons, h2], fun z hz => ?_⟩
    rcases List.mem_cons.mp hz with e | e
    · rw [e]; exact r
    · exact h3 z e
end
/-! the mathematics -/
abbrev Vls := List (Option Bool)
def gv (vals : Vls) (a : Nat) : Option Bool := vals.getD a none
def sc (vals : Vls) (r : Row) : Bool := r.yes.all (fun a => decide (gv vals a = some true)) && r.no.all fun a => decide (gv vals a = some false)
def mc (vals : Vls) (r : Row) : Bool := r.yes.all (fun a => !decide (gv vals a = some false)) && r.no.all fun a => !decide (gv vals a = some true)
def sW (vals : Vls) (rows : List Row) : Int := sumOf (sc vals) Row.w rows
def gW (vals : Vls) (rows : List Row) : Int := sumOf (mc vals) Row.w rows
def sh (vals : Vls) : Cond → Bool
  | .yes a => decide (gv vals a = some true)
  | .no a => decide (gv vals a = some false)
  | .least k rows => decide (k ≤ sW vals rows)
  | .below k rows => decide (gW vals rows < k)
def sf (vals : Vls) : Cond → Bool
  | .yes a => decide (gv vals a = some false)
  | .no a => decide (gv vals a = some true)
  | .least k rows => decide (gW vals rows < k)
  | .below k rows => decide (k ≤ sW vals rows)
/-- a row counts with its yes atoms among ys, its no atoms outside cand -/
def rc (ys cand : List Nat) (r : Row) : Bool := r.yes.all (fun a => decide (a ∈ ys)) && r.no.all fun a => !decide (a ∈ cand)
def wt (ys cand : List Nat) (rows : List Row) : Int := sumOf (rc ys cand) Row.w rows
def met (ys cand : List Nat) : Cond → Bool
  | .yes a => decide (a ∈ ys)
  | .no a => !decide (a ∈ cand)
  | .least k rows => decide (k ≤ wt ys cand rows)
  | .below k rows => decide (wt cand cand rows < k)
def agrees (cand : List Nat) (vals : Vls) : Prop := ∀ a b, gv vals a = some b → decide (a ∈ cand) = b
theorem sumOf_mono {f g : Row → Bool} : ∀ {rows : List Row}, (∀ r ∈ rows, 0 ≤ r.w) → (∀ r ∈ rows, f r = true → g r = true) → sumOf f Row.w rows ≤ sumOf g Row.w rows
  | [], _, _ => Int.le_refl _
  | r :: rs, h0, h => by
    have ih := sumOf_mono (f := f) (g := g) (rows := rs) (fun x hx => h0 x (List.mem_cons_of_mem _ hx)) fun x hx => h x (List.mem_cons_of_mem _ hx)
    have h1 := h0 r List.mem_cons_self
    have h2 := h r List.mem_cons_self
    unfold sumOf at ih ⊢
    simp only [List.filter_cons]
    cases hf : f r
    · cases hg : g r
      · simpa using ih
      · simp only [Bool.false_eq_true, if_false, if_true, List.map_cons, List.sum_cons]; omega
    · rw [h2 hf]
      simp only [if_true, List.map_cons, List.sum_cons]; omega
theorem sc_rc {vals : Vls} {cand : List Nat} (ag : agrees cand vals) {r : Row} (h : sc vals r = true) : rc cand cand r = true := by
  unfold sc at h; unfold rc
  rw [Bool.and_eq_true, List.all_eq_true, List.all_eq_true] at h ⊢
  refine ⟨fun a ha => ?_, fun a ha => ?_⟩
  · have := h.1 a ha; rw [decide_eq_true_eq] at this
    exact ag a _ this
  · have := h.2 a ha; rw [decide_eq_true_eq] at this
    rw [ag a _ this]; rfl
theorem rc_mc {vals : Vls} {cand : List Nat} (ag : agrees cand vals) {r : Row} (h : rc cand cand r = true) : mc vals r = true := by
  unfold rc at h; unfold mc
  rw [Bool.and_eq_true, List.all_eq_true, List.all_eq_true] at h ⊢
  refine ⟨fun a ha => ?_, fun a ha => ?_⟩
  · have := h.1 a ha
    rw [Bool.not_eq_true', decide_eq_false_iff_not]
    intro z
    rw [ag a _ z] at this; cases this
  · have := h.2 a ha
    rw [Bool.not_eq_true', decide_eq_false_iff_not]
    intro z
    rw [ag a _ z] at this; cases this
theorem sh_met {vals : Vls} {cand : List Nat} {n : Nat} (ag : agrees cand vals) {c : Cond} (ok : c.Ok n) (h : sh vals c = true) : met cand cand c = true := by
  cases c with
  | yes a => simp only [sh, decide_eq_true_eq] at h; simp only [met]; exact ag a _ h
  | no a => simp only [sh, decide_eq_true_eq] at h; simp only [met]; rw [ag a _ h]; rfl
  | least k rows =>
    simp only [sh, decide_eq_true_eq] at h; simp only [met]; rw [decide_eq_true_eq]
    exact Int.le_trans h (sumOf_mono (fun r hr => (ok.2 r hr).w0) fun r _ => sc_rc ag)
  | below k rows =>
    simp only [sh, decide_eq_true_eq] at h; simp only [met]; rw [decide_eq_true_eq]
    exact Int.lt_of_le_of_lt (sumOf_mono (fun r hr => (ok.2 r hr).w0) fun r _ => rc_mc ag) h
theorem sf_met {vals : Vls} {cand : List Nat} {n : Nat} (ag : agrees cand vals) {c : Cond} (ok : c.Ok n) (h : sf vals c = true) : met cand cand c = false := by
  cases c with
  | yes a => simp only [sf, decide_eq_true_eq] at h; simp only [met]; exact ag a _ h
  | no a => simp only [sf, decide_eq_true_eq] at h; simp only [met]; rw [ag a _ h]; rfl
  | least k rows =>
    simp only [sf, decide_eq_true_eq] at h; simp only [met]; rw [decide_eq_false_iff_not, Int.not_le]
    exact Int.lt_of_le_of_lt (sumOf_mono (fun r hr => (ok.2 r hr).w0) fun r _ => rc_mc ag) h
  | below k rows =>
    simp only [sf, decide_eq_true_eq] at h; simp only [met]; rw [decide_eq_false_iff_not, Int.not_lt]
    exact Int.le_trans h (sumOf_mono (fun r hr => (ok.2 r hr).w0) fun r _ => sc_rc ag)
theorem gv_some {vals : Vls} (h : none ∉ vals) {a : Nat} (ha : a < vals.length) : ∃ b, gv vals a = some b := by
  unfold gv
  rw [List.getD_eq_getElem?_getD, List.getElem?_eq_getElem ha, Option.getD_some]
  cases e : vals[a] with
  | none => exact absurd (by rw [← e]; exact List.getElem_mem ha) h
  | some b => exact ⟨b, rfl⟩
theorem all_congr {α : Type} {f g : α → Bool} : ∀ {xs : List α}, (∀ x ∈ xs, f x = g x) → xs.all f = xs.all g
  | [], _ => rfl
  | x :: r, h => by
    rw [List.all_cons, List.all_cons, h x List.mem_cons_self, all_congr fun y hy => h y (List.mem_cons_of_mem _ hy)]
theorem filter_eq {α : Type} {f g : α → Bool} : ∀ {xs : List α}, (∀ x ∈ xs, f x = g x) → xs.filter f = xs.filter g
  | [], _ => rfl
  | x :: r, h => by
    simp only [List.filter_cons, h x List.mem_cons_self, filter_eq fun y hy => h y (List.mem_cons_of_mem _ hy)]
theorem sc_mc {vals : Vls} (h : none ∉ vals) {r : Row} (ok : r.Ok vals.length) : sc vals r = mc vals r := by
  unfold sc mc
  congr 1
  · refine all_congr fun a ha => ?_
    obtain ⟨b, e⟩ := gv_some h (ok.ys a ha)
    rw [e]; cases b <;> rfl
  · refine all_congr fun a ha => ?_
    obtain ⟨b, e⟩ := gv_some h (ok.ns a ha)
    rw [e]; cases b <;> rfl
theorem sh_sf {vals : Vls} (h : none ∉ vals) {c : Cond} (ok : c.Ok vals.length) : sh vals c = !sf vals c := by
  have key : ∀ rows : List Row, (∀ r ∈ rows, r.Ok vals.length) → sW vals rows = gW vals rows := fun rows hr => by
    unfold sW gW sumOf
    rw [filter_eq fun r hr' => sc_mc h (hr r hr')]
  cases c with
  | yes a => obtain ⟨b, e⟩ := gv_some h ok; simp only [sh, sf]; rw [e]; cases b <;> rfl
  | no a => obtain ⟨b, e⟩ := gv_some h ok; simp only [sh, sf]; rw [e]; cases b <;> rfl
  | least k rows =>
    simp only [sh, sf]; rw [key rows ok.2]
    by_cases z : k ≤ gW vals rows
    · rw [decide_eq_true z, decide_eq_false (by omega)]; rfl
    · rw [decide_eq_false z, decide_eq_true (by omega)]; rfl
  | below k rows =>
    simp only [sh, sf]; rw [key rows ok.2]
    by_cases z : k ≤ gW vals rows
    · rw [decide_eq_true z, decide_eq_false (by omega)]; rfl
    · rw [decide_eq_false z, decide_eq_true (by omega)]; rfl
end SP
namespace SP
open PySem PySem.Spec PyProof.Rows L2 C8 GX LC
theorem sumOf_fst {f : Row → Bool} : ∀ {zs : List (Row × V)}, sumOf (fun z : Row × V => f z.1) (fun z => z.1.w) zs = sumOf f Row.w (zs.map Prod.fst)
  | [] => rfl
  | z :: r => by
    have ih := sumOf_fst (f := f) (zs := r)
    unfold sumOf at ih ⊢
    simp only [List.map_cons, List.filter_cons]
    cases f z.1 <;> simp [ih]
theorem at0' {α : Type} {x : α} {r : List α} : atI (x :: r) 0 = some x := atI_nat (j := 0) rfl
theorem at1' {α : Type} {x y : α} {r : List α} : atI (x :: y :: r) 1 = some y := atI_nat (j := 1) rfl
theorem at2' {α : Type} {x y z : α} {r : List α} : atI (x :: y :: z :: r) 2 = some z := atI_nat (j := 2) rfl
theorem str_eq (x y : Str) : decide (V.str x = V.str y) = decide (x = y) := by
  by_cases h : x = y
  · rw [h]; simp
  · rw [decide_eq_false h, decide_eq_false (fun z => h (V.str.inj z))]
end SP
namespace SP
open PySem PySem.Spec PyProof.Rows L2 C8 GX LC
theorem in_vN {a : Nat} : ∀ {ys : List Nat}, inV (.int (a : Int)) (ys.map vN) = decide (a ∈ ys)
  | [] => rfl
  | y :: r => by
    have ih := in_vN (a := a) (ys := r)
    unfold inV at ih ⊢
    rw [List.map_cons, List.any_cons, ih]
    have e : eqV (vN y) (.int (a : Int)) = decide (a = y) := by
      show ((y : Int) == (a : Int)) = decide (a = y)
      by_cases h : a = y
      · subst h; simp
      · rw [decide_eq_false h, beq_eq_false_iff_ne]; omega
    rw [e]
    by_cases h : a = y
    · subst h; simp
    · simp [h]
theorem flat_vN : ∀ {ys : List Nat}, (ys.map vN).all flatV = true
  | [] => rfl
  | y :: r => by rw [List.map_cons, List.all_cons, flat_vN]; rfl
end SP
namespace SP
open PySem PySem.Spec PyProof.Rows L2 C8 GX LC
theorem chooseP {α β : Type} {F : β → V → Prop} : ∀ {xs : List α} {ys : List V}, Paired (fun _ y => ∃ b, F b y) xs ys → ∃ zs : List (β × V), zs.map Prod.snd = ys ∧ zs.length = xs.length ∧ ∀ z ∈ zs, F z.1 z.2
  | _, _, .nil => ⟨[], rfl, rfl, fun z h => by cases h⟩
  | _, _, .cons (b := y) ⟨b, r⟩ t => by
    obtain ⟨zs, h1, h2, h3⟩ := chooseP t
    refine ⟨(b, y) :: zs, by rw [List.map_cons, h1], by rw [List.length_cons, h2, List.length_cons], fun z hz => ?_⟩
    rcases List.mem_cons.mp hz with e | e
    · rw [e]; exact r
    · exact h3 z e
/-- the candidates of the law, in its order -/
def candsOf : Nat → List (List Nat)
  | 0 => [[]]
  | k + 1 => candsOf k ++ (candsOf k).map (· ++ [k])
theorem candsOf_len : ∀ n, (candsOf n).length = 2 ^ n
  | 0 => rfl
  | k + 1 => by rw [candsOf, List.length_append, List.length_map, candsOf_len k]; omega
theorem candsOf_le : ∀ n, ∀ c ∈ candsOf n, c.length ≤ n ∧ ∀ a ∈ c, a < n
  | 0, c, h => by
    have e : c = [] := by simpa [candsOf] using h
    subst e; simp
  | k + 1, c, h => by
    rw [candsOf, List.mem_append] at h
    rcases h with h | h
    · obtain ⟨h1, h2⟩ := candsOf_le k c h
      exact ⟨by omega, fun a ha => by have := h2 a ha; omega⟩
    · obtain ⟨c', h1, rfl⟩ := List.mem_map.mp h
      obtain ⟨h2, h3⟩ := candsOf_le k c' h1
      refine ⟨by rw [List.length_append]; simp; omega, fun a ha => ?_⟩
      rcases List.mem_append.mp ha with z | z
      · have := h3 a z; omega
      · rw [List.mem_singleton.mp z]; omega
/-- a list of candidates at q, each a list of its own -/
def CandsAt (M : Vol) (cs : List (List Nat)) (q : Addr) (H : Hp) : Prop := ∃ zs : List (List Nat × V), ¬ M q ∧ H q = some (.lst (zs.map Prod.snd)) ∧ zs.map Prod.fst = cs ∧ ∀ z ∈ zs, ∃ p, z.2 = .ref p ∧ ¬ M p ∧ H p = some (.lst (z.1.map vN))
theorem CandsAt.kx {M : Vol} {A B : Hp} {cs : List (List Nat)} {q : Addr} (h : CandsAt M cs q A) (k : Kx M A B) : CandsAt M cs q B := by
  obtain ⟨zs, n, h1, h2, h3⟩ := h
  refine ⟨zs, n, k _ _ n h1, h2, fun z hz => ?_⟩
  obtain ⟨p, e, m, g⟩ := h3 z hz
  exact ⟨p, e, m, k _ _ m g⟩
theorem vN_at {l : List Nat} {i : Nat} {x : Nat} (h : l[i]? = some x) : (l.map vN)[i]? = some (.int x) := by rw [List.getElem?_map, h]; rfl
theorem len_mc {vals : Vls} {r : Row} : decide ((((r.yes.filter fun a => decide (gv vals a = some false)).map vN).length : Int) + (((r.no.filter fun a => decide (gv vals a = some true)).map vN).length : Int) = 0) = mc vals r := by
  have key : ∀ (f : Nat → Bool) (l : List Nat), (l.filter f).length = 0 ↔ l.all (fun a => !f a) = true := fun f l => by
    rw [List.length_eq_zero_iff, List.filter_eq_nil_iff, List.all_eq_true]
    simp
  rw [List.length_map, List.length_map]
  unfold mc
  by_cases h1 : r.yes.all (fun a => !decide (gv vals a = some false)) = true
  · by_cases h2 : r.no.all (fun a => !decide (gv vals a = some true)) = true
    · rw [h1, h2, (key _ _).mpr h1, (key _ _).mpr h2]; rfl
    · have : ¬ (r.no.filter fun a => decide (gv vals a = some true)).length = 0 := fun z => h2 ((key _ _).mp z)
      rw [decide_eq_false (by omega)]
      simp only [Bool.not_eq_true] at h2
      rw [h2, Bool.and_false]
  · have : ¬ (r.yes.filter fun a => decide (gv vals a = some false)).length = 0 := fun z => h1 ((key _ _).mp z)
    rw [decide_eq_false (by omega)]
    simp only [Bool.not_eq_true] at h1
    rw [h1, Bool.false_and]
end SP
namespace SP
open PySem PySem.Spec PyProof.Rows L2 C8 GX LC
abbrev yn : List V := [.str "yes", .str "no"]
abbrev lb : List V := [.str "least", .str "below"]
theorem yn_yes : inV (.str "yes") yn = true := by decide +kernel
theorem yn_no : inV (.str "no") yn = true := by decide +kernel
theorem yn_least : inV (.str "least") yn = false := by decide +kernel
theorem yn_below : inV (.str "below") yn = false := by decide +kernel
theorem lb_yes : inV (.str "yes") lb = false := by decide +kernel
theorem lb_no : inV (.str "no") lb = false := by decide +kernel
theorem lb_least : inV (.str "least") lb = true := by decide +kernel
theorem lb_below : inV (.str "below") lb = true := by decide +kernel
theorem str_self (x : Str) : decide (V.str x = V.str x) = true := by simp
theorem no_yes : decide (V.str "no" = V.str "yes") = false := by decide +kernel
theorem eqv_bb (a b : Bool) : PyData.eqv (.tuple [.bool a, .bool b]) (.tuple [.bool a, .bool b]) = true := by cases a <;> cases b <;> decide +kernel
theorem in_tri : ∀ {vals : Vls}, inV .non (vals.map tri) = decide (none ∈ vals)
  | [] => rfl
  | y :: r => by
    have ih := in_tri (vals := r)
    unfold inV at ih ⊢
    rw [List.map_cons, List.any_cons, ih]
    cases y with
    | none => simp [eqV, tri]
    | some b => simp [eqV, tri]
theorem flat_tri : ∀ {vals : Vls}, (vals.map tri).all flatV = true
  | [] => rfl
  | y :: r => by rw [List.map_cons, List.all_cons, flat_tri]; cases y <;> rfl
theorem bl_ne (a b : Bool) : (!decide (V.bl a = V.bl b)) = decide (a ≠ b) := by cases a <;> cases b <;> decide
end SP
set_option Elab.async false
set_option linter.all false
set_option maxRecDepth 100000
set_option maxHeartbeats 2000000
namespace LC
open PySem PySem.Spec PyProof.Rows L2 C8 GX SP
/-! x in c, c a dict or a list or a tuple -/
def rInA (K : PySem.W.Frag) : R2 := fun x y H Q => (∃ a o, y = .ref a ∧ DGet H a x o ∧ Q (.bl o.isSome) H) ∨ rIn K false x y H Q
def rNinA (K : PySem.W.Frag) : R2 := fun x y H Q => (∃ a o, y = .ref a ∧ DGet H a x o ∧ Q (.bl (!o.isSome)) H) ∨ rIn K true x y H Q
theorem opinA {X : Cx} {K : PySem.W.Frag} (e : X.K = K) (hu : X.A.units + 1 < cLine) : OpR X (compareOp .In) (rInA K) := by
  intro pins s σ H x y v u Q I rx ry h
  rcases h with ⟨a, o, ey, g, q⟩ | h
  · subst ey
    obtain rfl : u = Value.ref a := ry
    exact d_in hu I g rx fun s' I' => ⟨.bl o.isSome, H, I', rfl, q⟩
  · exact opin e pins s σ H x y v u Q I rx ry h
theorem opninA {X : Cx} {K : PySem.W.Frag} (e : X.K = K) (hu : X.A.units + 1 < cLine) : OpR X (compareOp .NotIn) (rNinA K) := by
  intro pins s σ H x y v u Q I rx ry h
  rcases h with ⟨a, o, ey, g, q⟩ | h
  · subst ey
    obtain rfl : u = Value.ref a := ry
    exact d_notIn hu I g rx fun s' I' => ⟨.bl (!o.isSome), H, I', rfl, q⟩
  · exact opnin e pins s σ H x y v u Q I rx ry h
/-! all(..), any(..) of a generator expression within another one's frame, whose code is known only when it runs -/
def tGin (base : Heap) (cv : Value) (wi : TI) (g : TG) (tt : Value → TT) (te : Value → TE) (vs : List Nat) (Em : VK → Emit) (Dn : VK → Int → Hp → Prop) : TE := fun σ H Q => ∃ c' P', cv = .ref c' ∧ tGen base 0 c' P' wi g tt te vs Em Dn σ H Q
theorem gokA {X : Cx} {N : List Str} {sc0 scope : Scope} {own : List (Str × Nat)} (e1 : X.N = N) (e2 : X.env.scope = sc0) (bm : ∃ P0, X.base.BuiltinsAt X.mg P0) (h : gokC N sc0 scope own = true) : ∀ c, X.env.code = .ref c → GOk X scope own c := fun c hc => gok e1 e2 hc bm h
theorem pe_gall {X : Cx} {k : Nat} {cv : Value} {elt tg iter : Expr} {ifs : List Expr} {sc : Scope} {own : List (Str × Nat)} {p pos gpos : Pos} {wi : TI} {g : TG} {tt : Value → TT} {te : Value → TE} {B : Heap} (eb : X.base = B) (hc : X.env.code = cv) (hr : Room (k + 3) X.A) (hg : Gl X "all") (hm : X.mg "all" = none) (G : ∀ c, X.env.code = .ref c → GOk X sc own c) (hi : PI X tg iter wi) (pg : GPart X sc k fun Y _ => PG Y tg g) (pt : GPart X sc k fun Y cv => PTs Y ifs (tt cv)) (pe : GPart X sc k fun Y cv => PE Y elt (te cv))
    (hs : ∀ v, genFold iter X.env v = pure v := by intro _; rfl)
    (he : starEach [.GeneratorExp elt [⟨tg, iter, ifs, 0⟩] sc gpos] X.env = (false, eval (.GeneratorExp elt [⟨tg, iter, ifs, 0⟩] sc gpos) X.env) :: starEach [] X.env := by rfl) :
    PE X (.Call (.Name "all" p) [.GeneratorExp elt [⟨tg, iter, ifs, 0⟩] sc gpos] [] pos) (tGin B cv wi g tt te (own.map (·.2)) (fun Q => EmAll fun H => Q (.bl false) H) (DnB true)) :=
  ⟨fun pins s σ H Q I ⟨c', P', e', q⟩ => by subst eb; exact (pe_all (P := P') hr (by decide) hg hm (G c' (hc.trans e')) hi pg pt pe hs he).run pins s σ H Q I q⟩
theorem pe_gany {X : Cx} {k : Nat} {cv : Value} {elt tg iter : Expr} {ifs : List Expr} {sc : Scope} {own : List (Str × Nat)} {p pos gpos : Pos} {wi : TI} {g : TG} {tt : Value → TT} {te : Value → TE} {B : Heap} (eb : X.base = B) (hc : X.env.code = cv) (hr : Room (k + 3) X.A) (hg : Gl X "any") (hm : X.mg "any" = none) (G : ∀ c, X.env.code = .ref c → GOk X sc own c) (hi : PI X tg iter wi) (pg : GPart X sc k fun Y _ => PG Y tg g) (pt : GPart X sc k fun Y cv => PTs Y ifs (tt cv)) (pe : GPart X sc k fun Y cv => PE Y elt (te cv))
    (hs : ∀ v, genFold iter X.env v = pure v := by intro _; rfl)
    (he : starEach [.GeneratorExp elt [⟨tg, iter, ifs, 0⟩] sc gpos] X.env = (false, eval (.GeneratorExp elt [⟨tg, iter, ifs, 0⟩] sc gpos) X.env) :: starEach [] X.env := by rfl) :
    PE X (.Call (.Name "any" p) [.GeneratorExp elt [⟨tg, iter, ifs, 0⟩] sc gpos] [] pos) (tGin B cv wi g tt te (own.map (·.2)) (fun Q => EmAny fun H => Q (.bl true) H) (DnB false)) :=
  ⟨fun pins s σ H Q I ⟨c', P', e', q⟩ => by subst eb; exact (pe_any (P := P') hr (by decide) hg hm (G c' (hc.trans e')) hi pg pt pe hs he).run pins s σ H Q I q⟩
/-- atoms in a dict or a list -/
def SetA (K : PySem.W.Frag) (M : Vol) (H : Hp) (a : Addr) (cs : List Nat) : Prop := DctL M H a cs ∨ LstL K M H a (cs.map vN)
theorem SetA.kx {K : PySem.W.Frag} {M : Vol} {H H' : Hp} {a : Addr} {cs : List Nat} (h : SetA K M H a cs) (k : Kx M H H') : SetA K M H' a cs := h.elim (fun h => .inl (h.kx k)) fun h => .inr (h.kx k)
theorem SetA.isIn {K : PySem.W.Frag} {M : Vol} {H : Hp} {a : Addr} {cs : List Nat} {n : Nat} {Q : VK} (h : SetA K M H a cs) (q : Q (.bl (decide (n ∈ cs))) H) : rInA K (.int (n : Int)) (.ref a) H Q := by
  rcases h with h | h
  · obtain ⟨o, g, e⟩ := h.2.get n
    exact .inl ⟨a, o, rfl, g, by rw [e]; exact q⟩
  · refine .inr ⟨a, _, rfl, .inl h.2, rfl, flat_vN, ?_⟩
    show Q (.bl (inV (V.int (n : Int)) _)) H
    rw [in_vN]; exact q
theorem SetA.notIn {K : PySem.W.Frag} {M : Vol} {H : Hp} {a : Addr} {cs : List Nat} {n : Nat} {Q : VK} (h : SetA K M H a cs) (q : Q (.bl (!decide (n ∈ cs))) H) : rNinA K (.int (n : Int)) (.ref a) H Q := by
  rcases h with h | h
  · obtain ⟨o, g, e⟩ := h.2.get n
    exact .inl ⟨a, o, rfl, g, by rw [e]; exact q⟩
  · refine .inr ⟨a, _, rfl, .inl h.2, rfl, flat_vN, ?_⟩
    show Q (.bl (!inV (V.int (n : Int)) _)) H
    rw [in_vN]; exact q
end LC
set_option Elab.async false
set_option linter.all false
set_option maxRecDepth 100000
set_option maxHeartbeats 4000000
namespace LC
open PySem PySem.Spec PyProof.Rows L2
/-- what a walk of a dict's int keys has laid into an array -/
theorem keyInts {vs : List (Key × Value)} {nums : List Int} {arr : Array Value} (hk : vs.map Prod.fst = nums.map Sum.inl) (hn : arr.size = vs.length)
    (hat : ∀ (i : Nat) (u : Value), arr[i]? = some u → ∃ key val, vs[i]? = some (key, val) ∧ keyIs key u = true) : IntsAre arr.toList nums := by
  have size : vs.length = nums.length := by simpa using congrArg List.length hk
  refine ints_each (by rw [Array.length_toList, hn, size]) fun i u hu => ?_
  rw [Array.getElem?_toList] at hu
  obtain ⟨key, val, hv, hkey⟩ := hat i u hu
  have at_ : (nums.map (Sum.inl : Int → Key))[i]? = some key := by rw [← hk, List.getElem?_map, hv] <;> rfl
  rw [List.getElem?_map] at at_
  obtain ⟨num, hnum, rfl⟩ := Option.map_eq_some_iff.mp at_
  rcases keyIs_shape hkey with ⟨m, tok, em, eu⟩ | ⟨_, _, em, _⟩
  · exact ⟨num, tok, hnum, by rw [eu, Sum.inl.inj em]⟩
  · exact nomatch em
/-- what sorted asks of a dict whose keys are ints, however many -/
def rSortDU : List V → Hp → VK → Prop := fun args H Q => ∃ (d : Addr) (table : List (Key × V)) (nums : List Int), args = [.ref d] ∧ Rd H d (.dK table) ∧ table.map (·.1) = nums.map Sum.inl ∧
  ∀ (res : List Int) (new : Addr), res.Perm nums → res.Pairwise (· ≤ ·) → H new = none → Q (.ref new) (upd H new (.lst (res.map V.int)))
theorem cr_sortedDU {X : Cx} (calm : X.calm = true) : CallR X (.builtin "sorted") rSortDU := by
  rintro pins s σ H args us Q inv rel ⟨d, table, nums, rfl, rd, keys, goal⟩
  obtain ⟨u0, rfl, r0⟩ := vals1 rel
  cases r0
  obtain ⟨fits, sysd, vs, kv, isd⟩ := dk_rd inv.hok rd
  obtain ⟨epoch, dat⟩ := isd.dictAt
  have hk : vs.map Prod.fst = nums.map Sum.inl := kv.keys.symm.trans keys
  have szv : vs.length = nums.length := by simpa using congrArg List.length hk
  have szt : table.length = nums.length := by simpa using congrArg List.length keys
  have room : nums.length ≤ sizeLine := szt ▸ fits
  refine Calls.call_function_entry kind_sorted plain_sorted entry_sorted (args_sorted1 _) ?_
  show wpAny _ _ (Builtin.«sorted» _) _ _ _
  unfold Builtin.«sorted»
  refine wpAny_bind (m := checkCount "sorted" 1 1 _) (wpAny_pure (wpAny_bind (PySem.W.kdu_collect (A := X.A.in1) (PySem.W.kdl_dict (knd := mixKind X.prog X.w) (kvs := vs) (ep := epoch) sysd) (inv.ok.hd calm) dat (szv ▸ room) fun heap1 toks1 arr keep full => ?_)))
  have allInt := keyInts hk full.1 full.2
  have lenA : arr.toList.length ≤ sizeLine := by rw [Array.length_toList, full.1, szv]; exact room
  have inv1 : Inv X pins σ H { s with heap := heap1, toks := toks1 } := inv.kept keep
  have made : (heap1.push (seqObj "list" arr.toList.toArray 0)).get? heap1.objs.size = some (seqObj "list" arr.toList.toArray 0) := Heap.get?_push_size _ rfl
  refine wpAny_bind (wpAny_newList (wpAny_bind (wpAny_holding (wpAny_call_entry (s := { s with heap := heap1.push (seqObj "list" arr.toList.toArray 0), toks := toks1 }) slot_list_sort ⟨_, made, rfl⟩ entry_list_sort (SrtO.list_sort_ord (s := { s with heap := heap1.push (seqObj "list" arr.toList.toArray 0), toks := toks1 }) SrtO.swo_int made lenA (fun two => SrtO.ints_sortable allInt two) fun out sorted stable => ⟨_, rfl, ?_⟩) (args_list_sort _)))) lenA)
  obtain ⟨o1, o2, o3⟩ := SrtO.ints_out allInt sorted stable
  obtain ⟨ep2, there⟩ := sortedHeap_at (vs := arr.toList) (out := out.toArray) made
  have fits2 : ((out.map SrtO.iv).map V.int).length ≤ sizeLine := by
    rw [List.length_map, o2.length_eq]; exact room
  have ok2 : ObjOk X.prog X.w (upd H heap1.objs.size (.lst ((out.map SrtO.iv).map V.int))) _ heap1.objs.size (.lst ((out.map SrtO.iv).map V.int)) := ⟨fits2, out, ep2, vals_of_ints o1, there⟩
  refine wpAny_pure ⟨_, rfl, .ref _, _, inv1.laid (t' := toks1) (fun b x hx => ?_) (Nat.le_refl _) ok2, rfl, goal _ _ o2 o3 (inv1.hok.fresh (Nat.le_refl _))⟩
  have lt := Heap.lt_size hx
  rw [sortedHeap_old (Nat.ne_of_lt lt) (by rw [size_push']; exact Nat.lt_succ_of_lt lt)]
  exact Heap.get?_push_of_some _ hx
/-- turns of any body, by a walk -/
theorem it_turns {J : It} {n : Nat} {G : Hp → Prop} {Y : Nat → Hp → V → Hp → Prop} {H0 : Hp} {Qd : Hp → Prop} {B : V → Hp → (Hp → Prop) → Prop} (w : L2.Walk J n G Y) (Pv : Nat → Hp → Prop) (h0 : Pv 0 H0) (hG : ∀ i H, i ≤ n → Pv i H → G H)
    (hs : ∀ i x H H', i < n → Pv i H → Y i H x H' → B x H' (Pv (i + 1))) (hd : ∀ H, Pv n H → Qd H) :
    ∃ W : Nat → Nat → Hp → Prop, (∃ m, W 0 m H0) ∧ ∀ i m H, W i m H → (J.stop i H ∧ Qd H) ∨ (J.go i H ∧ ∃ Nx : Hp → Prop, (∀ H', Nx H' → ∃ m', m' < m ∧ W (i + 1) m' H') ∧ ∀ x H', J.yld i H x H' → B x H' Nx) := by
  refine ⟨fun i m H => m = n - i ∧ i ≤ n ∧ Pv i H, ⟨n, by simp, Nat.zero_le _, h0⟩, ?_⟩
  rintro i m H ⟨rfl, hi, p⟩
  have q := hG i H hi p
  by_cases hlt : i < n
  · exact .inr ⟨w.goes i H hlt q, Pv (i + 1), fun H' p' => ⟨n - (i + 1), by omega, rfl, hlt, p'⟩, fun x H' y => hs i x H H' hlt p (w.yields i H x H' hlt q y)⟩
  · have e : i = n := by omega
    subst e
    exact .inl ⟨w.stops H q, hd H p⟩
end LC
set_option Elab.async false
set_option linter.all false
set_option maxRecDepth 100000
set_option maxHeartbeats 2000000
namespace LC
open PySem PySem.Spec PyProof.Rows L2 C8 GX
section
variable {K : PySem.W.Frag} {ts : Tbs} {st ca a D : Addr} {M : Vol} {H : Hp} {g : TG} {vs : List Nat} {σ : L2.St} {Q : VK}
theorem ky_put {D : Addr} {H H1 : Hp} {o : HO} (k : Ky ts st ca H H1) (hD : H D = none) : Ky ts st ca H (upd H1 D o) := ⟨fun b u n e t => by rw [upd_ne (ne_of_none e hD)]; exact k.keep b u n e t, fun b u e => by
  obtain ⟨v, e⟩ := k.alive b u e
  exact alive_upd e⟩
/-- a comprehension over turns that may lay new things, the items values by themselves -/
theorem lc_turns {Qd : Hp → Prop} {J : It} {n : Nat} {Gd : Hp → Prop} {Y : Nat → Hp → V → Hp → Prop} {tt : TT} {te : TE} {keep : Nat → Bool} {val : Nat → V} {R : Nat → V → Hp → Prop}
    (W : L2.Walk J n Gd Y) (hG : ∀ H', Ky ts st ca H H' → Gd H') (hY : ∀ i H1 x H2, i < n → Y i H1 x H2 → (∀ M', Wd ts st ca M' H1 → Wd ts st ca M' H2) ∧ Kx (fun _ => False) H1 H2 ∧ R i x H2) (w : Wd ts st ca M H) (hD : H D = none) (hl : n < sizeLine)
    (step : ∀ i x, i < n → ∀ H1, R i x H1 → Wd ts st ca (addV M D) H1 → Ky ts st ca H H1 → ∀ (Qk : VK) (F : Hp → Prop), (keep i = true → ∀ H2, Wd ts st ca (addV M D) H2 → Ky ts st ca H1 H2 → Qk (val i) H2) → (keep i = false → ∀ H2, Wd ts st ca (addV M D) H2 → Ky ts st ca H1 H2 → F H2) →
      g x (wipe σ vs) H1 fun σ2 H2 => wipe σ2 vs = wipe σ vs ∧ tt σ2 H2 fun b H3 => if b = true then te σ2 H3 Qk else F H3)
    (k : ∀ H1, Wd ts st ca M H1 → Ky ts st ca H H1 → ¬ M D → H1 D = some (.lst (((List.range n).filter keep).map val)) → Qd H1) :
    ∃ W : Nat → Nat → Hp → Prop, (∃ m, W 0 m (upd H D (.lst []))) ∧ ∀ i m H, W i m H →
      (J.stop i H ∧ Qd H) ∨ (J.go i H ∧ ∃ Nx : Hp → Prop, (∀ H', Nx H' → ∃ m', m' < m ∧ W (i + 1) m' H') ∧ ∀ x H', J.yld i H x H' → g x (wipe σ vs) H' fun σ2 H2 => wipe σ2 vs = wipe σ vs ∧ tt σ2 H2 fun b H3 =>
        if b = true then te σ2 H3 fun y H4 => ∃ acc, H4 D = some (.lst acc) ∧ acc.length < sizeLine ∧ Nx (upd H4 D (.lst (acc ++ [y]))) else Nx H3) := by
  have nM := w.fresh hD
  have nL := w.nl nM
  have w0 : Wd ts st ca (addV M D) (upd H D (.lst [])) := (w.new hD).add ⟨_, upd_same, rfl⟩
  have k0 : Ky ts st ca H (upd H D (.lst [])) := Kx.new hD
  have tk : ∀ i, i < n → (List.range n).take (i + 1) = (List.range n).take i ++ [i] := fun i hi => by
    rw [List.take_add_one, List.getElem?_range hi]; rfl
  have ln : ∀ i, (((List.range n).take i).filter keep).length ≤ n := fun i => Nat.le_trans (List.length_filter_le _ _) (by rw [List.length_take, List.length_range]; exact Nat.min_le_right _ _)
  refine lc_it W (fun i H1 => Wd ts st ca (addV M D) H1 ∧ Ky ts st ca H H1 ∧ H1 D = some (.lst ((((List.range n).take i).filter keep).map val))) ⟨w0, k0, upd_same⟩ (fun i H1 _ h => hG _ h.2.1) (fun i x H1 H1' hi ⟨w1, k1, e1⟩ y => ?_) (fun H1 ⟨w1, k1, e1⟩ => ?_)
  · obtain ⟨hw, hk, hr⟩ := hY i H1 x H1' hi y
    have w2 := hw _ w1
    have k2 : Ky ts st ca H1 H1' := hk.mono fun _ z => z.elim
    have e2 : H1' D = some (.lst ((((List.range n).take i).filter keep).map val)) := k2 _ _ nL e1
    refine step i x hi H1' hr w2 (k1.trans k2) _ _ (fun hk H4 w4 k4 => ⟨_, k4 D _ nL e2, Nat.lt_of_le_of_lt (by rw [List.length_map]; exact ln i) hl, w4.wr nL (k4 D _ nL e2), ky_put ((k1.trans k2).trans k4) hD, ?_⟩) (fun hk H4 w4 k4 => ⟨w4, (k1.trans k2).trans k4, ?_⟩)
    · rw [upd_same, tk i hi, List.filter_append, List.map_append]
      have e : [i].filter keep = [i] := by simp [hk]
      rw [e]; rfl
    · rw [tk i hi, List.filter_append]
      have e : [i].filter keep = [] := by simp [hk]
      rw [e, List.append_nil]
      exact k4 D _ nL e2
  · rw [List.take_of_length_le (by rw [List.length_range]; exact Nat.le_refl _)] at e1
    exact k H1 (w.low w1 fun b hb => .inl hb) k1 nM e1
/-- .. over enumerate(list) -/
theorem walk_e {α : Type} {f : α → V} {xs : List α} : L2.Walk (Ite K a) xs.length (fun H => SqL K H a (xs.map f)) (YPair (fun i => some (.int (i : Nat))) (fun i => (xs.map f)[i]?)) := by
  have := walk_enum (K := K) (a := a) (xs := xs.map f)
  rw [List.length_map] at this
  exact this
theorem hY_e {α : Type} {f : α → V} {xs : List α} : ∀ i H1 x H2, i < xs.length → YPair (fun i => some (.int (i : Nat))) (fun i => (xs.map f)[i]?) i H1 x H2 →
    (∀ M', Wd ts st ca M' H1 → Wd ts st ca M' H2) ∧ Kx (fun _ => False) H1 H2 ∧ (∃ T z, x = .ref T ∧ xs[i]? = some z ∧ H2 T = some (.tup [.int (i : Nat), f z])) := fun i H1 x H2 hi h => by
  obtain ⟨T, y1, y2, rfl, hT, rfl, e1, e2⟩ := h
  cases e1
  have e2 : (xs.map f)[i]? = some y2 := e2
  rw [List.getElem?_map] at e2
  obtain ⟨z, hz, rfl⟩ := Option.map_eq_some_iff.mp e2
  exact ⟨fun M' w => w.new hT, Kx.new hT, T, z, rfl, hz, upd_same⟩
end
/-- a list stays when another one is written -/
theorem sq_ne {K : PySem.W.Frag} {H : Hp} {q D : Addr} {xs : List V} {o : HO} (h : SqL K H q xs) (n : q ≠ D) : SqL K (upd H D o) q xs := by
  rcases h with (h | ⟨x, h⟩) | h
  · exact .inl (.inl (by rw [upd_ne n]; exact h))
  · exact .inl (.inr ⟨x, by rw [upd_ne n]; exact h⟩)
  · exact .inr h
end LC
namespace LC
open PySem PySem.Spec PyProof.Rows L2 C8 GX
section
variable {X : Cx} {K : PySem.W.Frag}
theorem pien {e : Expr} {ta : TA} {p pos tpos : Pos} {elts : List Expr} {kk : Nat} (eK : X.K = K) (hg : Gl X "enumerate") (hm : X.mg "enumerate" = none) (ha : PA X [e] ta) (hs : starEach [e] X.env = [(false, eval e X.env)] := by rfl) :
    PI X (.Tuple elts kk tpos) (.Call (.Name "enumerate" p) [e] [] pos) (iEnum K ta) := by subst eK; exact pi_enum hg hm ha hs
end
end LC
set_option Elab.async false
set_option linter.all false
set_option maxRecDepth 100000
set_option maxHeartbeats 2000000
namespace LG
open PySem PySem.Spec PyProof.Rows L2 C8 GX LC
/-! repr of data, in a def that no repr has called; the end of a law whose top def asks for repr -/
theorem call_reprD {X : Cx} (gu : X.A.guards = some []) (un : X.A.units + 64 < cLine) : CallR X (.builtin "repr") (fun xs H Q => ∃ a d, xs = [.ref a] ∧ Dp X.K H (.ref a) d ∧ d.showable = true ∧ d.hasDict = false ∧ d.depth ≤ 60 ∧ d.shown.length ≤ sizeLine ∧ Q (.str d.shown) H) := by
  intro pins s σ H xs us Q I r h
  obtain ⟨a, d, rfl, hd, sh, nd, dp, sz, q⟩ := h
  obtain ⟨u, rfl, ru⟩ := vals1 r
  obtain rfl : u = Value.ref a := ru
  obtain ⟨as, rd⟩ := Dp.reads I d _ _ hd rfl
  exact repr_of_reads' rd sh (PyData.noDict_hsm nd) gu (by omega) (fun _ _ e => e) (fun h' u tk hk => ⟨.str _, H, I.kept hk, ⟨_, rfl⟩, q⟩) sz
def rRepr (K : PySem.W.Frag) : List V → Hp → VK → Prop := fun xs H Q => ∃ a d, xs = [.ref a] ∧ Dp K H (.ref a) d ∧ d.showable = true ∧ d.hasDict = false ∧ d.depth ≤ 60 ∧ d.shown.length ≤ sizeLine ∧ Q (.str d.shown) H
theorem crepr {X : Cx} {K : PySem.W.Frag} (e : X.K = K) (gu : X.A.guards = some []) (un : X.A.units + 64 < cLine) : CallR X (.builtin "repr") (rRepr K) := by subst e; exact call_reprD gu un
/-- a def's promise when no repr is under way -/
structure FnG (P : Program) (w : World) (K : PySem.W.Frag) (mg : Str → Option Value) (base : Heap) (k : Nat) (f : Addr) (fd : FuncData) (ps : List Str) (sp : Sp) : Prop where
  run : ∀ {A : Around} {fr : List Env} {s : Shared} {H : Hp} {as : Args} {us : List Value} {vs : List V} {Q : VK} {E : XK}, A.guards = some [] → Room k A → Env0 P w K mg base A fr s H → Vals vs us → BindsTo s fd as (ps.zip us) → sp vs H Q E →
    codeAny (model P w) A (.call (.ref f) as) (CR C8.CX0 fr P w H s Q E) s
theorem fnG {P : Program} {w : World} {K : PySem.W.Frag} {mg : Str → Option Value} {base : Heap} {x : Str} {st : Stmt} {f c : Addr} {fd : FuncData} {N ps : List Str} {k : Nat} {sp : Sp} (F : FunC K x x st f fd c) (S : FnScope N ps (fnScope st)) (len : ∀ vs H Q E, sp vs H Q E → vs.length = ps.length)
    (body : ∀ (A : Around) (fr : List Env) (s : Shared) (H : Hp) (vs : List V) (Q : VK) (E : XK), A.guards = some [] → Room k (A.deeper (envOfC x (fnScope st) s.heap.objs.size f (.ref c))) → sp vs H Q E →
      ∃ t, PSs (cxOf C8.CX0 P w K mg base N x (fnScope st) f (.ref c) A fr s H E).nox (fnBody st) t ∧ t { nx := fun _ H' => Q .non H', rt := Q } (start N vs) H) : FnG P w K mg base (k + 1) f fd ps sp := by
  obtain ⟨oc, od, dV, kV, doc, pm, an, ct, osl, rfl, lk, cdi⟩ := F.ex
  constructor
  intro A fr s H as us vs Q E gu rm e0 rv bi q0
  have eqL := len _ _ _ _ q0
  have inK : K.In s.heap := e0.mod.kin.keeps fun b o z => (e0.bs b o z).1
  have noL : s.heap.NoLimit := e0.mod.nolimit.keeps fun b o z => (e0.bs b o z).1
  refine codeAny_call_function rm.depth (inK _ _ lk) rfl S.co S.gen rfl (PySem.W.codeRec_of inK cdi) (bi _ _ _ _ (wpAny_newFunctionEnv_cells S.kind (fun y hy => ?_) fun en hen s1 ic => ?_))
  · rcases S.par y.1 (List.of_mem_zip (show (y.1, y.2) ∈ _ from hy)).1 with z | z
    · exact Or.inl z
    · exact Or.inr ⟨z, PySem.W.cellsFrom_some _ _ _ (Or.inl z)⟩
  · cases hen
    refine ⟨noL.keeps ic.toInCall.keep, codeAny_func ?_⟩
    obtain ⟨t, rt, qt⟩ := body A fr s H vs Q E gu (rm.deeper _) q0
    have J := inv_start (CX := C8.CX0) (E := E) S rm.hd e0 eqL rv ic
    refine wpAny_mono (rt.nox.run [] s1 (start N vs) H _ J qt) (fun fl s' hs => ?_) fun _ _ z => z
    cases fl with
    | next =>
      obtain ⟨_, H', J', q⟩ := hs
      exact ⟨V.non, H', J'.os, J'.bare, J'.base, J'.hok, (rfl : RelV V.non Value.none), q⟩
    | ret u =>
      obtain ⟨v, _, H', J', ru, q⟩ := hs
      exact ⟨v, H', J'.os, J'.bare, J'.base, J'.hok, ru, q⟩
    | brk => exact (hs.choose_spec.choose_spec.2 : False).elim
    | cont => exact (hs.choose_spec.choose_spec.2 : False).elim
end LG
set_option Elab.async false
set_option linter.all false
set_option maxRecDepth 100000
set_option maxHeartbeats 2000000
namespace LG
open PySem PySem.Spec PyProof.Rows L2 C8 GX LC
/-- what is known of a law whose top def asks for repr, at the head's heap -/
def LawAtG (l : PySem.W.OpenLaw) (w : World) (K : PySem.W.Frag) (k n : Nat) (x : Str) (mg : Str → Option Value) (fa : Addr) (h : Heap) : Prop :=
  ∃ (fd : FuncData) (tb : List (Addr × Addr)) (sp : Sp), ((∀ t ∈ tb, h.get? t.2 = some { cls := .none, data := .fields #[] }) ∧ (∀ t ∈ tb, K.lookup t.2 = none) ∧ ∀ t ∈ tb, PySem.W.CodeHd h t.1 t.2) ∧
    (∀ (s : Shared) (u : Value), BindsTo s fd ⟨[u], []⟩ [(x, u)]) ∧
    (∀ (H : Hp) (a : Addr) (ns : List Int), ns.length ≤ n → (∀ t ∈ tb, H t.2 = some (.tbl #[])) → SqL K H a (ns.map V.int) → sp [.ref a] H (fun v _ => v = .bl true) fun _ _ _ => False) ∧
    ∀ base : Heap, K.In base → base.Ns mainGlobals mg → (∀ t ∈ tb, LamX.TabB base mg t.1 t.2) → FnG l.prog w K mg base k fa fd [x] sp
/-- the heap as the law's top def finds it: the empty tables, the script -/
def Hstart (K : PySem.W.Frag) (tb : List (Addr × Addr)) (a : Addr) (scr : Obj) (xs : List V) : Hp := fun b =>
  if b ∈ tb.map Prod.snd then some (.tbl #[]) else if b = a ∧ K.lookup a = none then some (.frz scr (.lst xs)) else none
section
variable {K : PySem.W.Frag} {tb : List (Addr × Addr)} {a : Addr} {scr : Obj} {xs : List V} {P : Program} {w : World} {h : Heap}
theorem start_tab {b : Addr} (hb : b ∈ tb.map Prod.snd) : Hstart K tb a scr xs b = some (.tbl #[]) := if_pos hb
theorem start_scr (h1 : a ∉ tb.map Prod.snd) (h2 : K.lookup a = none) : Hstart K tb a scr xs a = some (.frz scr (.lst xs)) := (if_neg h1).trans (if_pos ⟨rfl, h2⟩)
theorem start_at {b : Addr} {o : HO} (e : Hstart K tb a scr xs b = some o) : (b ∈ tb.map Prod.snd ∧ o = .tbl #[]) ∨ (b = a ∧ b ∉ tb.map Prod.snd ∧ K.lookup a = none ∧ o = .frz scr (.lst xs)) := by
  unfold Hstart at e
  by_cases h1 : b ∈ tb.map Prod.snd
  · rw [if_pos h1] at e; exact .inl ⟨h1, (Option.some.inj e).symm⟩
  · rw [if_neg h1] at e
    by_cases h2 : b = a ∧ K.lookup a = none
    · rw [if_pos h2] at e; exact .inr ⟨h2.1, h1, h2.2, (Option.some.inj e).symm⟩
    · rw [if_neg h2] at e; cases e
end
theorem law_callG {P : Program} {w : World} {K : PySem.W.Frag} {mg mb : Str → Option Value} {k : Nat} {fa a : Addr} {tb : List (Addr × Addr)} {fd : FuncData} {x : Str} {sp : Sp} {s : Shared} {vs : List Value} {ns : List Int}
    (inK : K.In s.heap) (nG : s.heap.Ns mainGlobals mg) (nB : s.heap.Ns builtinsNs mb) (boot : ∀ y : Str, y ≠ "__name__" → mb y = bootBuiltins y) (noL : s.heap.NoLimit) (noG : s.gens = #[])
    (tT : ∀ t ∈ tb, s.heap.get? t.2 = some { cls := .none, data := .fields #[] }) (tK : ∀ t ∈ tb, K.lookup t.2 = none) (tC : ∀ t ∈ tb, PySem.W.CodeHd s.heap t.1 t.2)
    (main : ∃ (m : Addr) (om : Obj), mg "__builtins__" = some (.ref m) ∧ m ≠ builtinsNs ∧ s.heap.get? m = some om ∧ om.cls = .type "module" ∧ om.dict = some builtinsNs ∧ om.data = .plain)
    (scr : s.heap.get? a = some { cls := .type "list", data := .seq vs.toArray }) (iv : IntsAre vs ns) (few : ns.length ≤ sizeLine) (rm : Room k callerA)
    (F : ∀ base : Heap, K.In base → base.Ns mainGlobals mg → (∀ t ∈ tb, LamX.TabB base mg t.1 t.2) → FnG P w K mg base k fa fd [x] sp) (binds : ∀ (s : Shared) (u : Value), BindsTo s fd ⟨[u], []⟩ [(x, u)])
    (wish : ∀ H : Hp, (∀ t ∈ tb, H t.2 = some (.tbl #[])) → SqL K H a (ns.map V.int) → sp [.ref a] H (fun v _ => v = .bl true) fun _ _ _ => False) :
    codeAny (model P w) callerA (.call (.ref fa) ⟨[.ref a], []⟩) (fun r s' => r = .ok (.ret (.bool true)) ∧ OldK s.heap s'.heap ∧ s'.os = s.os ∧ AllBare s'.gens) s := by
  have vals := vals_ints iv
  have lv := iv.length
  have inTab : ∀ b ∈ tb.map Prod.snd, s.heap.get? b = some { cls := .none, data := .fields #[] } ∧ K.lookup b = none := fun b hb => by
    obtain ⟨t, ht, rfl⟩ := List.mem_map.mp hb
    exact ⟨tT t ht, tK t ht⟩
  have aT : a ∉ tb.map Prod.snd := fun z => by
    have e := (inTab a z).1
    rw [scr] at e
    cases congrArg Obj.data (Option.some.inj e)
  generalize hH : Hstart K tb a { cls := .type "list", data := .seq vs.toArray } (ns.map V.int) = H
  have atH : ∀ {b : Addr} {o : HO}, H b = some o → (b ∈ tb.map Prod.snd ∧ o = .tbl #[]) ∨ (b = a ∧ b ∉ tb.map Prod.snd ∧ K.lookup a = none ∧ o = .frz { cls := .type "list", data := .seq vs.toArray } (.lst (ns.map V.int))) := fun {b o} e => start_at (by rw [hH]; exact e)
  have tabH : ∀ t ∈ tb, H t.2 = some (.tbl #[]) := fun t ht => by rw [← hH]; exact start_tab (List.mem_map.mpr ⟨t, ht, rfl⟩)
  -- what is no table and no list is not tracked
  have plain : ∀ {b : Addr} {o : Obj}, s.heap.get? b = some o → o.data ≠ .fields #[] → (∀ v m, o.data ≠ .seq v m) → H b = none := fun {b o} e n1 n2 => by
    cases q : H b with
    | none => rfl
    | some u =>
      rcases atH q with ⟨z, _⟩ | ⟨z, _⟩
      · rw [(inTab b z).1] at e; cases e; exact (n1 rfl).elim
      · rw [z, scr] at e; cases e; exact (n2 _ _ rfl).elim
  have ok : HOk P w H s.heap := fun b o e => by
    rcases atH e with ⟨z, rfl⟩ | ⟨rfl, _, _, rfl⟩
    · exact (inTab b z).1
    · exact ⟨scr, by rw [List.length_map]; exact few, vs, _, vals, scr⟩
  have sq : SqL K H a (ns.map V.int) := by
    cases e : K.lookup a with
    | none => exact .inl (.inr ⟨_, by rw [← hH]; exact start_scr aT e⟩)
    | some o =>
      have e2 := inK a o e
      rw [scr] at e2
      cases e2
      exact .inr ⟨_, vs.toArray, _, e, rfl, rfl, rfl, by rw [List.size_toArray, lv]; exact few, by simpa using vals⟩
  have low : ∀ {b : Addr} {o : Obj}, s.heap.get? b = some o → H b = none → (hidT s.heap H).get? b = some o := hidT_get
  have lowNs : ∀ {b : Addr} {m : Str → Option Value}, s.heap.Ns b m → (hidT s.heap H).Ns b m := fun {b m} ⟨o, es, ep, e, z, r⟩ => ⟨o, es, ep, low e (plain e (by rw [z]; exact fun q => nomatch q) (by rw [z]; exact fun _ _ q => nomatch q)), z, r⟩
  have kLow : K.In (hidT s.heap H) := fun b o e => low (inK b o e) (by
    cases q : H b with
    | none => rfl
    | some u =>
      rcases atH q with ⟨z, _⟩ | ⟨z, _, z2, _⟩
      · rw [(inTab b z).2] at e; cases e
      · rw [z, z2] at e; cases e)
  have md : L2.Mod K mg (hidT s.heap H) := ⟨kLow, lowNs nG, ⟨mb, lowNs nB, boot⟩, noL.elim fun mc z => ⟨mc, lowNs z.1, z.2⟩⟩
  have notNs : ∀ {b : Addr}, s.heap.get? b = some { cls := .none, data := .fields #[] } → mainGlobals ≠ b := fun {b} e z => by
    obtain ⟨o, es, ep, e2, d, _⟩ := nG
    rw [z, e] at e2
    cases e2
    cases d
  have tabs : ∀ t ∈ tb, LamX.TabB (hidT s.heap H) mg t.1 t.2 := fun t ht => by
    refine ⟨?_, ?_, notNs (tT t ht)⟩
    · obtain ⟨o, us, file, tf, flags, tg, inF, text, tt, e1, r1, r2, r3, rest⟩ := tC t ht
      refine ⟨o, us, file, tf, flags, tg, inF, text, tt, low e1 (plain e1 (fun z => ?_) (by rw [r2]; exact fun _ _ q => nomatch q)), r1, r2, r3, rest⟩
      rw [r2] at z
      cases z
      cases r3
    · obtain ⟨m, om, g1, g2, g3, g4, g5, g6⟩ := main
      refine ⟨m, om, g1, g2, fun z => ?_, fun z => ?_, low g3 (plain g3 (by rw [g6]; exact fun q => nomatch q) (by rw [g6]; exact fun _ _ q => nomatch q)), g4, g5, g6⟩
      · obtain ⟨o, es, ep, e2, d, _⟩ := nG
        rw [z, e2] at g3
        cases g3
        rw [d] at g6; cases g6
      · rw [z, tT t ht] at g3
        cases g3
        cases g6
  have env : Env0 P w K mg (hidT s.heap H) callerA [] s H :=
    { frames := rfl, mod := md, bs := fun b o e => of_hidT e, bsz := Nat.le_of_eq (hidT_size _ _), funs := trivial, frf := (fun b z => nomatch z), hok := ok, bare := .of_eq noG }
  refine codeAny_mono ((F _ kLow (lowNs nG) tabs).run (vs := [.ref a]) rfl rm env (.cons rfl .nil) (binds s (.ref a)) (wish H tabH sq)) fun r s' done => ?_
  rcases r with e | fl
  · exact (done : False).elim
  cases fl with
  | next => exact (done : False).elim
  | brk => exact (done : False).elim
  | cont => exact (done : False).elim
  | ret u =>
    obtain ⟨v, H', eos, bare, un, ok', rv, rfl⟩ := done
    obtain rfl : u = Value.bool true := rv
    have keep : ∀ b o, b ∉ tb.map Prod.snd → s.heap.get? b = some o → s'.heap.get? b = some o := fun b o nb e => by
      cases q : H b with
      | none => exact un.keep b o e q (fun z => nomatch z) (fun z => nomatch z)
      | some u =>
        rcases atH q with ⟨z, _⟩ | ⟨_, _, _, z⟩
        · exact (nb z).elim
        · rw [z] at q
          have z1 := (ok b _ q).1
          rw [e] at z1
          rw [z1]
          exact (ok' b _ (un.frzs b _ _ q)).1
    have grew : ∀ t ∈ tb, ∃ more : Array Value, s'.heap.get? t.2 = some { cls := .none, data := .fields more } := fun t ht => by
      obtain ⟨more, z⟩ := un.tbls t.2 #[] (tabH t ht)
      exact ⟨_, ok' t.2 _ z⟩
    refine ⟨rfl, ⟨fun b o e => ?_, fun b o e => ?_⟩, eos, bare⟩
    · by_cases hb : b ∈ tb.map Prod.snd
      · obtain ⟨t, ht, rfl⟩ := List.mem_map.mp hb
        obtain ⟨more, z⟩ := grew t ht
        rw [tT t ht] at e
        cases e
        exact .inr (.inl ⟨((tC t ht).tab (tT t ht)).isCodeTable, rfl, #[], more, rfl, by rw [Array.empty_append]; exact z⟩)
      · exact .inl (keep b o hb e)
    · by_cases hb : b ∈ tb.map Prod.snd
      · obtain ⟨t, ht, rfl⟩ := List.mem_map.mp hb
        exact ⟨_, (grew t ht).choose_spec⟩
      · exact ⟨o, keep b o hb e⟩
theorem walkG {l : PySem.W.OpenLaw} {n k : Nat} {q : Program} {loose : List Str} {XP : (Str → Option Value) → Heap → Prop} {YP : World → Heap → Prop} {d : DefRec} {K : Params → PySem.W.Frag} {x : Str}
    (hn : l.most = some n) (hn2 : n ≤ sizeLine) (hdf : d.params.defaults = []) (hr : Room k callerA) (hY : ∀ (w : World) (h : Heap), YP w h → (K w.params).In h)
    (F : ∀ (w : World) (mg mb : Str → Option Value) (fa : Addr) (h : Heap), (∃ loose mean, Top q loose mean mg mb h) → (K w.params).In h → h.Ns mainGlobals mg → mg d.name = some (.ref fa) → LawAtG l w (K w.params) k n x mg fa h) :
    PySem.W.WalkO q loose XP YP l.row.toRowW d [] (fun f vs => PySem.call f vs) := by
  refine Att.attach_callB hn hdf fun w s₀ s₁ mg mb fa o pm cd doc a vs ns G Y _ _ _ fm scr iv len _ ng => ?_
  have KX := hY w _ Y
  obtain ⟨fd, tb, sp, ⟨t1, t2, t3⟩, b, wi, body⟩ := F w mg mb fa _ ⟨_, _, G.T⟩ KX G.T.g fm
  exact law_callG KX G.T.g G.T.b G.T.builtins G.T.nolimit ng t1 t2 t3 G.T.bmain scr iv (Nat.le_trans len hn2) hr body b fun H hH hS => wi H a ns len hH hS
end LG
set_option Elab.async false
set_option maxRecDepth 100000
set_option maxHeartbeats 2000000
namespace SG
open PySem L2 C8 GX LC SP
/-! rules of all kinds: the data -/
inductive Kd where
  | rule | choose | deny
  deriving DecidableEq
structure Rl where
  kd : Kd
  h : Nat
  b : List Cond
def kR : Kd → Str
  | .rule => "rule"
  | .choose => "choose"
  | .deny => "deny"
def hV (r : Rl) : V := match r.kd with
  | .deny => .non
  | _ => .int (r.h : Int)
def CnsAt (K : PySem.W.Frag) (M : Vol) (b : List Cond) (q : Addr) (H : Hp) : Prop := ∃ zs : List (Cond × V), LstL K M H q (zs.map Prod.snd) ∧ zs.map Prod.fst = b ∧ ∀ z ∈ zs, CondAt K M z.1 z.2 H
def RlAt (K : PySem.W.Frag) (M : Vol) (r : Rl) (v : V) (H : Hp) : Prop := ∃ p q, v = .ref p ∧ TupL K M H p [.str (kR r.kd), hV r, .ref q] ∧ CnsAt K M r.b q H
def RzAt (K : PySem.W.Frag) (M : Vol) (zs : List (Rl × V)) (q : Addr) (H : Hp) : Prop := LstL K M H q (zs.map Prod.snd) ∧ ∀ z ∈ zs, RlAt K M z.1 z.2 H
/-- a program of n atoms, its rules and its cost rows -/
def ProgAt (K : PySem.W.Frag) (M : Vol) (n : Nat) (rs : List Rl) (costs : List Row) (p : Addr) (H : Hp) : Prop := ∃ (at_ rl cq : Addr) (ys : List V) (zs : List (Rl × V)), TupL K M H p [.str "program", .ref at_, .ref rl, .ref cq] ∧ LstL K M H at_ ys ∧ ys.length = n ∧ zs.map Prod.fst = rs ∧ RzAt K M zs rl H ∧ RowsAt K M costs cq H
section
variable {K : PySem.W.Frag} {M M' : Vol} {A B : Hp}
theorem CnsAt.kx {b : List Cond} {q : Addr} (h : CnsAt K M b q A) (k : Kx M A B) : CnsAt K M b q B := by
  obtain ⟨zs, h1, h2, h3⟩ := h; exact ⟨zs, h1.kx k, h2, fun z hz => (h3 z hz).kx k⟩
theorem CnsAt.anti {b : List Cond} {q : Addr} (h : CnsAt K M' b q A) (i : ∀ b, M b → M' b) : CnsAt K M b q A := by
  obtain ⟨zs, h1, h2, h3⟩ := h; exact ⟨zs, h1.anti i, h2, fun z hz => (h3 z hz).anti i⟩
theorem RlAt.kx {r : Rl} {v : V} (h : RlAt K M r v A) (k : Kx M A B) : RlAt K M r v B := by
  obtain ⟨p, q, e, h1, h2⟩ := h; exact ⟨p, q, e, h1.kx k, h2.kx k⟩
theorem RlAt.anti {r : Rl} {v : V} (h : RlAt K M' r v A) (i : ∀ b, M b → M' b) : RlAt K M r v A := by
  obtain ⟨p, q, e, h1, h2⟩ := h; exact ⟨p, q, e, h1.anti i, h2.anti i⟩
theorem RzAt.kx {zs : List (Rl × V)} {q : Addr} (h : RzAt K M zs q A) (k : Kx M A B) : RzAt K M zs q B := ⟨h.1.kx k, fun z hz => (h.2 z hz).kx k⟩
theorem ProgAt.kx {n : Nat} {rs : List Rl} {cs : List Row} {q : Addr} (h : ProgAt K M n rs cs q A) (k : Kx M A B) : ProgAt K M n rs cs q B := by
  obtain ⟨at_, rl, cq, ys, zs, h1, h2, h3, h4, h5, h6⟩ := h; exact ⟨at_, rl, cq, ys, zs, h1.kx k, h2.kx k, h3, h4, h5.kx k, h6.kx k⟩
end
/-! the mathematics -/
def bodyH (fs cs : List Nat) (b : List Cond) : Bool := b.all (met fs cs)
def may (cs : List Nat) (r : Rl) : Bool := match r.kd with
  | .rule => true
  | .choose => decide (r.h ∈ cs)
  | .deny => false
def Clo (rs : List Rl) (cs S : List Nat) : Prop := ∀ r ∈ rs, may cs r = true → bodyH S cs r.b = true → r.h ∈ S
def Least (rs : List Rl) (cs fs : List Nat) : Prop := Clo rs cs fs ∧ ∀ S, Clo rs cs S → ∀ a ∈ fs, a ∈ S
def Stable (rs : List Rl) (cs : List Nat) : Prop := Least rs cs cs ∧ ∀ r ∈ rs, r.kd = .deny → bodyH cs cs r.b = false
def awC : Cond → List Nat
  | .yes a => [a]
  | .least _ rows => rows.flatMap (·.yes)
  | _ => []
def awOf (b : List Cond) : List Nat := b.flatMap awC
/-- bounds of what a def is given -/
structure ROk (n : Nat) (r : Rl) : Prop where
  ok : ∀ c ∈ r.b, c.Ok n
  aw : (awOf r.b).length ≤ 20
  hd : r.kd ≠ .deny → r.h < 100
theorem rc_mono {fs gs cs : List Nat} (h : ∀ a ∈ fs, a ∈ gs) {r : Row} (e : rc fs cs r = true) : rc gs cs r = true := by
  unfold rc at e ⊢
  rw [Bool.and_eq_true, List.all_eq_true] at e
  rw [Bool.and_eq_true, List.all_eq_true]
  exact ⟨fun a ha => decide_eq_true (h a (of_decide_eq_true (e.1 a ha))), e.2⟩
theorem met_mono {n : Nat} {fs gs cs : List Nat} (h : ∀ a ∈ fs, a ∈ gs) {c : Cond} (ok : c.Ok n) (e : met fs cs c = true) : met gs cs c = true := by
  cases c with
  | yes a => exact decide_eq_true (h a (of_decide_eq_true e))
  | no a => exact e
  | below k rows => exact e
  | least k rows =>
    have e : k ≤ wt fs cs rows := of_decide_eq_true e
    have := sumOf_mono (f := rc fs cs) (g := rc gs cs) (rows := rows) (fun r hr => (ok.2 r hr).w0) fun r _ e => rc_mono h e
    exact decide_eq_true (Int.le_trans e this)
theorem body_mono {n : Nat} {fs gs cs : List Nat} (h : ∀ a ∈ fs, a ∈ gs) {b : List Cond} (ok : ∀ c ∈ b, c.Ok n) (e : bodyH fs cs b = true) : bodyH gs cs b = true := by
  unfold bodyH at e ⊢
  rw [List.all_eq_true] at e ⊢
  exact fun c hc => met_mono h (ok c hc) (e c hc)
theorem rc_same {fs cs : List Nat} {h : Nat} {r : Row} (hn : h ∉ r.yes) : rc (fs ++ [h]) cs r = rc fs cs r := by
  have e : ∀ a ∈ r.yes, decide (a ∈ fs ++ [h]) = decide (a ∈ fs) := fun a ha => by
    have hne : a ≠ h := fun z => hn (by rw [← z]; exact ha)
    simp [hne]
  unfold rc
  congr 1
  generalize r.yes = l at e hn
  induction l with
  | nil => rfl
  | cons x t ih => rw [List.all_cons, List.all_cons, e x List.mem_cons_self, ih (fun a ha => e a (List.mem_cons_of_mem _ ha)) fun h => hn (List.mem_cons_of_mem _ h)]
theorem wt_same {fs cs : List Nat} {h : Nat} : ∀ {rows : List Row}, h ∉ rows.flatMap (·.yes) → wt (fs ++ [h]) cs rows = wt fs cs rows
  | [], _ => rfl
  | r :: t, hn => by
    rw [List.flatMap_cons, List.mem_append, not_or] at hn
    have ih := wt_same (fs := fs) (cs := cs) hn.2
    unfold wt sumOf at ih ⊢
    rw [List.filter_cons, List.filter_cons, rc_same hn.1]
    split
    · rw [List.map_cons, List.map_cons, List.sum_cons, List.sum_cons, ih]
    · exact ih
theorem met_same {fs cs : List Nat} {h : Nat} {c : Cond} (hn : h ∉ awC c) : met (fs ++ [h]) cs c = met fs cs c := by
  cases c with
  | yes a =>
    have hne : a ≠ h := fun z => hn (by rw [← z]; exact List.mem_singleton.mpr rfl)
    show decide (a ∈ fs ++ [h]) = decide (a ∈ fs)
    simp [hne]
  | no a => rfl
  | below k rows => rfl
  | least k rows =>
    show decide (k ≤ wt (fs ++ [h]) cs rows) = decide (k ≤ wt fs cs rows)
    rw [wt_same hn]
theorem body_new {fs cs : List Nat} {h : Nat} {b : List Cond} (h1 : bodyH fs cs b = false) (h2 : bodyH (fs ++ [h]) cs b = true) : h ∈ awOf b := by
  by_cases hm : h ∈ awOf b
  · exact hm
  · have e : bodyH (fs ++ [h]) cs b = bodyH fs cs b := by
      unfold bodyH
      unfold awOf at hm
      induction b with
      | nil => rfl
      | cons x t ih =>
        rw [List.flatMap_cons, List.mem_append, not_or] at hm
        unfold bodyH at h1 h2
        rw [List.all_cons, List.all_cons, met_same hm.1]
        by_cases hx : met fs cs x = true
        · rw [List.all_cons, hx, Bool.true_and] at h1
          rw [List.all_cons, met_same hm.1, hx, Bool.true_and] at h2
          rw [ih h1 h2 hm.2]
        · rw [Bool.not_eq_true] at hx
          rw [hx, Bool.false_and, Bool.false_and]
    rw [e, h1] at h2; cases h2
end SG
set_option Elab.async false
set_option maxRecDepth 100000
set_option maxHeartbeats 2000000
namespace SG
open PySem PySem.Spec PyProof.Rows L2 C8 GX LC SP
def nD (n : Nat) : PyData := .int (n : Int)
theorem nDs_shaped (xs : List Nat) : SeqAt.shaped (.list (xs.map nD)) = true := by
  have h1 : PyData.canLayAll0 (xs.map nD) = true := by
    induction xs with
    | nil => rfl
    | cons x r ih => rw [List.map_cons, PyData.canLayAll0, ih]; rfl
  have h2 : PyData.depthAll (xs.map nD) ≤ 1 := by
    clear h1
    induction xs with
    | nil => exact Nat.zero_le _
    | cons x r ih =>
      rw [List.map_cons, PyData.depthAll]
      have : (nD x).depth ≤ 1 := by unfold nD; rw [PyData.depth]; omega
      exact Nat.max_le.mpr ⟨this, ih⟩
  unfold SeqAt.shaped
  rw [PyData.canLay0, h1, PyData.depth]
  simp only [Bool.true_and, decide_eq_true_eq]
  omega
theorem nDs_eqv : ∀ (xs ys : List Nat), PyData.eqvAll (xs.map nD) (ys.map nD) = decide (xs = ys)
  | [], [] => by simp [PyData.eqvAll]
  | [], _ :: _ => by simp [PyData.eqvAll]
  | _ :: _, [] => by simp [PyData.eqvAll]
  | x :: r, y :: t => by
    rw [List.map_cons, List.map_cons, PyData.eqvAll, nDs_eqv r t]
    have e : PyData.eqv (nD x) (nD y) = decide (x = y) := by
      unfold nD
      simp only [PyData.eqv]
      by_cases h : x = y
      · subst h; simp
      · have : ¬ (x : Int) = (y : Int) := by omega
        simp [h, this]
    rw [e]
    by_cases h1 : x = y <;> by_cases h2 : r = t <;> simp [h1, h2]
theorem nDs_dp {K : PySem.W.Frag} {H : Hp} : ∀ xs : List Nat, DpAll K H (xs.map vN) (xs.map nD)
  | [] => .nil
  | x :: r => .cons (.int _) (nDs_dp r)
theorem ne_lists {K : PySem.W.Frag} {H : Hp} {a b : Addr} {xs ys : List Nat} {Q : VK} (h1 : SqL K H a (xs.map vN)) (h2 : SqL K H b (ys.map vN)) (k : Q (.bl (!decide (xs = ys))) H) : rNeD K (.ref a) (.ref b) H Q := by
  refine ⟨_, _, .lst h1 (nDs_dp xs), .lst h2 (nDs_dp ys), nDs_shaped xs, nDs_shaped ys, ?_⟩
  rw [PyData.eqv, nDs_eqv]
  exact k
end SG
namespace SG
theorem sorted_ext : ∀ {xs ys : List Nat}, xs.Pairwise (· < ·) → ys.Pairwise (· < ·) → (∀ a, a ∈ xs ↔ a ∈ ys) → xs = ys
  | [], [], _, _, _ => rfl
  | [], y :: r, _, _, h => absurd ((h y).mpr List.mem_cons_self) (by simp)
  | x :: r, [], _, _, h => absurd ((h x).mp List.mem_cons_self) (by simp)
  | x :: r, y :: t, h1, h2, h => by
    rw [List.pairwise_cons] at h1 h2
    have e : x = y := by
      rcases List.mem_cons.mp ((h x).mp List.mem_cons_self) with e | e
      · exact e
      · rcases List.mem_cons.mp ((h y).mpr List.mem_cons_self) with e2 | e2
        · exact e2.symm
        · have := h2.1 x e; have := h1.1 y e2; omega
    subst e
    refine congrArg (x :: ·) (sorted_ext h1.2 h2.2 fun a => ⟨fun ha => ?_, fun ha => ?_⟩)
    · rcases List.mem_cons.mp ((h a).mp (List.mem_cons_of_mem _ ha)) with e | e
      · have := h1.1 a ha; omega
      · exact e
    · rcases List.mem_cons.mp ((h a).mpr (List.mem_cons_of_mem _ ha)) with e | e
      · have := h2.1 a ha; omega
      · exact e
end SG
namespace SG
open PySem L2 C8 LC SP
theorem eq_lists {K : PySem.W.Frag} {H : Hp} {a b : Addr} {xs ys : List Nat} {Q : VK} (h1 : SqL K H a (xs.map vN)) (h2 : SqL K H b (ys.map vN)) (k : Q (.bl (decide (xs = ys))) H) : rEqD K (.ref a) (.ref b) H Q := by
  refine ⟨_, _, .lst h1 (nDs_dp xs), .lst h2 (nDs_dp ys), nDs_shaped xs, nDs_shaped ys, ?_⟩
  rw [PyData.eqv, nDs_eqv]
  exact k
end SG
set_option Elab.async false
set_option linter.all false
set_option maxRecDepth 100000
set_option maxHeartbeats 2000000
namespace LG
open PySem PySem.Spec PyProof.Rows L2 C8 SX GX LC SP SG
/-! data that repr shows in few signs -/
structure Gd (n k : Nat) (d : PyData) : Prop where
  len : d.shown.length ≤ n
  sh : d.showable = true
  nd : d.hasDict = false
  dp : d.depth ≤ k
theorem Gd.mono {n k n' k' : Nat} {d : PyData} (g : Gd n k d) (h : n ≤ n') (h' : k ≤ k') : Gd n' k' d := ⟨Nat.le_trans g.len h, g.sh, g.nd, Nat.le_trans g.dp h'⟩
theorem gd_all {n k : Nat} : ∀ {xs : List PyData}, (∀ x ∈ xs, Gd n k x) → ((PyData.shownAll xs).map (·.length)).sum ≤ xs.length * n ∧ (PyData.shownAll xs).length = xs.length ∧ PyData.showableAll xs = true ∧ PyData.hasDictAll xs = false ∧ PyData.depthAll xs ≤ k
  | [], _ => ⟨by simp [PyData.shownAll], by simp [PyData.shownAll], by simp [PyData.showableAll], by simp [PyData.hasDictAll], by simp [PyData.depthAll]⟩
  | x :: r, h => by
    obtain ⟨h1, h2, h3, h4, h5⟩ := gd_all (xs := r) fun y hy => h y (List.mem_cons_of_mem _ hy)
    have g := h x List.mem_cons_self
    have gl := g.len
    refine ⟨?_, ?_, ?_, ?_, ?_⟩
    · rw [PyData.shownAll, List.map_cons, List.sum_cons, List.length_cons, Nat.succ_mul]; omega
    · rw [PyData.shownAll, List.length_cons, List.length_cons, h2]
    · rw [PyData.showableAll, g.sh, h3]; rfl
    · rw [PyData.hasDictAll, g.nd, h4]; rfl
    · rw [PyData.depthAll]; exact Nat.max_le.mpr ⟨g.dp, h5⟩
theorem gd_list {n k m : Nat} {xs : List PyData} (h : ∀ x ∈ xs, Gd n k x) (hm : xs.length ≤ m) : Gd (m * (n + 2) + 3) (k + 1) (.list xs) := by
  obtain ⟨h1, h2, h3, h4, h5⟩ := gd_all h
  have hl := listText_len_le (PyData.shownAll xs)
  have hmn : xs.length * n ≤ m * n := Nat.mul_le_mul_right _ hm
  refine ⟨?_, by rw [PyData.showable]; exact h3, by rw [PyData.hasDict]; exact h4, by rw [PyData.depth]; omega⟩
  rw [PyData.shown, Nat.mul_add]
  omega
theorem gd_tup {n k m : Nat} {xs : List PyData} (h : ∀ x ∈ xs, Gd n k x) (hm : xs.length ≤ m) : Gd (m * (n + 2) + 3) (k + 1) (.tuple xs) := by
  obtain ⟨h1, h2, h3, h4, h5⟩ := gd_all h
  have hl := tupleText_len_le (PyData.shownAll xs)
  have hmn : xs.length * n ≤ m * n := Nat.mul_le_mul_right _ hm
  refine ⟨?_, by rw [PyData.showable]; exact h3, by rw [PyData.hasDict]; exact h4, by rw [PyData.depth]; omega⟩
  rw [PyData.shown, Nat.mul_add]
  omega
/-- small whole numbers -/
def Few (i : Int) : Prop := i = -1 ∨ (0 ≤ i ∧ i < 100000)
theorem gd_int {i : Int} (h : Few i) : Gd 6 1 (.int i) := by
  rcases h with rfl | ⟨h0, h1⟩
  · exact ⟨by decide +kernel, by decide +kernel, by simp [PyData.hasDict], by simp [PyData.depth]⟩
  · obtain ⟨n, rfl⟩ : ∃ n : Nat, i = n := ⟨i.toNat, by omega⟩
    have hn : n < 100000 := by omega
    refine ⟨?_, ?_, by simp [PyData.hasDict], by simp [PyData.depth]⟩
    · rw [PyData.shown]
      show (Str.ofString (toString ((n : Nat) : Int))).length ≤ 6
      rw [num_S, S_len]
      exact Nat.le_trans (TL.numL_len (k := 5) (by decide) (by simpa using hn)) (by decide)
    · rw [PyData.showable, decide_eq_true_eq, Int.natAbs_natCast]
      by_cases z : n = 0
      · subst z; decide
      · exact Nat.lt_of_lt_of_le ((Nat.log2_lt z).mpr (show n < 2 ^ 17 by omega)) (by decide)
theorem gd_nat {n : Nat} (h : n < 100000) : Gd 6 1 (.int (n : Int)) := gd_int (.inr ⟨by omega, by omega⟩)
theorem gd_non : Gd 6 1 .none := ⟨by decide +kernel, by simp [PyData.showable], by simp [PyData.hasDict], by simp [PyData.depth]⟩
def NmOk (s : Str) : Prop := (PyData.str s).shown.length ≤ 12
theorem gd_str {s : Str} (h : NmOk s) : Gd 12 1 (.str s) := ⟨h, by simp [PyData.showable], by simp [PyData.hasDict], by simp [PyData.depth]⟩
/-! programs as data -/
def natD (n : Nat) : PyData := .int (n : Int)
def rowD (r : SP.Row) : PyData := .tuple [.int r.w, .tuple (r.yes.map natD), .tuple (r.no.map natD)]
def condD : Cond → PyData
  | .yes a => .tuple [.str "yes", natD a]
  | .no a => .tuple [.str "no", natD a]
  | .least k rs => .tuple [.str "least", .int k, .list (rs.map rowD)]
  | .below k rs => .tuple [.str "below", .int k, .list (rs.map rowD)]
def hD (r : Rl) : PyData := match r.kd with
  | .deny => .none
  | _ => natD r.h
def ruleD (r : Rl) : PyData := .tuple [.str (kR r.kd), hD r, .list (r.b.map condD)]
def atomD (s : Str) : PyData := .tuple [.str s, .tuple []]
def progD (names : List Str) (rs : List Rl) (co : List SP.Row) : PyData := .tuple [.str "program", .list (names.map atomD), .list (rs.map ruleD), .list (co.map rowD)]
/-- bounds -/
structure RwS (r : SP.Row) : Prop where
  w : Few r.w
  y : r.yes.length ≤ 2
  n : r.no.length ≤ 2
  ym : ∀ a ∈ r.yes, a < 1000
  nm : ∀ a ∈ r.no, a < 1000
def CnS : Cond → Prop
  | .yes a => a < 1000
  | .no a => a < 1000
  | .least k rs => Few k ∧ rs.length ≤ 3 ∧ ∀ r ∈ rs, RwS r
  | .below k rs => Few k ∧ rs.length ≤ 3 ∧ ∀ r ∈ rs, RwS r
structure RlS (r : Rl) : Prop where
  b : r.b.length ≤ 3
  h : r.kd ≠ .deny → r.h < 1000
  c : ∀ c ∈ r.b, CnS c
theorem gd_nats {xs : List Nat} (h : xs.length ≤ 2) (m : ∀ a ∈ xs, a < 1000) : Gd 19 2 (.tuple (xs.map natD)) := gd_tup (n := 6) (k := 1) (m := 2) (fun x hx => by
  obtain ⟨a, ha, rfl⟩ := List.mem_map.mp hx
  exact gd_nat (by have := m a ha; omega)) (by rw [List.length_map]; exact h)
theorem gd_row {r : SP.Row} (h : RwS r) : Gd 66 3 (rowD r) := gd_tup (n := 19) (k := 2) (m := 3) (fun x hx => by
  rcases List.mem_cons.mp hx with rfl | hx
  · exact (gd_int h.w).mono (by decide) (by decide)
  rcases List.mem_cons.mp hx with rfl | hx
  · exact gd_nats h.y h.ym
  rcases List.mem_cons.mp hx with rfl | hx
  · exact gd_nats h.n h.nm
  cases hx) (by simp)
theorem gd_rows {m : Nat} {rs : List SP.Row} (h : ∀ r ∈ rs, RwS r) (l : rs.length ≤ m) : Gd (m * 68 + 3) 4 (.list (rs.map rowD)) := gd_list (n := 66) (k := 3) (fun x hx => by
  obtain ⟨a, ha, rfl⟩ := List.mem_map.mp hx
  exact gd_row (h a ha)) (by rw [List.length_map]; exact l)
theorem nm_yes : NmOk "yes" := by unfold NmOk; decide +kernel
theorem nm_no : NmOk "no" := by unfold NmOk; decide +kernel
theorem nm_least : NmOk "least" := by unfold NmOk; decide +kernel
theorem nm_below : NmOk "below" := by unfold NmOk; decide +kernel
theorem nm_prog : NmOk "program" := by unfold NmOk; decide +kernel
theorem nm_kd (k : Kd) : NmOk (kR k) := by unfold NmOk; cases k <;> decide +kernel
theorem gd_cond {c : Cond} (h : CnS c) : Gd 630 5 (condD c) := by
  have two : ∀ (s : Str) (a : Nat), NmOk s → a < 1000 → Gd 630 5 (.tuple [.str s, natD a]) := fun s a hs ha => (gd_tup (n := 12) (k := 1) (m := 2) (fun x hx => by
    rcases List.mem_cons.mp hx with rfl | hx
    · exact gd_str hs
    rcases List.mem_cons.mp hx with rfl | hx
    · exact (gd_nat (by omega)).mono (by decide) (by decide)
    cases hx) (by simp)).mono (by decide) (by decide)
  have sum : ∀ (s : Str) (k : Int) (rs : List SP.Row), NmOk s → Few k → rs.length ≤ 3 → (∀ r ∈ rs, RwS r) → Gd 630 5 (.tuple [.str s, .int k, .list (rs.map rowD)]) := fun s k rs hs hk hl hr => (gd_tup (n := 207) (k := 4) (m := 3) (fun x hx => by
    rcases List.mem_cons.mp hx with rfl | hx
    · exact (gd_str hs).mono (by decide) (by decide)
    rcases List.mem_cons.mp hx with rfl | hx
    · exact (gd_int hk).mono (by decide) (by decide)
    rcases List.mem_cons.mp hx with rfl | hx
    · exact (gd_rows hr hl).mono (by decide) (by decide)
    cases hx) (by simp)).mono (by decide) (by decide)
  cases c with
  | yes a => exact two _ _ nm_yes h
  | no a => exact two _ _ nm_no h
  | least k rs => exact sum _ _ _ nm_least h.1 h.2.1 h.2.2
  | below k rs => exact sum _ _ _ nm_below h.1 h.2.1 h.2.2
theorem gd_rule {r : Rl} (h : RlS r) : Gd 5706 7 (ruleD r) := gd_tup (n := 1899) (k := 6) (m := 3) (fun x hx => by
  rcases List.mem_cons.mp hx with rfl | hx
  · exact (gd_str (nm_kd _)).mono (by decide) (by decide)
  rcases List.mem_cons.mp hx with rfl | hx
  · unfold hD
    cases e : r.kd with
    | deny => exact gd_non.mono (by decide) (by decide)
    | rule => exact (gd_nat (by have := h.h (by rw [e]; exact fun z => nomatch z); omega)).mono (by decide) (by decide)
    | choose => exact (gd_nat (by have := h.h (by rw [e]; exact fun z => nomatch z); omega)).mono (by decide) (by decide)
  rcases List.mem_cons.mp hx with rfl | hx
  · exact gd_list (n := 630) (k := 5) (m := 3) (fun x hx => by
      obtain ⟨a, ha, rfl⟩ := List.mem_map.mp hx
      exact gd_cond (h.c a ha)) (by rw [List.length_map]; exact h.b)
  cases hx) (by simp)
theorem gd_atom {s : Str} (h : NmOk s) : Gd 31 3 (atomD s) := gd_tup (n := 12) (k := 2) (m := 2) (fun x hx => by
  rcases List.mem_cons.mp hx with rfl | hx
  · exact (gd_str h).mono (by decide) (by decide)
  rcases List.mem_cons.mp hx with rfl | hx
  · exact (gd_tup (n := 0) (k := 0) (m := 0) (fun x hx => by cases hx) (by simp)).mono (by decide) (by decide)
  cases hx) (by simp)
theorem gd_prog {names : List Str} {rs : List Rl} {co : List SP.Row} (h1 : names.length ≤ 200) (h2 : ∀ s ∈ names, NmOk s) (h3 : rs.length ≤ 400) (h4 : ∀ r ∈ rs, RlS r) (h5 : co.length ≤ 200) (h6 : ∀ r ∈ co, RwS r) : Gd 10000000 60 (progD names rs co) :=
  (gd_tup (n := 2283203) (k := 8) (m := 4) (fun x hx => by
    rcases List.mem_cons.mp hx with rfl | hx
    · exact (gd_str nm_prog).mono (by decide) (by decide)
    rcases List.mem_cons.mp hx with rfl | hx
    · exact (gd_list (n := 31) (k := 3) (m := 200) (fun x hx => by
        obtain ⟨a, ha, rfl⟩ := List.mem_map.mp hx
        exact gd_atom (h2 a ha)) (by rw [List.length_map]; exact h1)).mono (by decide) (by decide)
    rcases List.mem_cons.mp hx with rfl | hx
    · exact (gd_list (n := 5706) (k := 7) (m := 400) (fun x hx => by
        obtain ⟨a, ha, rfl⟩ := List.mem_map.mp hx
        exact gd_rule (h4 a ha)) (by rw [List.length_map]; exact h3)).mono (by decide) (by decide)
    rcases List.mem_cons.mp hx with rfl | hx
    · exact (gd_rows h6 h5).mono (by decide) (by decide)
    cases hx) (by simp)).mono (by decide) (by decide)
/-! data in the heap -/
section
variable {K : PySem.W.Frag} {M : Vol} {H : Hp}
theorem dp_all {α : Type} {f : α → PyData} : ∀ {zs : List (α × V)}, (∀ z ∈ zs, Dp K H z.2 (f z.1)) → DpAll K H (zs.map Prod.snd) ((zs.map Prod.fst).map f)
  | [], _ => .nil
  | z :: r, h => .cons (h z List.mem_cons_self) (dp_all fun y hy => h y (List.mem_cons_of_mem _ hy))
theorem dp_nats : ∀ (xs : List Nat), DpAll K H (xs.map vN) (xs.map natD)
  | [] => .nil
  | x :: r => .cons (.int _) (dp_nats r)
theorem dp_row {r : SP.Row} {v : V} (h : RowAt K M r v H) : Dp K H v (rowD r) := by
  obtain ⟨a, y, n, rfl, h1, h2, h3⟩ := h
  exact .tup h1.2 (.cons (.int _) (.cons (.tup h2.2 (dp_nats _)) (.cons (.tup h3.2 (dp_nats _)) .nil)))
theorem dp_rows {rs : List SP.Row} {q : Addr} (h : RowsAt K M rs q H) : Dp K H (.ref q) (.list (rs.map rowD)) := by
  obtain ⟨zs, h1, rfl, h3⟩ := h
  exact .lst h1.2 (dp_all fun z hz => dp_row (h3 z hz))
theorem dp_cond {c : Cond} {v : V} (h : CondAt K M c v H) : Dp K H v (condD c) := by
  cases c with
  | yes a => obtain ⟨p, rfl, h1⟩ := h; exact .tup h1.2 (.cons (.str _) (.cons (.int _) .nil))
  | no a => obtain ⟨p, rfl, h1⟩ := h; exact .tup h1.2 (.cons (.str _) (.cons (.int _) .nil))
  | least k rs => obtain ⟨p, q, rfl, h1, h2⟩ := h; exact .tup h1.2 (.cons (.str _) (.cons (.int _) (.cons (dp_rows h2) .nil)))
  | below k rs => obtain ⟨p, q, rfl, h1, h2⟩ := h; exact .tup h1.2 (.cons (.str _) (.cons (.int _) (.cons (dp_rows h2) .nil)))
theorem dp_rule {r : Rl} {v : V} (h : RlAt K M r v H) : Dp K H v (ruleD r) := by
  obtain ⟨p, q, rfl, h1, zs, h2, h3, h4⟩ := h
  refine .tup h1.2 (.cons (.str _) (.cons ?_ (.cons ?_ .nil)))
  · unfold hV hD
    cases r.kd
    · exact .int _
    · exact .int _
    · exact .non
  · rw [← h3]; exact .lst h2.2 (dp_all fun z hz => dp_cond (h4 z hz))
def AtAt (K : PySem.W.Frag) (M : Vol) (s : Str) (v : V) (H : Hp) : Prop := ∃ p e, v = .ref p ∧ TupL K M H p [.str s, .ref e] ∧ TupL K M H e []
theorem AtAt.kx {A B : Hp} {s : Str} {v : V} (h : AtAt K M s v A) (k : Kx M A B) : AtAt K M s v B := by
  obtain ⟨p, e, h0, h1, h2⟩ := h; exact ⟨p, e, h0, h1.kx k, h2.kx k⟩
theorem AtAt.anti {M' : Vol} {A : Hp} {s : Str} {v : V} (h : AtAt K M' s v A) (i : ∀ b, M b → M' b) : AtAt K M s v A := by
  obtain ⟨p, e, h0, h1, h2⟩ := h; exact ⟨p, e, h0, h1.anti i, h2.anti i⟩
theorem dp_atom {s : Str} {v : V} (h : AtAt K M s v H) : Dp K H v (atomD s) := by
  obtain ⟨p, e, rfl, h1, h2⟩ := h
  exact .tup h1.2 (.cons (.str _) (.cons (.tup h2.2 .nil) .nil))
/-- what repr shows of a thing, now and as long as what is apart stands -/
def Shw (K : PySem.W.Frag) (M : Vol) (p : Addr) (H : Hp) : Prop := ∃ d, Gd 10000000 60 d ∧ ∀ H', Kx M H H' → Dp K H' (.ref p) d
theorem Shw.kx {A B : Hp} {p : Addr} (h : Shw K M p A) (k : Kx M A B) : Shw K M p B := by
  obtain ⟨d, g, f⟩ := h; exact ⟨d, g, fun H' k' => f H' (k.trans k')⟩
theorem shw_prog {p at_ rl cq : Addr} {az : List (Str × V)} {zs : List (Rl × V)} {co : List SP.Row} (h1 : TupL K M H p [.str "program", .ref at_, .ref rl, .ref cq]) (h2 : LstL K M H at_ (az.map Prod.snd)) (h3 : ∀ z ∈ az, AtAt K M z.1 z.2 H) (h4 : RzAt K M zs rl H) (h5 : RowsAt K M co cq H)
    (g1 : az.length ≤ 200) (g2 : ∀ z ∈ az, NmOk z.1) (g3 : zs.length ≤ 400) (g4 : ∀ z ∈ zs, RlS z.1) (g5 : co.length ≤ 200) (g6 : ∀ r ∈ co, RwS r) : Shw K M p H :=
  ⟨progD (az.map Prod.fst) (zs.map Prod.fst) co, gd_prog (by rw [List.length_map]; exact g1) (fun s hs => by
    obtain ⟨z, hz, rfl⟩ := List.mem_map.mp hs
    exact g2 z hz) (by rw [List.length_map]; exact g3) (fun r hr => by
    obtain ⟨z, hz, rfl⟩ := List.mem_map.mp hr
    exact g4 z hz) g5 g6, fun H' k => .tup (h1.kx k).2 (.cons (.str _) (.cons (.lst (h2.kx k).2 (dp_all fun z hz => dp_atom ((h3 z hz).kx k))) (.cons (.lst (h4.1.kx k).2 (dp_all fun z hz => dp_rule ((h4.2 z hz).kx k))) (.cons (dp_rows (h5.kx k)) .nil))))⟩
end
end LG
set_option Elab.async false
set_option linter.all false
set_option maxRecDepth 100000
set_option maxHeartbeats 2000000
namespace LG
open PySem PySem.Spec PyProof.Rows L2 C8 SX GX LC SP SG
theorem bDs_lay (xs : List Bool) : PyData.canLay0 (.list (xs.map PyData.bool)) = true := by
  rw [PyData.canLay0]
  induction xs with
  | nil => rfl
  | cons x r ih => rw [List.map_cons, PyData.canLayAll0, ih]; rfl
theorem bDs_shaped (xs : List Bool) : SeqAt.shaped (.list (xs.map PyData.bool)) = true := by
  have h2 : PyData.depthAll (xs.map PyData.bool) ≤ 1 := by
    induction xs with
    | nil => exact Nat.zero_le _
    | cons x r ih =>
      rw [List.map_cons, PyData.depthAll]
      have : (PyData.bool x).depth ≤ 1 := by rw [PyData.depth]; omega
      exact Nat.max_le.mpr ⟨this, ih⟩
  unfold SeqAt.shaped
  rw [bDs_lay, PyData.depth]
  simp only [Bool.true_and, decide_eq_true_eq]
  omega
theorem bDs_dp {K : PySem.W.Frag} {H : Hp} : ∀ xs : List Bool, DpAll K H (xs.map V.bl) (xs.map PyData.bool)
  | [] => .nil
  | x :: r => .cons (.bl _) (bDs_dp r)
theorem ne_bools {K : PySem.W.Frag} {H : Hp} {a b : Addr} {bs : List Bool} {Q : VK} (h1 : SqL K H a (bs.map V.bl)) (h2 : SqL K H b (bs.map V.bl)) (k : Q (.bl false) H) : rNeD K (.ref a) (.ref b) H Q := by
  refine ⟨_, _, .lst h1 (bDs_dp bs), .lst h2 (bDs_dp bs), bDs_shaped bs, bDs_shaped bs, ?_⟩
  rw [show PyData.eqv _ _ = true from SeqAt.eqv_refl _ (bDs_lay bs)]
  exact k
theorem cut_from {xs : List V} {n : Nat} : cutV xs (some (n : Int)) none = xs.drop n := by
  unfold cutV
  rw [HT.sIx_nat, HT.sIx_none]
  by_cases h : n ≤ xs.length
  · rw [Nat.min_eq_left h, List.take_of_length_le (by rw [List.length_drop]; omega)]
  · rw [Nat.min_eq_right (by omega), List.drop_eq_nil_of_le (Nat.le_refl _), List.drop_eq_nil_of_le (by omega), List.take_nil]
theorem cut_to {xs : List V} {n : Nat} : cutV xs none (some (n : Int)) = xs.take n := by
  unfold cutV
  rw [HT.sIx_nat, HT.sIx_none, List.drop_zero, Nat.sub_zero]
  by_cases h : n ≤ xs.length
  · rw [Nat.min_eq_left h]
  · rw [Nat.min_eq_right (by omega), List.take_of_length_le (Nat.le_refl _), List.take_of_length_le (by omega)]
end LG
set_option Elab.async false
set_option linter.all false
set_option maxRecDepth 100000
set_option maxHeartbeats 4000000
namespace LR
open PySem PySem.Spec PyProof.Rows L2 C8
/-! sorted(d, key=rank): a dict with whole numbers and texts as keys; rank gives (0, number) or (1, text) -/
def tagK : Key → Int
  | .inl _ => 0
  | .inr _ => 1
def itK : Key → Int ⊕ List Nat
  | .inl i => .inl i
  | .inr x => .inr x.cps.toList
/-- numbers first, then texts, each in their own order -/
def leK (a b : Key) : Prop := itemLt (itK b) (itK a) = false
theorem itK_inj : ∀ {a b : Key}, itK a = itK b → a = b
  | .inl i, .inl j, h => by rw [Sum.inl.inj h]
  | .inl i, .inr y, h => nomatch h
  | .inr x, .inl j, h => nomatch h
  | .inr x, .inr y, h => by
    have e := Array.toList_inj.mp (Sum.inr.inj h)
    cases x; cases y
    simp only at e
    rw [e]
/-- the object at v is the rank of k -/
def RankAt (h : Heap) (v : Value) (k : Key) : Prop := ∃ (p : Addr) (ob : Obj) (its : Array Value) (n : Nat) (t : Tok) (u : Value), v = .ref p ∧ h.get? p = some ob ∧ ob.cls = .type "tuple" ∧ ob.data = .seq its n ∧ its.toList = [.int (tagK k) t, u] ∧ RelV (kV k) u
theorem rel_key : ∀ {k l : Key} {u : Value}, RelV (kV k) u → RelV (kV l) u → k = l
  | .inl i, .inl j, u, h1, h2 => by
    obtain ⟨t, e⟩ := (show ∃ t, u = Value.int i t from h1)
    obtain ⟨t', e'⟩ := (show ∃ t, u = Value.int j t from h2)
    rw [e] at e'; cases e'; rfl
  | .inl i, .inr y, u, h1, h2 => by
    obtain ⟨t, e⟩ := (show ∃ t, u = Value.int i t from h1)
    obtain ⟨t', e'⟩ := (show ∃ t, u = Value.str y t from h2)
    rw [e] at e'; cases e'
  | .inr x, .inl j, u, h1, h2 => by
    obtain ⟨t, e⟩ := (show ∃ t, u = Value.str x t from h1)
    obtain ⟨t', e'⟩ := (show ∃ t, u = Value.int j t from h2)
    rw [e] at e'; cases e'
  | .inr x, .inr y, u, h1, h2 => by
    obtain ⟨t, e⟩ := (show ∃ t, u = Value.str x t from h1)
    obtain ⟨t', e'⟩ := (show ∃ t, u = Value.str y t from h2)
    rw [e] at e'; cases e'; rfl
theorem RankAt.one {h : Heap} {v : Value} {k l : Key} (a : RankAt h v k) (b : RankAt h v l) : k = l := by
  obtain ⟨p, ob, its, n, t, u, rfl, e1, _, d1, l1, r1⟩ := a
  obtain ⟨q, ob2, its2, n2, t2, u2, ev, e2, _, d2, l2, r2⟩ := b
  cases ev
  rw [e1] at e2; cases e2
  rw [d1] at d2; cases d2
  rw [l1] at l2
  have eu : u = u2 := by
    have := (List.cons.inj (List.cons.inj l2).2).1
    exact this
  subst eu
  exact rel_key r1 r2
theorem RankAt.keep {h h' : Heap} {v : Value} {k : Key} (a : RankAt h v k) (kp : ∀ b o, o.cls = .type "tuple" → h.get? b = some o → h'.get? b = some o) : RankAt h' v k := by
  obtain ⟨p, ob, its, n, t, u, rfl, e1, c1, rest⟩ := a
  exact ⟨p, ob, its, n, t, u, rfl, kp p ob c1 e1, c1, rest⟩
noncomputable def rankKind (h : Heap) : KeyKind where
  toKeyOrd := itemOrd
  keyOf v := open Classical in if q : ∃ k, RankAt h v k then some (itK q.choose) else none
  dflt := .inl 0
theorem rank_some {h : Heap} {v : Value} {k : Key} (r : RankAt h v k) : (rankKind h).keyOf v = some (itK k) := by
  have q : ∃ k, RankAt h v k := ⟨k, r⟩
  show (open Classical in if q : ∃ k, RankAt h v k then some (itK q.choose) else none) = _
  rw [dif_pos q, q.choose_spec.one r]
theorem rank_inv {h : Heap} {v : Value} {a : Int ⊕ List Nat} (e : (rankKind h).keyOf v = some a) : ∃ k, RankAt h v k ∧ a = itK k := by
  by_cases q : ∃ k, RankAt h v k
  · obtain ⟨k, r⟩ := id q
    rw [rank_some r] at e
    exact ⟨k, r, (Option.some.inj e).symm⟩
  · have e' : (rankKind h).keyOf v = none := by
      show (open Classical in if q : ∃ k, RankAt h v k then some (itK q.choose) else none) = _
      rw [dif_neg q]; rfl
    rw [e'] at e; cases e
section
variable {P : Program} {w : World} {A : Around} {s : Shared}
theorem rank_ltAt : H.LtAt P w A s (rankKind s.heap) (tuples' true) := by
  intro E x y a b Q hx hy hq
  obtain ⟨k, rx, rfl⟩ := rank_inv hx
  obtain ⟨l, ry, rfl⟩ := rank_inv hy
  obtain ⟨p, o, xs, n, t1, u1, rfl, ho, hc, hd, hl, r1⟩ := rx
  obtain ⟨q, o2, ys, m, t2, u2, rfl, ho2, hc2, hd2, hl2, r2⟩ := ry
  have sx : xs.size = 2 := by rw [← Array.length_toList, hl]; rfl
  have sy : ys.size = 2 := by rw [← Array.length_toList, hl2]; rfl
  have fin : decide (xs.size < ys.size) = false := by rw [sx, sy]; rfl
  refine PySem.W.kat_lt ho hd ho2 hd2 ?_
  rw [hl, hl2, fin]
  have hq : Q (itemLt (itK k) (itK l)) s := hq
  show PySem.W.KatLex P w A true false Q [(.int (tagK k) t1, .int (tagK l) t2), (u1, u2)] 0 s
  refine PySem.W.kat_cons (wpAny_eqBool_int ?_)
  cases k with
  | inl i =>
    obtain ⟨z1, rfl⟩ := (show ∃ t, u1 = Value.int i t from r1)
    cases l with
    | inl j =>
      obtain ⟨z2, rfl⟩ := (show ∃ t, u2 = Value.int j t from r2)
      have hq : Q (decide (i < j)) s := hq
      refine PySem.W.kat_go (fun _ => PySem.W.kat_yes ?_) (fun e => absurd e (by simp [tagK]))
      refine PySem.W.kat_cons (wpAny_eqBool_int ?_)
      refine PySem.W.kat_go (fun e => PySem.W.kat_yes (PySem.W.kat_nil ?_)) (fun e => PySem.W.kat_no (oneLt_any_int hq))
      have e : i = j := by simpa using e
      subst e
      rw [decide_eq_false (by omega)] at hq
      exact hq
    | inr y =>
      have hq : Q true s := hq
      refine PySem.W.kat_go (fun e => absurd e (by simp [tagK])) (fun _ => PySem.W.kat_no (oneLt_any_int hq))
  | inr x =>
    obtain ⟨z1, rfl⟩ := (show ∃ t, u1 = Value.str x t from r1)
    cases l with
    | inl j =>
      have hq : Q false s := hq
      refine PySem.W.kat_go (fun e => absurd e (by simp [tagK])) (fun _ => PySem.W.kat_no (oneLt_any_int hq))
    | inr y =>
      obtain ⟨z2, rfl⟩ := (show ∃ t, u2 = Value.str y t from r2)
      have hq : Q (decide (x.cps.toList < y.cps.toList)) s := hq
      refine PySem.W.kat_go (fun _ => PySem.W.kat_yes ?_) (fun e => absurd e (by simp [tagK]))
      refine PySem.W.kat_cons (wpAny_eqBool_str ?_)
      refine PySem.W.kat_go (fun e => PySem.W.kat_yes (PySem.W.kat_nil ?_)) (fun e => PySem.W.kat_no (oneLt_any_str hq))
      have e : x = y := of_decide_eq_true e
      subst e
      rw [decide_eq_false (List.lt_irrefl _)] at hq
      exact hq
theorem rank_firsts {h : Heap} : ∀ {vs : List Value} {ks : List Key}, PySem.W.EachIs (RankAt h) vs ks → ∃ fs, PySem.W.KatTups h vs fs ∧ fs.length = vs.length ∧ ∀ f ∈ fs, ∃ i t, f = Value.int i t
  | _, _, .nil => ⟨[], PySem.W.KatTups.nil, rfl, fun f hf => nomatch hf⟩
  | _, _, .cons r t => by
    obtain ⟨fs, h1, h2, h3⟩ := rank_firsts t
    obtain ⟨p, o, xs, n, t1, u1, rfl, ho, hc, hd, hl, _⟩ := r
    refine ⟨_ :: fs, PySem.W.KatTups.cons ho hc hd (f := .int _ t1) (by rw [← Array.getElem?_toList, hl]; rfl) h1, by simp [h2], fun f hf => ?_⟩
    rcases List.mem_cons.mp hf with e | hf
    · exact ⟨_, _, e⟩
    · exact h3 f hf
theorem each_left {α β : Type} {R : α → β → Prop} : ∀ {as : List α} {bs : List β}, PySem.W.EachIs R as bs → ∀ a ∈ as, ∃ b ∈ bs, R a b
  | _, _, .nil, a, h => nomatch h
  | _, _, .cons r t, a, h => by
    rcases List.mem_cons.mp h with e | h
    · subst e; exact ⟨_, List.mem_cons_self, r⟩
    · obtain ⟨b, hb, rb⟩ := each_left t a h
      exact ⟨b, List.mem_cons_of_mem _ hb, rb⟩
theorem rank_sorts {vs : List Value} {ks : List Key} (e : PySem.W.EachIs (RankAt s.heap) vs ks) : PySem.W.SortsAt P w A s (rankKind s.heap) vs := by
  refine ⟨fun v hv => ?_, tuples' true, rank_ltAt, fun h2 E Q hq => ?_⟩
  · obtain ⟨k, _, r⟩ := each_left e v hv
    exact ⟨_, rank_some r⟩
  · obtain ⟨fs, h1, hl, h3⟩ := rank_firsts e
    have eq1 : (Value.type "int" != Value.type "tuple") = true := by first | rfl | decide
    refine PySem.W.kat_kind (T := Value.type "int") h1 (by omega) (fun v hv => ?_) rfl (by rw [eq1]; exact hq)
    obtain ⟨i, t, rfl⟩ := h3 v hv
    exact PySem.W.Looks.of_pure rfl
end
/-- what stands for a key -/
def unK : Value → Key
  | .int i _ => .inl i
  | .str x _ => .inr x
  | _ => .inl 0
theorem unK_of : ∀ {k : Key} {v : Value}, RelV (kV k) v → unK v = k
  | .inl i, v, h => by
    obtain ⟨t, rfl⟩ := (show ∃ t, v = Value.int i t from h); rfl
  | .inr x, v, h => by
    obtain ⟨t, rfl⟩ := (show ∃ t, v = Value.str x t from h); rfl
theorem vals_unK : ∀ {out : List Value}, (∀ v ∈ out, RelV (kV (unK v)) v) → Vals ((out.map unK).map kV) out
  | [], _ => .nil
  | v :: r, h => .cons (h v List.mem_cons_self) (vals_unK fun u hu => h u (List.mem_cons_of_mem _ hu))
theorem zip_rel {h : Heap} : ∀ {kz vs : List Value} {ks : List Key}, PySem.W.EachIs (RankAt h) kz ks → Paired (fun k v => RelV (kV k) v) ks vs → ∀ p ∈ kz.zip vs, RankAt h p.1 (unK p.2) ∧ RelV (kV (unK p.2)) p.2
  | _, _, _, .nil, .nil, p, hp => nomatch hp
  | _, _, _, .cons r t, .cons q u, p, hp => by
    rcases List.mem_cons.mp hp with e | hp
    · subst e
      refine ⟨?_, ?_⟩
      · rw [unK_of q]; exact r
      · rw [unK_of q]; exact q
    · exact zip_rel t u p hp
theorem map_unK : ∀ {ks : List Key} {vs : List Value}, Paired (fun k v => RelV (kV k) v) ks vs → vs.map unK = ks
  | _, _, .nil => rfl
  | _, _, .cons q u => by rw [List.map_cons, unK_of q, map_unK u]
/-- the sorted list -/
theorem sorted_keys {h : Heap} {kz vs : List Value} {ks : List Key} (e : PySem.W.EachIs (RankAt h) kz ks) (q : Paired (fun k v => RelV (kV k) v) ks vs) :
    ∃ ys : List Key, ys.Perm ks ∧ ys.Pairwise leK ∧ Vals (ys.map kV) (PySem.W.sortVals (rankKind h) false kz vs) := by
  have hl : kz.length = vs.length := e.length.trans q.length
  have zr := zip_rel e q
  have pm : ((kz.zip vs).mergeSort (PySem.W.sortLe (rankKind h).toKeyOrd false fun p : Keyed => PySem.W.keyD (rankKind h) p.1)).Perm (kz.zip vs) := List.mergeSort_perm _ _
  generalize hps : (kz.zip vs).mergeSort (PySem.W.sortLe (rankKind h).toKeyOrd false fun p : Keyed => PySem.W.keyD (rankKind h) p.1) = ps at pm
  have eo : PySem.W.sortVals (rankKind h) false kz vs = ps.map Prod.snd := by unfold PySem.W.sortVals; rw [hps]
  have T := PySem.W.sortLe_total (rankKind h).toKeyOrd false (fun p : Keyed => PySem.W.keyD (rankKind h) p.1)
  have srt : ps.Pairwise fun p q => (PySem.W.sortLe (rankKind h).toKeyOrd false (fun p : Keyed => PySem.W.keyD (rankKind h) p.1)) p q = true := by
    rw [← hps]
    exact List.pairwise_mergeSort (fun a b c => T.trans a b c) (fun a b => by rw [Bool.or_eq_true]; exact T.total a b) _
  have mem : ∀ p ∈ ps, RankAt h p.1 (unK p.2) ∧ RelV (kV (unK p.2)) p.2 := fun p hp => zr p (pm.mem_iff.mp hp)
  refine ⟨(ps.map Prod.snd).map unK, ?_, ?_, ?_⟩
  · have h1 : (kz.zip vs).map Prod.snd = vs := List.map_snd_zip (by omega)
    have h2 := (pm.map Prod.snd).map unK
    rw [h1, map_unK q] at h2
    exact h2
  · rw [List.map_map, List.pairwise_map]
    refine srt.imp_of_mem fun {a b} ha hb hab => ?_
    have ka : PySem.W.keyD (rankKind h) a.1 = itK (unK a.2) := PySem.W.keyD_some (rank_some (mem a ha).1)
    have kb : PySem.W.keyD (rankKind h) b.1 = itK (unK b.2) := PySem.W.keyD_some (rank_some (mem b hb).1)
    have hab : (!itemLt (PySem.W.keyD (rankKind h) b.1) (PySem.W.keyD (rankKind h) a.1)) = true := hab
    rw [ka, kb] at hab
    show itemLt (itK (unK b.2)) (itK (unK a.2)) = false
    simpa using hab
  · rw [eo]
    refine vals_unK fun v hv => ?_
    obtain ⟨p, hp, rfl⟩ := List.mem_map.mp hv
    exact (mem p hp).2
end LR
set_option Elab.async false
set_option linter.all false
set_option maxRecDepth 100000
set_option maxHeartbeats 4000000
namespace LR
open PySem PySem.Spec PyProof.Rows L2 C8
/-- what the key def promises -/
def spRank (_K : PySem.W.Frag) : Sp := fun vs H Q _ => ∃ k : Key, vs = [kV k] ∧ ∀ t, H t = none → Q (.ref t) (upd H t (.tup [.int (tagK k), kV k]))
/-- sorted(d, key=f), d a dict of numbers and texts -/
def rSortRank (f : Addr) : List V → List V → Hp → VK → Prop := fun vs zs H Q => ∃ (a : Addr) (kvs : List (Key × V)), vs = [.ref a] ∧ zs = [.ref f] ∧ Rd H a (.dK kvs) ∧ kvs.length < sizeLine ∧
  ∀ (ys : List Key) (p : Addr) (H' : Hp), ys.Perm (kvs.map (·.1)) → ys.Pairwise leK → Same H H' → H p = none → H' p = some (.lst (ys.map kV)) → Q (.ref p) H'
/-- what a walk of a dict's keys has laid into an array -/
theorem keyVals {vs : List (Key × Value)} {arr : Array Value} (hn : arr.size = vs.length)
    (hat : ∀ (i : Nat) (u : Value), arr[i]? = some u → ∃ key val, vs[i]? = some (key, val) ∧ keyIs key u = true) : Paired (fun k v => RelV (kV k) v) (vs.map Prod.fst) arr.toList := by
  have go : ∀ (vs : List (Key × Value)) (us : List Value), us.length = vs.length → (∀ (i : Nat) (u : Value), us[i]? = some u → ∃ key val, vs[i]? = some (key, val) ∧ keyIs key u = true) → Paired (fun k v => RelV (kV k) v) (vs.map Prod.fst) us := by
    intro vs
    induction vs with
    | nil =>
      intro us hl _
      cases us with
      | nil => exact .nil
      | cons u r => cases hl
    | cons p r ih =>
      intro us hl h
      cases us with
      | nil => cases hl
      | cons u t =>
        refine .cons ?_ (ih t (Nat.succ.inj hl) fun i v hv => h (i + 1) v hv)
        obtain ⟨key, val, e, hk⟩ := h 0 u rfl
        have e : p = (key, val) := Option.some.inj e
        subst e
        rcases keyIs_shape hk with ⟨m, tok, em, eu⟩ | ⟨x, tok, em, eu⟩
        · subst em; exact (show ∃ t, u = Value.int m t from ⟨tok, eu⟩)
        · subst em; exact (show ∃ t, u = Value.str x t from ⟨tok, eu⟩)
  exact go vs arr.toList (by rw [Array.length_toList]; exact hn) fun i u hu => hat i u (by rw [← Array.getElem?_toList]; exact hu)
theorem each_snoc' {α β : Type} {R : α → β → Prop} : ∀ {as : List α} {bs : List β} {a : α} {b : β}, PySem.W.EachIs R as bs → R a b → PySem.W.EachIs R (as ++ [a]) (bs ++ [b])
  | _, _, _, _, .nil, h => .cons h .nil
  | _, _, _, _, .cons r t, h => .cons r (each_snoc' t h)
theorem paired_at {ks : List Key} {vs : List Value} (q : Paired (fun k v => RelV (kV k) v) ks vs) : ∀ {j : Nat} {v : Value}, vs[j]? = some v → ∃ k, ks[j]? = some k ∧ RelV (kV k) v := by
  induction q with
  | nil => intro j v h; simp at h
  | cons r t ih =>
    intro j v h
    cases j with
    | zero =>
      rw [List.getElem?_cons_zero] at h
      cases h
      exact ⟨_, rfl, r⟩
    | succ j => exact ih h
section
variable {X : Cx} {pins : List (Addr × Obj)} {σ : L2.St} {H : Hp} {n : Nat} {f : Addr} {fd : FuncData} {ps : List Str}
def RkH (H : Hp) (v : Value) (k : Key) : Prop := ∃ t, v = .ref t ∧ H t = some (.tup [.int (tagK k), kV k])
/-- what stands while the keys are made: the two lists of the sort, the keys so far -/
structure Made (X : Cx) (pins : List (Addr × Obj)) (σ : L2.St) (H : Hp) (a kS : Addr) (e1 : Nat) (ks : List Key) (s : Shared) : Prop where
  ex : ∃ (H' : Hp) (kA : Array Value) (e : Nat), Inv X pins σ H' s ∧ Same H H' ∧ FpOk X pins H' a ∧ FpOk X pins H' kS ∧ s.heap.get? kS = some (seqObj "list" kA e) ∧ s.heap.get? a = some (seqObj "list" #[] e1) ∧ PySem.W.EachIs (RkH H') kA.toList ks
theorem tup_rank {P : Program} {w : World} {H : Hp} {s : Shared} {t : Addr} {k : Key} {u : Value} (ok : HOk P w H s.heap) (e : H t = some (.tup [.int (tagK k), kV k])) (r : RelV (.ref t) u) : RankAt s.heap u k := by
  obtain ⟨_, its, rv, ob, e1, c1, n, d1⟩ := ok t _ e
  obtain rfl : u = Value.ref t := r
  obtain ⟨u1, u2, rfl, r1, r2⟩ := vals2 rv
  obtain ⟨tk, rfl⟩ := (show ∃ t, u1 = Value.int (tagK k) t from r1)
  exact ⟨t, ob, _, n, tk, u2, rfl, e1, c1, d1, by simp, r2⟩
theorem make_key (F : FnOk X.prog X.w X.K X.mg X.base C8.CX0 n f fd ps (spRank X.K)) (hb : Binds X.K fd ps []) {A : Around} (hA : ∀ {s H}, Inv X pins σ H s → Env0 X.prog X.w X.K X.mg X.base A X.stack s H) (hr : Room n A)
    {a kS : Addr} {e1 : Nat} {ks : List Key} {k : Key} {v : Value} {s : Shared} (hka : kS ≠ a) (fits : ks.length < sizeLine) (M : Made X pins σ H a kS e1 ks s) (rv : RelV (kV k) v) {E : Value → Shared → Prop} :
    wpAny (model X.prog X.w) A (call (.ref f) [v]) (fun u s' => ∃ (kA : Array Value) (e : Nat), s'.heap.get? kS = some (seqObj "list" kA e) ∧ kA.size ≤ sizeLine - 1 ∧ kA.size = ks.length ∧ Made X pins σ H a kS e1 (ks ++ [k]) { s' with heap := s'.heap.update kS (Obj.mapSeq (·.push u)) }) E s := by
  obtain ⟨H', kA, e, I, sm, fa, fk, nk, na, ev⟩ := M.ex
  have hlen : kA.size = ks.length := by rw [← Array.length_toList]; exact ev.length
  have b := hb s [v] I.kIn (by rw [← F.len [kV k] H' (fun _ _ => True) (fun _ _ _ => True) ⟨k, rfl, fun _ _ => trivial⟩]; rfl)
  rw [List.append_nil] at b
  refine wpAny_call (codeAny_mono (F.run A X.stack s H' ⟨[v], []⟩ [v] [kV k] (fun v' H2 => ∃ t, v' = .ref t ∧ H' t = none ∧ H2 = upd H' t (.tup [.int (tagK k), kV k])) (fun _ _ _ => False) hr (hA I) b (.cons rv .nil) ⟨k, rfl, fun t ht => ⟨t, rfl, ht, rfl⟩⟩) fun r s' hq => ?_)
  cases r with
  | error x => exact hq.elim
  | ok fl =>
    cases fl with
    | next => exact hq.elim
    | brk => exact hq.elim
    | cont => exact hq.elim
    | ret u =>
      obtain ⟨v', H2, eos, bare, un, hok, ru, t, rfl, ht, rfl⟩ := hq
      have nfr : ∀ {b}, FpOk X pins H' b → b ∉ frs X.stack := fun {b} fb hb => (List.mem_cons.mp (I.stkSub b hb)).elim fb.2.1 fb.2.2.1
      have nk' := un.keep kS _ nk fk.1 (nfr fk) (by simp)
      have na' := un.keep a _ na fa.1 (nfr fa) (by simp)
      have I2 : Inv X pins σ (upd H' t (.tup [.int (tagK k), kV k])) s' := I.call' (ch := []) eos un hok bare (fun b z => nomatch z)
      have ne : ∀ {b}, FpOk X pins H' b → (∃ o, s.heap.get? b = some o) → b ≠ t := fun {b} fb ⟨o, eo⟩ z => by
        have := un.free b o eo fb.1 (by simp)
        rw [z, upd_same] at this; cases this
      have fk2 : FpOk X pins (upd H' t (.tup [.int (tagK k), kV k])) kS := ⟨by rw [upd_ne (ne fk ⟨_, nk⟩)]; exact fk.1, fk.2⟩
      have fa2 : FpOk X pins (upd H' t (.tup [.int (tagK k), kV k])) a := ⟨by rw [upd_ne (ne fa ⟨_, na⟩)]; exact fa.1, fa.2⟩
      have sb := Heap.SameBut.update s'.heap kS (Obj.mapSeq (·.push u))
      obtain ⟨c2, hc2⟩ : ∃ c2, (s'.heap.update kS (Obj.mapSeq (·.push u))).get? kS = some (seqObj "list" (kA.push u) c2) := ⟨_, get?_update_seq nk' (·.push u)⟩
      refine ⟨kA, e, nk', by omega, hlen, ⟨_, kA.push u, c2, ?_, sm.trans (LC.same_new ht), fa2, fk2, hc2, (sb.2 a (Ne.symm hka)).trans na', ?_⟩⟩
      · exact I2.turnedL (t' := s'.toks) (ch := [kS]) (fun b o hb q => (sb.2 b (fun z => hb (by simp [z]))).trans q) (fun b hb => by rw [List.mem_singleton.mp hb]; exact fk2)
      · rw [Array.toList_push]
        obtain rfl : u = Value.ref t := ru
        exact each_snoc' (ev.mono fun v k ⟨p, e, hp⟩ => ⟨p, e, by rw [upd_ne (ne_of_none hp ht)]; exact hp⟩) ⟨t, rfl, upd_same⟩

theorem tree_one (q a : Addr) : Builtin.«list.sort» ⟨[.ref a], [(Str.ofString "key", .ref q)]⟩ = ksk_tree a (.ref q) false := PyProof.Rows.ksk_t1 q a
/-- the keys are there: the sort itself, the new list tracked -/
theorem sort_end {a kS : Addr} {e1 : Nat} {ks : List Key} {vs : List Value} {s : Shared} {A : Around} {Q : Fin → Shared → Prop} {E : Value → Shared → Prop} (hka : kS ≠ a) (M : Made X pins σ H a kS e1 ks s) (q : Paired (fun k v => RelV (kV k) v) ks vs) (fits : ks.length < sizeLine)
    (fin : ∀ (ys : List Key) (H' : Hp) (s' : Shared), ys.Perm ks → ys.Pairwise leK → Same H H' → H' a = some (.lst (ys.map kV)) → Inv X pins σ H' s' → Q (.done (.ret .none)) s') :
    wpAny (model X.prog X.w) A (Builtin.List.listItems (.ref kS) >>= fun keys => ksk_end a false vs.toArray e1 (.ref kS) keys) Q E s := by
  obtain ⟨H', kA, e, I, sm, fa, fk, nk, na, ev⟩ := M.ex
  have er : PySem.W.EachIs (RankAt s.heap) kA.toList ks := ev.mono fun v k ⟨t, ev, ht⟩ => by
    subst ev
    exact tup_rank I.hok ht (show Value.ref t = Value.ref t from rfl)
  have lk : kA.size = ks.length := by rw [← Array.length_toList]; exact ev.length
  have lv : ks.length = vs.length := q.length
  refine wpAny_bind (listItems_at nk rfl ?_)
  obtain ⟨G, g1, g2⟩ := restrict s.heap fun b => decide (b ≠ kS)
  have gk : ∀ b, b ≠ kS → G.get? b = s.heap.get? b := fun b hb => g1 b (decide_eq_true hb)
  have kp : PySem.W.KeepsBut a G s.heap := fun b o _ e => by
    by_cases z : b = kS
    · rw [z, g2 kS (decide_eq_false fun z => z rfl)] at e; cases e
    · rw [gk b z] at e; exact e
  obtain ⟨ys, h1, h2, h3⟩ := sorted_keys er q
  refine PySem.W.keyH_end (κ := rankKind s.heap) (vs := vs) (h₁ := G) kp (g2 kS (decide_eq_false fun z => z rfl)) nk na hka (rank_sorts er) (by omega) (by omega) fun h' tk c keep there => ?_
  have kb : ∀ b o, b ≠ a → b ≠ kS → s.heap.get? b = some o → h'.get? b = some o := fun b o n1 n2 e => keep b o n1 (by rw [gk b n2]; exact e)
  have nb : ∀ {b : Addr} {o : HO}, H' b = some o → b ≠ a ∧ b ≠ kS := fun {b o} e => ⟨(fun z => by rw [z, fa.1] at e; cases e), (fun z => by rw [z, fk.1] at e; cases e)⟩
  have up : ∀ b u, H' b = some u → upd H' a (.lst (ys.map kV)) b = some u := fun b u e => by rw [upd_ne (nb e).1]; exact e
  have new : ObjOk X.prog X.w (upd H' a (.lst (ys.map kV))) h' a (.lst (ys.map kV)) := ⟨by rw [List.length_map, h1.length_eq]; omega, _, c, h3, there⟩
  have inL : X.env.locals ≠ a ∧ X.env.locals ≠ kS := ⟨Ne.symm fa.2.1, Ne.symm fk.2.1⟩
  refine fin ys (upd H' a (.lst (ys.map kV))) { s with heap := h', toks := tk } h1 h2 (fun b o e => up b o (sm b o e)) upd_same ?_
  refine I.step (g' := s.gens) (d' := s.drawn) (ch := [a, kS]) (fun b hb => ?_) (fun b o _ _ hc e _ => kb b o (fun z => hc (by simp [z])) (fun z => hc (by simp [z])) e) (fun b o _ _ hc e _ => ⟨o.slots, kb b o (fun z => hc (by simp [z])) (fun z => hc (by simp [z])) e⟩)
    (fun b o hc _ n => by rw [upd_ne (fun z => hc (by simp [z]))]; exact n) (fun b o hc e => ⟨o, kb b o (fun z => hc (by simp [z])) (fun z => hc (by simp [z])) e⟩) (fun b _ e => up b _ e) (fun b _ _ e => up b _ e) (fun b ps e => ⟨#[], by rw [up b _ e]; simp⟩) (fun m hm => ?_) (fun b u e => ?_) I.bare
  · simp only [List.mem_cons, List.not_mem_nil, or_false] at hb
    rcases hb with z | z
    · rw [z]; exact ⟨fa.2.2.2.1, fa.2.1, fa.2.2.2.2.1, fa.2.2.2.2.2⟩
    · rw [z]; exact ⟨fk.2.2.2.1, fk.2.1, fk.2.2.2.2.1, fk.2.2.2.2.2⟩
  · obtain ⟨o, es, ep, ho, r⟩ := hm
    exact ⟨o, es, ep, kb _ o inL.1 inL.2 ho, r⟩
  · by_cases hb : b = a
    · rw [hb, upd_same] at e
      cases e
      rw [hb]
      exact new
    · rw [upd_ne hb] at e
      refine (I.hok b u e).stay (fun c v hc q => kb c v ?_ ?_ q) (fun c q => up c _ q) fun c _ q => up c _ q
      · rcases hc with z | z
        · rw [z]; exact hb
        · exact (nb z).1
      · rcases hc with z | z
        · rw [z]; exact (nb e).2
        · exact (nb z).2
theorem sort_rest (F : FnOk X.prog X.w X.K X.mg X.base C8.CX0 n f fd ps (spRank X.K)) (hb : Binds X.K fd ps []) {A : Around} (hA : ∀ {s H}, Inv X pins σ H s → Env0 X.prog X.w X.K X.mg X.base A X.stack s H) (hr : Room n A)
    {a kS : Addr} {e1 : Nat} {ks : List Key} {vs : List Value} {s : Shared} {Q : Fin → Shared → Prop} {E : Value → Shared → Prop} (hka : kS ≠ a) (M : Made X pins σ H a kS e1 [] s) (q : Paired (fun k v => RelV (kV k) v) ks vs) (fits : ks.length < sizeLine)
    (fin : ∀ (ys : List Key) (H' : Hp) (s' : Shared), ys.Perm ks → ys.Pairwise leK → Same H H' → H' a = some (.lst (ys.map kV)) → Inv X pins σ H' s' → Q (.done (.ret .none)) s') :
    wpAny (model X.prog X.w) A (ksk_rest a (.ref f) false vs.toArray e1 (.ref kS)) Q E s := by
  unfold ksk_rest
  refine wpAny_bind (wpAny_rule ?_)
  rw [List.forIn_toArray]
  refine wpAny_bind (ksk_fold (fun i s' => Made X pins σ H a kS e1 (ks.take i) s') vs 0 s (by rw [List.take_zero]; exact M) ?step ?done)
  case step =>
    intro j x s' hx hM
    simp only [Nat.zero_add] at hM ⊢
    obtain ⟨k, hk, rk⟩ := paired_at q hx
    have hj : j < ks.length := (List.getElem?_eq_some_iff.mp hk).1
    refine wpAny_bind (wpAny_attempt (wpAny_mono (make_key (E := fun _ _ => False) F hb hA hr hka (by rw [List.length_take]; omega) hM rk) (fun u s'' hm => ?_) fun _ _ z => z.elim))
    obtain ⟨kA, e, nk, z1, z2, M2⟩ := hm
    try dsimp only
    refine wpAny_bind (listUpdate_at nk rfl ?_ (by omega) (by rw [Array.size_push]; omega))
    refine wpAny_pure ⟨rfl, ?_⟩
    rw [List.take_add_one, hk]
    exact M2
  case done =>
    intro s' hM
    rw [Nat.zero_add, List.take_of_length_le (by rw [q.length]; omega)] at hM
    exact sort_end hka hM q fits fin
theorem cr_sortedRank (calm : X.calm = true) (F : FnOk X.prog X.w X.K X.mg X.base C8.CX0 n f fd ps (spRank X.K)) (hb : Binds X.K fd ps []) (hr : Room (n + 2) X.A) : CallRK X (.builtin "sorted") [Str.ofString "key"] (rSortRank f) := by
  rintro pins s σ H xs zs us ws Q I r rz ⟨d, table, rfl, rfl, rd, few, goal⟩
  obtain ⟨u0, rfl, r0⟩ := vals1 r
  cases r0
  obtain ⟨w0, rfl, r0⟩ := vals1 rz
  cases r0
  obtain ⟨fits, sysd, vs, kv, isd⟩ := dk_rd I.hok rd
  obtain ⟨epoch, dat⟩ := isd.dictAt
  have szv : table.length = vs.length := by simpa using congrArg List.length kv.keys
  show wpAny _ _ (call (.builtin "sorted") [.ref d] [(Str.ofString "key", .ref f)]) _ _ _
  refine PyProof.Rows.call_function_entry_kw kind_sorted plain_sorted entry_sorted (PyProof.Rows.ksk_s1 _ _) ?_
  show wpAny _ _ (Builtin.«sorted» _) _ _ _
  unfold Builtin.«sorted»
  refine wpAny_bind (m := checkCount "sorted" 1 1 _) (wpAny_pure (wpAny_bind (PySem.W.kdu_collect (A := X.A.in1) (PySem.W.kdl_dict (knd := mixKind X.prog X.w) (kvs := vs) (ep := epoch) sysd) (I.ok.hd calm) dat (szv ▸ fits) fun heap1 toks1 arr keep full => ?_)))
  have q := keyVals full.1 full.2
  rw [← kv.keys] at q
  have lenA : arr.toList.length = table.length := by rw [Array.length_toList, full.1, szv]
  have I1 : Inv X pins σ H { s with heap := heap1, toks := toks1 } := I.kept keep
  refine wpAny_bind (wpAny_newList ?_ (by omega))
  have made : (heap1.push (seqObj "list" arr.toList.toArray 0)).get? heap1.objs.size = some (seqObj "list" arr.toList.toArray 0) := Heap.get?_push_size _ rfl
  refine wpAny_bind (wpAny_holding (PyProof.Rows.wpAny_call_entry_kw (s := { s with heap := heap1.push (seqObj "list" arr.toList.toArray 0), toks := toks1 }) slot_list_sort ⟨_, made, rfl⟩ entry_list_sort ?_ (PyProof.Rows.ksk_l1 _ _)))
  rw [tree_one]
  unfold ksk_tree
  refine wpAny_bind (listItems_at made rfl ?_)
  refine wpAny_bind (listUpdate_at made rfl ?_ (by rw [List.size_toArray]; omega) (Nat.zero_le _))
  obtain ⟨e1, ho1⟩ : ∃ e1, ((heap1.push (seqObj "list" arr.toList.toArray 0)).update heap1.objs.size (Obj.mapSeq fun _ => (#[] : Array Value))).get? heap1.objs.size = some (seqObj "list" #[] e1) := ⟨_, get?_update_seq made fun _ => #[]⟩
  refine wpAny_bind (seqEpoch_at ho1 rfl ?_)
  refine wpAny_bind (wpAny_newTuple ?_ (by show arr.toList.toArray.toList.length ≤ sizeLine; simp only [Array.length_toList, List.size_toArray] at lenA ⊢; omega))
  refine wpAny_bind (wpAny_newList ?_ (Nat.zero_le _))
  refine wpAny_holding ?_
  have na1 : H heap1.objs.size = none := I1.hok.fresh (Nat.le_refl _)
  have hr2 : Room n X.A.in1.in1 := (show Room (n + 1) X.A.in1 from Room.in1 hr).in1
  have sz4 : (((heap1.push (seqObj "list" arr.toList.toArray 0)).update heap1.objs.size (Obj.mapSeq fun _ => (#[] : Array Value))).push (seqObj "tuple" arr.toList.toArray 0)).objs.size = heap1.objs.size + 2 := by rw [size_push', Heap.size_update, size_push']
  have kp : ∀ b u, heap1.get? b = some u → ((((heap1.push (seqObj "list" arr.toList.toArray 0)).update heap1.objs.size (Obj.mapSeq fun _ => (#[] : Array Value))).push (seqObj "tuple" arr.toList.toArray 0)).push (seqObj "list" #[] 0)).get? b = some u := fun b u e => by
    refine Heap.get?_push_of_some _ (Heap.get?_push_of_some _ ?_)
    rw [Heap.get?_update_ne _ _ _ _ (Nat.ne_of_lt (Heap.lt_size e))]
    exact Heap.get?_push_of_some _ e
  refine sort_rest (X := X) (pins := pins) (σ := σ) (H := H) (ks := table.map (·.1)) F hb (fun {s H} I => I.env0.in1.in1) hr2 (show (((heap1.push (seqObj "list" arr.toList.toArray 0)).update heap1.objs.size (Obj.mapSeq fun _ => (#[] : Array Value))).push (seqObj "tuple" arr.toList.toArray 0)).objs.size ≠ heap1.objs.size by rw [sz4]; omega) ⟨H, #[], 0, I1.kept kp, fun _ _ e => e, I1.fpOk (Nat.le_refl _) na1, I1.fpOk ?_ (I1.hok.fresh ?_), Heap.get?_push_size _ rfl, Heap.get?_push_of_some _ (Heap.get?_push_of_some _ ho1), .nil⟩ q (by rw [List.length_map]; exact few)
    (fun ys H' s' h1 h2 h3 h4 I' => ⟨_, rfl, wpAny_pure ⟨_, rfl, .ref _, H', I', rfl, goal ys _ H' h1 h2 h3 na1 h4⟩⟩)
  · show heap1.objs.size ≤ (((heap1.push (seqObj "list" arr.toList.toArray 0)).update heap1.objs.size (Obj.mapSeq fun _ => (#[] : Array Value))).push (seqObj "tuple" arr.toList.toArray 0)).objs.size
    rw [sz4]; omega
  · show heap1.objs.size ≤ (((heap1.push (seqObj "list" arr.toList.toArray 0)).update heap1.objs.size (Obj.mapSeq fun _ => (#[] : Array Value))).push (seqObj "tuple" arr.toList.toArray 0)).objs.size
    rw [sz4]; omega
end
end LR
set_option Elab.async false
set_option linter.all false
set_option maxRecDepth 100000
set_option maxHeartbeats 2000000
namespace SU
open PySem PySem.Spec PyProof.Rows L2 C8 LC LR LG
/-! statements as data, and what they hold -/
inductive Tm where
  | var (x : Str) | int (n : Int) | sym (x : Str) | op (s : Str) (l r : Tm)
namespace Tm
def d : Tm → PyData
  | var x => .tuple [.str "var", .str x]
  | int n => .tuple [.str "int", .int n]
  | sym x => .tuple [.str "sym", .str x]
  | op s l r => .tuple [.str "op", .str s, l.d, r.d]
def dep : Tm → Nat
  | op _ l r => max l.dep r.dep + 1
  | _ => 0
def lvs : Tm → Nat
  | op _ l r => l.lvs + r.lvs
  | _ => 1
/-- constants -/
def cs : Tm → List Key
  | var _ => []
  | int n => [.inl n]
  | sym x => [.inr x]
  | op _ l r => l.cs ++ r.cs
/-- variables -/
def vs : Tm → List Str
  | var x => [x]
  | op _ l r => l.vs ++ r.vs
  | _ => []
theorem cs_le : ∀ t : Tm, t.cs.length ≤ t.lvs
  | var _ => by simp [cs, lvs]
  | int _ => by simp [cs, lvs]
  | sym _ => by simp [cs, lvs]
  | op _ l r => by rw [cs, lvs, List.length_append]; have := l.cs_le; have := r.cs_le; omega
theorem vs_le : ∀ t : Tm, t.vs.length ≤ t.lvs
  | var _ => by simp [vs, lvs]
  | int _ => by simp [vs, lvs]
  | sym _ => by simp [vs, lvs]
  | op _ l r => by rw [vs, lvs, List.length_append]; have := l.vs_le; have := r.vs_le; omega
end Tm
structure Atm where
  nm : Str
  ts : List Tm
def Atm.d (a : Atm) : PyData := .tuple [.str "atom", .str a.nm, .list (a.ts.map Tm.d)]
def Atm.cs (a : Atm) : List Key := a.ts.flatMap Tm.cs
def Atm.vs (a : Atm) : List Str := a.ts.flatMap Tm.vs
inductive Cnd where
  | yes (a : Atm) | no (a : Atm) | cmp (s : Str) (l r : Tm)
namespace Cnd
def d : Cnd → PyData
  | yes a => .tuple [.str "yes", a.d]
  | no a => .tuple [.str "no", a.d]
  | cmp s l r => .tuple [.str "compare", .str s, l.d, r.d]
def cs : Cnd → List Key
  | yes a => a.cs
  | no a => a.cs
  | cmp _ l r => l.cs ++ r.cs
def vs : Cnd → List Str
  | yes a => a.vs
  | no a => a.vs
  | cmp _ l r => l.vs ++ r.vs
end Cnd
def csD (b : List Cnd) : PyData := .list (b.map Cnd.d)
/-- a member of a sum: its weight, its conditions -/
structure Mem where
  w : Tm
  b : List Cnd
def Mem.d (m : Mem) : PyData := .tuple [.str "member", m.w.d, csD m.b]
def Mem.cs (m : Mem) : List Key := m.b.flatMap Cnd.cs
def msD (ms : List Mem) : PyData := .list (ms.map Mem.d)
/-- a part of a body -/
inductive Prt where
  | c (c : Cnd) | sum (s : Str) (ms : List Mem) (limit : Tm)
namespace Prt
def d : Prt → PyData
  | c x => x.d
  | sum s ms t => .tuple [.str "sum", .str s, msD ms, t.d]
def cs : Prt → List Key
  | c x => x.cs
  | sum _ ms _ => ms.flatMap Mem.cs
def vs : Prt → List Str
  | c x => x.vs
  | sum _ _ t => t.vs
end Prt
def bdD (b : List Prt) : PyData := .list (b.map Prt.d)
structure Cho where
  a : Atm
  b : List Cnd
def Cho.d (x : Cho) : PyData := .tuple [.str "choice", x.a.d, csD x.b]
def Cho.cs (x : Cho) : List Key := x.a.cs ++ x.b.flatMap Cnd.cs
def chD (b : List Cho) : PyData := .list (b.map Cho.d)
def oD : Option Int → PyData
  | none => .none
  | some i => .int i
inductive Stm where
  | rule (a : Atm) (b : List Prt) | deny (b : List Prt) | choose (lo hi : Option Int) (ch : List Cho) (b : List Prt) | range (x y : Int) | minim (ms : List Mem)
/-- the whole numbers from x to y -/
def rng (x y : Int) : List Int := (List.range (y + 1 - x).toNat).map fun i => x + (i : Nat)
namespace Stm
def d : Stm → PyData
  | rule a b => .tuple [.str "rule", a.d, bdD b]
  | deny b => .tuple [.str "deny", bdD b]
  | choose lo hi ch b => .tuple [.str "choose", oD lo, chD ch, oD hi, bdD b]
  | range x y => .tuple [.str "range", .int x, .int y]
  | minim ms => .tuple [.str "minimize", msD ms]
def cs : Stm → List Key
  | rule a b => a.cs ++ b.flatMap Prt.cs
  | deny b => b.flatMap Prt.cs
  | choose _ _ ch b => ch.flatMap Cho.cs ++ b.flatMap Prt.cs
  | range x y => (rng x y).map Sum.inl
  | minim ms => ms.flatMap Mem.cs
/-- the body -/
def bd : Stm → List Prt
  | rule _ b => b
  | deny b => b
  | choose _ _ _ b => b
  | _ => []
def hd : Stm → List Str
  | rule a _ => a.vs
  | _ => []
def vs (s : Stm) : List Str := s.hd ++ s.bd.flatMap Prt.vs
end Stm
/-- each once, in the order of their first places -/
def once {α : Type} [DecidableEq α] (xs : List α) : List α := xs.foldl (fun acc x => if x ∈ acc then acc else acc ++ [x]) []
/-! bounds -/
theorem flat_len {α β : Type} {f : α → List β} {k : Nat} : ∀ {xs : List α}, (∀ x ∈ xs, (f x).length ≤ k) → (xs.flatMap f).length ≤ xs.length * k
  | [], _ => by simp
  | x :: r, h => by
    have ih := flat_len (f := f) (k := k) (xs := r) fun y hy => h y (List.mem_cons_of_mem _ hy)
    have hx := h x List.mem_cons_self
    rw [List.flatMap_cons, List.length_append, List.length_cons, Nat.succ_mul]; omega
theorem flat_len2 {α β : Type} {f : α → List β} {k m : Nat} {xs : List α} (h : ∀ x ∈ xs, (f x).length ≤ k) (hm : xs.length ≤ m) : (xs.flatMap f).length ≤ m * k := Nat.le_trans (flat_len h) (Nat.mul_le_mul_right _ hm)
def Tm.Ok (t : Tm) : Prop := t.lvs ≤ 4 ∧ t.dep ≤ 3
def Atm.Ok (a : Atm) : Prop := a.ts.length ≤ 4 ∧ ∀ t ∈ a.ts, t.Ok
def Cnd.Ok : Cnd → Prop
  | .yes a => a.Ok
  | .no a => a.Ok
  | .cmp _ l r => l.Ok ∧ r.Ok
def CsOk (b : List Cnd) : Prop := b.length ≤ 8 ∧ ∀ c ∈ b, c.Ok
def Mem.Ok (m : Mem) : Prop := m.w.Ok ∧ CsOk m.b
def MsOk (ms : List Mem) : Prop := ms.length ≤ 8 ∧ ∀ m ∈ ms, m.Ok
def Prt.Ok : Prt → Prop
  | .c x => x.Ok
  | .sum _ ms t => MsOk ms ∧ t.Ok
def BdOk (b : List Prt) : Prop := b.length ≤ 8 ∧ ∀ p ∈ b, p.Ok
def Cho.Ok (x : Cho) : Prop := x.a.Ok ∧ CsOk x.b
def ChOk (b : List Cho) : Prop := b.length ≤ 8 ∧ ∀ p ∈ b, p.Ok
def Stm.Ok : Stm → Prop
  | .rule a b => a.Ok ∧ BdOk b
  | .deny b => BdOk b
  | .choose _ _ ch b => ChOk ch ∧ BdOk b
  | .range x y => 0 ≤ x ∧ x ≤ 9 ∧ 0 ≤ y ∧ y ≤ 9
  | .minim ms => MsOk ms
theorem Atm.cs_le {a : Atm} (h : a.Ok) : a.cs.length ≤ 16 := flat_len2 (k := 4) (m := 4) (fun t ht => Nat.le_trans t.cs_le (h.2 t ht).1) h.1
theorem Atm.vs_le {a : Atm} (h : a.Ok) : a.vs.length ≤ 16 := flat_len2 (k := 4) (m := 4) (fun t ht => Nat.le_trans t.vs_le (h.2 t ht).1) h.1
theorem Cnd.cs_le {c : Cnd} (h : c.Ok) : c.cs.length ≤ 16 := by
  cases c with
  | yes a => exact Atm.cs_le h
  | no a => exact Atm.cs_le h
  | cmp s l r => have := l.cs_le; have := r.cs_le; have := h.1.1; have := h.2.1; rw [Cnd.cs, List.length_append]; omega
theorem Cnd.vs_le {c : Cnd} (h : c.Ok) : c.vs.length ≤ 16 := by
  cases c with
  | yes a => exact Atm.vs_le h
  | no a => exact Atm.vs_le h
  | cmp s l r => have := l.vs_le; have := r.vs_le; have := h.1.1; have := h.2.1; rw [Cnd.vs, List.length_append]; omega
theorem cs_le {b : List Cnd} (h : CsOk b) : (b.flatMap Cnd.cs).length ≤ 128 := flat_len2 (k := 16) (m := 8) (fun c hc => Cnd.cs_le (h.2 c hc)) h.1
theorem vs_le {b : List Cnd} (h : CsOk b) : (b.flatMap Cnd.vs).length ≤ 128 := flat_len2 (k := 16) (m := 8) (fun c hc => Cnd.vs_le (h.2 c hc)) h.1
theorem ms_le {ms : List Mem} (h : MsOk ms) : (ms.flatMap Mem.cs).length ≤ 1024 := flat_len2 (k := 128) (m := 8) (fun c hc => cs_le (h.2 c hc).2) h.1
theorem Prt.cs_le {p : Prt} (h : p.Ok) : p.cs.length ≤ 1024 := by
  cases p with
  | c x => exact Nat.le_trans (Cnd.cs_le h) (by decide)
  | sum s ms t => exact ms_le h.1
theorem Prt.vs_le {p : Prt} (h : p.Ok) : p.vs.length ≤ 16 := by
  cases p with
  | c x => exact Cnd.vs_le h
  | sum s ms t => exact Nat.le_trans (Nat.le_trans t.vs_le h.2.1) (by decide)
theorem bd_cs {b : List Prt} (h : BdOk b) : (b.flatMap Prt.cs).length ≤ 8192 := flat_len2 (k := 1024) (m := 8) (fun c hc => Prt.cs_le (h.2 c hc)) h.1
theorem bd_vs {b : List Prt} (h : BdOk b) : (b.flatMap Prt.vs).length ≤ 128 := flat_len2 (k := 16) (m := 8) (fun c hc => Prt.vs_le (h.2 c hc)) h.1
theorem Cho.cs_le {x : Cho} (h : x.Ok) : x.cs.length ≤ 144 := by
  rw [Cho.cs, List.length_append]; have := Atm.cs_le h.1; have := SU.cs_le h.2; omega
theorem ch_cs {b : List Cho} (h : ChOk b) : (b.flatMap Cho.cs).length ≤ 1152 := flat_len2 (k := 144) (m := 8) (fun c hc => Cho.cs_le (h.2 c hc)) h.1
theorem Stm.cs_le {s : Stm} (h : s.Ok) : s.cs.length ≤ 10000 := by
  cases s with
  | rule a b => rw [Stm.cs, List.length_append]; have := Atm.cs_le h.1; have := bd_cs h.2; omega
  | deny b => rw [Stm.cs]; have := bd_cs h; omega
  | choose lo hi ch b => rw [Stm.cs, List.length_append]; have := ch_cs h.1; have := bd_cs h.2; omega
  | range x y =>
    obtain ⟨h1, h2, h3, h4⟩ := h
    rw [Stm.cs, List.length_map, rng, List.length_map, List.length_range]; omega
  | minim ms => rw [Stm.cs]; have := ms_le h; omega
theorem Stm.bd_ok {s : Stm} (h : s.Ok) : BdOk s.bd := by
  cases s with
  | rule a b => exact h.2
  | deny b => exact h
  | choose lo hi ch b => exact h.2
  | range x y => exact ⟨Nat.zero_le _, fun _ z => nomatch z⟩
  | minim ms => exact ⟨Nat.zero_le _, fun _ z => nomatch z⟩
/-! data in the heap -/
section
variable {K : PySem.W.Frag} {H H' : Hp}
theorem sqT_same {a : Addr} {xs : List V} (s : Same H H') (h : SqT K H a xs) : SqT K H' a xs := by
  rcases h with (h | ⟨o, h⟩) | h
  · exact .inl (.inl (s _ _ h))
  · exact .inl (.inr ⟨o, s _ _ h⟩)
  · exact .inr h
theorem sqL_same {a : Addr} {xs : List V} (s : Same H H') (h : SqL K H a xs) : SqL K H' a xs := s.seq h
mutual
theorem dp_same (s : Same H H') : ∀ {d : PyData} {v : V}, Dp K H v d → Dp K H' v d
  | .none, _, h => by cases h; exact .non
  | .bool b, _, h => by cases h; exact .bl b
  | .int i, _, h => by cases h; exact .int i
  | .str x, _, h => by cases h; exact .str x
  | .list ds, _, h => by
    cases h with
    | lst h1 h2 => exact .lst (sqL_same s h1) (dpAll_same s h2)
  | .tuple ds, _, h => by
    cases h with
    | tup h1 h2 => exact .tup (sqT_same s h1) (dpAll_same s h2)
  | .dict kvs, _, h => by cases h
theorem dpAll_same (s : Same H H') : ∀ {ds : List PyData} {vs : List V}, DpAll K H vs ds → DpAll K H' vs ds
  | [], _, h => by cases h; exact .nil
  | d :: ds, _, h => by
    cases h with
    | cons h1 h2 => exact .cons (dp_same s h1) (dpAll_same s h2)
end
theorem dp_str {v : V} {x : Str} (h : Dp K H v (.str x)) : v = .str x := by cases h; rfl
theorem dp_int {v : V} {x : Int} (h : Dp K H v (.int x)) : v = .int x := by cases h; rfl
theorem dp_lst {v : V} {ds : List PyData} (h : Dp K H v (.list ds)) : ∃ a xs, v = .ref a ∧ SqL K H a xs ∧ DpAll K H xs ds := by
  cases h with
  | lst h1 h2 => exact ⟨_, _, rfl, h1, h2⟩
theorem dp_tup {v : V} {ds : List PyData} (h : Dp K H v (.tuple ds)) : ∃ a xs, v = .ref a ∧ SqT K H a xs ∧ DpAll K H xs ds := by
  cases h with
  | tup h1 h2 => exact ⟨_, _, rfl, h1, h2⟩
theorem dp_t2 {v : V} {d1 d2 : PyData} (h : Dp K H v (.tuple [d1, d2])) : ∃ a v1 v2, v = .ref a ∧ SqT K H a [v1, v2] ∧ Dp K H v1 d1 ∧ Dp K H v2 d2 := by
  obtain ⟨a, xs, rfl, h1, h2⟩ := dp_tup h
  cases h2 with
  | cons p r => cases r with
    | cons q r => cases r; exact ⟨_, _, _, rfl, h1, p, q⟩
theorem dp_t3 {v : V} {d1 d2 d3 : PyData} (h : Dp K H v (.tuple [d1, d2, d3])) : ∃ a v1 v2 v3, v = .ref a ∧ SqT K H a [v1, v2, v3] ∧ Dp K H v1 d1 ∧ Dp K H v2 d2 ∧ Dp K H v3 d3 := by
  obtain ⟨a, xs, rfl, h1, h2⟩ := dp_tup h
  cases h2 with
  | cons p r => cases r with
    | cons q r => cases r with
      | cons u r => cases r; exact ⟨_, _, _, _, rfl, h1, p, q, u⟩
theorem dp_t4 {v : V} {d1 d2 d3 d4 : PyData} (h : Dp K H v (.tuple [d1, d2, d3, d4])) : ∃ a v1 v2 v3 v4, v = .ref a ∧ SqT K H a [v1, v2, v3, v4] ∧ Dp K H v1 d1 ∧ Dp K H v2 d2 ∧ Dp K H v3 d3 ∧ Dp K H v4 d4 := by
  obtain ⟨a, xs, rfl, h1, h2⟩ := dp_tup h
  cases h2 with
  | cons p r => cases r with
    | cons q r => cases r with
      | cons u r => cases r with
        | cons w r => cases r; exact ⟨_, _, _, _, _, rfl, h1, p, q, u, w⟩
theorem dp_t5 {v : V} {d1 d2 d3 d4 d5 : PyData} (h : Dp K H v (.tuple [d1, d2, d3, d4, d5])) : ∃ a v1 v2 v3 v4 v5, v = .ref a ∧ SqT K H a [v1, v2, v3, v4, v5] ∧ Dp K H v1 d1 ∧ Dp K H v2 d2 ∧ Dp K H v3 d3 ∧ Dp K H v4 d4 ∧ Dp K H v5 d5 := by
  obtain ⟨a, xs, rfl, h1, h2⟩ := dp_tup h
  cases h2 with
  | cons p r => cases r with
    | cons q r => cases r with
      | cons u r => cases r with
        | cons w r => cases r with
          | cons z r => cases r; exact ⟨_, _, _, _, _, _, rfl, h1, p, q, u, w, z⟩
theorem dpAll_len : ∀ {xs : List V} {ds : List PyData}, DpAll K H xs ds → xs.length = ds.length
  | _, _, .nil => rfl
  | _, _, .cons _ t => congrArg (· + 1) (dpAll_len t)
theorem dpAll_at {α : Type} {f : α → PyData} : ∀ {as : List α} {xs : List V}, DpAll K H xs (as.map f) → ∀ {i : Nat} {x : V}, xs[i]? = some x → ∃ a, as[i]? = some a ∧ Dp K H x (f a)
  | [], _, h, i, x, e => by cases h; simp at e
  | a :: r, _, h, i, x, e => by
    cases h with
    | cons h1 h2 =>
      cases i with
      | zero => rw [List.getElem?_cons_zero] at e; cases e; exact ⟨a, rfl, h1⟩
      | succ i => rw [List.getElem?_cons_succ] at e; exact dpAll_at h2 e
/-- a list of data -/
theorem dp_lm {α : Type} {f : α → PyData} {as : List α} {v : V} (h : Dp K H v (.list (as.map f))) : ∃ a xs, v = .ref a ∧ SqL K H a xs ∧ xs.length = as.length ∧ ∀ {i : Nat} {x : V}, xs[i]? = some x → ∃ z, as[i]? = some z ∧ Dp K H x (f z) := by
  obtain ⟨a, xs, rfl, h1, h2⟩ := dp_lst h
  exact ⟨a, xs, rfl, h1, by rw [dpAll_len h2, List.length_map], fun e => dpAll_at h2 e⟩
end
/-! comprehensions over the lists that a call gives -/
section
variable {K : PySem.W.Frag} {α β : Type}
theorem flat_walk {J : It} {n : Nat} {G : Hp → Prop} {Y : Nat → Hp → V → Hp → Prop} {H0 : Hp} {D : Addr} {Qd : Hp → Prop} {B : V → Hp → (Hp → Prop) → Prop} (w : L2.Walk J n G Y) (f : α → List V) {as : List α} (hn : n = as.length) (hD : H0 D = none) (hG : ∀ H, Same H0 H → G H)
    (step : ∀ i x z H H' N, as[i]? = some z → Same H0 H → H D = some (.lst ((as.take i).flatMap f)) → Y i H x H' → (∀ H2, Same H0 H2 → H2 D = some (.lst ((as.take i).flatMap f ++ f z)) → N H2) → B x H' N)
    (done : ∀ H, Same H0 H → H D = some (.lst (as.flatMap f)) → Qd H) :
    ∃ W : Nat → Nat → Hp → Prop, (∃ m, W 0 m (upd H0 D (.lst []))) ∧ ∀ i m H, W i m H → (J.stop i H ∧ Qd H) ∨ (J.go i H ∧ ∃ Nx : Hp → Prop, (∀ H', Nx H' → ∃ m', m' < m ∧ W (i + 1) m' H') ∧ ∀ x H', J.yld i H x H' → B x H' Nx) := by
  refine it_turns w (fun i H => Same H0 H ∧ H D = some (.lst ((as.take i).flatMap f))) ⟨same_new hD, by rw [upd_same]; rfl⟩ (fun i H _ h => hG H h.1) (fun i x H H' hi h y => ?_) (fun H h => done H h.1 (by have := h.2; rw [hn, List.take_length] at this; exact this))
  have hz : as[i]? = some as[i] := List.getElem?_eq_getElem (by omega)
  refine step i x _ H H' _ hz h.1 h.2 y fun H2 s2 e2 => ⟨s2, ?_⟩
  rw [List.take_add_one, hz, List.flatMap_append]
  simpa using e2
theorem flat_in {r D : Addr} {ys acc : List V} {H4 H0 : Hp} {Nx : Hp → Prop} {B1 : V → Hp → (Hp → Prop) → Prop} (er : H4 r = some (.lst ys)) (eD : H4 D = some (.lst acc)) (ne : r ≠ D) (sm : Same H0 H4) (hD : H0 D = none) (len : acc.length + ys.length < sizeLine)
    (hB : ∀ y H' N a, H' D = some (.lst a) → a.length < sizeLine → N (upd H' D (.lst (a ++ [y]))) → B1 y H' N) (fin : ∀ H2, Same H0 H2 → H2 D = some (.lst (acc ++ ys)) → Nx H2) :
    ∃ W1 : Nat → Nat → Hp → Prop, (∃ m, W1 0 m H4) ∧ ∀ j k H, W1 j k H → ((Itl K r).stop j H ∧ Nx H) ∨ ((Itl K r).go j H ∧ ∃ Nx1 : Hp → Prop, (∀ H', Nx1 H' → ∃ k', k' < k ∧ W1 (j + 1) k' H') ∧ ∀ x H', (Itl K r).yld j H x H' → B1 x H' Nx1) := by
  refine it_turns (walk_list (K := K) (a := r) (xs := ys)) (fun j H => Same H0 H ∧ H r = some (.lst ys) ∧ H D = some (.lst (acc ++ ys.take j))) ⟨sm, er, by simpa using eD⟩ (fun j H _ h => SqL.of h.2.1) (fun j x H H' hj h y => ?_) (fun H h => fin H h.1 (by have := h.2.2; rw [List.take_length] at this; exact this))
  obtain ⟨rfl, hx⟩ := y
  refine hB x H' _ _ h.2.2 (by rw [List.length_append, List.length_take]; omega) ⟨same_put h.1 hD, by rw [upd_ne ne]; exact h.2.1, ?_⟩
  rw [upd_same, List.take_add_one, hx]
  simp
end
end SU
set_option Elab.async false
set_option linter.all false
set_option maxRecDepth 100000
set_option maxHeartbeats 2000000
namespace SU
open PySem PySem.Spec PyProof.Rows L2 C8 LC LR LG
section
variable {α : Type} [DecidableEq α]
theorem once_snoc {xs : List α} {x : α} : once (xs ++ [x]) = if x ∈ once xs then once xs else once xs ++ [x] := by
  unfold once; rw [List.foldl_append]; rfl
theorem snocRec {motive : List α → Prop} (nil : motive []) (snoc : ∀ xs x, motive xs → motive (xs ++ [x])) : ∀ xs, motive xs := by
  intro xs
  generalize e : xs.reverse = ys
  induction ys generalizing xs with
  | nil => rw [List.reverse_eq_nil_iff] at e; rw [e]; exact nil
  | cons y r ih =>
    have : xs = r.reverse ++ [y] := by rw [← List.reverse_reverse xs, e, List.reverse_cons]
    rw [this]
    exact snoc _ _ (ih _ (by rw [List.reverse_reverse]))
theorem mem_once (xs : List α) : ∀ x, x ∈ once xs ↔ x ∈ xs := by
  refine snocRec (motive := fun xs => ∀ x, x ∈ once xs ↔ x ∈ xs) (fun x => Iff.rfl) (fun xs y ih x => ?_) xs
  rw [once_snoc]
  by_cases h : y ∈ once xs
  · rw [if_pos h, ih, List.mem_append, List.mem_singleton]
    exact ⟨.inl, fun z => z.elim id fun e => by rw [e]; exact (ih y).mp h⟩
  · rw [if_neg h, List.mem_append, List.mem_append, ih]
theorem nodup_once (xs : List α) : (once xs).Nodup := by
  refine snocRec (motive := fun xs => (once xs).Nodup) List.nodup_nil (fun xs y ih => ?_) xs
  rw [once_snoc]
  by_cases h : y ∈ once xs
  · rw [if_pos h]; exact ih
  · rw [if_neg h, List.nodup_append]
    refine ⟨ih, by simp, fun a ha b hb e => ?_⟩
    rw [List.mem_singleton.mp hb] at e
    exact h (e ▸ ha)
theorem once_le (xs : List α) : (once xs).length ≤ xs.length := by
  refine snocRec (motive := fun xs => (once xs).length ≤ xs.length) (Nat.le_refl _) (fun xs y ih => ?_) xs
  rw [once_snoc, List.length_append]
  split
  · omega
  · rw [List.length_append]; simp only [List.length_singleton]; omega
/-- put into a dict, one after another -/
theorem keys_once {kvs : List (Key × V)} {xs : List Key} {x : Key} {v : V} (h : kvs.map (·.1) = once xs) : (putK kvs x v).map (·.1) = once (xs ++ [x]) := by
  rw [once_snoc]
  by_cases z : x ∈ once xs
  · rw [if_pos z, keys_same (by rw [h]; exact z), h]
  · rw [if_neg z, keys_put (by rw [h]; exact z), h]
theorem keys_len {kvs : List (Key × V)} {xs : List Key} (h : kvs.map (·.1) = once xs) : kvs.length ≤ xs.length := by
  have := once_le xs
  rw [← h, List.length_map] at this; exact this
end
theorem once_map {α β : Type} [DecidableEq α] [DecidableEq β] {f : α → β} (inj : ∀ a b, f a = f b → a = b) (xs : List α) : once (xs.map f) = (once xs).map f := by
  refine snocRec (motive := fun xs => once (xs.map f) = (once xs).map f) rfl (fun xs y ih => ?_) xs
  rw [List.map_append, List.map_singleton, once_snoc, once_snoc, ih]
  by_cases h : y ∈ once xs
  · rw [if_pos h, if_pos (List.mem_map_of_mem h)]
  · rw [if_neg h, if_neg (fun z => ?_), List.map_append]; · rfl
    obtain ⟨a, ha, e⟩ := List.mem_map.mp z
    exact h (inj a y e ▸ ha)
theorem leK_trans {a b c : Key} (h1 : leK a b) (h2 : leK b c) : leK a c := by
  cases h : itemLt (itK c) (itK a) with
  | false => exact h
  | true =>
    rcases itemOrd.negTrans (itK c) (itK b) (itK a) h with z | z
    · exact absurd (z.symm.trans h2) (by decide)
    · exact absurd (z.symm.trans h1) (by decide)
theorem leK_anti {a b : Key} (h1 : leK a b) (h2 : leK b a) : a = b := itK_inj (itemOrd.total _ _ h2 h1)
/-- a sorted list without repeats is the only one with its members -/
theorem sorted_one : ∀ {xs ys : List Key}, xs.Pairwise leK → ys.Pairwise leK → xs.Nodup → ys.Nodup → (∀ k, k ∈ xs ↔ k ∈ ys) → xs = ys
  | [], [], _, _, _, _, _ => rfl
  | [], y :: r, _, _, _, _, h => absurd ((h y).mpr List.mem_cons_self) (by simp)
  | x :: r, [], _, _, _, _, h => absurd ((h x).mp List.mem_cons_self) (by simp)
  | x :: r, y :: t, h1, h2, n1, n2, h => by
    rw [List.pairwise_cons] at h1 h2
    rw [List.nodup_cons] at n1 n2
    have e : x = y := by
      rcases List.mem_cons.mp ((h x).mp List.mem_cons_self) with e | e
      · exact e
      · rcases List.mem_cons.mp ((h y).mpr List.mem_cons_self) with e2 | e2
        · exact e2.symm
        · exact leK_anti (h1.1 y e2) (h2.1 x e)
    subst e
    refine congrArg (x :: ·) (sorted_one h1.2 h2.2 n1.2 n2.2 fun a => ⟨fun ha => ?_, fun ha => ?_⟩)
    · rcases List.mem_cons.mp ((h a).mp (List.mem_cons_of_mem _ ha)) with e | e
      · exact absurd (e ▸ ha) n1.1
      · exact e
    · rcases List.mem_cons.mp ((h a).mpr (List.mem_cons_of_mem _ ha)) with e | e
      · exact absurd (e ▸ ha) n2.1
      · exact e
def stD (ss : List Stm) : PyData := .list (ss.map Stm.d)
def StOk (ss : List Stm) : Prop := ss.length ≤ 8 ∧ ∀ s ∈ ss, s.Ok
theorem st_cs {ss : List Stm} (h : StOk ss) : (ss.flatMap Stm.cs).length ≤ 80000 := flat_len2 (k := 10000) (m := 8) (fun c hc => Stm.cs_le (h.2 c hc)) h.1
end SU
set_option Elab.async false
set_option linter.all false
set_option maxRecDepth 100000
set_option maxHeartbeats 2000000
namespace SU
open PySem PySem.Spec PyProof.Rows L2 C8 LC LR LG
/-! what the law's own walks see -/
inductive Nd where
  | tm (t : Tm) | at (a : Atm) | cn (c : Cnd)
namespace Nd
def d : Nd → PyData
  | tm t => t.d
  | .at a => a.d
  | cn c => c.d
def cs : Nd → List Key
  | tm t => t.cs
  | .at a => a.cs
  | cn c => c.cs
def vs : Nd → List Str
  | tm t => t.vs
  | .at a => a.vs
  | cn c => c.vs
def lt : Nd → Nat → Prop
  | tm t, m => t.dep < m
  | .at a, m => 1 < m ∧ ∀ t ∈ a.ts, t.dep + 1 < m
  | cn (.yes a), m => 2 < m ∧ ∀ t ∈ a.ts, t.dep + 2 < m
  | cn (.no a), m => 2 < m ∧ ∀ t ∈ a.ts, t.dep + 2 < m
  | cn (.cmp _ l r), m => l.dep + 1 < m ∧ r.dep + 1 < m
theorem lt_zero : ∀ {n : Nd}, ¬ n.lt 0
  | tm t, h => Nat.not_lt_zero _ h
  | .at a, h => Nat.not_lt_zero _ h.1
  | cn (.yes a), h => Nat.not_lt_zero _ h.1
  | cn (.no a), h => Nat.not_lt_zero _ h.1
  | cn (.cmp _ l r), h => Nat.not_lt_zero _ h.1
end Nd
theorem Tm.lt6 {t : Tm} (h : t.Ok) : (Nd.tm t).lt 6 := Nat.lt_of_le_of_lt h.2 (by decide)
theorem Atm.lt6 {a : Atm} (h : a.Ok) : (Nd.at a).lt 6 := ⟨by decide, fun t ht => by have := (h.2 t ht).2; omega⟩
theorem Cnd.lt6 {c : Cnd} (h : c.Ok) : (Nd.cn c).lt 6 := by
  cases c with
  | yes a => exact ⟨by decide, fun t ht => by have := (h.2 t ht).2; omega⟩
  | no a => exact ⟨by decide, fun t ht => by have := (h.2 t ht).2; omega⟩
  | cmp s l r => exact ⟨by have := h.1.2; omega, by have := h.2.2; omega⟩
/-- a member or a choice -/
inductive LP where
  | m (x : Mem) | ch (x : Cho)
namespace LP
def d : LP → PyData
  | m x => x.d
  | ch x => x.d
def b : LP → List Cnd
  | m x => x.b
  | ch x => x.b
def own : LP → List Str
  | m x => x.w.vs
  | ch x => x.a.vs
def Ok : LP → Prop
  | m x => x.Ok
  | ch x => x.Ok
def inn : LP → List Key
  | m x => x.cs
  | ch x => x.cs
end LP
theorem LP.inn_le {p : LP} (h : p.Ok) : p.inn.length ≤ 144 := by
  cases p with
  | m x => exact Nat.le_trans (cs_le h.2) (by decide)
  | ch x => exact Cho.cs_le h
namespace Stm
def hc : Stm → List Key
  | rule a _ => a.cs
  | range x y => (rng x y).map Sum.inl
  | _ => []
def ps : Stm → List LP
  | choose _ _ ch _ => ch.map LP.ch
  | minim ms => ms.map LP.m
  | _ => []
end Stm
def Prt.nc : Prt → List Key
  | .c x => x.cs
  | .sum _ _ _ => []
def Prt.sm : Prt → List LP
  | .c _ => []
  | .sum _ ms _ => ms.map LP.m
def Stm.lps (s : Stm) : List LP := s.ps ++ s.bd.flatMap Prt.sm
def Stm.lw (s : Stm) : List Key := s.hc ++ s.bd.flatMap Prt.nc ++ s.lps.flatMap LP.inn
theorem bd_mem {b : List Prt} {k : Key} : (k ∈ b.flatMap Prt.nc ∨ k ∈ (b.flatMap Prt.sm).flatMap LP.inn) ↔ k ∈ b.flatMap Prt.cs := by
  induction b with
  | nil => simp
  | cons p r ih =>
    rw [List.flatMap_cons, List.flatMap_cons, List.flatMap_cons, List.flatMap_append, List.mem_append, List.mem_append, List.mem_append, ← ih]
    have e : (k ∈ p.nc ∨ k ∈ p.sm.flatMap LP.inn) ↔ k ∈ p.cs := by
      cases p with
      | c x => simp [Prt.nc, Prt.sm, Prt.cs]
      | sum s ms t =>
        have e : (ms.map LP.m).flatMap LP.inn = ms.flatMap Mem.cs := by rw [List.flatMap_map]; rfl
        simp [Prt.nc, Prt.sm, Prt.cs, e]
    rw [← e]
    constructor
    · rintro ((h | h) | (h | h))
      · exact .inl (.inl h)
      · exact .inr (.inl h)
      · exact .inl (.inr h)
      · exact .inr (.inr h)
    · rintro ((h | h) | (h | h))
      · exact .inl (.inl h)
      · exact .inr (.inl h)
      · exact .inl (.inr h)
      · exact .inr (.inr h)
theorem lw_mem (s : Stm) (k : Key) : k ∈ s.lw ↔ k ∈ s.cs := by
  rw [Stm.lw, Stm.lps, List.flatMap_append, List.mem_append, List.mem_append, List.mem_append]
  have hb := bd_mem (b := s.bd) (k := k)
  cases s with
  | rule a b =>
    have hb : _ ↔ k ∈ b.flatMap Prt.cs := hb
    rw [Stm.cs, List.mem_append, ← hb]
    simp only [Stm.hc, Stm.ps, Stm.bd, List.flatMap_nil, List.not_mem_nil, false_or]
    exact or_assoc
  | deny b =>
    have hb : _ ↔ k ∈ b.flatMap Prt.cs := hb
    rw [Stm.cs, ← hb]
    simp [Stm.hc, Stm.ps, Stm.bd]
  | choose lo hi ch b =>
    have hb : _ ↔ k ∈ b.flatMap Prt.cs := hb
    rw [Stm.cs, List.mem_append, ← hb]
    have e : (ch.map LP.ch).flatMap LP.inn = ch.flatMap Cho.cs := by rw [List.flatMap_map]; rfl
    simp only [Stm.hc, Stm.ps, Stm.bd, e, List.not_mem_nil, false_or]
    constructor
    · rintro (h | h | h)
      · exact .inr (.inl h)
      · exact .inl h
      · exact .inr (.inr h)
    · rintro (h | h | h)
      · exact .inr (.inl h)
      · exact .inl h
      · exact .inr (.inr h)
  | range x y => simp [Stm.hc, Stm.ps, Stm.bd, Stm.cs]
  | minim ms =>
    have e : (ms.map LP.m).flatMap LP.inn = ms.flatMap Mem.cs := by rw [List.flatMap_map]; rfl
    simp [Stm.hc, Stm.ps, Stm.bd, Stm.cs, e]
theorem nc_le {p : Prt} (h : p.Ok) : p.nc.length ≤ 16 := by
  cases p with
  | c x => exact Cnd.cs_le h
  | sum s ms t => exact Nat.zero_le _
theorem sm_le {p : Prt} (h : p.Ok) : p.sm.length ≤ 8 := by
  cases p with
  | c x => exact Nat.zero_le _
  | sum s ms t => rw [Prt.sm, List.length_map]; exact h.1.1
theorem sm_ok {p : Prt} (h : p.Ok) : ∀ x ∈ p.sm, x.Ok := by
  cases p with
  | c x => exact fun _ z => nomatch z
  | sum s ms t =>
    intro x hx
    obtain ⟨m, hm, rfl⟩ := List.mem_map.mp hx
    exact h.1.2 m hm
theorem ps_ok {s : Stm} (h : s.Ok) : s.ps.length ≤ 8 ∧ ∀ x ∈ s.ps, x.Ok := by
  cases s with
  | choose lo hi ch b =>
    refine ⟨by rw [Stm.ps, List.length_map]; exact h.1.1, fun x hx => ?_⟩
    obtain ⟨m, hm, rfl⟩ := List.mem_map.mp hx
    exact h.1.2 m hm
  | minim ms =>
    refine ⟨by rw [Stm.ps, List.length_map]; exact h.1, fun x hx => ?_⟩
    obtain ⟨m, hm, rfl⟩ := List.mem_map.mp hx
    exact h.2 m hm
  | _ => exact ⟨Nat.zero_le _, fun _ z => nomatch z⟩
theorem lps_ok {s : Stm} (h : s.Ok) : s.lps.length ≤ 72 ∧ ∀ x ∈ s.lps, x.Ok := by
  have hb := Stm.bd_ok h
  obtain ⟨h1, h2⟩ := ps_ok h
  refine ⟨?_, fun x hx => ?_⟩
  · rw [Stm.lps, List.length_append]
    have := flat_len2 (f := Prt.sm) (k := 8) (m := 8) (fun p hp => sm_le (hb.2 p hp)) hb.1
    omega
  · rcases List.mem_append.mp hx with hx | hx
    · exact h2 x hx
    · obtain ⟨p, hp, hx⟩ := List.mem_flatMap.mp hx
      exact sm_ok (hb.2 p hp) x hx
theorem hc_le {s : Stm} (h : s.Ok) : s.hc.length ≤ 16 := by
  cases s with
  | rule a b => exact Atm.cs_le h.1
  | range x y =>
    obtain ⟨h1, h2, h3, h4⟩ := h
    rw [Stm.hc, List.length_map, rng, List.length_map, List.length_range]; omega
  | _ => exact Nat.zero_le _
theorem lw_le {s : Stm} (h : s.Ok) : s.lw.length ≤ 12000 := by
  have hb := Stm.bd_ok h
  have h1 := hc_le h
  have h2 := flat_len2 (f := Prt.nc) (k := 16) (m := 8) (fun p hp => nc_le (hb.2 p hp)) hb.1
  have h3 := flat_len2 (f := LP.inn) (k := 144) (m := 72) (fun p hp => LP.inn_le ((lps_ok h).2 p hp)) (lps_ok h).1
  rw [Stm.lw, List.length_append, List.length_append]; omega
theorem stw_le {ss : List Stm} (h : StOk ss) : (ss.flatMap Stm.lw).length ≤ 96000 := flat_len2 (k := 12000) (m := 8) (fun c hc => lw_le (h.2 c hc)) h.1
theorem stw_mem (ss : List Stm) (k : Key) : k ∈ ss.flatMap Stm.lw ↔ k ∈ ss.flatMap Stm.cs := by
  rw [List.mem_flatMap, List.mem_flatMap]
  exact exists_congr fun s => and_congr_right fun _ => lw_mem s k
/-! data whose own lists and tuples lie in the heap, apart from what is volatile -/
mutual
inductive DM (M : Vol) (H : Hp) : V → PyData → Prop
  | non : DM M H .non .none
  | int (i : Int) : DM M H (.int i) (.int i)
  | str (x : Str) : DM M H (.str x) (.str x)
  | lst {a : Addr} {xs : List V} {ds : List PyData} : ¬ M a → H a = some (.lst xs) → DMs M H xs ds → DM M H (.ref a) (.list ds)
  | tup {a : Addr} {xs : List V} {ds : List PyData} : ¬ M a → H a = some (.tup xs) → DMs M H xs ds → DM M H (.ref a) (.tuple ds)
inductive DMs (M : Vol) (H : Hp) : List V → List PyData → Prop
  | nil : DMs M H [] []
  | cons {v : V} {vs : List V} {d : PyData} {ds : List PyData} : DM M H v d → DMs M H vs ds → DMs M H (v :: vs) (d :: ds)
end
section
variable {M M' : Vol} {A B H : Hp} {K : PySem.W.Frag}
mutual
theorem DM.kx (k : Kx M A B) : ∀ {d : PyData} {v : V}, DM M A v d → DM M B v d
  | .none, _, h => by cases h; exact .non
  | .bool b, _, h => by cases h
  | .int i, _, h => by cases h; exact .int i
  | .str x, _, h => by cases h; exact .str x
  | .list ds, _, h => by
    cases h with
    | lst h0 h1 h2 => exact .lst h0 (k _ _ h0 h1) (DMs.kx k h2)
  | .tuple ds, _, h => by
    cases h with
    | tup h0 h1 h2 => exact .tup h0 (k _ _ h0 h1) (DMs.kx k h2)
  | .dict kvs, _, h => by cases h
theorem DMs.kx (k : Kx M A B) : ∀ {ds : List PyData} {vs : List V}, DMs M A vs ds → DMs M B vs ds
  | [], _, h => by cases h; exact .nil
  | d :: ds, _, h => by
    cases h with
    | cons h1 h2 => exact .cons (DM.kx k h1) (DMs.kx k h2)
end
mutual
theorem DM.anti (i : ∀ b, M b → M' b) : ∀ {d : PyData} {v : V}, DM M' A v d → DM M A v d
  | .none, _, h => by cases h; exact .non
  | .bool b, _, h => by cases h
  | .int i, _, h => by cases h; exact .int i
  | .str x, _, h => by cases h; exact .str x
  | .list ds, _, h => by
    cases h with
    | lst h0 h1 h2 => exact .lst (fun z => h0 (i _ z)) h1 (DMs.anti i h2)
  | .tuple ds, _, h => by
    cases h with
    | tup h0 h1 h2 => exact .tup (fun z => h0 (i _ z)) h1 (DMs.anti i h2)
  | .dict kvs, _, h => by cases h
theorem DMs.anti (i : ∀ b, M b → M' b) : ∀ {ds : List PyData} {vs : List V}, DMs M' A vs ds → DMs M A vs ds
  | [], _, h => by cases h; exact .nil
  | d :: ds, _, h => by
    cases h with
    | cons h1 h2 => exact .cons (DM.anti i h1) (DMs.anti i h2)
end
mutual
theorem DM.dp : ∀ {d : PyData} {v : V}, DM M A v d → Dp K A v d
  | .none, _, h => by cases h; exact .non
  | .bool b, _, h => by cases h
  | .int i, _, h => by cases h; exact .int i
  | .str x, _, h => by cases h; exact .str x
  | .list ds, _, h => by
    cases h with
    | lst h0 h1 h2 => exact .lst (SqL.of h1) (DMs.dp h2)
  | .tuple ds, _, h => by
    cases h with
    | tup h0 h1 h2 => exact .tup (SqT.of h1) (DMs.dp h2)
  | .dict kvs, _, h => by cases h
theorem DMs.dp : ∀ {ds : List PyData} {vs : List V}, DMs M A vs ds → DpAll K A vs ds
  | [], _, h => by cases h; exact .nil
  | d :: ds, _, h => by
    cases h with
    | cons h1 h2 => exact .cons (DM.dp h1) (DMs.dp h2)
end
theorem dm_str {v : V} {x : Str} (h : DM M H v (.str x)) : v = .str x := by cases h; rfl
theorem dm_int {v : V} {x : Int} (h : DM M H v (.int x)) : v = .int x := by cases h; rfl
theorem dm_lst {v : V} {ds : List PyData} (h : DM M H v (.list ds)) : ∃ a xs, v = .ref a ∧ ¬ M a ∧ H a = some (.lst xs) ∧ DMs M H xs ds := by
  cases h with
  | lst h0 h1 h2 => exact ⟨_, _, rfl, h0, h1, h2⟩
theorem dm_tup {v : V} {ds : List PyData} (h : DM M H v (.tuple ds)) : ∃ a xs, v = .ref a ∧ ¬ M a ∧ H a = some (.tup xs) ∧ DMs M H xs ds := by
  cases h with
  | tup h0 h1 h2 => exact ⟨_, _, rfl, h0, h1, h2⟩
theorem dm_t2 {v : V} {d1 d2 : PyData} (h : DM M H v (.tuple [d1, d2])) : ∃ a v1 v2, v = .ref a ∧ H a = some (.tup [v1, v2]) ∧ DM M H v1 d1 ∧ DM M H v2 d2 := by
  obtain ⟨a, xs, rfl, _, h1, h2⟩ := dm_tup h
  cases h2 with
  | cons p r => cases r with
    | cons q r => cases r; exact ⟨_, _, _, rfl, h1, p, q⟩
theorem dm_t3 {v : V} {d1 d2 d3 : PyData} (h : DM M H v (.tuple [d1, d2, d3])) : ∃ a v1 v2 v3, v = .ref a ∧ H a = some (.tup [v1, v2, v3]) ∧ DM M H v1 d1 ∧ DM M H v2 d2 ∧ DM M H v3 d3 := by
  obtain ⟨a, xs, rfl, _, h1, h2⟩ := dm_tup h
  cases h2 with
  | cons p r => cases r with
    | cons q r => cases r with
      | cons u r => cases r; exact ⟨_, _, _, _, rfl, h1, p, q, u⟩
theorem dm_t4 {v : V} {d1 d2 d3 d4 : PyData} (h : DM M H v (.tuple [d1, d2, d3, d4])) : ∃ a v1 v2 v3 v4, v = .ref a ∧ H a = some (.tup [v1, v2, v3, v4]) ∧ DM M H v1 d1 ∧ DM M H v2 d2 ∧ DM M H v3 d3 ∧ DM M H v4 d4 := by
  obtain ⟨a, xs, rfl, _, h1, h2⟩ := dm_tup h
  cases h2 with
  | cons p r => cases r with
    | cons q r => cases r with
      | cons u r => cases r with
        | cons w r => cases r; exact ⟨_, _, _, _, _, rfl, h1, p, q, u, w⟩
theorem dm_t5 {v : V} {d1 d2 d3 d4 d5 : PyData} (h : DM M H v (.tuple [d1, d2, d3, d4, d5])) : ∃ a v1 v2 v3 v4 v5, v = .ref a ∧ H a = some (.tup [v1, v2, v3, v4, v5]) ∧ DM M H v1 d1 ∧ DM M H v2 d2 ∧ DM M H v3 d3 ∧ DM M H v4 d4 ∧ DM M H v5 d5 := by
  obtain ⟨a, xs, rfl, _, h1, h2⟩ := dm_tup h
  cases h2 with
  | cons p r => cases r with
    | cons q r => cases r with
      | cons u r => cases r with
        | cons w r => cases r with
          | cons z r => cases r; exact ⟨_, _, _, _, _, _, rfl, h1, p, q, u, w, z⟩
theorem dms_len : ∀ {xs : List V} {ds : List PyData}, DMs M H xs ds → xs.length = ds.length
  | _, _, .nil => rfl
  | _, _, .cons _ t => congrArg (· + 1) (dms_len t)
theorem dms_at {α : Type} {f : α → PyData} : ∀ {as : List α} {xs : List V}, DMs M H xs (as.map f) → ∀ {i : Nat} {x : V}, xs[i]? = some x → ∃ a, as[i]? = some a ∧ DM M H x (f a)
  | [], _, h, i, x, e => by cases h; simp at e
  | a :: r, _, h, i, x, e => by
    cases h with
    | cons h1 h2 =>
      cases i with
      | zero => rw [List.getElem?_cons_zero] at e; cases e; exact ⟨a, rfl, h1⟩
      | succ i => rw [List.getElem?_cons_succ] at e; exact dms_at h2 e
theorem dms_snoc {d : PyData} {v : V} : ∀ {xs : List V} {ds : List PyData}, DMs M H xs ds → DM M H v d → DMs M H (xs ++ [v]) (ds ++ [d])
  | _, _, .nil, h => .cons h .nil
  | _, _, .cons r t, h => .cons r (dms_snoc t h)
theorem dms_app : ∀ {xs ys : List V} {ds es : List PyData}, DMs M H xs ds → DMs M H ys es → DMs M H (xs ++ ys) (ds ++ es)
  | _, _, _, _, .nil, h => h
  | _, _, _, _, .cons r t, h => .cons r (dms_app t h)
theorem dm_lm {α : Type} {f : α → PyData} {as : List α} {v : V} (h : DM M H v (.list (as.map f))) : ∃ a xs, v = .ref a ∧ ¬ M a ∧ H a = some (.lst xs) ∧ DMs M H xs (as.map f) ∧ xs.length = as.length ∧ ∀ {i : Nat} {x : V}, xs[i]? = some x → ∃ z, as[i]? = some z ∧ DM M H x (f z) := by
  obtain ⟨a, xs, rfl, n, h1, h2⟩ := dm_lst h
  exact ⟨a, xs, rfl, n, h1, h2, by rw [dms_len h2, List.length_map], fun e => dms_at h2 e⟩
end
/-- nothing is volatile -/
def NoV : Vol := fun _ => False
theorem kx_same {A B : Hp} {M : Vol} (s : Same A B) : Kx M A B := Kx.of s
theorem DM.same {A B : Hp} {M : Vol} {d : PyData} {v : V} (s : Same A B) (h : DM M A v d) : DM M B v d := h.kx (Kx.of s)
theorem DMs.same {A B : Hp} {M : Vol} {ds : List PyData} {vs : List V} (s : Same A B) (h : DMs M A vs ds) : DMs M B vs ds := h.kx (Kx.of s)
end SU
set_option Elab.async false
set_option linter.all false
set_option maxRecDepth 100000
set_option maxHeartbeats 2000000
namespace SU
open PySem PySem.Spec PyProof.Rows L2 C8 LC LR LG
def intsOf (ks : List Key) : List Int := ks.filterMap fun k => match k with
  | .inl i => some i
  | .inr _ => none
def strsOf (ks : List Key) : List Str := ks.filterMap fun k => match k with
  | .inl _ => none
  | .inr x => some x
def iF : Key → List V
  | .inl i => [V.int i]
  | .inr _ => []
def sF : Key → List V
  | .inl _ => []
  | .inr x => [V.str x]
theorem iF_flat : ∀ ks : List Key, ks.flatMap iF = (intsOf ks).map V.int
  | [] => rfl
  | .inl i :: r => by rw [List.flatMap_cons, iF_flat r]; rfl
  | .inr x :: r => by rw [List.flatMap_cons, iF_flat r]; rfl
theorem sF_flat : ∀ ks : List Key, ks.flatMap sF = (strsOf ks).map V.str
  | [] => rfl
  | .inl i :: r => by rw [List.flatMap_cons, sF_flat r]; rfl
  | .inr x :: r => by rw [List.flatMap_cons, sF_flat r]; rfl
theorem intsOf_le (ks : List Key) : (intsOf ks).length ≤ ks.length := List.length_filterMap_le _ _
theorem strsOf_le (ks : List Key) : (strsOf ks).length ≤ ks.length := List.length_filterMap_le _ _
theorem mem_ints {ks : List Key} {i : Int} : i ∈ intsOf ks ↔ Sum.inl i ∈ ks := by
  induction ks with
  | nil => simp [intsOf]
  | cons k r ih =>
    have e : intsOf (k :: r) = (match k with | .inl i => [i] | .inr _ => []) ++ intsOf r := by cases k <;> rfl
    rw [e, List.mem_append, ih, List.mem_cons]
    cases k <;> simp
theorem mem_strs {ks : List Key} {x : Str} : x ∈ strsOf ks ↔ Sum.inr x ∈ ks := by
  induction ks with
  | nil => simp [strsOf]
  | cons k r ih =>
    have e : strsOf (k :: r) = (match k with | .inl _ => [] | .inr y => [y]) ++ strsOf r := by cases k <;> rfl
    rw [e, List.mem_append, ih, List.mem_cons]
    cases k <;> simp
theorem ints_nodup {ks : List Key} (h : ks.Nodup) : (intsOf ks).Nodup := by
  induction ks with
  | nil => exact List.nodup_nil
  | cons k r ih =>
    rw [List.nodup_cons] at h
    cases k with
    | inl i => exact List.nodup_cons.mpr ⟨fun z => h.1 (mem_ints.mp z), ih h.2⟩
    | inr x => exact ih h.2
theorem strs_nodup {ks : List Key} (h : ks.Nodup) : (strsOf ks).Nodup := by
  induction ks with
  | nil => exact List.nodup_nil
  | cons k r ih =>
    rw [List.nodup_cons] at h
    cases k with
    | inl i => exact ih h.2
    | inr x => exact List.nodup_cons.mpr ⟨fun z => h.1 (mem_strs.mp z), ih h.2⟩
theorem nodup_sub : ∀ {xs L : List Str}, xs.Nodup → (∀ x ∈ xs, x ∈ L) → xs.length ≤ L.length
  | [], _, _, _ => Nat.zero_le _
  | x :: r, L, h, s => by
    rw [List.nodup_cons] at h
    have hx := s x List.mem_cons_self
    have := nodup_sub (xs := r) (L := L.erase x) h.2 fun y hy => by
      have hyx : y ≠ x := fun e => h.1 (e ▸ hy)
      exact (List.mem_erase_of_ne hyx).mpr (s y (List.mem_cons_of_mem _ hy))
    rw [List.length_erase_of_mem hx] at this
    have : 0 < L.length := List.length_pos_of_mem hx
    rw [List.length_cons]; omega
theorem leK_int {a b : Int} (h : a ≤ b) : leK (.inl a) (.inl b) := by
  show decide (b < a) = false
  exact decide_eq_false (by omega)
theorem rising_leK : ∀ (p : Str) (xs : List Str), risingS p xs = true → (p :: xs).Pairwise fun a b => leK (.inr a) (.inr b)
  | p, [], _ => List.pairwise_singleton _ _
  | p, x :: r, h => by
    have h : (!ltCps x.cps.toList p.cps.toList && risingS x r) = true := h
    rw [Bool.and_eq_true] at h
    have ih := rising_leK x r h.2
    have h1 : leK (.inr p) (.inr x) := by
      have := h.1
      rw [ltCps_eq] at this
      show decide (x.cps.toList < p.cps.toList) = false
      cases hq : decide (x.cps.toList < p.cps.toList) with
      | false => rfl
      | true => rw [hq] at this; cases this
    refine List.pairwise_cons.mpr ⟨fun y hy => ?_, ih⟩
    rcases List.mem_cons.mp hy with e | hy
    · rw [e]; exact h1
    · exact leK_trans h1 ((List.pairwise_cons.mp ih).1 y hy)
theorem sortedS_leK {xs : List Str} (h : sortedS xs = true) : xs.Pairwise fun a b => leK (.inr a) (.inr b) := by
  cases xs with
  | nil => exact List.Pairwise.nil
  | cons x r => exact rising_leK x r h
/-- the law's universe -/
theorem two_sorted {ks : List Key} {ns : List Int} {xs : List Str} (hk : ks.Nodup) (h1 : ns.Perm (intsOf ks)) (h2 : ns.Pairwise (· ≤ ·)) (h3 : xs.Perm (strsOf ks)) (h4 : sortedS xs = true) :
    (ns.map Sum.inl ++ xs.map Sum.inr : List Key).Nodup ∧ (ns.map Sum.inl ++ xs.map Sum.inr : List Key).Pairwise leK ∧ ∀ k, k ∈ (ns.map Sum.inl ++ xs.map Sum.inr : List Key) ↔ k ∈ ks := by
  have n1 := h1.nodup_iff.mpr (ints_nodup hk)
  have n3 := h3.nodup_iff.mpr (strs_nodup hk)
  refine ⟨?_, ?_, fun k => ?_⟩
  · rw [List.nodup_append]
    refine ⟨List.pairwise_map.mpr (n1.imp fun h e => h (Sum.inl.inj e)), List.pairwise_map.mpr (n3.imp fun h e => h (Sum.inr.inj e)), fun a ha b hb e => ?_⟩
    obtain ⟨i, _, rfl⟩ := List.mem_map.mp ha
    obtain ⟨x, _, rfl⟩ := List.mem_map.mp hb
    cases e
  · rw [List.pairwise_append]
    refine ⟨List.pairwise_map.mpr (h2.imp fun h => leK_int h), List.pairwise_map.mpr (sortedS_leK h4), fun a ha b hb => ?_⟩
    obtain ⟨i, _, rfl⟩ := List.mem_map.mp ha
    obtain ⟨x, _, rfl⟩ := List.mem_map.mp hb
    rfl
  · rw [List.mem_append, List.mem_map, List.mem_map]
    cases k with
    | inl i =>
      constructor
      · rintro (⟨a, ha, e⟩ | ⟨a, ha, e⟩)
        · cases e; exact mem_ints.mp (h1.mem_iff.mp ha)
        · cases e
      · exact fun h => .inl ⟨i, h1.mem_iff.mpr (mem_ints.mpr h), rfl⟩
    | inr x =>
      constructor
      · rintro (⟨a, ha, e⟩ | ⟨a, ha, e⟩)
        · cases e
        · cases e; exact mem_strs.mp (h3.mem_iff.mp ha)
      · exact fun h => .inr ⟨x, h3.mem_iff.mpr (mem_strs.mpr h), rfl⟩
end SU
set_option Elab.async false
set_option linter.all false
set_option maxRecDepth 100000
set_option maxHeartbeats 2000000
namespace SU
open PySem PySem.Spec PyProof.Rows L2 C8 LC LR LG
/-! what the law draws, and that repr shows it in few signs -/
def VR : List Str := ["X", "Y", "Z", "W"]
def SY : List Str := ["a", "b9", "zb"]
def PR : List Str := ["p", "q", "r", "s"]
def SG : List Str := ["=", "!=", "<", "<=", ">", ">=", "+", "-", "*"]
theorem small_str {x : Str} (h : x ∈ VR ++ SY ++ PR ++ SG) : NmOk x ∧ SeqAt.shaped (.str x) = true := by
  have all : ∀ x ∈ VR ++ SY ++ PR ++ SG, (decide ((PyData.str x).shown.length ≤ 12) && SeqAt.shaped (.str x)) = true := by
    have : (VR ++ SY ++ PR ++ SG).all (fun x => decide ((PyData.str x).shown.length ≤ 12) && SeqAt.shaped (.str x)) = true := by decide +kernel
    exact List.all_eq_true.mp this
  have := all x h
  rw [Bool.and_eq_true, decide_eq_true_eq] at this
  exact this
theorem sm_vr {x : Str} (h : x ∈ VR) : NmOk x ∧ SeqAt.shaped (.str x) = true := small_str (by simp [h])
theorem sm_sy {x : Str} (h : x ∈ SY) : NmOk x ∧ SeqAt.shaped (.str x) = true := small_str (by simp [h])
theorem sm_pr {x : Str} (h : x ∈ PR) : NmOk x ∧ SeqAt.shaped (.str x) = true := small_str (by simp [h])
theorem sm_sg {x : Str} (h : x ∈ SG) : NmOk x ∧ SeqAt.shaped (.str x) = true := small_str (by simp [h])
def Tm.Sm : Tm → Prop
  | .var x => x ∈ VR
  | .int n => 0 ≤ n ∧ n < 100000
  | .sym x => x ∈ SY
  | .op s l r => s ∈ SG ∧ l.Sm ∧ r.Sm
def Atm.Sm (a : Atm) : Prop := a.nm ∈ PR ∧ ∀ t ∈ a.ts, t.Sm
def Cnd.Sm : Cnd → Prop
  | .yes a => a.Sm
  | .no a => a.Sm
  | .cmp s l r => s ∈ SG ∧ l.Sm ∧ r.Sm
def Mem.Sm (m : Mem) : Prop := m.w.Sm ∧ ∀ c ∈ m.b, c.Sm
def Prt.Sm : Prt → Prop
  | .c x => x.Sm
  | .sum s ms t => s ∈ SG ∧ (∀ m ∈ ms, m.Sm) ∧ t.Sm
def Cho.Sm (x : Cho) : Prop := x.a.Sm ∧ ∀ c ∈ x.b, c.Sm
def OSm (o : Option Int) : Prop := ∀ i, o = some i → 0 ≤ i ∧ i < 100000
def Stm.Sm : Stm → Prop
  | .rule a b => a.Sm ∧ ∀ p ∈ b, p.Sm
  | .deny b => ∀ p ∈ b, p.Sm
  | .choose lo hi ch b => OSm lo ∧ OSm hi ∧ (∀ x ∈ ch, x.Sm) ∧ ∀ p ∈ b, p.Sm
  | .range _ _ => True
  | .minim ms => ∀ m ∈ ms, m.Sm
/-! symbols and variables -/
theorem Tm.sy {t : Tm} (h : t.Sm) {x : Str} (m : Sum.inr x ∈ t.cs) : x ∈ SY := by
  induction t with
  | var y => cases m
  | int n => simp [Tm.cs] at m
  | sym y => simp [Tm.cs] at m; rw [m]; exact h
  | op s l r il ir =>
    rcases List.mem_append.mp m with m | m
    · exact il h.2.1 m
    · exact ir h.2.2 m
theorem Tm.vr {t : Tm} (h : t.Sm) {x : Str} (m : x ∈ t.vs) : x ∈ VR := by
  induction t with
  | var y => simp [Tm.vs] at m; rw [m]; exact h
  | int n => cases m
  | sym y => cases m
  | op s l r il ir =>
    rcases List.mem_append.mp m with m | m
    · exact il h.2.1 m
    · exact ir h.2.2 m
theorem Atm.sy {a : Atm} (h : a.Sm) {x : Str} (m : Sum.inr x ∈ a.cs) : x ∈ SY := by
  obtain ⟨t, ht, m⟩ := List.mem_flatMap.mp m; exact Tm.sy (h.2 t ht) m
theorem Atm.vr {a : Atm} (h : a.Sm) {x : Str} (m : x ∈ a.vs) : x ∈ VR := by
  obtain ⟨t, ht, m⟩ := List.mem_flatMap.mp m; exact Tm.vr (h.2 t ht) m
theorem Cnd.sy {c : Cnd} (h : c.Sm) {x : Str} (m : Sum.inr x ∈ c.cs) : x ∈ SY := by
  cases c with
  | yes a => exact Atm.sy h m
  | no a => exact Atm.sy h m
  | cmp s l r =>
    rcases List.mem_append.mp m with m | m
    · exact Tm.sy h.2.1 m
    · exact Tm.sy h.2.2 m
theorem Cnd.vr {c : Cnd} (h : c.Sm) {x : Str} (m : x ∈ c.vs) : x ∈ VR := by
  cases c with
  | yes a => exact Atm.vr h m
  | no a => exact Atm.vr h m
  | cmp s l r =>
    rcases List.mem_append.mp m with m | m
    · exact Tm.vr h.2.1 m
    · exact Tm.vr h.2.2 m
theorem Mem.sy {c : Mem} (h : c.Sm) {x : Str} (m : Sum.inr x ∈ c.cs) : x ∈ SY := by
  obtain ⟨t, ht, m⟩ := List.mem_flatMap.mp m; exact Cnd.sy (h.2 t ht) m
theorem Prt.sy {c : Prt} (h : c.Sm) {x : Str} (m : Sum.inr x ∈ c.cs) : x ∈ SY := by
  cases c with
  | c y => exact Cnd.sy h m
  | sum s ms t => obtain ⟨t, ht, m⟩ := List.mem_flatMap.mp m; exact Mem.sy (h.2.1 t ht) m
theorem Prt.vr {c : Prt} (h : c.Sm) {x : Str} (m : x ∈ c.vs) : x ∈ VR := by
  cases c with
  | c y => exact Cnd.vr h m
  | sum s ms t => exact Tm.vr h.2.2 m
theorem bd_sy {b : List Prt} (h : ∀ p ∈ b, p.Sm) {x : Str} (m : Sum.inr x ∈ b.flatMap Prt.cs) : x ∈ SY := by
  obtain ⟨t, ht, m⟩ := List.mem_flatMap.mp m; exact Prt.sy (h t ht) m
theorem Stm.sy {s : Stm} (h : s.Sm) {x : Str} (m : Sum.inr x ∈ s.cs) : x ∈ SY := by
  cases s with
  | rule a b =>
    rcases List.mem_append.mp m with m | m
    · exact Atm.sy h.1 m
    · exact bd_sy h.2 m
  | deny b => exact bd_sy h m
  | choose lo hi ch b =>
    rcases List.mem_append.mp m with m | m
    · obtain ⟨c, hc, m⟩ := List.mem_flatMap.mp m
      rcases List.mem_append.mp m with m | m
      · exact Atm.sy (h.2.2.1 c hc).1 m
      · obtain ⟨t, ht, m⟩ := List.mem_flatMap.mp m; exact Cnd.sy ((h.2.2.1 c hc).2 t ht) m
    · exact bd_sy h.2.2.2 m
  | range a b =>
    obtain ⟨i, _, e⟩ := List.mem_map.mp m
    cases e
  | minim ms => obtain ⟨t, ht, m⟩ := List.mem_flatMap.mp m; exact Mem.sy (h t ht) m
theorem Stm.vr {s : Stm} (h : s.Sm) {x : Str} (m : x ∈ s.vs) : x ∈ VR := by
  have hb : (∀ p ∈ s.bd, p.Sm) := by
    cases s with
    | rule a b => exact h.2
    | deny b => exact h
    | choose lo hi ch b => exact h.2.2.2
    | range a b => exact fun _ z => nomatch z
    | minim ms => exact fun _ z => nomatch z
  rcases List.mem_append.mp m with m | m
  · cases s with
    | rule a b => exact Atm.vr h.1 m
    | _ => cases m
  · obtain ⟨t, ht, m⟩ := List.mem_flatMap.mp m; exact Prt.vr (hb t ht) m
def LP.Sm : LP → Prop
  | .m x => x.Sm
  | .ch x => x.Sm
theorem LP.vr {p : LP} (h : p.Sm) {x : Str} (m : x ∈ p.own ++ p.b.flatMap Cnd.vs) : x ∈ VR := by
  cases p with
  | m y =>
    rcases List.mem_append.mp m with m | m
    · exact Tm.vr h.1 m
    · obtain ⟨t, ht, m⟩ := List.mem_flatMap.mp m; exact Cnd.vr (h.2 t ht) m
  | ch y =>
    rcases List.mem_append.mp m with m | m
    · exact Atm.vr h.1 m
    · obtain ⟨t, ht, m⟩ := List.mem_flatMap.mp m; exact Cnd.vr (h.2 t ht) m
theorem lps_sm {s : Stm} (h : s.Sm) : ∀ x ∈ s.lps, x.Sm := by
  intro x hx
  have hb : (∀ p ∈ s.bd, p.Sm) := by
    cases s with
    | rule a b => exact h.2
    | deny b => exact h
    | choose lo hi ch b => exact h.2.2.2
    | range a b => exact fun _ z => nomatch z
    | minim ms => exact fun _ z => nomatch z
  rcases List.mem_append.mp hx with hx | hx
  · cases s with
    | choose lo hi ch b => obtain ⟨c, hc, rfl⟩ := List.mem_map.mp hx; exact h.2.2.1 c hc
    | minim ms => obtain ⟨c, hc, rfl⟩ := List.mem_map.mp hx; exact h c hc
    | _ => cases hx
  · obtain ⟨p, hp, hx⟩ := List.mem_flatMap.mp hx
    have hq := hb p hp
    cases p with
    | c y => cases hx
    | sum sg ms t => obtain ⟨c, hc, rfl⟩ := List.mem_map.mp hx; exact hq.2.1 c hc
/-! repr -/
theorem gd_sums {k : Nat} {ns : List Nat} {xs : List PyData} (h : Paired (fun n x => Gd n k x) ns xs) : ((PyData.shownAll xs).map (·.length)).sum ≤ ns.sum ∧ (PyData.shownAll xs).length = ns.length ∧ PyData.showableAll xs = true ∧ PyData.hasDictAll xs = false ∧ PyData.depthAll xs ≤ k := by
  induction h with
  | nil => exact ⟨by simp [PyData.shownAll], by simp [PyData.shownAll], by simp [PyData.showableAll], by simp [PyData.hasDictAll], by simp [PyData.depthAll]⟩
  | cons g t ih =>
    obtain ⟨h1, h2, h3, h4, h5⟩ := ih
    have gl := g.len
    refine ⟨?_, ?_, ?_, ?_, ?_⟩
    · rw [PyData.shownAll, List.map_cons, List.sum_cons, List.sum_cons]; omega
    · rw [PyData.shownAll, List.length_cons, List.length_cons, h2]
    · rw [PyData.showableAll, g.sh, h3]; rfl
    · rw [PyData.hasDictAll, g.nd, h4]; rfl
    · rw [PyData.depthAll]; exact Nat.max_le.mpr ⟨g.dp, h5⟩
theorem gd_tupA {k N : Nat} {ns : List Nat} {xs : List PyData} (h : Paired (fun n x => Gd n k x) ns xs) (hN : ns.sum + 2 * ns.length + 3 ≤ N := by decide) : Gd N (k + 1) (.tuple xs) := by
  obtain ⟨h1, h2, h3, h4, h5⟩ := gd_sums h
  have hl := tupleText_len_le (PyData.shownAll xs)
  refine ⟨?_, by rw [PyData.showable]; exact h3, by rw [PyData.hasDict]; exact h4, by rw [PyData.depth]; omega⟩
  rw [PyData.shown]
  omega
def szT : Nat → Nat
  | 0 => 31
  | n + 1 => 35 + 2 * szT n
theorem szT_le {a b : Nat} (h : a ≤ b) : szT a ≤ szT b := by
  induction b with
  | zero => rw [Nat.le_zero.mp h]; exact Nat.le_refl _
  | succ b ih =>
    by_cases e : a = b + 1
    · rw [e]; exact Nat.le_refl _
    · have := ih (by omega); rw [szT]; omega
theorem nmS (s : Str) (h : (decide ((PyData.str s).shown.length ≤ 12)) = true := by decide +kernel) : NmOk s := show (PyData.str s).shown.length ≤ 12 from of_decide_eq_true h
theorem gdS {k : Nat} {s : Str} (h : NmOk s) : Gd 12 (k + 1) (.str s) := (gd_str h).mono (Nat.le_refl _) (by omega)
theorem gdI {k : Nat} {i : Int} (h0 : 0 ≤ i) (h1 : i < 100000) : Gd 12 (k + 1) (.int i) := (gd_int (.inr ⟨h0, h1⟩)).mono (by decide) (by omega)
theorem gd_tm : ∀ {t : Tm}, t.Sm → Gd (szT t.dep) (t.dep + 2) t.d
  | .var x, h => show Gd 31 2 _ from gd_tupA (ns := [12, 12]) (N := 31) (.cons (gdS (nmS _)) (.cons (gdS (sm_vr h).1) .nil))
  | .int n, h => show Gd 31 2 _ from gd_tupA (ns := [12, 12]) (N := 31) (.cons (gdS (nmS _)) (.cons (gdI h.1 h.2) .nil))
  | .sym x, h => show Gd 31 2 _ from gd_tupA (ns := [12, 12]) (N := 31) (.cons (gdS (nmS _)) (.cons (gdS (sm_sy h).1) .nil))
  | .op s l r, h => by
    have hl := (gd_tm h.2.1).mono (szT_le (Nat.le_max_left l.dep r.dep)) (by have := Nat.le_max_left l.dep r.dep; omega : _ ≤ max l.dep r.dep + 2)
    have hr := (gd_tm h.2.2).mono (szT_le (Nat.le_max_right l.dep r.dep)) (by have := Nat.le_max_right l.dep r.dep; omega : _ ≤ max l.dep r.dep + 2)
    refine (gd_tupA (ns := [12, 12, szT (max l.dep r.dep), szT (max l.dep r.dep)]) (N := szT (max l.dep r.dep + 1)) (.cons (gdS (nmS _)) (.cons (gdS (sm_sg h.1).1) (.cons hl (.cons hr .nil)))) ?_)
    simp only [List.sum_cons, List.sum_nil, List.length_cons, List.length_nil, szT]
    omega
theorem gd_tm' {t : Tm} (h : t.Sm) (o : t.Ok) : Gd 493 5 t.d := (gd_tm h).mono (Nat.le_trans (szT_le o.2) (by decide)) (by have := o.2; omega)
theorem gd_listM {α : Type} {f : α → PyData} {n k m N : Nat} {xs : List α} (h : ∀ x ∈ xs, Gd n k (f x)) (hm : xs.length ≤ m) (hN : m * (n + 2) + 3 ≤ N := by decide) : Gd N (k + 1) (.list (xs.map f)) := (gd_list (n := n) (k := k) (m := m) (fun x hx => by
  obtain ⟨a, ha, rfl⟩ := List.mem_map.mp hx
  exact h a ha) (by rw [List.length_map]; exact hm)).mono hN (Nat.le_refl _)
theorem gd_atm {a : Atm} (h : a.Sm) (o : a.Ok) : Gd 2016 7 a.d := gd_tupA (ns := [12, 12, 1983]) (.cons (gdS (nmS _)) (.cons (gdS (sm_pr h.1).1) (.cons (gd_listM (n := 493) (k := 5) (m := 4) (fun t ht => gd_tm' (h.2 t ht) (o.2 t ht)) o.1) .nil)))
theorem gd_cnd {c : Cnd} (h : c.Sm) (o : c.Ok) : Gd 2035 8 c.d := by
  cases c with
  | yes a => exact gd_tupA (ns := [12, 2016]) (.cons (gdS (nmS _)) (.cons (gd_atm h o) .nil))
  | no a => exact gd_tupA (ns := [12, 2016]) (.cons (gdS (nmS _)) (.cons (gd_atm h o) .nil))
  | cmp s l r => exact (gd_tupA (ns := [12, 12, 493, 493]) (k := 5) (N := 2035) (.cons (gdS (nmS _)) (.cons (gdS (sm_sg h.1).1) (.cons (gd_tm' h.2.1 o.1) (.cons (gd_tm' h.2.2 o.2) .nil))))).mono (Nat.le_refl _) (by decide)
theorem gd_cs {b : List Cnd} (h : ∀ c ∈ b, c.Sm) (o : CsOk b) : Gd 16299 9 (csD b) := gd_listM (n := 2035) (k := 8) (m := 8) (fun c hc => gd_cnd (h c hc) (o.2 c hc)) o.1
theorem gd_mem {m : Mem} (h : m.Sm) (o : m.Ok) : Gd 16813 10 m.d := gd_tupA (ns := [12, 493, 16299]) (.cons (gdS (nmS _)) (.cons ((gd_tm' h.1 o.1).mono (Nat.le_refl _) (by decide)) (.cons (gd_cs h.2 o.2) .nil)))
theorem gd_ms {ms : List Mem} (h : ∀ m ∈ ms, m.Sm) (o : MsOk ms) : Gd 134523 11 (msD ms) := gd_listM (n := 16813) (k := 10) (m := 8) (fun c hc => gd_mem (h c hc) (o.2 c hc)) o.1
theorem gd_prt {p : Prt} (h : p.Sm) (o : p.Ok) : Gd 135051 12 p.d := by
  cases p with
  | c x => exact (gd_cnd h o).mono (by decide) (by decide)
  | sum s ms t => exact gd_tupA (ns := [12, 12, 134523, 493]) (.cons (gdS (nmS _)) (.cons (gdS (sm_sg h.1).1) (.cons (gd_ms h.2.1 o.1) (.cons ((gd_tm' h.2.2 o.2).mono (Nat.le_refl _) (by decide)) .nil))))
theorem gd_bd {b : List Prt} (h : ∀ c ∈ b, c.Sm) (o : BdOk b) : Gd 1080427 13 (bdD b) := gd_listM (n := 135051) (k := 12) (m := 8) (fun c hc => gd_prt (h c hc) (o.2 c hc)) o.1
theorem gd_cho {c : Cho} (h : c.Sm) (o : c.Ok) : Gd 18336 10 c.d := gd_tupA (ns := [12, 2016, 16299]) (.cons (gdS (nmS _)) (.cons ((gd_atm h.1 o.1).mono (Nat.le_refl _) (by decide)) (.cons (gd_cs h.2 o.2) .nil)))
theorem gd_ch {b : List Cho} (h : ∀ c ∈ b, c.Sm) (o : ChOk b) : Gd 146707 11 (chD b) := gd_listM (n := 18336) (k := 10) (m := 8) (fun c hc => gd_cho (h c hc) (o.2 c hc)) o.1
theorem gd_o {o : Option Int} (h : OSm o) : Gd 12 13 (oD o) := by
  cases o with
  | none => exact gd_non.mono (by decide) (by decide)
  | some i => exact gdI (h i rfl).1 (h i rfl).2
theorem gd_stm {s : Stm} (h : s.Sm) (o : s.Ok) : Gd 1227200 14 s.d := by
  cases s with
  | rule a b => exact gd_tupA (ns := [12, 2016, 1080427]) (.cons (gdS (nmS _)) (.cons ((gd_atm h.1 o.1).mono (Nat.le_refl _) (by decide)) (.cons (gd_bd h.2 o.2) .nil)))
  | deny b => exact gd_tupA (ns := [12, 1080427]) (.cons (gdS (nmS _)) (.cons (gd_bd h o) .nil))
  | choose lo hi ch b => exact gd_tupA (ns := [12, 12, 146707, 12, 1080427]) (.cons (gdS (nmS _)) (.cons (gd_o h.1) (.cons ((gd_ch h.2.2.1 o.1).mono (Nat.le_refl _) (by decide)) (.cons (gd_o h.2.1) (.cons (gd_bd h.2.2.2 o.2) .nil)))))
  | range x y =>
    obtain ⟨o1, o2, o3, o4⟩ := o
    exact (gd_tupA (ns := [12, 12, 12]) (k := 1) (N := 100) (.cons (gdS (nmS _)) (.cons (gdI o1 (by omega)) (.cons (gdI o3 (by omega)) .nil)))).mono (by decide) (by decide)
  | minim ms => exact (gd_tupA (ns := [12, 134523]) (k := 11) (N := 200000) (.cons (gdS (nmS _)) (.cons (gd_ms h o) .nil))).mono (by decide) (by decide)
theorem gd_sts {ss : List Stm} (h : ∀ c ∈ ss, c.Sm) (o : StOk ss) : Gd 9900000 15 (stD ss) := gd_listM (n := 1227200) (k := 14) (m := 8) (fun c hc => gd_stm (h c hc) (o.2 c hc)) o.1
end SU
set_option Elab.async false
set_option linter.all false
set_option maxRecDepth 100000
set_option maxHeartbeats 2000000
namespace SU
open PySem PySem.Spec PyProof.Rows L2 C8 LC LR LG
section
variable {ts : Tbs} {st ca p : Addr} {M : Vol} {H H' : Hp} {xs : List V} {ds : List PyData}
theorem mk_tup (w : Wd ts st ca M H) (hp : H p = none) (h : DMs M H xs ds) : DM M (upd H p (.tup xs)) (.ref p) (.tuple ds) := .tup (w.fresh hp) upd_same (h.kx (Kx.new hp))
theorem mk_lst (w : Wd ts st ca M H) (hp : H p = none) (h : DMs M H xs ds) : DM M (upd H p (.lst xs)) (.ref p) (.list ds) := .lst (w.fresh hp) upd_same (h.kx (Kx.new hp))
theorem DM.ky {d : PyData} {v : V} (h : DM M H v d) (w : Wd ts st ca M H) (k : Ky ts st ca H H') : DM M H' v d := h.kx (w.ky k)
theorem DMs.ky {ds : List PyData} {vs : List V} (h : DMs M H vs ds) (w : Wd ts st ca M H) (k : Ky ts st ca H H') : DMs M H' vs ds := h.kx (w.ky k)
/-- a list of variables -/
structure Nm (M : Vol) (H : Hp) (a : Addr) (xs : List Str) : Prop where
  n : ¬ M a
  e : H a = some (.lst (xs.map V.str))
  l : xs.length ≤ 4
  v : ∀ x ∈ xs, x ∈ VR
theorem Nm.kx {A B : Hp} {a : Addr} {xs : List Str} (h : Nm M A a xs) (k : Kx M A B) : Nm M B a xs := ⟨h.n, k _ _ h.n h.e, h.l, h.v⟩
theorem Nm.ky {a : Addr} {xs : List Str} (h : Nm M H a xs) (w : Wd ts st ca M H) (k : Ky ts st ca H H') : Nm M H' a xs := h.kx (w.ky k)
theorem Nm.anti {M' : Vol} {a : Addr} {xs : List Str} (h : Nm M' H a xs) (i : ∀ b, M b → M' b) : Nm M H a xs := ⟨fun z => h.n (i _ z), h.e, h.l, h.v⟩
end
theorem at_mem {α : Type} {xs : List α} {d : Int} (h0 : 0 ≤ d) (h1 : d < xs.length) : ∃ x, x ∈ xs ∧ ∀ {β : Type} (f : α → β), atI (xs.map f) d = some (f x) := by
  obtain ⟨n, rfl⟩ : ∃ n : Nat, d = n := ⟨d.toNat, by omega⟩
  have hn : n < xs.length := by omega
  refine ⟨xs[n], List.getElem_mem hn, fun f => atI_nat ?_⟩
  rw [List.getElem?_map, List.getElem?_eq_getElem hn]; rfl
theorem at_fin {α : Type} {xs : List α} {d : Int} (h0 : 0 ≤ d) (h1 : d < xs.length) : ∃ x, x ∈ xs ∧ atI xs d = some x := by
  obtain ⟨n, rfl⟩ : ∃ n : Nat, d = n := ⟨d.toNat, by omega⟩
  have hn : n < xs.length := by omega
  exact ⟨xs[n], List.getElem_mem hn, atI_nat (List.getElem?_eq_getElem hn)⟩
end SU
set_option Elab.async false
set_option linter.all false
set_option maxRecDepth 100000
set_option maxHeartbeats 2000000
namespace SU
open PySem PySem.Spec PyProof.Rows L2 C8 LC LR LG GX
theorem pair_dms {α β : Type} {dat : α → PyData} {good : α → Prop} {M : Vol} {H : Hp} : ∀ {is : List β} {ys : List V}, Paired (fun _ y => ∃ x : α, good x ∧ DM M H y (dat x)) is ys → ∃ xs : List α, DMs M H ys (xs.map dat) ∧ xs.length = is.length ∧ ∀ x ∈ xs, good x
  | _, _, .nil => ⟨[], .nil, rfl, fun _ z => nomatch z⟩
  | _, _, .cons ⟨x, g, d⟩ t => by
    obtain ⟨xs, h1, h2, h3⟩ := pair_dms t
    refine ⟨x :: xs, .cons d h1, by rw [List.length_cons, List.length_cons, h2], fun y hy => ?_⟩
    rcases List.mem_cons.mp hy with e | hy
    · rw [e]; exact g
    · exact h3 y hy
/-- a comprehension over a range that draws -/
theorem lc_draw {α : Type} {dat : α → PyData} {good : α → Prop} {ts : Tbs} {st ca D : Addr} {M : Vol} {H : Hp} {n : Nat} {g : TG} {tt : TT} {te : TE} {vs : List Nat} {σ : L2.St} {Qd : Hp → Prop} (w : Wd ts st ca M H) (hD : H D = none) (hn : n ≤ 1000)
    (step : ∀ (i : Nat) H1, Wd ts st ca (addV M D) H1 → Ky ts st ca H H1 → ∀ (Qk : VK) (F : Hp → Prop), (∀ (x : α) y H2, Wd ts st ca (addV M D) H2 → Ky ts st ca H1 H2 → DM (addV M D) H2 y (dat x) → good x → Qk y H2) →
      g (V.int (0 + (i : Nat))) (wipe σ vs) H1 fun σ2 H2 => wipe σ2 vs = wipe σ vs ∧ tt σ2 H2 fun b H3 => if b = true then te σ2 H3 Qk else F H3)
    (k : ∀ (xs : List α) (ys : List V) H1, Wd ts st ca M H1 → Ky ts st ca H H1 → ¬ M D → H1 D = some (.lst ys) → DMs (addV M D) H1 ys (xs.map dat) → xs.length = n → (∀ x ∈ xs, good x) → Qd H1) :
    ∃ W : Nat → Nat → Hp → Prop, (∃ m, W 0 m (upd H D (.lst []))) ∧ ∀ i m H, W i m H →
      ((Itr 0 n).stop i H ∧ Qd H) ∨ ((Itr 0 n).go i H ∧ ∃ Nx : Hp → Prop, (∀ H', Nx H' → ∃ m', m' < m ∧ W (i + 1) m' H') ∧ ∀ x H', (Itr 0 n).yld i H x H' → g x (wipe σ vs) H' fun σ2 H2 => wipe σ2 vs = wipe σ vs ∧ tt σ2 H2 fun b H3 =>
        if b = true then te σ2 H3 fun y H4 => ∃ acc, H4 D = some (.lst acc) ∧ acc.length < sizeLine ∧ Nx (upd H4 D (.lst (acc ++ [y]))) else Nx H3) := by
  refine lc_walk (ts := ts) (st := st) (ca := ca) (M := M) (H := H) (keep := fun _ => true) (xs := List.range n) (f := fun i => V.int (0 + (i : Nat))) (Out := fun M' _ y A => ∃ x : α, good x ∧ DM (addV M' D) A y (dat x)) (fun M' A B x y k ⟨r, o, h⟩ => ⟨r, o, h.kx (k.mono fun _ z => .inl z)⟩) (fun M' M'' A x y i ⟨r, o, h⟩ => ⟨r, o, h.anti fun b z => z.elim (fun z => .inl (i b z)) .inr⟩) walk_r (fun _ _ => trivial) hY_r w hD (by rw [List.length_range]; exact Nat.lt_of_le_of_lt hn (by decide)) (fun x hx H3 w3 k3 Qk F hk hf => step x H3 w3 k3 Qk F fun z y H4 w4 k4 d4 g4 => hk rfl y H4 w4 k4 ⟨z, g4, d4.anti fun b z => z.elim id .inr⟩) (fun ys H3 w3 k3 nD eD pD => ?_)
  obtain ⟨xs, h1, h2, h3⟩ := pair_dms pD
  rw [filt_true, List.length_range] at h2
  exact k xs ys H3 w3 k3 nD eD h1 h2 h3
section
variable {ts : Tbs} {st ca D : Addr} {M : Vol} {H H1 : Hp}
theorem dm_of {α : Type} {dat : α → PyData} {xs : List α} {ys : List V} (n : ¬ M D) (e : H D = some (.lst ys)) (h : DMs (addV M D) H ys (xs.map dat)) : DM M H (.ref D) (.list (xs.map dat)) := .lst n e (h.anti fun _ z => .inl z)
theorem kyw {o : HO} (k : Ky ts st ca H H1) (hD : H D = none) : Ky ts st ca H (upd H1 D o) := ⟨fun b u n e t => by rw [upd_ne (ne_of_none e hD)]; exact k.keep b u n e t, fun b u e => by
  obtain ⟨v, e⟩ := k.alive b u e
  exact alive_upd e⟩
theorem Nm.add {na : Addr} {xs : List Str} (h : Nm M H na xs) (hD : H D = none) : Nm (addV M D) H na xs := ⟨(fun z => z.elim h.n fun z => absurd h.e (by rw [z, hD]; exact fun q => nomatch q)), h.e, h.l, h.v⟩
theorem DM.wr {o : HO} {v : V} {d : PyData} (h : DM (addV M D) H v d) : DM (addV M D) (upd H D o) v d := h.kx (Kx.put (.inr rfl))
theorem DMs.wr {o : HO} {v : List V} {d : List PyData} (h : DMs (addV M D) H v d) : DMs (addV M D) (upd H D o) v d := h.kx (Kx.put (.inr rfl))
theorem Nm.wr {o : HO} {na : Addr} {xs : List Str} (h : Nm (addV M D) H na xs) : Nm (addV M D) (upd H D o) na xs := h.kx (Kx.put (.inr rfl))
theorem dms_take {α : Type} {dat : α → PyData} : ∀ {xs : List α} {ys : List V} (i : Nat), DMs M H ys (xs.map dat) → DMs M H (ys.take i) ((xs.take i).map dat)
  | [], _, i, h => by cases h; simp; exact .nil
  | x :: r, _, 0, h => by simp; exact .nil
  | x :: r, _, i + 1, h => by
    cases h with
    | cons h1 h2 => exact .cons h1 (dms_take i h2)
theorem dms_drop {α : Type} {dat : α → PyData} : ∀ {xs : List α} {ys : List V} (i : Nat), DMs M H ys (xs.map dat) → DMs M H (ys.drop i) ((xs.drop i).map dat)
  | [], _, i, h => by cases h; simp; exact .nil
  | x :: r, _, 0, h => h
  | x :: r, _, i + 1, h => by
    cases h with
    | cons h1 h2 => exact dms_drop i h2
theorem dms_ins {α : Type} {dat : α → PyData} {xs : List α} {ys : List V} {x : α} {y : V} (i : Nat) (h : DMs M H ys (xs.map dat)) (hx : DM M H y (dat x)) : DMs M H (ys.take i ++ [y] ++ ys.drop i) ((xs.take i ++ [x] ++ xs.drop i).map dat) := by
  rw [List.map_append, List.map_append]
  exact dms_app (dms_app (dms_take i h) (.cons hx .nil)) (dms_drop i h)
end
end SU
set_option Elab.async false
set_option linter.all false
set_option maxRecDepth 100000
set_option maxHeartbeats 2000000
namespace LM
open PySem PySem.Spec PyProof.Rows L2 C8 LC LR LG SU
section
variable {P : Program} {w : World} {A : Around} {E : Value → Shared → Prop}
theorem put_mix {s : Shared} {d : Addr} {kvs : List (Key × Value)} {k : Key} {key v : Value} {Q : Unit → Shared → Prop} (hk : (mixKind P w).is k key = true) (hm : s.heap.DictOf (mixKind P w) d kvs) (hz : kvs.length ≤ sizeLine)
    (q : ∀ h', h'.DictOf (mixKind P w) d (stored kvs k v) → Heap.SameBut d s.heap h' → Q () { s with heap := h' }) : wpAny (model P w) A (dictPut d ((mixKind P w).hash k) key v) Q E s := by
  obtain ⟨ob, es, ep, g1, g2, g3, g4, g5, g6⟩ := hm
  have z : es.size ≤ sizeLine := by
    have a := g5.length
    rw [Array.length_toList] at a
    omega
  have ix : es.findIdx? (fun e => (mixKind P w).is k e.key) = kvs.findIdx? fun kv => decide (kv.1 = k) := by
    rw [← g5.findIdx k]; cases es; simp
  unfold dictPut
  refine wpAny_bind (wpAny_dictFind_of hk g1 g3 g4 ?_)
  cases hi : es.findIdx? fun e => (mixKind P w).is k e.key with
  | none =>
    have no : k ∉ kvs.map (·.1) := not_mem_of_findIdx_none (ix ▸ hi)
    have na : (kvs.any fun kv => decide (kv.1 = k)) = false := by
      rw [List.any_eq_false]
      intro kv hkv e
      exact no (List.mem_map.mpr ⟨kv, hkv, of_decide_eq_true e⟩)
    have st : stored kvs k v = kvs ++ [(k, v)] := by rw [stored, na]; rfl
    refine wpAny_updateDictKeys (hz := z) g1 g3 (q _ ⟨_, _, ep + 1, Heap.get?_update_self _ g1 (Obj.isFreed_of_dict (Obj.data_mapDictKeys g3 _)), g2.mapDictKeys _, Obj.data_mapDictKeys g3 _, g4.push hk _, ?_, ?_⟩ (Heap.SameBut.update ..))
    · rw [st]
      have ap := g5.append hk ((mixKind P w).hash k) v
      cases es; simpa using ap
    · rw [st, List.map_append]
      exact List.nodup_append.mpr ⟨g6, List.pairwise_singleton _ _, fun a ha b hb e => no (by rw [List.map_singleton, List.mem_singleton] at hb; have hb : b = k := hb; rw [← hb, ← e]; exact ha)⟩
  | some i =>
    have ya : (kvs.any fun kv => decide (kv.1 = k)) = true := any_of_findIdx_some (ix ▸ hi)
    refine wpAny_updateDict g1 g3 (q _ ⟨_, _, ep, Heap.get?_update_self _ g1 (Obj.isFreed_of_dict (Obj.data_mapDict g3 _)), g2.mapDict _, Obj.data_mapDict g3 _, g4.modify _ _, ?_, ?_⟩ (Heap.SameBut.update ..))
    · rw [stored, if_pos ya]
      have hl : (es.toList.findIdx? fun e => (mixKind P w).is k e.key) = some i := by rw [← hi]; cases es; simp
      have md := g5.modify g6 hl v
      cases es; simpa using md
    · rw [stored, if_pos ya, keys_map_store]; exact g6
theorem merge_mix {s : Shared} {d a : Addr} {kvs more : List (Key × Value)} {Q : Unit → Shared → Prop} (ne : d ≠ a) (hS : (a == sysModules) = false) (hd : s.heap.DictOf (mixKind P w) d kvs) (ha : s.heap.DictOf (mixKind P w) a more) (hz : kvs.length + more.length ≤ sizeLine)
    (q : ∀ h', h'.DictOf (mixKind P w) d (merged kvs more) → Heap.SameBut d s.heap h' → Q () { s with heap := h' }) : wpAny (model P w) A (mergeMapping d (.ref a) false) Q E s := by
  obtain ⟨od, ed, pd, d1, d2, d3, d4, d5, d6⟩ := id hd
  obtain ⟨oa, ea, pa, a1, a2, a3, a4, a5, a6⟩ := id ha
  have hlen : more.length = ea.size := by rw [← a5.length, Array.length_toList]
  unfold mergeMapping
  refine wpAny_bind (wpAny_isInstance ha.typeIs isSubtype_dict_dict ?_)
  rw [if_pos rfl]
  refine wpAny_bind (wpAny_specialOf ha.typeIs F.slot_dict_iter.lookup (wpAny_bind (wpAny_pure ?_)))
  have loop : wpAny (model P w) A (do
      let l ← dictEntries a
      let ep ← dictEpoch a
      forIn (List.range l.size) PUnit.unit fun i (_ : PUnit) => (do
          match (← dictEntries a)[i]? with
            | some e => do
              holding [e.key, e.val] (dictPut d e.hash e.key e.val)
              if ((← dictEpoch a) != ep) = true then do
                  (unsupported "dict.changed-during-merge" : Sem PUnit)
                  pure (ForInStep.yield PUnit.unit)
                else pure (ForInStep.yield PUnit.unit)
            | _ => do
              (unsupported "dict.changed-during-merge" : Sem PUnit)
              pure (ForInStep.yield PUnit.unit) : Sem (ForInStep PUnit))
      pure ()) Q E s := by
    refine wpAny_bind (wpAny_dictEntries a1 a3 (wpAny_bind (wpAny_dictEpoch a1 a3 ?_)))
    refine wpAny_bind (wpAny_forIn_list _ (fun rest _ s' => ∃ h' i, s' = { s with heap := h' } ∧ rest = (List.range ea.size).drop i ∧ h'.DictOf (mixKind P w) d (merged kvs (more.take i)) ∧ h'.get? a = some oa ∧ Heap.SameBut d s.heap h') _ ?_ ?_ _ _ ⟨s.heap, 0, rfl, rfl, by simpa [merged] using hd, a1, Heap.SameBut.refl _ _⟩)
    · rintro x rest b s' ⟨h', i, rfl, hr, hd', ha', hs'⟩
      have hlt : i < ea.size := by
        rcases Nat.lt_or_ge i ea.size with h | h
        · exact h
        · rw [List.drop_of_length_le (by rw [List.length_range]; exact h)] at hr; cases hr
      rw [List.drop_eq_getElem_cons (by rw [List.length_range]; exact hlt), List.getElem_range] at hr
      injection hr with e1 e2
      subst e1
      obtain ⟨⟨k, v⟩, hkv⟩ : ∃ kv, more[x]? = some kv := ⟨_, List.getElem?_eq_getElem (by omega)⟩
      obtain ⟨c1, c2⟩ := a5.get? (e := ea[x]) (by simp [hlt]) hkv
      obtain ⟨k', c3, c4⟩ := a4 ea[x] (Array.getElem_mem hlt)
      obtain rfl : k' = k := (mixKind P w).inj _ _ _ c3 c1
      have hm : (merged kvs (more.take x)).length ≤ sizeLine := by
        have m1 := merged_length_le kvs (more.take x)
        rw [List.length_take] at m1
        omega
      refine wpAny_bind (wpAny_dictEntries ha' a3 ?_)
      rw [Array.getElem?_eq_getElem hlt]
      dsimp only
      rw [c4, c2]
      refine wpAny_bind (wpAny_holding (put_mix c1 hd' hm fun h2 hd2 hs2 => ?_))
      have ha2 : h2.get? a = some oa := (hs2.2 a (Ne.symm ne)).trans ha'
      refine wpAny_bind (wpAny_dictEpoch ha2 a3 ?_)
      rw [if_neg (by simp)]
      exact wpAny_pure ⟨h2, x + 1, rfl, e2, by rw [merged_take_succ kvs more x (k', v) hkv]; exact hd2, ha2, hs'.trans hs2⟩
    · rintro b s' ⟨h', i, rfl, hr, hd', ha', hs'⟩
      have hge : ea.size ≤ i := by
        rcases Nat.lt_or_ge i ea.size with h | h
        · rw [List.drop_eq_getElem_cons (by rw [List.length_range]; exact h)] at hr; cases hr
        · exact h
      rw [List.take_of_length_le (by omega)] at hd'
      exact wpAny_pure (q h' hd' hs')
  dsimp only
  rw [show (some (Value.builtin "dict.__iter__") == some (Value.builtin "dict.__iter__")) = true from by decide +kernel]
  dsimp only
  rw [if_neg (by rw [hS]; exact Bool.false_ne_true)]
  refine wpAny_bind (wpAny_dictEntries d1 d3 ?_)
  split
  · refine wpAny_bind (wpAny_dictEntries a1 a3 ?_)
    rw [← Array.forIn_toList]
    refine wpAny_bind (wpAny_forIn_list _ (fun rest _ s' => s' = s ∧ ∀ e ∈ rest, e ∈ ea) _ ?_ ?_ _ _ ⟨rfl, fun e he => Array.mem_toList_iff.mp he⟩)
    · rintro x rest b s' ⟨rfl, hr⟩
      obtain ⟨k, c3, c4⟩ := a4 x (hr x List.mem_cons_self)
      rcases keyIs_shape c3 with ⟨i, t, _, e1⟩ | ⟨i, t, _, e1⟩
      · rw [e1]; exact wpAny_pure ⟨rfl, fun e he => hr e (List.mem_cons_of_mem _ he)⟩
      · rw [e1]; exact wpAny_pure ⟨rfl, fun e he => hr e (List.mem_cons_of_mem _ he)⟩
    · rintro b s' ⟨rfl, _⟩
      exact loop
  · exact loop
end
/-- {**m, k: v} -/
def tMore (tm tk tv : TE) : TE := fun σ H Q => ∀ d, H d = none → tm σ (upd H d (.dK [])) fun vm H1 => ∃ (a : Addr) (kvs : List (Key × V)), vm = .ref a ∧ a ≠ d ∧ Rd H1 a (.dK kvs) ∧ H1 d = some (.dK []) ∧ kvs.length < sizeLine ∧
  ∀ p, upd H1 d (.dK kvs) p = none → tPairs [(tk, tv)] σ (upd (upd H1 d (.dK kvs)) p (.dK [])) fun ps H3 => H3 p = some (.dK []) ∧ H3 d = some (.dK kvs) ∧ ∃ k vv, ps = [(kV k, vv)] ∧ Q (.ref d) (upd (upd H3 p (.dK [(k, vv)])) d (.dK (putK kvs k vv)))
theorem kv_keys : ∀ {kvs : List (Key × V)} {vs : List (Key × Value)}, KV kvs vs → kvs.map (·.1) = vs.map (·.1)
  | _, _, .nil => rfl
  | _, _, .cons h t => by rw [List.map_cons, List.map_cons, h.1, kv_keys t]
theorem mergeK_new : ∀ {more acc : List (Key × V)}, ((acc ++ more).map (·.1)).Nodup → mergeK acc more = acc ++ more
  | [], acc, _ => (List.append_nil acc).symm
  | p :: r, acc, h => by
    have np : acc.any (fun q => decide (q.1 = p.1)) = false := by
      rw [List.any_eq_false]
      intro q hq e
      rw [List.map_append, List.map_cons, List.nodup_append] at h
      exact h.2.2 q.1 (List.mem_map.mpr ⟨q, hq, rfl⟩) p.1 List.mem_cons_self (of_decide_eq_true e)
    have e1 : putK acc p.1 p.2 = acc ++ [p] := by unfold putK; rw [np]; rfl
    show mergeK (putK acc p.1 p.2) r = _
    rw [e1, mergeK_new (by rw [List.append_assoc]; exact h), List.append_assoc]; rfl
theorem pe_more {X : Cx} {pos : Pos} {m k v : Expr} {tm tk tv : TE} (hm : PE X m tm) (hk : PE X k tk) (hv : PE X v tv) : PE X (.Dict [none, some k] [m, v] pos) (tMore tm tk tv) := by
  refine ⟨fun pins s σ H Q I q => ?_⟩
  have hn := I.hok.fresh (Nat.le_refl s.heap.objs.size)
  have I1 := I.laid (a := s.heap.objs.size) (o := .dK []) (h' := s.heap.push { cls := .type "dict", data := .dict #[] }) (t' := s.toks) (fun _ _ q => Heap.get?_push_of_some _ q) (Nat.le_refl _) (dk_empty s.heap I.big)
  rw [arm_eval_Dict]
  refine wpAny_bind (wpAny_standAt ?_)
  simp only [evalEachOpt, evalEach, evalOpt, List.map_cons, List.map_nil, List.zip_cons_cons, List.zip_nil_left]
  unfold dictDisplay
  dsimp only
  simp only [List.forIn_cons, List.forIn_nil, pure_bind, bind_assoc, List.isEmpty_nil, if_true, List.nil_append, List.length_cons, List.length_nil]
  refine wpAny_bind (wpAny_alloc ?_)
  refine wpAny_bind (wpAny_holding (wpAny_bind (thn (hm.run pins _ σ _ _ I1 (q _ hn)) fun u s1 ⟨vm, H1, I2, rm, a, kvs, e0, hne, ea, ed, lk, q2⟩ => wpAny_bind (wpAny_standAt (wpAny_pure ?_)))))
  subst e0
  cases (show u = Value.ref a from rm)
  obtain ⟨z, hS, vs, r0, dd⟩ := dk_rd I2.hok ea
  obtain ⟨z1, hS1, vs1, r1, dd1⟩ := dk_of I2.hok ed
  cases r1
  have nd : (kvs.map (·.1)).Nodup := by
    obtain ⟨_, _, _, _, _, _, _, _, nd⟩ := id dd
    rw [kv_keys r0]; exact nd
  have em : mergeK [] kvs = kvs := mergeK_new (acc := []) nd
  refine wpAny_bind (wpAny_onRaise (wpAny_tryCatch (wpAny_onRaise (wpAny_holding (merge_mix (Ne.symm hne) hS dd1 dd (by rw [← r0.length]; simp; omega) fun h' dd' sb => ?_)))))
  have I3 : L2.Inv X pins σ (upd H1 s.heap.objs.size (.dK kvs)) { s1 with heap := h' } := by
    have rk : KV kvs (merged [] vs) := by have := r0.merge (kvs := []) .nil; rw [em] at this; exact this
    have he : ∃ q, h'.get? s.heap.objs.size = some q := let ⟨q, _, _, hq, _⟩ := dd'; ⟨q, hq⟩
    exact d_write (t' := s1.toks) I2 (by rw [ed]; exact True.intro) sb he (dk_new (Nat.le_of_lt lk) hS1 rk dd')
  have fin : ∀ (E : Value → Shared → Prop) (p : Addr) (H4 : Hp) (s4 : Shared), L2.Inv X pins σ H4 s4 → H4 s.heap.objs.size = some (.dK kvs) → p ≠ s.heap.objs.size → (∃ k0 vv, H4 p = some (.dK [(k0, vv)]) ∧ Q (.ref s.heap.objs.size) (upd H4 s.heap.objs.size (.dK (putK kvs k0 vv)))) →
      wpAny (model X.prog X.w) X.A (mergeMapping s.heap.objs.size (.ref p) false) (fun _ s' => ∃ v H', L2.Inv X pins σ H' s' ∧ L2.RelV v (.ref s.heap.objs.size) ∧ Q v H') E s4 := fun E p H4 s4 I4 e4 np ⟨k0, vv, ep, q4⟩ => by
    obtain ⟨y, yS, ys, yr, yd⟩ := dk_of I4.hok e4
    obtain ⟨t, tS, us, tr, td⟩ := dk_of I4.hok ep
    refine merge_mix (Ne.symm np) tS yd td (by rw [← yr.length, ← tr.length]; exact lk) fun h' dd' sb => ?_
    have he : ∃ q, h'.get? s.heap.objs.size = some q := let ⟨q, _, _, hq, _⟩ := dd'; ⟨q, hq⟩
    have z5 : (putK kvs k0 vv).length ≤ sizeLine := Nat.le_trans (length_putK kvs k0 vv) lk
    exact ⟨.ref s.heap.objs.size, _, d_write (t' := s4.toks) I4 (by rw [e4]; exact True.intro) sb he (dk_new z5 yS (tr.merge yr) dd'), rfl, q4⟩
  simp only [show ((0 + 1 == 17) = true) = False from by decide, if_false, pure_bind, List.isEmpty_cons, Bool.false_eq_true]
  have hn2 := I3.hok.fresh (Nat.le_refl h'.objs.size)
  have I4 := I3.laid (a := h'.objs.size) (o := .dK []) (h' := h'.push { cls := .type "dict", data := .dict #[] }) (t' := s1.toks) (fun _ _ q => Heap.get?_push_of_some _ q) (Nat.le_refl _) (dk_empty h' I3.big)
  have np : h'.objs.size ≠ s.heap.objs.size := fun e => by rw [e, upd_same] at hn2; cases hn2
  refine wpAny_bind (wpAny_bind (wpAny_holding (wpAny_subDict (knd := mixKind X.prog X.w) (by show 1 ≤ 15; omega) (thn ((pps_cons (pos := pos) hk hv pps_nil).run pins _ σ _ _ I4 (q2 _ hn2)) fun ws s5 ⟨ps, H5, I5, rel, c1, c2, k0, vv, ep, q5⟩ => ?_))))
  subst ep
  obtain ⟨rs, cr, rk⟩ := carries_of (P := X.prog) (w := X.w) (kvs := [(k0, vv)]) rel
  obtain ⟨t0, tS, us, tr, td⟩ := dk_of I5.hok c1
  cases tr
  refine ⟨rs, cr, td, fun h6 d6 s6 => wpAny_bind (wpAny_onRaise (wpAny_holding ?_))⟩
  have he : ∃ q, h6.get? h'.objs.size = some q := let ⟨q, _, _, hq, _⟩ := d6; ⟨q, hq⟩
  have I6 : L2.Inv X pins σ (upd H5 h'.objs.size (.dK [(k0, vv)])) { s5 with heap := h6, toks := s5.toks + ws.length } := d_write I5 (by rw [c1]; exact True.intro) s6 he (dk_new (show 1 ≤ sizeLine from Nat.le_trans (Nat.le_add_left 1 kvs.length) lk) tS (rk.merge .nil) d6)
  refine thn (fin _ _ _ _ I6 (by rw [upd_ne (Ne.symm np)]; exact c2) np ⟨k0, vv, upd_same, q5⟩) fun _ s7 ⟨v7, H7, I7, r7, q7⟩ => ?_
  exact wpAny_pure (wpAny_pure ⟨v7, H7, I7, r7, q7⟩)
end LM
set_option Elab.async false
set_option linter.all false
set_option maxRecDepth 100000
set_option maxHeartbeats 2000000
namespace LM
open PySem PySem.Spec PyProof.Rows L2 C8 LC LR LG SU
open PySem.SeqAt PySem.MeetsSeq PySem.MeetsSeq2 PySem.MeetsSeq3 PySem.SeqRoads2
open PySem.AutoSeq1 (wpAny_loadPart')
section
variable {P : Program} {w : World}
/-- lists p and q of equal items, from place i on: nothing differs -/
def SameFrom (P : Program) (w : World) (p q : Addr) (o1 o2 : Obj) (xs ys : Array Value) : PySem.Spec := fun A R s =>
  (s.heap.get? p = some o1 ∧ s.heap.get? q = some o2) ∧ (∀ j (c1 : j < xs.size) (c2 : j < ys.size), EqP P w A.in1 s xs[j] ys[j] true) ∧ R (.ok (.ret (.bool false))) s
theorem ne_from (p q : Addr) (xs ys : Array Value) (n1 n2 : Nat) (f1 f2 : Option Addr) (z1 z2 : Array (Option Value)) (same : xs.size = ys.size) : ∀ (k i : Nat), xs.size - i = k →
    MeetsIn P w (Builtin.«list.__eq__.loop» ⟨[.ref p, .ref q, rawInt i, rawInt 3], []⟩) (SameFrom P w p q { cls := .type "list", dict := f1, data := .seq xs n1, slots := z1 } { cls := .type "list", dict := f2, data := .seq ys n2, slots := z2 } xs ys)
  | 0, i, hk => fun A R s ⟨⟨g1, g2⟩, eqs, r⟩ => by
    obtain ⟨hp, g, d, tk, os⟩ := s
    wp_walk using wpAny_loadPart' g1, wpAny_loadPart' g2
    rw [show xs[((i : Nat) : Int).toNat]? = none from by simp; omega, show ys[((i : Nat) : Int).toNat]? = none from by simp; omega]
    wp_walk using wpAny_loadPart' g1, wpAny_loadPart' g2
    show R (.ok (.ret (.bool (xs.size != ys.size)))) _
    rw [same, bne_self_eq_false]
    exact r
  | k + 1, i, hk => fun A R s ⟨⟨g1, g2⟩, eqs, r⟩ => by
    obtain ⟨hp, g, d, tk, os⟩ := s
    wp_walk using wpAny_loadPart' g1, wpAny_loadPart' g2
    have c1 : i < xs.size := by omega
    have c2 : i < ys.size := by omega
    rw [show xs[((i : Nat) : Int).toNat]? = some xs[i] from by simp [c1], show ys[((i : Nat) : Int).toNat]? = some ys[i] from by simp [c2]]
    refine wpAny_bind (eqs i c1 c2 _ _ ?_)
    wp_walk
    rw [show ((i : Int) + 1) = ((i + 1 : Nat) : Int) from by push_cast; rfl]
    refine ⟨plainId_quiet plain_eq_loop _, codeAny_builtin entry_eq_loop ?_⟩
    rw [Around.under_plainId plain_eq_loop _]
    exact ne_from p q xs ys n1 n2 f1 f2 z1 z2 same k (i + 1) (by omega) A R _ ⟨⟨g1, g2⟩, eqs, r⟩
theorem ne_meets (p q : Addr) (xs ys : Array Value) (n1 n2 : Nat) (f1 f2 : Option Addr) (z1 z2 : Array (Option Value)) (same : xs.size = ys.size) :
    MeetsIn P w (Builtin.«list.__ne__» ⟨[.ref p, .ref q], []⟩) (SameFrom P w p q { cls := .type "list", dict := f1, data := .seq xs n1, slots := z1 } { cls := .type "list", dict := f2, data := .seq ys n2, slots := z2 } xs ys) := by
  intro A R s ⟨⟨g1, g2⟩, eqs, r⟩
  obtain ⟨hp, g, d, tk, os⟩ := s
  have sub := AutoSeq1.sub_list_list
  have nz : ¬ (xs.size != ys.size) = true := by rw [same, bne_self_eq_false]; exact Bool.false_ne_true
  wp_walk using wpAny_loadPart' g1, wpAny_loadPart' g2
  refine ⟨plainId_quiet plain_eq_loop _, codeAny_builtin entry_eq_loop ?_⟩
  rw [Around.under_plainId plain_eq_loop _]
  exact ne_from p q xs ys n1 n2 f1 f2 z1 z2 same _ 0 rfl A R _ ⟨⟨g1, g2⟩, eqs, r⟩
theorem ne_lists {A : Around} {s : Shared} {p q : Addr} {xs ys : Array Value} (h1 : s.heap.IsList p xs) (h2 : s.heap.IsList q ys) (same : xs.size = ys.size) (hu : A.units < cLine) (eqs : ∀ j (c1 : j < xs.size) (c2 : j < ys.size), EqP P w A.in1 s xs[j] ys[j] true) (E Q : Value → Shared → Prop) (r : Q (.bool false) s) :
    wpAny (model P w) A (richCompare .NotEq (.ref p) (.ref q)) Q E s := by
  obtain ⟨⟨c1, f1, dt1, z1⟩, g1, e1, n1, d1⟩ := id h1
  obtain ⟨⟨c2, f2, dt2, z2⟩, g2, e2, n2, d2⟩ := id h2
  dsimp only at e1 d1 e2 d2
  subst e1 d1 e2 d2
  have t1 : s.TypeIs (.ref p) "list" := ⟨_, g1, rfl⟩
  have t2 : s.TypeIs (.ref q) "list" := ⟨_, g2, rfl⟩
  refine wpAny_richCompare_same_room (op := .NotEq) t1 t2 F.slot_list_ne (call_meetsIn F.slot_list_ne t1 F.entry_list_ne (F.args_list_ne_2 _ _) (ne_meets p q xs ys n1 n2 f1 f2 z1 z2 same) ⟨⟨g1, g2⟩, eqs, ?_⟩) hu
  exact And.intro (fun x => nomatch x) r
end
/-- a != b, two lists of equal items (lists, dicts, ..) -/
def rNeV (K : PySem.W.Frag) : R2 := fun x y H Q => ∃ n a b xs ys, n ≤ 60 ∧ x = .ref a ∧ y = .ref b ∧ SqL K H a xs ∧ SqL K H b ys ∧ Paired (EqV K H n) xs ys ∧ Q (.bl false) H
theorem op_neV {X : Cx} {K : PySem.W.Frag} (e : X.K = K) (hu : X.A.units + 64 < cLine) : OpR X (compareOp .NotEq) (rNeV K) := by
  subst e
  intro pins s σ H x y v u Q I rx ry ⟨n, a, b, xs, ys, hn, ex, ey, ha, hb, hp, q⟩
  subst ex ey
  cases (show v = Value.ref a from rx)
  cases (show u = Value.ref b from ry)
  obtain ⟨us, r1, p1, _⟩ := I.list ha
  obtain ⟨ws, r2, p2, _⟩ := I.list hb
  have same : us.toArray.size = ws.toArray.size := by
    rw [List.size_toArray, List.size_toArray, ← r1.length, ← r2.length]; exact Paired.length hp
  refine ne_lists p1.isList p2.isList same (by omega) (fun j c1 c2 => ?_) _ _ ⟨.bl false, H, I, rfl, q⟩
  have k := items_run (F := EqV X.K H n) (A := X.A.in1) (eqV_run I n X.A.in1 (by show X.A.units + 1 + n < cLine; omega)) hp r1 r2 j (by simpa using c1) (by simpa using c2)
  simpa using k
end LM
set_option Elab.async false
set_option linter.all false
set_option maxRecDepth 100000
set_option maxHeartbeats 2000000
namespace LM
open PySem PyProof.Rows
open PySem.SeqAt PySem.MeetsSeq PySem.MeetsSeq2 PySem.MeetsSeq3
open PySem.AutoSeq1 (wpAny_loadPart')
/-- the road of a comparison of two pairs -/
def Way (op : CmpOp) (z : Bool) (A : Around) (s : Shared) (x0 x1 y0 y1 : Value) (r : Bool) : Prop :=
  (EqAt A s x0 y0 false ∧ Ob.RcOp op A s x0 y0 r) ∨ (EqAt A s x0 y0 true ∧ EqAt A s x1 y1 false ∧ Ob.RcOp op A s x1 y1 r) ∨ (EqAt A s x0 y0 true ∧ EqAt A s x1 y1 true ∧ r = z)
def PairsAt (op : CmpOp) (z : Bool) (p q : Addr) (o1 o2 : Obj) (x0 x1 y0 y1 : Value) (r : Bool) : PySem.Spec := fun A R s =>
  (s.heap.get? p = some o1 ∧ s.heap.get? q = some o2) ∧ Way op z A.in1 s x0 x1 y0 y1 r ∧ R (.ok (.ret (.bool r))) s
theorem lt_pairs (p q : Addr) (x0 x1 y0 y1 : Value) (n1 n2 : Nat) (f1 f2 : Option Addr) (z1 z2 : Array (Option Value)) (r : Bool) :
    Meets (Builtin.«tuple.__lt__» ⟨[.ref p, .ref q], []⟩) (PairsAt .Lt false p q { cls := .type "tuple", dict := f1, data := .seq #[x0, x1] n1, slots := z1 } { cls := .type "tuple", dict := f2, data := .seq #[y0, y1] n2, slots := z2 } x0 x1 y0 y1 r) :=
  .of_wp fun prog w A R s ⟨⟨g1, g2⟩, way, k⟩ => by
    obtain ⟨hp, g, d, tk, os⟩ := s
    have sub := AutoSeq1.sub_tuple_tuple
    rcases way with ⟨e0, c⟩ | ⟨e0, e1, c⟩ | ⟨e0, e1, c⟩
    · have e0 := e0 prog w
      have c := c prog w
      wp_walk using wpAny_loadPart' g1, wpAny_loadPart' g2, e0, c
      exact ⟨_, rfl, k⟩
    · have e0 := e0 prog w
      have e1 := e1 prog w
      have c := c prog w
      wp_walk using wpAny_loadPart' g1, wpAny_loadPart' g2, e0, e1, c
      exact ⟨_, rfl, k⟩
    · have e0 := e0 prog w
      have e1 := e1 prog w
      subst c
      wp_walk using wpAny_loadPart' g1, wpAny_loadPart' g2, e0, e1
      exact ⟨_, rfl, k⟩
theorem rc_lt {A : Around} {s : Shared} {p q : Addr} {x0 x1 y0 y1 : Value} {r : Bool} (h1 : s.heap.IsTuple p #[x0, x1]) (h2 : s.heap.IsTuple q #[y0, y1]) (hu : A.units < cLine) (way : Way .Lt false A.in1 s x0 x1 y0 y1 r) : Ob.RcOp .Lt A s (.ref p) (.ref q) r := fun prog w E Q k => by
  obtain ⟨⟨c1, f1, dt1, z1⟩, g1, e1, n1, d1⟩ := id h1
  obtain ⟨⟨c2, f2, dt2, z2⟩, g2, e2, n2, d2⟩ := id h2
  dsimp only at e1 d1 e2 d2
  subst e1 d1 e2 d2
  exact richCompare_meets_room (op := .Lt) ⟨_, g1, rfl⟩ ⟨_, g2, rfl⟩ F.slot_tuple_lt F.entry_tuple_lt (F.args_tuple_lt_2 _ _) (lt_pairs p q x0 x1 y0 y1 n1 n2 f1 f2 z1 z2 r) ⟨⟨g1, g2⟩, way, And.intro (fun x => nomatch x) k⟩ hu
theorem le_pairs (p q : Addr) (x0 x1 y0 y1 : Value) (n1 n2 : Nat) (f1 f2 : Option Addr) (z1 z2 : Array (Option Value)) (r : Bool) :
    Meets (Builtin.«tuple.__le__» ⟨[.ref p, .ref q], []⟩) (PairsAt .LtE true p q { cls := .type "tuple", dict := f1, data := .seq #[x0, x1] n1, slots := z1 } { cls := .type "tuple", dict := f2, data := .seq #[y0, y1] n2, slots := z2 } x0 x1 y0 y1 r) :=
  .of_wp fun prog w A R s ⟨⟨g1, g2⟩, way, k⟩ => by
    obtain ⟨hp, g, d, tk, os⟩ := s
    have sub := AutoSeq1.sub_tuple_tuple
    rcases way with ⟨e0, c⟩ | ⟨e0, e1, c⟩ | ⟨e0, e1, c⟩
    · have e0 := e0 prog w
      have c := c prog w
      wp_walk using wpAny_loadPart' g1, wpAny_loadPart' g2, e0, c
      exact ⟨_, rfl, k⟩
    · have e0 := e0 prog w
      have e1 := e1 prog w
      have c := c prog w
      wp_walk using wpAny_loadPart' g1, wpAny_loadPart' g2, e0, e1, c
      exact ⟨_, rfl, k⟩
    · have e0 := e0 prog w
      have e1 := e1 prog w
      subst c
      wp_walk using wpAny_loadPart' g1, wpAny_loadPart' g2, e0, e1
      exact ⟨_, rfl, k⟩
theorem rc_le {A : Around} {s : Shared} {p q : Addr} {x0 x1 y0 y1 : Value} {r : Bool} (h1 : s.heap.IsTuple p #[x0, x1]) (h2 : s.heap.IsTuple q #[y0, y1]) (hu : A.units < cLine) (way : Way .LtE true A.in1 s x0 x1 y0 y1 r) : Ob.RcOp .LtE A s (.ref p) (.ref q) r := fun prog w E Q k => by
  obtain ⟨⟨c1, f1, dt1, z1⟩, g1, e1, n1, d1⟩ := id h1
  obtain ⟨⟨c2, f2, dt2, z2⟩, g2, e2, n2, d2⟩ := id h2
  dsimp only at e1 d1 e2 d2
  subst e1 d1 e2 d2
  exact richCompare_meets_room (op := .LtE) ⟨_, g1, rfl⟩ ⟨_, g2, rfl⟩ F.slot_tuple_le F.entry_tuple_le (F.args_tuple_le_2 _ _) (le_pairs p q x0 x1 y0 y1 n1 n2 f1 f2 z1 z2 r) ⟨⟨g1, g2⟩, way, And.intro (fun x => nomatch x) k⟩ hu
theorem gt_pairs (p q : Addr) (x0 x1 y0 y1 : Value) (n1 n2 : Nat) (f1 f2 : Option Addr) (z1 z2 : Array (Option Value)) (r : Bool) :
    Meets (Builtin.«tuple.__gt__» ⟨[.ref p, .ref q], []⟩) (PairsAt .Gt false p q { cls := .type "tuple", dict := f1, data := .seq #[x0, x1] n1, slots := z1 } { cls := .type "tuple", dict := f2, data := .seq #[y0, y1] n2, slots := z2 } x0 x1 y0 y1 r) :=
  .of_wp fun prog w A R s ⟨⟨g1, g2⟩, way, k⟩ => by
    obtain ⟨hp, g, d, tk, os⟩ := s
    have sub := AutoSeq1.sub_tuple_tuple
    rcases way with ⟨e0, c⟩ | ⟨e0, e1, c⟩ | ⟨e0, e1, c⟩
    · have e0 := e0 prog w
      have c := c prog w
      wp_walk using wpAny_loadPart' g1, wpAny_loadPart' g2, e0, c
      exact ⟨_, rfl, k⟩
    · have e0 := e0 prog w
      have e1 := e1 prog w
      have c := c prog w
      wp_walk using wpAny_loadPart' g1, wpAny_loadPart' g2, e0, e1, c
      exact ⟨_, rfl, k⟩
    · have e0 := e0 prog w
      have e1 := e1 prog w
      subst c
      wp_walk using wpAny_loadPart' g1, wpAny_loadPart' g2, e0, e1
      exact ⟨_, rfl, k⟩
theorem rc_gt {A : Around} {s : Shared} {p q : Addr} {x0 x1 y0 y1 : Value} {r : Bool} (h1 : s.heap.IsTuple p #[x0, x1]) (h2 : s.heap.IsTuple q #[y0, y1]) (hu : A.units < cLine) (way : Way .Gt false A.in1 s x0 x1 y0 y1 r) : Ob.RcOp .Gt A s (.ref p) (.ref q) r := fun prog w E Q k => by
  obtain ⟨⟨c1, f1, dt1, z1⟩, g1, e1, n1, d1⟩ := id h1
  obtain ⟨⟨c2, f2, dt2, z2⟩, g2, e2, n2, d2⟩ := id h2
  dsimp only at e1 d1 e2 d2
  subst e1 d1 e2 d2
  exact richCompare_meets_room (op := .Gt) ⟨_, g1, rfl⟩ ⟨_, g2, rfl⟩ F.slot_tuple_gt F.entry_tuple_gt (F.args_tuple_gt_2 _ _) (gt_pairs p q x0 x1 y0 y1 n1 n2 f1 f2 z1 z2 r) ⟨⟨g1, g2⟩, way, And.intro (fun x => nomatch x) k⟩ hu
theorem ge_pairs (p q : Addr) (x0 x1 y0 y1 : Value) (n1 n2 : Nat) (f1 f2 : Option Addr) (z1 z2 : Array (Option Value)) (r : Bool) :
    Meets (Builtin.«tuple.__ge__» ⟨[.ref p, .ref q], []⟩) (PairsAt .GtE true p q { cls := .type "tuple", dict := f1, data := .seq #[x0, x1] n1, slots := z1 } { cls := .type "tuple", dict := f2, data := .seq #[y0, y1] n2, slots := z2 } x0 x1 y0 y1 r) :=
  .of_wp fun prog w A R s ⟨⟨g1, g2⟩, way, k⟩ => by
    obtain ⟨hp, g, d, tk, os⟩ := s
    have sub := AutoSeq1.sub_tuple_tuple
    rcases way with ⟨e0, c⟩ | ⟨e0, e1, c⟩ | ⟨e0, e1, c⟩
    · have e0 := e0 prog w
      have c := c prog w
      wp_walk using wpAny_loadPart' g1, wpAny_loadPart' g2, e0, c
      exact ⟨_, rfl, k⟩
    · have e0 := e0 prog w
      have e1 := e1 prog w
      have c := c prog w
      wp_walk using wpAny_loadPart' g1, wpAny_loadPart' g2, e0, e1, c
      exact ⟨_, rfl, k⟩
    · have e0 := e0 prog w
      have e1 := e1 prog w
      subst c
      wp_walk using wpAny_loadPart' g1, wpAny_loadPart' g2, e0, e1
      exact ⟨_, rfl, k⟩
theorem rc_ge {A : Around} {s : Shared} {p q : Addr} {x0 x1 y0 y1 : Value} {r : Bool} (h1 : s.heap.IsTuple p #[x0, x1]) (h2 : s.heap.IsTuple q #[y0, y1]) (hu : A.units < cLine) (way : Way .GtE true A.in1 s x0 x1 y0 y1 r) : Ob.RcOp .GtE A s (.ref p) (.ref q) r := fun prog w E Q k => by
  obtain ⟨⟨c1, f1, dt1, z1⟩, g1, e1, n1, d1⟩ := id h1
  obtain ⟨⟨c2, f2, dt2, z2⟩, g2, e2, n2, d2⟩ := id h2
  dsimp only at e1 d1 e2 d2
  subst e1 d1 e2 d2
  exact richCompare_meets_room (op := .GtE) ⟨_, g1, rfl⟩ ⟨_, g2, rfl⟩ F.slot_tuple_ge F.entry_tuple_ge (F.args_tuple_ge_2 _ _) (ge_pairs p q x0 x1 y0 y1 n1 n2 f1 f2 z1 z2 r) ⟨⟨g1, g2⟩, way, And.intro (fun x => nomatch x) k⟩ hu
end LM
set_option Elab.async false
set_option linter.all false
set_option maxRecDepth 100000
set_option maxHeartbeats 2000000
namespace LM
open PySem PySem.Spec PyProof.Rows L2 C8 LC LR LG SU
/-- numbers ahead of texts, each in their own order -/
def ltK (a b : Key) : Bool := itemLt (itK a) (itK b)
def byK : CmpOp → Key → Key → Bool
  | .Lt, a, b => ltK a b
  | .LtE, a, b => !ltK b a
  | .Gt, a, b => ltK b a
  | _, a, b => !ltK a b
theorem ltK_self : ∀ k : Key, ltK k k = false
  | .inl i => by show decide (i < i) = false; simp
  | .inr x => by show decide (x.cps.toList < x.cps.toList) = false; simp
theorem eqP_key {A : Around} {s : Shared} : ∀ {k l : Key} {u v : Value}, RelV (kV k) u → RelV (kV l) v → SeqAt.EqAt A s u v (decide (k = l))
  | .inl i, .inl j, _, _, ⟨t, e⟩, ⟨t', e'⟩ => by
    subst e e'
    rw [show decide ((Sum.inl i : Key) = .inl j) = (i == j) from by by_cases h : i = j <;> simp [h]]
    exact SeqAt.EqAt.int_int _ _ _ _
  | .inl i, .inr y, _, _, ⟨t, e⟩, ⟨t', e'⟩ => by subst e e'; exact SeqAt.EqAt.int_str _ _ _ _
  | .inr x, .inl j, _, _, ⟨t, e⟩, ⟨t', e'⟩ => by subst e e'; exact SeqAt.EqAt.str_int _ _ _ _
  | .inr x, .inr y, _, _, ⟨t, e⟩, ⟨t', e'⟩ => by
    subst e e'
    rw [show decide ((Sum.inr x : Key) = .inr y) = (x == y) from by by_cases h : x = y <;> simp [h]]
    exact SeqAt.EqAt.str_str _ _ _ _
theorem rc_key {op : CmpOp} {A : Around} {s : Shared} {k l : Key} {u v : Value} (ho : op = .Lt ∨ op = .LtE ∨ op = .Gt ∨ op = .GtE) (ru : RelV (kV k) u) (rv : RelV (kV l) v) (ht : tagK k = tagK l) : Ob.RcOp op A s u v (byK op k l) := by
  cases k with
  | inl i =>
    cases l with
    | inr y => cases ht
    | inl j =>
      obtain ⟨t, e⟩ := (show ∃ t, u = Value.int i t from ru)
      obtain ⟨t', e'⟩ := (show ∃ t, v = Value.int j t from rv)
      subst e e'
      rcases ho with rfl | rfl | rfl | rfl
      · exact Ob.RcOp.lt_int i j t t'
      · have := Ob.RcOp.le_int (A := A) (s := s) i j t t'
        rw [show byK .LtE (.inl i) (.inl j) = decide (i ≤ j) from by show (!decide (j < i)) = _; by_cases h : j < i <;> simp [h] <;> omega]
        exact this
      · exact Ob.RcOp.gt_int i j t t'
      · have := Ob.RcOp.ge_int (A := A) (s := s) i j t t'
        rw [show byK .GtE (.inl i) (.inl j) = decide (j ≤ i) from by show (!decide (i < j)) = _; by_cases h : i < j <;> simp [h] <;> omega]
        exact this
  | inr x =>
    cases l with
    | inl y => cases ht
    | inr y =>
      obtain ⟨t, e⟩ := (show ∃ t, u = Value.str x t from ru)
      obtain ⟨t', e'⟩ := (show ∃ t, v = Value.str y t from rv)
      subst e e'
      rcases ho with rfl | rfl | rfl | rfl
      · exact fun _ _ _ _ h => P.lt_str h
      · exact fun _ _ _ _ h => P.le_str h
      · exact fun _ _ _ _ h => P.gt_str h
      · exact fun _ _ _ _ h => P.ge_str h
def refl4 : CmpOp → Bool
  | .LtE => true
  | .GtE => true
  | _ => false
theorem way_key {op : CmpOp} {A : Around} {s : Shared} {k l : Key} {u v u0 v0 : Value} (ho : op = .Lt ∨ op = .LtE ∨ op = .Gt ∨ op = .GtE) (ru0 : RelV (.int (tagK k)) u0) (rv0 : RelV (.int (tagK l)) v0) (ru : RelV (kV k) u) (rv : RelV (kV l) v) :
    Way op (refl4 op) A s u0 u v0 v (byK op k l) := by
  have e0 := eqP_key (A := A) (s := s) (k := .inl (tagK k)) (l := .inl (tagK l)) ru0 rv0
  by_cases ht : tagK k = tagK l
  · rw [ht, decide_eq_true rfl] at e0
    by_cases hk : k = l
    · subst hk
      have e1 := eqP_key (A := A) (s := s) ru rv
      rw [decide_eq_true rfl] at e1
      refine .inr (.inr ⟨e0, e1, ?_⟩)
      rcases ho with rfl | rfl | rfl | rfl <;> simp [byK, refl4, ltK_self]
    · have e1 := eqP_key (A := A) (s := s) ru rv
      rw [decide_eq_false hk] at e1
      exact .inr (.inl ⟨e0, e1, rc_key ho ru rv ht⟩)
  · rw [decide_eq_false (fun e => ht (Sum.inl.inj e))] at e0
    refine .inl ⟨e0, ?_⟩
    have r := rc_key (op := op) (A := A) (s := s) (k := .inl (tagK k)) (l := .inl (tagK l)) ho ru0 rv0 rfl
    have e : byK op (.inl (tagK k)) (.inl (tagK l)) = byK op k l := by
      cases k <;> cases l <;> first | exact absurd rfl ht | rcases ho with rfl | rfl | rfl | rfl <;> rfl
    rw [← e]; exact r
/-- two ranks compared -/
def rRk (op : CmpOp) (K : PySem.W.Frag) : R2 := fun x y H Q => ∃ (a b : Addr) (k l : Key), x = .ref a ∧ y = .ref b ∧ SqT K H a [.int (tagK k), kV k] ∧ SqT K H b [.int (tagK l), kV l] ∧ Q (.bl (byK op k l)) H
theorem op_rk {op : CmpOp} {X : Cx} {K : PySem.W.Frag} (e : X.K = K) (ho : op = .Lt ∨ op = .LtE ∨ op = .Gt ∨ op = .GtE) (hu : X.A.units < cLine) : OpR X (compareOp op) (rRk op K) := by
  subst e
  intro pins s σ H x y v u Q I rx ry ⟨a, b, k, l, ex, ey, ha, hb, q⟩
  subst ex ey
  cases (show v = Value.ref a from rx)
  cases (show u = Value.ref b from ry)
  obtain ⟨us, r1, p1, _⟩ := I.tuple ha
  obtain ⟨ws, r2, p2, _⟩ := I.tuple hb
  cases r1 with
  | cons a1 r1 => cases r1 with
    | cons a2 r1 => cases r1; cases r2 with
      | cons b1 r2 => cases r2 with
        | cons b2 r2 =>
          cases r2
          have way := way_key (A := X.A.in1) (s := s) ho a1 b1 a2 b2
          have fin : EP X pins σ Q (.bool (byK op k l)) s := ⟨.bl _, H, I, rfl, q⟩
          rcases ho with rfl | rfl | rfl | rfl
          · exact rc_lt p1 p2 hu way X.prog X.w X.xe _ fin
          · exact rc_le p1 p2 hu way X.prog X.w X.xe _ fin
          · exact rc_gt p1 p2 hu way X.prog X.w X.xe _ fin
          · exact rc_ge p1 p2 hu way X.prog X.w X.xe _ fin
theorem oplt {X : Cx} {K : PySem.W.Frag} (e : X.K = K) (hu : X.A.units + 64 < cLine) : OpR X (compareOp .Lt) (rRk .Lt K) := op_rk e (.inl rfl) (by omega)
theorem ople {X : Cx} {K : PySem.W.Frag} (e : X.K = K) (hu : X.A.units + 64 < cLine) : OpR X (compareOp .LtE) (rRk .LtE K) := op_rk e (.inr (.inl rfl)) (by omega)
theorem opgt {X : Cx} {K : PySem.W.Frag} (e : X.K = K) (hu : X.A.units + 64 < cLine) : OpR X (compareOp .Gt) (rRk .Gt K) := op_rk e (.inr (.inr (.inl rfl))) (by omega)
theorem opge {X : Cx} {K : PySem.W.Frag} (e : X.K = K) (hu : X.A.units + 64 < cLine) : OpR X (compareOp .GtE) (rRk .GtE K) := op_rk e (.inr (.inr (.inr rfl))) (by omega)
/-- < of two whole numbers or of two texts -/
def rLtK : R2 := fun x y H Q => ∃ k l, x = kV k ∧ y = kV l ∧ tagK k = tagK l ∧ Q (.bl (ltK k l)) H
theorem op_ltK {X : Cx} : OpR X (compareOp .Lt) rLtK := by
  intro pins s σ H x y v u Q I rx ry ⟨k, l, ex, ey, ht, q⟩
  subst ex ey
  exact rc_key (op := .Lt) (.inl rfl) rx ry ht X.prog X.w X.xe (EP X pins σ Q) ⟨.bl _, H, I, rfl, q⟩
end LM
set_option Elab.async false
set_option linter.all false
set_option maxRecDepth 100000
set_option maxHeartbeats 2000000
namespace LM
open PySem PySem.Spec PyProof.Rows L2 C8 LC LR LG SU
/-! repr of [universe, names]: a list of keys, a dict of keys -/
def keyD : Key → PyData
  | .inl i => .int i
  | .inr x => .str x
def prD (p : Key × Key) : PyData × PyData := (keyD p.1, keyD p.2)
def prV (p : Key × Key) : Key × V := (p.1, kV p.2)
def unD (ks : List Key) (ps : List (Key × Key)) : PyData := .list [.list (ks.map keyD), .dict (ps.map prD)]
theorem reads_key {h : Heap} : ∀ {k : Key} {u : Value}, RelV (kV k) u → Reads h u (keyD k) []
  | .inl i, _, ⟨t, e⟩ => by subst e; exact .int i t
  | .inr x, _, ⟨t, e⟩ => by subst e; exact .str x t
theorem reads_keys {h : Heap} : ∀ {ks : List Key} {us : List Value}, Vals (ks.map kV) us → ReadsAll h us (ks.map keyD) []
  | [], _, r => by cases r; exact .nil
  | k :: ks, _, r => by
    cases r with
    | cons a b => exact .cons (as := []) (reads_key a) (reads_keys b)
theorem is_key {k : Key} {u : Value} {h : Heap} (c : keyIs k u = true) : Reads h u (keyD k) [] := by
  rcases keyIs_shape c with ⟨i, t, e, f⟩ | ⟨x, t, e, f⟩
  · subst e f; exact .int i t
  · subst e f; exact .str x t
theorem reads_ents {P : Program} {w : World} {h : Heap} : ∀ {ps : List (Key × Key)} {vs : List (Key × Value)} {es : List DictEntry}, KV (ps.map prV) vs → Pairs (mixKind P w) es vs →
    ReadsAll h (es.map (·.key)) ((ps.map prD).map (·.1)) [] ∧ ReadsAll h (es.map (·.val)) ((ps.map prD).map (·.2)) []
  | [], _, _, r, q => by cases r; cases q; exact ⟨.nil, .nil⟩
  | p :: ps, _, _, r, q => by
    cases r with
    | cons a b =>
      cases q with
      | cons c d f =>
        obtain ⟨i1, i2⟩ := reads_ents b f
        obtain ⟨a1, a2⟩ := a
        refine ⟨.cons (as := []) (is_key (by rw [show p.1 = _ from a1]; exact c)) i1, .cons (as := []) (by show Reads h (DictEntry.val _) (keyD p.2) []; rw [d]; exact reads_key a2) i2⟩
theorem dk_reads {X : Cx} {pins : List (Addr × Obj)} {σ : L2.St} {H : Hp} {s : Shared} (I : L2.Inv X pins σ H s) {n : Addr} {ps : List (Key × Key)} (e : H n = some (.dK (ps.map prV))) : n ≠ sysModules ∧ Reads s.heap (.ref n) (.dict (ps.map prD)) [n] := by
  obtain ⟨_, nS, vs, r, o, es, ep, g1, g2, g3, g4, g5, _⟩ := dk_of I.hok e
  obtain ⟨i1, i2⟩ := reads_ents r g5
  exact ⟨(fun z => by rw [z] at nS; cases nS), .dict g1 g2.1 g3 i1 i2⟩
/-- repr of [universe, names] -/
def rReprU (K : PySem.W.Frag) : List V → Hp → VK → Prop := fun xs H Q => ∃ (a u n : Addr) (ks : List Key) (ps : List (Key × Key)), xs = [.ref a] ∧ SqL K H a [.ref u, .ref n] ∧ SqL K H u (ks.map kV) ∧ H n = some (.dK (ps.map prV)) ∧
  (unD ks ps).showable = true ∧ (unD ks ps).shown.length ≤ sizeLine ∧ Q (.str (unD ks ps).shown) H
theorem dep_keys : ∀ ks : List Key, PyData.depthAll (ks.map keyD) = 0
  | [] => by simp [PyData.depthAll]
  | k :: r => by
    rw [List.map_cons, PyData.depthAll, dep_keys r]
    cases k <;> simp [keyD, PyData.depth]
theorem dep_prs : ∀ ps : List (Key × Key), PyData.depthKv (ps.map prD) = 0
  | [] => by simp [PyData.depthKv]
  | (k, l) :: r => by
    rw [List.map_cons, prD, PyData.depthKv, dep_prs r]
    cases k <;> cases l <;> simp [keyD, PyData.depth]
theorem nodict_keys : ∀ ks : List Key, PyData.hasDictAll (ks.map keyD) = false
  | [] => by simp [PyData.hasDictAll]
  | k :: r => by
    rw [List.map_cons, PyData.hasDictAll, nodict_keys r]
    cases k <;> simp [keyD, PyData.hasDict]
theorem call_reprU {X : Cx} (gu : X.A.guards = some []) (un : X.A.units + 64 < cLine) : CallR X (.builtin "repr") (rReprU X.K) := by
  intro pins s σ H xs us Q I r ⟨a, u, n, ks, ps, ex, ha, hu, hn, sh, sz, q⟩
  subst ex
  obtain ⟨v, rfl, ru⟩ := vals1 r
  obtain rfl : v = Value.ref a := ru
  obtain ⟨its, ri, ⟨oa, na, ga, ca, _, da⟩, _⟩ := I.list ha
  obtain ⟨iu, rk, ⟨ou, nu, gu', cu, _, du⟩, _⟩ := I.list hu
  obtain ⟨nS, rn⟩ := dk_reads I hn
  have r1 : Reads s.heap (.ref u) (.list (ks.map keyD)) _ := .list gu' cu du (reads_keys rk)
  obtain ⟨ei, rfl⟩ : ∃ _ : True, its = [.ref u, .ref n] := by
    cases ri with
    | cons a1 b1 => cases b1 with
      | cons a2 b2 => cases b2; exact ⟨trivial, by rw [show _ = Value.ref u from a1, show _ = Value.ref n from a2]⟩
  have hs : (PyData.list (ks.map keyD)).showable = true ∧ (PyData.dict (ps.map prD)).showable = true := by
    have h := sh
    rw [unD, PyData.showable, PyData.showableAll, PyData.showableAll, PyData.showableAll] at h
    simpa using h
  have hz : ∀ t ∈ PyData.shownAll [.list (ks.map keyD), .dict (ps.map prD)], t.length ≤ sizeLine := fun t ht => by
    have e : (unD ks ps).shown = listText (PyData.shownAll [.list (ks.map keyD), .dict (ps.map prD)]) := by rw [unD, PyData.shown]
    rw [e] at sz
    exact Nat.le_trans (listText_mem_le ht) sz
  have z1 : (PyData.list (ks.map keyD)).shown.length ≤ sizeLine := hz _ (by simp [PyData.shownAll])
  have z2 : (PyData.dict (ps.map prD)).shown.length ≤ sizeLine := hz _ (by simp [PyData.shownAll])
  obtain ⟨b1, m1, k1⟩ := ReprK.of_reads (prog := X.prog) (w := X.w) r1 hs.1 (fun z => by rw [PyData.hasDict, nodict_keys] at z; cases z) z1
  obtain ⟨b2, m2, k2⟩ := ReprK.of_reads (prog := X.prog) (w := X.w) rn hs.2 (fun _ z => nS (List.mem_singleton.mp z).symm) z2
  have d1 : (PyData.list (ks.map keyD)).depth = 1 := by rw [PyData.depth, dep_keys]
  have d2 : (PyData.dict (ps.map prD)).depth = 1 := by rw [PyData.depth, dep_prs]
  rw [d1] at m1 k1
  rw [d2] at m2 k2
  have rw0 : Reads s.heap (.ref a) (unD ks ps) _ := .list ga ca da (.cons r1 (.cons rn .nil))
  have d0 : (unD ks ps).depth = 2 := by rw [unD, PyData.depth, PyData.depthAll, PyData.depthAll, PyData.depthAll, d1, d2]; rfl
  have hna : a ∉ b1 ++ b2 := not_mem_of_deeper (n := 1) rw0 (by rw [d0]; omega) (m1.append m2)
  have hk : ReprAllK X.prog X.w (b1 ++ b2) s.heap 1 [.ref u, .ref n] [(PyData.list (ks.map keyD)).shown, (PyData.dict (ps.map prD)).shown] :=
    .cons (k1.more fun b hb => List.mem_append_left _ hb) (.cons (k2.more fun b hb => List.mem_append_right _ hb) .nil)
  have et : (unD ks ps).shown = listText [(PyData.list (ks.map keyD)).shown, (PyData.dict (ps.map prD)).shown] := by rw [unD, PyData.shown]; simp only [PyData.shownAll]
  refine call_repr_slot (by omega) ⟨oa, ga, ca⟩ F.slot_list_repr.toG ?_
  refine call_list_reprK (A := X.A.in1) ga ca da hna rfl (fun i y e => hk.item i y (by simpa using e)) gu (fun b _ => Clear.nil b) (by show X.A.units + 1 + (1 + 1) < cLine; omega) (fun _ _ e => e) (fun h' t tk hk' => ?_) (by rw [← et]; exact sz)
  exact ⟨_, _, rfl, .str _, H, I.kept hk', ⟨_, rfl⟩, by rw [← et]; exact q⟩
theorem crepru {X : Cx} {K : PySem.W.Frag} (e : X.K = K) (gu : X.A.guards = some []) (un : X.A.units + 64 < cLine) : CallR X (.builtin "repr") (rReprU K) := by subst e; exact call_reprU gu un
end LM
set_option Elab.async false
set_option linter.all false
set_option maxRecDepth 100000
set_option maxHeartbeats 2000000
namespace LM
open PySem PySem.Spec PyProof.Rows L2 C8 LC LR LG SU
/-! terms with values -/
abbrev kVs (ks : List Key) : List V := ks.map kV
abbrev sVs (xs : List Str) : List V := xs.map V.str
instance memK (k : Key) (ks : List Key) : Decidable (k ∈ ks) := decidable_of_iff (ks.any (fun y => decide (y = k)) = true) (by simp [List.any_eq_true])
def VZ : List Str := ["X", "Y", "Z"]
def CT : List Str := ["a", "b", "zeta", "b9"]
def OPS : List Str := ["+", "-", "*"]
def REL : List Str := ["=", "!=", "<", "<=", ">", ">="]
/-- the values of X, Y and Z -/
structure Ev where
  x : Key
  y : Key
  z : Key
def Ev.ps (e : Ev) : List (Key × Key) := [(.inr "X", e.x), (.inr "Y", e.y), (.inr "Z", e.z)]
def Ev.at (e : Ev) (n : Str) : Key := if n = "X" then e.x else if n = "Y" then e.y else e.z
def NmA (H : Hp) (n : Addr) (e : Ev) : Prop := H n = some (.dK (e.ps.map prV))
def KS : Key → Prop
  | .inl _ => True
  | .inr x => x ∈ CT
/-- small -/
def KB : Key → Prop
  | .inl i => i.natAbs ≤ 8
  | .inr x => x ∈ CT
theorem KB.ks : ∀ {k : Key}, KB k → KS k
  | .inl _, _ => trivial
  | .inr _, h => h
def Ev.Ok (e : Ev) : Prop := KB e.x ∧ KB e.y ∧ KB e.z
theorem Ev.at_ok {e : Ev} (h : e.Ok) (n : Str) : KB (e.at n) := by
  unfold Ev.at
  split
  · exact h.1
  · split
    · exact h.2.1
    · exact h.2.2
theorem nm_get {H : Hp} {n : Addr} {e : Ev} {x : Str} (h : NmA H n e) (hx : x ∈ VZ) : DGet H n (.str x) (some (kV (e.at x))) := by
  have hv : valV (e.ps.map prV) (.inr x) = some (kV (e.at x)) := by
    simp only [VZ, List.mem_cons, List.not_mem_nil, or_false] at hx
    rcases hx with rfl | rfl | rfl
    · rfl
    · have : ¬ (Str.ofString "Y" = Str.ofString "X") := by decide +kernel
      simp [Ev.ps, prV, valV, Ev.at, this, Ne.symm this]
    · have h1 : ¬ (Str.ofString "Z" = Str.ofString "X") := by decide +kernel
      have h2 : ¬ (Str.ofString "Z" = Str.ofString "Y") := by decide +kernel
      simp [Ev.ps, prV, valV, Ev.at, h1, h2, Ne.symm h1, Ne.symm h2]
  rw [← hv]
  exact .inl ⟨_, .inr x, .inl h, rfl, rfl⟩
theorem NmA.same {H H' : Hp} {n : Addr} {e : Ev} (h : NmA H n e) (s : Same H H') : NmA H' n e := s _ _ h
def ar (s : Str) (a b : Int) : Int := if s = "+" then a + b else if s = "-" then a - b else a * b
def opv (s : Str) : Option Key → Option Key → Option Key
  | some (.inl a), some (.inl b) => some (.inl (ar s a b))
  | _, _ => none
def oV : Option Key → V
  | none => .non
  | some k => kV k
def isI : Option Key → Bool
  | some (.inl _) => true
  | _ => false
def tval (e : Ev) : SU.Tm → Option Key
  | .var x => some (e.at x)
  | .int n => some (.inl n)
  | .sym x => some (.inr x)
  | .op s l r => opv s (tval e l) (tval e r)
def Wf : SU.Tm → Prop
  | .var x => x ∈ VZ
  | .int n => n.natAbs ≤ 8
  | .sym x => x ∈ CT
  | .op s l r => s ∈ OPS ∧ Wf l ∧ Wf r
theorem tval_ks {e : Ev} (h : e.Ok) : ∀ {t : SU.Tm} {k : Key}, Wf t → tval e t = some k → KS k
  | .var x, k, w, q => by cases q; exact (Ev.at_ok h x).ks
  | .int n, k, w, q => by cases q; trivial
  | .sym x, k, w, q => by cases q; exact w
  | .op s l r, k, w, q => by
    rw [tval] at q
    unfold opv at q
    split at q
    · cases q; trivial
    · cases q
theorem pow_le {a b : Nat} (h : a ≤ b) : 8 ^ 2 ^ a ≤ 8 ^ 2 ^ b := Nat.pow_le_pow_right (by decide) (Nat.pow_le_pow_right (by decide) h)
theorem tval_bd {e : Ev} (h : e.Ok) : ∀ {t : SU.Tm} {i : Int}, Wf t → tval e t = some (.inl i) → i.natAbs ≤ 8 ^ 2 ^ t.dep
  | .var x, i, w, q => by
    have k := Ev.at_ok h x
    rw [tval] at q
    rw [Option.some.inj q] at k
    exact k
  | .int n, i, w, q => by cases q; exact w
  | .sym x, i, w, q => by cases q
  | .op s l r, i, w, q => by
    rw [tval] at q
    unfold opv at q
    split at q
    · rename_i a b ea eb
      have hi := Sum.inl.inj (Option.some.inj q)
      have ha := Nat.le_trans (tval_bd h w.2.1 ea) (pow_le (Nat.le_max_left l.dep r.dep))
      have hb := Nat.le_trans (tval_bd h w.2.2 eb) (pow_le (Nat.le_max_right l.dep r.dep))
      have e1 : 8 ^ 2 ^ (SU.Tm.op s l r).dep = 8 ^ 2 ^ max l.dep r.dep * 8 ^ 2 ^ max l.dep r.dep := by rw [SU.Tm.dep, Nat.pow_succ, Nat.mul_two, Nat.pow_add]
      have m2 : 2 ≤ 8 ^ 2 ^ max l.dep r.dep := Nat.le_trans (by decide : 2 ≤ 8 ^ 1) (Nat.pow_le_pow_right (by decide) (Nat.one_le_two_pow))
      rw [e1]
      generalize 8 ^ 2 ^ max l.dep r.dep = M at ha hb m2
      have m3 : 2 * M ≤ M * M := Nat.mul_le_mul_right _ m2
      rw [← hi]
      unfold ar
      split
      · have := Int.natAbs_add_le a b; omega
      · split
        · have := Int.natAbs_sub_le a b; omega
        · rw [Int.natAbs_mul]; exact Nat.mul_le_mul ha hb
    · cases q
theorem bd_mul {a b : Int} {d1 d2 : Nat} (ha : a.natAbs ≤ 8 ^ 2 ^ d1) (h : d1 ≤ 3) : CMul a b := by
  have := Nat.le_trans ha (pow_le h)
  have e : 8 ^ 2 ^ 3 = 16777216 := by decide
  rw [e] at this
  exact .inl ⟨by omega, by omega⟩
theorem oV_isi {K : PySem.W.Frag} {H : Hp} : ∀ o : Option Key, ∃ t b, TyX K H (oV o) t ∧ PySem.W.kitOne K t (.type "int") = some b ∧ b = isI o
  | none => ⟨.type "NoneType", false, .base .non, rfl, rfl⟩
  | some (.inl i) => ⟨.type "int", true, .base (.int i), rfl, rfl⟩
  | some (.inr x) => ⟨.type "str", false, .base (.str x), rfl, rfl⟩
theorem oV_isb {K : PySem.W.Frag} {H : Hp} : ∀ o : Option Key, ∃ t, TyX K H (oV o) t ∧ PySem.W.kitOne K t (.type "bool") = some false
  | none => ⟨.type "NoneType", .base .non, rfl⟩
  | some (.inl i) => ⟨.type "int", .base (.int i), rfl⟩
  | some (.inr x) => ⟨.type "str", .base (.str x), rfl⟩
theorem oV_scal : ∀ a b : Option Key, scal (oV a) (oV b) = true
  | none, none => rfl
  | none, some (.inl _) => rfl
  | none, some (.inr _) => rfl
  | some (.inl _), none => rfl
  | some (.inr _), none => rfl
  | some (.inl _), some (.inl _) => rfl
  | some (.inl _), some (.inr _) => rfl
  | some (.inr _), some (.inl _) => rfl
  | some (.inr _), some (.inr _) => rfl
theorem kV_scal (a b : Key) : scal (kV a) (kV b) = true := oV_scal (some a) (some b)
theorem kV_inj : ∀ {a b : Key}, kV a = kV b → a = b
  | .inl i, .inl j, h => by cases h; rfl
  | .inl i, .inr y, h => nomatch h
  | .inr x, .inl j, h => nomatch h
  | .inr x, .inr y, h => by cases h; rfl
theorem kV_dec (a b : Key) : decide (kV a = kV b) = decide (a = b) := decide_eq_decide.mpr ⟨kV_inj, fun h => by rw [h]⟩
theorem oV_non : ∀ o : Option Key, decide (oV o = .non) = o.isNone
  | none => rfl
  | some (.inl _) => rfl
  | some (.inr _) => rfl
/-! comparisons -/
def relK (s : Str) (k l : Key) : Bool := if s = "=" then decide (k = l) else if s = "!=" then !decide (k = l) else if s = "<" then ltK k l else if s = "<=" then !ltK l k else if s = ">" then ltK l k else !ltK k l
theorem small_ct {x : Str} (h : x ∈ CT) : (decide ((PyData.str x).shown.length ≤ 12) && SeqAt.shaped (.str x)) = true := by
  have : CT.all (fun x => decide ((PyData.str x).shown.length ≤ 12) && SeqAt.shaped (.str x)) = true := by decide +kernel
  exact List.all_eq_true.mp this x h
theorem lay_key : ∀ {k : Key}, KS k → PyData.canLay0 (keyD k) = true ∧ PyData.depth (keyD k) = 0
  | .inl i, _ => ⟨by simp [keyD, PyData.canLay0], by simp [keyD, PyData.depth]⟩
  | .inr x, h => by
    have := small_ct h
    rw [Bool.and_eq_true] at this
    have := this.2
    unfold SeqAt.shaped at this
    rw [Bool.and_eq_true] at this
    exact ⟨this.1, by simp [keyD, PyData.depth]⟩
def rankD (k : Key) : PyData := .tuple [.int (tagK k), keyD k]
theorem shaped_rank {k : Key} (h : KS k) : SeqAt.shaped (rankD k) = true := by
  obtain ⟨h1, h2⟩ := lay_key h
  unfold SeqAt.shaped rankD
  rw [PyData.canLay0, PyData.canLayAll0, PyData.canLayAll0, PyData.canLayAll0, h1, PyData.depth, PyData.depthAll, PyData.depthAll, PyData.depthAll, h2]
  simp [PyData.canLay0, PyData.depth]
theorem eqv_key : ∀ k l : Key, PyData.eqv (keyD k) (keyD l) = decide (k = l)
  | .inl i, .inl j => by by_cases h : i = j <;> simp [keyD, PyData.eqv, h]
  | .inl i, .inr y => by simp [keyD, PyData.eqv]
  | .inr x, .inl j => by simp [keyD, PyData.eqv]
  | .inr x, .inr y => by by_cases h : x = y <;> simp [keyD, PyData.eqv, h]
theorem eqv_rank (k l : Key) : PyData.eqv (rankD k) (rankD l) = decide (k = l) := by
  unfold rankD
  simp only [PyData.eqv, PyData.eqvAll, eqv_key]
  by_cases h : k = l
  · subst h; simp
  · simp [h]
theorem dp_key {K : PySem.W.Frag} {H : Hp} : ∀ k : Key, Dp K H (kV k) (keyD k)
  | .inl i => .int i
  | .inr x => .str x
theorem dp_rank {K : PySem.W.Frag} {H : Hp} {a : Addr} {k : Key} (h : SqT K H a [.int (tagK k), kV k]) : Dp K H (.ref a) (rankD k) := .tup h (.cons (.int _) (.cons (dp_key k) .nil))
theorem eq_ranks {K : PySem.W.Frag} {H : Hp} {a b : Addr} {k l : Key} {Q : VK} (ka : KS k) (kb : KS l) (h1 : SqT K H a [.int (tagK k), kV k]) (h2 : SqT K H b [.int (tagK l), kV l]) (q : Q (.bl (decide (k = l))) H) : rEqD K (.ref a) (.ref b) H Q :=
  ⟨_, _, dp_rank h1, dp_rank h2, shaped_rank ka, shaped_rank kb, by rw [eqv_rank]; exact q⟩
theorem ne_ranks {K : PySem.W.Frag} {H : Hp} {a b : Addr} {k l : Key} {Q : VK} (ka : KS k) (kb : KS l) (h1 : SqT K H a [.int (tagK k), kV k]) (h2 : SqT K H b [.int (tagK l), kV l]) (q : Q (.bl (!decide (k = l))) H) : rNeD K (.ref a) (.ref b) H Q :=
  ⟨_, _, dp_rank h1, dp_rank h2, shaped_rank ka, shaped_rank kb, by rw [eqv_rank]; exact q⟩
theorem isI_some : ∀ {o : Option Key}, isI o = true → ∃ i, o = some (.inl i)
  | some (.inl i), _ => ⟨i, rfl⟩
  | none, h => nomatch h
  | some (.inr _), h => nomatch h
theorem opv_none {s : Str} : ∀ {a b : Option Key}, isI a = false ∨ isI b = false → opv s a b = none
  | none, _, _ => rfl
  | some (.inr _), _, _ => rfl
  | some (.inl _), none, _ => rfl
  | some (.inl _), some (.inr _), _ => rfl
  | some (.inl _), some (.inl _), h => h.elim (fun z => nomatch z) (fun z => nomatch z)
/-- a term of the law's -/
def GT (t : SU.Tm) : Prop := Wf t ∧ t.dep < 4
def cmpv (e : Ev) (s : Str) (l r : SU.Tm) : Bool := match tval e l, tval e r with
  | some a, some b => relK s a b
  | _, _ => false
theorem cmpv_l {e : Ev} {s : Str} {l r : SU.Tm} (h : tval e l = none) : cmpv e s l r = false := by unfold cmpv; rw [h]
theorem cmpv_r {e : Ev} {s : Str} {l r : SU.Tm} (h : tval e r = none) : cmpv e s l r = false := by
  unfold cmpv; rw [h]
  cases tval e l <;> rfl
theorem cmpv_s {e : Ev} {s : Str} {l r : SU.Tm} {a b : Key} (h : tval e l = some a) (h' : tval e r = some b) : cmpv e s l r = relK s a b := by unfold cmpv; rw [h, h']
end LM
set_option Elab.async false
set_option linter.all false
set_option maxRecDepth 100000
set_option maxHeartbeats 2000000
namespace LM
open PySem PySem.Spec PyProof.Rows L2 C8 LC LR LG SU
/-! instances -/
theorem eqV_key : ∀ {a b : Key}, eqV (kV a) (kV b) = decide (a = b)
  | .inl i, .inl j => by
    show (i == j) = _
    by_cases h : i = j
    · subst h; simp
    · simp [h]
  | .inl i, .inr y => by rw [decide_eq_false (fun z => nomatch z)]; rfl
  | .inr x, .inl j => by rw [decide_eq_false (fun z => nomatch z)]; rfl
  | .inr x, .inr y => by
    show decide (x = y) = _
    by_cases h : x = y
    · subst h; simp
    · simp [h]
theorem inV_key {k : Key} : ∀ {ks : List Key}, inV (kV k) (kVs ks) = decide (k ∈ ks)
  | [] => rfl
  | y :: r => by
    have ih := inV_key (k := k) (ks := r)
    unfold inV at ih ⊢
    rw [show kVs (y :: r) = kV y :: kVs r from rfl, List.any_cons, ih, eqV_key]
    by_cases h : y = k
    · subst h; simp
    · by_cases h2 : k ∈ r <;> simp [h, h2, Ne.symm h]
theorem flat_keys : ∀ {ks : List Key}, (kVs ks).all flatV = true
  | [] => rfl
  | .inl i :: r => by rw [show kVs (.inl i :: r) = .int i :: kVs r from rfl, List.all_cons, flat_keys]; rfl
  | .inr x :: r => by rw [show kVs (.inr x :: r) = .str x :: kVs r from rfl, List.all_cons, flat_keys]; rfl
theorem flat_key : ∀ k : Key, flatV (kV k) = true
  | .inl _ => rfl
  | .inr _ => rfl
theorem valV_some {k : Key} : ∀ {kvs : List (Key × V)}, (valV kvs k).isSome = decide (k ∈ kvs.map (·.1))
  | [] => rfl
  | p :: r => by
    by_cases h : p.1 = k
    · rw [valV_pos h, decide_eq_true (by rw [List.map_cons, h]; exact List.mem_cons_self)]; rfl
    · rw [valV_neg h, valV_some]
      refine decide_eq_decide.mpr ?_
      rw [List.map_cons, List.mem_cons]
      exact ⟨.inr, fun z => z.resolve_left (Ne.symm h)⟩
/-- the universe: a list or a dict of keys -/
def UnA (K : PySem.W.Frag) (H : Hp) (u : V) (us : List Key) : Prop := ∃ a, u = .ref a ∧ (SqL K H a (kVs us) ∨ ∃ kvs : List (Key × V), H a = some (.dK kvs) ∧ kvs.map (·.1) = us)
theorem UnA.same {K : PySem.W.Frag} {H H' : Hp} {u : V} {us : List Key} (h : UnA K H u us) (s : Same H H') : UnA K H' u us := by
  obtain ⟨a, e, h | ⟨kvs, h, q⟩⟩ := h
  · exact ⟨a, e, .inl (sqL_same s h)⟩
  · exact ⟨a, e, .inr ⟨kvs, s _ _ h, q⟩⟩
theorem nin_un {K : PySem.W.Frag} {H : Hp} {u : V} {us : List Key} {k : Key} {Q : VK} (h : UnA K H u us) (q : Q (.bl (!decide (k ∈ us))) H) : rNinA K (kV k) u H Q := by
  obtain ⟨a, e, h | ⟨kvs, h, r⟩⟩ := h
  · refine .inr ⟨a, _, e, .inl h, flat_key k, flat_keys, ?_⟩
    rw [inV_key]; exact q
  · refine .inl ⟨a, _, e, .inl ⟨kvs, k, .inl h, rfl, rfl⟩, ?_⟩
    rw [valV_some, r]; exact q
def okt (e : Ev) (us : List Key) (t : SU.Tm) : Bool := match tval e t with
  | some k => decide (k ∈ us)
  | none => false
def vlt (e : Ev) (t : SU.Tm) : List Key := match tval e t with
  | some k => [k]
  | none => []
def inst (e : Ev) (us : List Key) (a : Atm) : Option (List Key) := if a.ts.all (okt e us) = true then some (a.ts.flatMap (vlt e)) else none
def instD (nm : Str) : Option (List Key) → PyData
  | none => .none
  | some ks => .tuple [.str nm, .tuple (ks.map keyD)]
def Alv (M : Vol) (H : Hp) : Prop := ∀ b, M b → H b ≠ none
theorem Alv.no {M : Vol} {H H' : Hp} {a : Addr} (h : Alv M H) (s : Same H H') (e : H' a = none) : ¬ M a := fun z => h a z (s.free e)
theorem keys_dm {M : Vol} {H : Hp} : ∀ ks : List Key, DMs M H (kVs ks) (ks.map keyD)
  | [] => .nil
  | .inl i :: r => .cons (.int i) (keys_dm r)
  | .inr x :: r => .cons (.str x) (keys_dm r)
def PQ : List Str := ["p", "q"]
def GA (a : Atm) : Prop := a.nm ∈ PQ ∧ a.ts.length ≤ 4 ∧ ∀ t ∈ a.ts, GT t
theorem inst_no {e : Ev} {us : List Key} {a : Atm} {t : SU.Tm} (h : t ∈ a.ts) (n : okt e us t = false) : inst e us a = none := by
  unfold inst
  rw [if_neg]
  intro z
  rw [List.all_eq_true.mp z t h] at n
  cases n
theorem inst_yes {e : Ev} {us : List Key} {a : Atm} (h : a.ts.all (okt e us) = true) : inst e us a = some (a.ts.flatMap (vlt e)) := by unfold inst; rw [if_pos h]
theorem okt_none {e : Ev} {us : List Key} {t : SU.Tm} (h : tval e t = none) : okt e us t = false := by unfold okt; rw [h]
theorem okt_some {e : Ev} {us : List Key} {t : SU.Tm} {k : Key} (h : tval e t = some k) : okt e us t = decide (k ∈ us) := by unfold okt; rw [h]
theorem vlt_some {e : Ev} {t : SU.Tm} {k : Key} (h : tval e t = some k) : vlt e t = [k] := by unfold vlt; rw [h]
theorem all_next {α : Type} {f : α → Bool} {xs : List α} {i : Nat} {z : α} (h : (xs.take i).all f = true) (hz : xs[i]? = some z) (ok : f z = true) : (xs.take (i + 1)).all f = true := by
  rw [List.take_add_one, hz, List.all_append, h]
  simp [ok]
theorem flat_next {α β : Type} {f : α → List β} {xs : List α} {i : Nat} {z : α} (hz : xs[i]? = some z) : (xs.take (i + 1)).flatMap f = (xs.take i).flatMap f ++ f z := by
  rw [List.take_add_one, hz, List.flatMap_append]; simp
theorem vlt_le (e : Ev) (t : SU.Tm) : (vlt e t).length ≤ 1 := by unfold vlt; split <;> simp
theorem vls_le {e : Ev} {ts : List SU.Tm} (i : Nat) (h : ts.length ≤ 1000) : ((ts.take i).flatMap (vlt e)).length < sizeLine := by
  have := flat_len2 (f := vlt e) (k := 1) (m := 1000) (xs := ts.take i) (fun t _ => vlt_le e t) (by rw [List.length_take]; omega)
  exact Nat.lt_of_le_of_lt this (by decide)
/-! conditions -/
abbrev P2 := Str × List Key
def one (e : Ev) (us : List Key) : Cnd → Option (List P2 × List P2)
  | .cmp s l r => if cmpv e s l r = true then some ([], []) else none
  | .yes a => (inst e us a).map fun ks => ([(a.nm, ks)], [])
  | .no a => (inst e us a).map fun ks => ([], [(a.nm, ks)])
def oneY (e : Ev) (us : List Key) (c : Cnd) : List P2 := ((one e us c).map (·.1)).getD []
def oneN (e : Ev) (us : List Key) (c : Cnd) : List P2 := ((one e us c).map (·.2)).getD []
def condI (e : Ev) (us : List Key) (cs : List Cnd) : Option (List P2 × List P2) := if cs.all (fun c => (one e us c).isSome) = true then some (cs.flatMap (oneY e us), cs.flatMap (oneN e us)) else none
def p2D (p : P2) : PyData := .tuple [.str p.1, .tuple (p.2.map keyD)]
def condD : Option (List P2 × List P2) → PyData
  | none => .none
  | some (y, n) => .tuple [.tuple (y.map p2D), .tuple (n.map p2D)]
def GC : Cnd → Prop
  | .cmp s l r => s ∈ REL ∧ GT l ∧ GT r
  | .yes a => GA a
  | .no a => GA a
theorem cond_no {e : Ev} {us : List Key} {cs : List Cnd} {c : Cnd} (h : c ∈ cs) (n : one e us c = none) : condI e us cs = none := by
  unfold condI
  rw [if_neg]
  intro z
  have := List.all_eq_true.mp z c h
  rw [n] at this
  cases this
theorem cond_yes {e : Ev} {us : List Key} {cs : List Cnd} (h : cs.all (fun c => (one e us c).isSome) = true) : condI e us cs = some (cs.flatMap (oneY e us), cs.flatMap (oneN e us)) := by unfold condI; rw [if_pos h]
theorem one_le (e : Ev) (us : List Key) (c : Cnd) : (oneY e us c).length ≤ 1 ∧ (oneN e us c).length ≤ 1 := by
  unfold oneY oneN
  cases c with
  | cmp s l r => by_cases h : cmpv e s l r = true <;> simp [one, h]
  | yes a => cases h : inst e us a <;> simp [one, h]
  | no a => cases h : inst e us a <;> simp [one, h]
theorem ones_le {e : Ev} {us : List Key} {cs : List Cnd} (i : Nat) (h : cs.length ≤ 1000) : ((cs.take i).flatMap (oneY e us)).length < sizeLine ∧ ((cs.take i).flatMap (oneN e us)).length < sizeLine := by
  have a := flat_len2 (f := oneY e us) (k := 1) (m := 1000) (xs := cs.take i) (fun t _ => (one_le e us t).1) (by rw [List.length_take]; omega)
  have b := flat_len2 (f := oneN e us) (k := 1) (m := 1000) (xs := cs.take i) (fun t _ => (one_le e us t).2) (by rw [List.length_take]; omega)
  exact ⟨Nat.lt_of_le_of_lt a (by decide), Nat.lt_of_le_of_lt b (by decide)⟩
end LM
set_option Elab.async false
set_option linter.all false
set_option maxRecDepth 100000
set_option maxHeartbeats 2000000
namespace LM
open PySem PySem.Spec PyProof.Rows L2 C8 LC LR LG SU
/-! rows: dicts with one more name each -/
abbrev Row := List (Key × Key)
def putP (r : Row) (x k : Key) : Row := if (r.any fun p => decide (p.1 = x)) = true then r.map (fun p => if p.1 = x then (p.1, k) else p) else r ++ [(x, k)]
theorem putP_v (r : Row) (x k : Key) : (putP r x k).map prV = putK (r.map prV) x (kV k) := by
  have e : ((r.map prV).any fun kv => decide (kv.1 = x)) = r.any fun p => decide (p.1 = x) := by rw [List.any_map]; rfl
  unfold putP putK
  rw [e]
  split
  · rw [List.map_map, List.map_map]
    refine List.map_congr_left fun p _ => ?_
    show prV (if p.1 = x then (p.1, k) else p) = if (prV p).1 = x then ((prV p).1, kV k) else prV p
    by_cases h : p.1 = x
    · rw [if_pos h, if_pos (show (prV p).1 = x from h)]; rfl
    · rw [if_neg h, if_neg (show ¬ (prV p).1 = x from h)]
  · rw [List.map_append]; rfl
theorem putP_le (r : Row) (x k : Key) : (putP r x k).length ≤ r.length + 1 := by
  unfold putP
  split
  · rw [List.length_map]; omega
  · rw [List.length_append]; simp
theorem putP_keys {r : Row} {x k : Key} (h : (r.map (·.1)).Nodup) : ((putP r x k).map (·.1)).Nodup := by
  unfold putP
  split
  · have e : (r.map fun p => if p.1 = x then (p.1, k) else p).map (·.1) = r.map (·.1) := by
      rw [List.map_map]
      refine List.map_congr_left fun p _ => ?_
      show (if p.1 = x then (p.1, k) else p).1 = p.1
      split <;> rfl
    rw [e]; exact h
  · rename_i n
    rw [List.map_append, List.nodup_append]
    refine ⟨h, List.pairwise_singleton _ _, fun a ha b hb e => n ?_⟩
    rw [List.map_singleton, List.mem_singleton] at hb
    obtain ⟨p, hp, rfl⟩ := List.mem_map.mp ha
    exact List.any_eq_true.mpr ⟨p, hp, decide_eq_true (e.trans hb)⟩
def ext1 (us : List Key) (x : Str) (r : Row) : List Row := us.map fun k => putP r (.inr x) k
def exts (us : List Key) (r0 : Row) (ws : List Str) : List Row := ws.foldl (fun rs x => rs.flatMap (ext1 us x)) [r0]
theorem exts_next {us : List Key} {r0 : Row} {ws : List Str} {i : Nat} {x : Str} (h : ws[i]? = some x) : exts us r0 (ws.take (i + 1)) = (exts us r0 (ws.take i)).flatMap (ext1 us x) := by
  unfold exts
  rw [List.take_add_one, h, List.foldl_append]; rfl
theorem foldl_inv {α β : Type} {f : α → β → α} {Pv : α → Nat → Prop} (step : ∀ a b n, Pv a n → Pv (f a b) (n + 1)) : ∀ (bs : List β) (a : α) (n : Nat), Pv a n → Pv (bs.foldl f a) (n + bs.length)
  | [], a, n, h => h
  | b :: r, a, n, h => by
    have := foldl_inv step r (f a b) (n + 1) (step a b n h)
    rw [List.foldl_cons, List.length_cons]
    rw [show n + 1 + r.length = n + (r.length + 1) from by omega] at this
    exact this
/-- few rows, each of few pairs, no key twice -/
def Few (n : Nat) (rs : List Row) : Prop := rs.length ≤ 5 ^ n ∧ ∀ r ∈ rs, r.length ≤ 3 + n ∧ (r.map (·.1)).Nodup
theorem few_next {us : List Key} {x : Str} {n : Nat} {rs : List Row} (hu : us.length ≤ 5) (h : Few n rs) : Few (n + 1) (rs.flatMap (ext1 us x)) := by
  refine ⟨?_, fun r hr => ?_⟩
  · have := flat_len2 (f := ext1 us x) (k := 5) (m := 5 ^ n) (xs := rs) (fun r _ => by rw [ext1, List.length_map]; exact hu) h.1
    rw [Nat.pow_succ]; exact this
  · obtain ⟨q, hq, hr⟩ := List.mem_flatMap.mp hr
    obtain ⟨k, _, rfl⟩ := List.mem_map.mp hr
    obtain ⟨a, b⟩ := h.2 q hq
    exact ⟨by have := putP_le q (.inr x) k; omega, putP_keys b⟩
theorem ev_keys (e : Ev) : (e.ps.map (·.1)).Nodup := by
  show ([.inr "X", .inr "Y", .inr "Z"] : List Key).Nodup
  decide +kernel
theorem few_exts {us : List Key} (e : Ev) (ws : List Str) (hu : us.length ≤ 5) : Few ws.length (exts us e.ps ws) := by
  have := foldl_inv (f := fun rs x => rs.flatMap (ext1 us x)) (Pv := fun rs n => Few n rs) (fun a b n h => few_next hu h) ws [e.ps] 0 ⟨Nat.le_refl _, fun r hr => by rw [List.mem_singleton.mp hr]; exact ⟨Nat.le_refl _, ev_keys e⟩⟩
  rw [Nat.zero_add] at this
  exact this
/-- rows in the heap -/
def Rows (H : Hp) (vs : List V) (rs : List Row) : Prop := Paired (fun (v : V) (r : Row) => ∃ a, v = .ref a ∧ H a = some (.dK (r.map prV))) vs rs
def KeepD (H H' : Hp) : Prop := ∀ b kvs, H b = some (.dK kvs) → H' b = some (.dK kvs)
theorem Rows.keep {H H' : Hp} {vs : List V} {rs : List Row} (h : Rows H vs rs) (k : KeepD H H') : Rows H' vs rs := by
  unfold Rows at h ⊢
  induction h with
  | nil => exact .nil
  | cons a t ih => obtain ⟨b, e, q⟩ := a; exact .cons ⟨b, e, k _ _ q⟩ ih
theorem Rows.len {H : Hp} {vs : List V} {rs : List Row} (h : Rows H vs rs) : vs.length = rs.length := Paired.length h
theorem Rows.at {H : Hp} : ∀ {vs : List V} {rs : List Row}, Rows H vs rs → ∀ {i : Nat} {v : V}, vs[i]? = some v → ∃ r a, rs[i]? = some r ∧ v = .ref a ∧ H a = some (.dK (r.map prV))
  | _, _, .nil, i, v, e => by simp at e
  | _, _, .cons ⟨a, q, h⟩ t, 0, v, e => by rw [List.getElem?_cons_zero] at e; cases e; exact ⟨_, a, rfl, q, h⟩
  | _, _, .cons _ t, i + 1, v, e => by rw [List.getElem?_cons_succ] at e; exact Rows.at t e
theorem Rows.snoc {H : Hp} : ∀ {vs : List V} {rs : List Row} {v : V} {r : Row}, Rows H vs rs → (∃ a, v = .ref a ∧ H a = some (.dK (r.map prV))) → Rows H (vs ++ [v]) (rs ++ [r])
  | _, _, _, _, .nil, h => .cons h .nil
  | _, _, _, _, .cons a t, h => .cons a (Rows.snoc t h)
theorem Same.keepD {H H' : Hp} (s : Same H H') : KeepD H H' := fun b kvs h => s _ _ h
theorem KeepD.trans {A B C : Hp} (h : KeepD A B) (k : KeepD B C) : KeepD A C := fun b kvs q => k _ _ (h _ _ q)
theorem KeepD.lst {H : Hp} {D : Addr} {xs : List V} {o : HO} (e : H D = some (.lst xs)) : KeepD H (upd H D o) := fun b kvs q => by
  have : b ≠ D := fun z => by rw [z, e] at q; cases q
  rw [upd_ne this]; exact q
theorem eq_rows {K : PySem.W.Frag} {H : Hp} : ∀ {vs ws : List V} {rs : List Row}, Rows H vs rs → Rows H ws rs → (∀ r ∈ rs, (r.map (·.1)).Nodup) → Paired (EqV K H 2) vs ws
  | _, _, [], .nil, .nil, _ => .nil
  | _, _, r :: rs, .cons ⟨a, e1, h1⟩ t1, .cons ⟨b, e2, h2⟩ t2, nd => by
    refine .cons ?_ (eq_rows t1 t2 fun q hq => nd q (List.mem_cons_of_mem _ hq))
    refine .inr (.inr (.inr ⟨a, b, _, _, e1, e2, h1, h2, rfl, fun p hp => ?_⟩))
    have hn : ((r.map prV).map (·.1)).Nodup := by
      have : (r.map prV).map (·.1) = r.map (·.1) := by rw [List.map_map]; rfl
      rw [this]; exact nd r List.mem_cons_self
    refine ⟨p.2, val_nodup hn hp, .inl ⟨rfl, ?_⟩⟩
    obtain ⟨q, _, rfl⟩ := List.mem_map.mp hp
    show flatB (kV q.2) = true
    cases q.2 <;> rfl
where
  val_nodup {α : Type} [DecidableEq α] : ∀ {kvs : List (α × V)}, (kvs.map (·.1)).Nodup → ∀ {p : α × V}, p ∈ kvs → valV kvs p.1 = some p.2
    | q :: r, h, p, hp => by
      rw [List.map_cons, List.nodup_cons] at h
      rcases List.mem_cons.mp hp with e | hp
      · rw [e]; exact valV_pos rfl
      · rw [valV_neg (fun e => h.1 (by rw [e]; exact List.mem_map.mpr ⟨p, hp, rfl⟩))]
        exact val_nodup h.2 hp
theorem rows_line {us : List Key} {x : Str} {n : Nat} {rs : List Row} {r : Row} (h : Few n rs) (hn : n ≤ 3) (hu : us.length ≤ 5) (j j2 : Nat) : ((rs.take j).flatMap (ext1 us x) ++ (us.take j2).map fun k => putP r (.inr x) k).length < sizeLine := by
  have a := flat_len2 (f := ext1 us x) (k := 5) (m := 125) (xs := rs.take j) (fun r _ => by rw [ext1, List.length_map]; exact hu) (by
    have := Nat.le_trans h.1 (Nat.pow_le_pow_right (by decide : 0 < 5) hn)
    have e : 5 ^ 3 = 125 := by decide
    rw [List.length_take]; omega)
  have b : ((us.take j2).map fun k => putP r (.inr x) k).length ≤ 5 := by rw [List.length_map, List.length_take]; omega
  rw [List.length_append]
  exact Nat.lt_of_le_of_lt (by omega : _ ≤ 1000) (by decide)
theorem row_line {n : Nat} {rs : List Row} {r : Row} {i : Nat} (h : Few n rs) (hn : n ≤ 3) (hr : rs[i]? = some r) : (r.map prV).length < sizeLine := by
  have := (h.2 r (List.mem_of_getElem? hr)).1
  rw [List.length_map]
  exact Nat.lt_of_le_of_lt (by omega : _ ≤ 1000) (by decide)
theorem take_map_next {α β : Type} {f : α → β} {xs : List α} {i : Nat} {z : α} (h : xs[i]? = some z) : (xs.take (i + 1)).map f = (xs.take i).map f ++ [f z] := by
  rw [List.take_add_one, h, List.map_append]; rfl
end LM
set_option Elab.async false
set_option linter.all false
set_option maxRecDepth 100000
set_option maxHeartbeats 2000000
namespace LM
open PySem PySem.Spec PyProof.Rows L2 C8 LC LR LG SU
theorem ops_get {s : Str} {a b c : V} (h : s ∈ OPS) : valV (mergeK [] [((.inr "+" : Key), a), (.inr "-", b), (.inr "*", c)]) (.inr s) = some (if s = "+" then a else if s = "-" then b else c) := by
  have h1 : ¬ (Str.ofString "-" = Str.ofString "+") := by decide +kernel
  have h2 : ¬ (Str.ofString "*" = Str.ofString "+") := by decide +kernel
  have h3 : ¬ (Str.ofString "*" = Str.ofString "-") := by decide +kernel
  have e : mergeK [] [((.inr "+" : Key), a), (.inr "-", b), (.inr "*", c)] = [((.inr "+" : Key), a), (.inr "-", b), (.inr "*", c)] := by
    refine (mergeK_new (acc := []) ?_).trans (List.nil_append _)
    show ([.inr "+", .inr "-", .inr "*"] : List Key).Nodup
    decide +kernel
  rw [e]
  simp only [OPS, List.mem_cons, List.not_mem_nil, or_false] at h
  rcases h with rfl | rfl | rfl
  · rfl
  · simp [valV, h1, Ne.symm h1]
  · simp [valV, h2, h3, Ne.symm h2, Ne.symm h3]
theorem ar_V (s : Str) (a b : Int) : (if s = "+" then V.int (a + b) else if s = "-" then V.int (a - b) else V.int (a * b)) = V.int (ar s a b) := by
  unfold ar
  split
  · rfl
  · split <;> rfl
theorem in_two {s a b : Str} : inV (.str s) [.str a, .str b] = (decide (a = s) || decide (b = s)) := by
  have e : inV (.str s) [.str a, .str b] = inV (kV (.inr s)) (kVs [.inr a, .inr b]) := rfl
  rw [e, inV_key]
  by_cases h1 : a = s
  · subst h1; simp
  · by_cases h2 : b = s
    · subst h2; simp
    · have : ¬ (Sum.inr s : Key) ∈ ([.inr a, .inr b] : List Key) := by
        intro z
        rcases List.mem_cons.mp z with q | q
        · exact h1 (Sum.inr.inj q).symm
        · exact h2 (Sum.inr.inj (List.mem_singleton.mp q)).symm
      rw [decide_eq_false this, decide_eq_false h1, decide_eq_false h2]; rfl
section
variable {k l : Key}
theorem relK_eq : relK "=" k l = decide (k = l) := by unfold relK; rw [if_pos rfl]
theorem relK_ne : relK "!=" k l = !decide (k = l) := by unfold relK; rw [if_neg (by decide +kernel), if_pos rfl]
theorem relK_lt : relK "<" k l = ltK k l := by unfold relK; rw [if_neg (by decide +kernel), if_neg (by decide +kernel), if_pos rfl]
theorem relK_le : relK "<=" k l = !ltK l k := by unfold relK; rw [if_neg (by decide +kernel), if_neg (by decide +kernel), if_neg (by decide +kernel), if_pos rfl]
theorem relK_gt : relK ">" k l = ltK l k := by unfold relK; rw [if_neg (by decide +kernel), if_neg (by decide +kernel), if_neg (by decide +kernel), if_neg (by decide +kernel), if_pos rfl]
theorem relK_ge : relK ">=" k l = !ltK k l := by unfold relK; rw [if_neg (by decide +kernel), if_neg (by decide +kernel), if_neg (by decide +kernel), if_neg (by decide +kernel), if_neg (by decide +kernel)]
end
theorem bl_eq (a b : Bool) : decide (V.bl a = V.bl b) = (a == b) := by cases a <;> cases b <;> decide
theorem law_eq {s : Str} {k l : Key} (h : s ∈ REL) (c : (decide (Str.ofString "=" = s) || decide (Str.ofString "!=" = s)) = true) : decide (V.bl (decide (kV k = kV l)) = V.bl (decide (V.str s = V.str "="))) = relK s k l := by
  rw [Bool.or_eq_true, decide_eq_true_eq, decide_eq_true_eq] at c
  rw [kV_dec, bl_eq]
  rcases c with rfl | rfl
  · rw [relK_eq, decide_eq_true rfl]; cases decide (k = l) <;> rfl
  · rw [relK_ne, decide_eq_false (fun z => absurd (V.str.inj z) (by decide +kernel))]; cases decide (k = l) <;> rfl
theorem law_lt {s : Str} {k l : Key} (c : (decide (Str.ofString "<" = s) || decide (Str.ofString ">=" = s)) = true) : decide (V.bl (ltK k l) = V.bl (decide (V.str s = V.str "<"))) = relK s k l := by
  rw [Bool.or_eq_true, decide_eq_true_eq, decide_eq_true_eq] at c
  rw [bl_eq]
  rcases c with rfl | rfl
  · rw [relK_lt, decide_eq_true rfl]; cases ltK k l <;> rfl
  · rw [relK_ge, decide_eq_false (fun z => absurd (V.str.inj z) (by decide +kernel))]; cases ltK k l <;> rfl
theorem law_gt {s : Str} {k l : Key} (h : s ∈ REL) (c1 : ¬ (decide (Str.ofString "=" = s) || decide (Str.ofString "!=" = s)) = true) (c2 : ¬ (decide (Str.ofString "<" = s) || decide (Str.ofString ">=" = s)) = true) : decide (V.bl (ltK l k) = V.bl (decide (V.str s = V.str ">"))) = relK s k l := by
  rw [Bool.or_eq_true, decide_eq_true_eq, decide_eq_true_eq] at c1 c2
  rw [bl_eq]
  simp only [REL, List.mem_cons, List.not_mem_nil, or_false] at h
  rcases h with rfl | rfl | rfl | rfl | rfl | rfl
  · exact absurd (.inl rfl) c1
  · exact absurd (.inr rfl) c1
  · exact absurd (.inl rfl) c2
  · rw [relK_le, decide_eq_false (fun z => absurd (V.str.inj z) (by decide +kernel))]; cases ltK l k <;> rfl
  · rw [relK_gt, decide_eq_true rfl]; cases ltK l k <;> rfl
  · exact absurd (.inr rfl) c2
end LM
set_option Elab.async false
set_option linter.all false
set_option maxRecDepth 100000
set_option maxHeartbeats 2000000
namespace LM
open PySem PySem.Spec PyProof.Rows L2 C8 LC LR LG SU
theorem wd_same {ts : Tbs} {st ca : Addr} {M : Vol} {H H' : Hp} (w : Wd ts st ca M H) (s : Same H H') : Wd ts st ca M H' := by
  refine ⟨fun b hb => (w.live b hb).elim (fun ⟨o, e, t⟩ => .inl ⟨o, s _ _ e, t⟩) .inr, ?_, w.lst, w.lc, fun P hP => (w.tab P hP).keep fun b u e => s _ _ e, w.tab1.keep fun b u e => s _ _ e⟩
  obtain ⟨sd, kd, ns, h1, h2, r⟩ := w.stat
  exact ⟨sd, kd, ns, s _ _ h1, s _ _ h2, r⟩
theorem putP_new {r : Row} {x k : Key} (h : x ∉ r.map (·.1)) : putP r x k = r ++ [(x, k)] := by
  unfold putP
  rw [if_neg]
  intro z
  obtain ⟨p, hp, e⟩ := List.any_eq_true.mp z
  exact h (List.mem_map.mpr ⟨p, hp, of_decide_eq_true e⟩)
theorem ev_of : ∀ {ps : Row}, ps.map (·.1) = VZ.map Sum.inr → (∀ p ∈ ps, KB p.2) → ∃ e : Ev, e.ps = ps ∧ e.Ok
  | [(a, x), (b, y), (c, z)], h, g => by
    simp only [VZ, List.map_cons, List.map_nil, List.cons.injEq, and_true] at h
    obtain ⟨rfl, rfl, rfl⟩ := h
    exact ⟨⟨x, y, z⟩, rfl, g (.inr "X", x) (by simp), g (.inr "Y", y) (by simp), g (.inr "Z", z) (by simp)⟩
  | [], h, _ => by simp [VZ] at h
  | [_], h, _ => by simp [VZ] at h
  | [_, _], h, _ => by simp [VZ] at h
  | _ :: _ :: _ :: _ :: _, h, _ => by simp [VZ] at h
/-! the two comparisons of instances -/
theorem shaped_of {d : PyData} (h : PyData.canLay0 d = true) (n : PyData.depth d ≤ 20) : SeqAt.shaped d = true := by
  unfold SeqAt.shaped
  rw [h]
  simp only [Bool.true_and, decide_eq_true_eq]
  omega
theorem lay_of {d : PyData} (h : SeqAt.shaped d = true) : PyData.canLay0 d = true := by
  unfold SeqAt.shaped at h
  rw [Bool.and_eq_true] at h
  exact h.1
theorem lay_keys : ∀ {ks : List Key}, (∀ k ∈ ks, KS k) → PyData.canLayAll0 (ks.map keyD) = true
  | [], _ => rfl
  | k :: r, h => by rw [List.map_cons, PyData.canLayAll0, (lay_key (h k List.mem_cons_self)).1, lay_keys fun q hq => h q (List.mem_cons_of_mem _ hq)]; rfl
theorem lay_pq {x : Str} (h : x ∈ PQ) : PyData.canLay0 (.str x) = true := by
  have : PQ.all (fun x => SeqAt.shaped (.str x)) = true := by decide +kernel
  exact lay_of (List.all_eq_true.mp this x h)
def P2Ok (p : P2) : Prop := p.1 ∈ PQ ∧ ∀ k ∈ p.2, KS k
theorem lay_p2 {p : P2} (h : P2Ok p) : PyData.canLay0 (p2D p) = true ∧ PyData.depth (p2D p) = 2 := by
  unfold p2D
  rw [PyData.canLay0, PyData.canLayAll0, PyData.canLayAll0, PyData.canLayAll0, lay_pq h.1, PyData.canLay0, lay_keys h.2, PyData.depth, PyData.depthAll, PyData.depthAll, PyData.depthAll, PyData.depth, PyData.depth, dep_keys]
  exact ⟨rfl, rfl⟩
theorem lay_p2s : ∀ {ps : List P2}, (∀ p ∈ ps, P2Ok p) → PyData.canLayAll0 (ps.map p2D) = true ∧ PyData.depthAll (ps.map p2D) ≤ 2
  | [], _ => ⟨rfl, Nat.zero_le _⟩
  | p :: r, h => by
    obtain ⟨a, b⟩ := lay_p2 (h p List.mem_cons_self)
    obtain ⟨c, d⟩ := lay_p2s (ps := r) fun q hq => h q (List.mem_cons_of_mem _ hq)
    rw [List.map_cons, PyData.canLayAll0, PyData.depthAll, a, b, c]
    exact ⟨rfl, Nat.max_le.mpr ⟨Nat.le_refl _, d⟩⟩
theorem inst_ok {e : Ev} {us ks : List Key} {a : Atm} (he : e.Ok) (ga : GA a) (h : inst e us a = some ks) : P2Ok (a.nm, ks) := by
  refine ⟨ga.1, fun k hk => ?_⟩
  unfold inst at h
  split at h
  · cases h
    obtain ⟨t, ht, hk⟩ := List.mem_flatMap.mp hk
    unfold vlt at hk
    split at hk
    · rename_i k' ek
      rw [List.mem_singleton.mp hk]
      exact tval_ks he (ga.2.2 t ht).1 ek
    · cases hk
  · cases h
theorem shaped_inst {e : Ev} {us : List Key} {a : Atm} (he : e.Ok) (ga : GA a) : SeqAt.shaped (instD a.nm (inst e us a)) = true := by
  cases h : inst e us a with
  | none => exact shaped_of rfl (by rw [instD, PyData.depth]; omega)
  | some ks =>
    obtain ⟨c, d⟩ := lay_p2 (inst_ok he ga h)
    exact shaped_of c (by show PyData.depth (p2D (a.nm, ks)) ≤ 20; omega)
theorem one_ok {e : Ev} {us : List Key} {c : Cnd} (he : e.Ok) (gc : GC c) : (∀ p ∈ oneY e us c, P2Ok p) ∧ ∀ p ∈ oneN e us c, P2Ok p := by
  unfold oneY oneN
  cases c with
  | cmp s l r => by_cases h : cmpv e s l r = true <;> simp [one, h]
  | yes a =>
    cases h : inst e us a with
    | none => simp [one, h]
    | some ks => simp [one, h]; exact inst_ok he gc h
  | no a =>
    cases h : inst e us a with
    | none => simp [one, h]
    | some ks => simp [one, h]; exact inst_ok he gc h
theorem shaped_cond {e : Ev} {us : List Key} {cs : List Cnd} (he : e.Ok) (gc : ∀ c ∈ cs, GC c) : SeqAt.shaped (condD (condI e us cs)) = true := by
  unfold condI
  split
  · have hy : ∀ p ∈ cs.flatMap (oneY e us), P2Ok p := fun p hp => by
      obtain ⟨c, hc, hp⟩ := List.mem_flatMap.mp hp
      exact (one_ok he (gc c hc)).1 p hp
    have hn : ∀ p ∈ cs.flatMap (oneN e us), P2Ok p := fun p hp => by
      obtain ⟨c, hc, hp⟩ := List.mem_flatMap.mp hp
      exact (one_ok he (gc c hc)).2 p hp
    obtain ⟨a, b⟩ := lay_p2s hy
    obtain ⟨c, d⟩ := lay_p2s hn
    refine shaped_of ?_ ?_
    · rw [condD, PyData.canLay0, PyData.canLayAll0, PyData.canLayAll0, PyData.canLayAll0, PyData.canLay0, PyData.canLay0, a, c]; rfl
    · rw [condD, PyData.depth, PyData.depthAll, PyData.depthAll, PyData.depthAll, PyData.depth, PyData.depth]; omega
  · exact shaped_of rfl (by rw [condD, PyData.depth]; omega)
theorem ne_data {K : PySem.W.Frag} {H : Hp} {x y : V} {d : PyData} {Q : VK} (h1 : Dp K H x d) (h2 : Dp K H y d) (s : SeqAt.shaped d = true) (q : Q (.bl false) H) : rNeD K x y H Q := by
  refine ⟨d, d, h1, h2, s, s, ?_⟩
  rw [SeqAt.eqv_refl _ (lay_of s)]
  exact q
/-! repr of the universe and the names -/
theorem show_key : ∀ {k : Key}, KB k → (keyD k).showable = true ∧ (keyD k).shown.length ≤ 12
  | .inl i, h => by
    have h : i.natAbs ≤ 8 := h
    have : ∀ n : Nat, n ≤ 8 → ((PyData.int (n : Int)).showable = true ∧ (PyData.int (n : Int)).shown.length ≤ 12) ∧ ((PyData.int (-(n : Int))).showable = true ∧ (PyData.int (-(n : Int))).shown.length ≤ 12) := by
      intro n hn
      have : n = 0 ∨ n = 1 ∨ n = 2 ∨ n = 3 ∨ n = 4 ∨ n = 5 ∨ n = 6 ∨ n = 7 ∨ n = 8 := by omega
      rcases this with rfl | rfl | rfl | rfl | rfl | rfl | rfl | rfl | rfl <;> decide +kernel
    obtain ⟨a, b⟩ := this i.natAbs h
    rcases Int.natAbs_eq i with e | e
    · rw [← e] at a; exact a
    · rw [← e] at b; exact b
  | .inr x, h => by
    have := small_ct h
    rw [Bool.and_eq_true, decide_eq_true_eq] at this
    exact ⟨by rw [keyD, PyData.showable], this.1⟩
theorem show_keys : ∀ {ks : List Key}, (∀ k ∈ ks, KB k) → PyData.showableAll (ks.map keyD) = true ∧ ((PyData.shownAll (ks.map keyD)).map (·.length)).sum ≤ 12 * ks.length ∧ (PyData.shownAll (ks.map keyD)).length = ks.length
  | [], _ => ⟨by simp [PyData.showableAll], by simp [PyData.shownAll], by simp [PyData.shownAll]⟩
  | k :: r, h => by
    obtain ⟨a, b⟩ := show_key (h k List.mem_cons_self)
    obtain ⟨c, d, f⟩ := show_keys (ks := r) fun q hq => h q (List.mem_cons_of_mem _ hq)
    rw [List.map_cons, PyData.showableAll, PyData.shownAll, a, c, List.map_cons, List.sum_cons, List.length_cons, List.length_cons, f]
    exact ⟨rfl, by omega, rfl⟩
theorem show_ps : ∀ {ps : Row}, (∀ p ∈ ps, (keyD p.1).shown.length ≤ 12 ∧ (keyD p.1).showable = true ∧ KB p.2) → PyData.showableKv (ps.map prD) = true ∧ ((PyData.shownKv (ps.map prD)).map (·.length)).sum ≤ 30 * ps.length ∧ (PyData.shownKv (ps.map prD)).length = ps.length
  | [], _ => ⟨by simp [PyData.showableKv], by simp [PyData.shownKv], by simp [PyData.shownKv]⟩
  | (k, l) :: r, h => by
    obtain ⟨a, b, g⟩ := h (k, l) List.mem_cons_self
    obtain ⟨a2, b2⟩ := show_key g
    obtain ⟨c, d, f⟩ := show_ps (ps := r) fun q hq => h q (List.mem_cons_of_mem _ hq)
    have a : (keyD k).shown.length ≤ 12 := a
    have b : (keyD k).showable = true := b
    have b2 : (keyD l).shown.length ≤ 12 := b2
    rw [List.map_cons, prD, PyData.showableKv, PyData.shownKv, b, a2, c, List.map_cons, List.sum_cons, List.length_cons, List.length_cons, f, strLen_append, strLen_append]
    have e : (Str.ofString ": ").length = 2 := by decide +kernel
    rw [e]
    exact ⟨rfl, by omega, rfl⟩
theorem un_ok {us : List Key} {e : Ev} (hu : us.length ≤ 5) (ku : ∀ k ∈ us, KB k) (he : e.Ok) : (unD us e.ps).showable = true ∧ (unD us e.ps).shown.length ≤ sizeLine := by
  obtain ⟨a, b, c⟩ := show_keys ku
  have nms : ∀ x ∈ VZ, (PyData.str x).shown.length ≤ 12 := fun x hx => by
    have : VZ.all (fun x => decide ((PyData.str x).shown.length ≤ 12)) = true := by decide +kernel
    exact of_decide_eq_true (List.all_eq_true.mp this x hx)
  obtain ⟨f, g, h⟩ := show_ps (ps := e.ps) fun p hp => by
    simp only [Ev.ps, List.mem_cons, List.not_mem_nil, or_false] at hp
    rcases hp with rfl | rfl | rfl
    · exact ⟨nms "X" (by simp [VZ]), by simp [keyD, PyData.showable], he.1⟩
    · exact ⟨nms "Y" (by simp [VZ]), by simp [keyD, PyData.showable], he.2.1⟩
    · exact ⟨nms "Z" (by simp [VZ]), by simp [keyD, PyData.showable], he.2.2⟩
  have l3 : e.ps.length = 3 := rfl
  constructor
  · rw [unD, PyData.showable, PyData.showableAll, PyData.showableAll, PyData.showableAll, PyData.showable, PyData.showable, a, f]; rfl
  · have z1 := listText_len_le (PyData.shownAll (us.map keyD))
    have z2 := dictText_len_le (PyData.shownKv (e.ps.map prD))
    have z3 := listText_len_le (PyData.shownAll [.list (us.map keyD), .dict (e.ps.map prD)])
    rw [unD, PyData.shown]
    simp only [PyData.shownAll, PyData.shown, List.map_cons, List.map_nil, List.sum_cons, List.sum_nil, List.length_cons, List.length_nil] at z3 ⊢
    exact Nat.le_trans z3 (Nat.le_of_lt (Nat.lt_of_le_of_lt (by omega : _ ≤ 1000) (by decide)))
end LM
set_option Elab.async false
set_option maxRecDepth 100000
set_option maxHeartbeats 4000000
namespace K05
open PySem L2 C8 GX LC LG LR SU LM
def top (i : Nat) : Stmt := PySem.Challenge.pw_stablepapers_k05_terms_and_substitutions.main.body.getD i (.Pass ⟨0, 0, 0, 0⟩)
abbrev s_rank : Stmt := top 1
abbrev N_rank : List Str := ["constant"]
theorem sc_rank : FnScope N_rank ["constant"] (fnScope s_rank) := fnScope_by (by decide +kernel)
abbrev s_result : Stmt := top 2
abbrev N_result : List Str := ["sign", "left", "right"]
theorem sc_result : FnScope N_result ["sign", "left", "right"] (fnScope s_result) := fnScope_by (by decide +kernel)
abbrev s_value : Stmt := top 3
abbrev N_value : List Str := ["term", "names", "kind", "left", "right"]
theorem sc_value : FnScope N_value ["term", "names"] (fnScope s_value) := fnScope_by (by decide +kernel)
abbrev s_holds : Stmt := top 4
abbrev N_holds : List Str := ["sign", "left", "right", "first", "second"]
theorem sc_holds : FnScope N_holds ["sign", "left", "right"] (fnScope s_holds) := fnScope_by (by decide +kernel)
abbrev s_comparison_holds : Stmt := top 5
abbrev N_comparison_holds : List Str := ["comparison", "names", "_", "sign", "left", "right", "first", "second"]
theorem sc_comparison_holds : FnScope N_comparison_holds ["comparison", "names"] (fnScope s_comparison_holds) := fnScope_by (by decide +kernel)
abbrev s_atom_instance : Stmt := top 6
abbrev N_atom_instance : List Str := ["atom", "names", "universe", "_", "name", "terms", "found", "term", "constant"]
theorem sc_atom_instance : FnScope N_atom_instance ["atom", "names", "universe"] (fnScope s_atom_instance) := fnScope_by (by decide +kernel)
abbrev s_conditions_instance : Stmt := top 7
abbrev N_conditions_instance : List Str := ["conditions", "names", "universe", "yes", "no", "condition", "atom"]
theorem sc_conditions_instance : FnScope N_conditions_instance ["conditions", "names", "universe"] (fnScope s_conditions_instance) := fnScope_by (by decide +kernel)
abbrev s_substitutions : Stmt := top 8
abbrev N_substitutions : List Str := ["names", "wanted", "universe", "found", "name", "known", "constant"]
theorem sc_substitutions : FnScope N_substitutions ["names", "wanted", "universe"] (fnScope s_substitutions) := fnScope_by (by decide +kernel)
abbrev s__law_state : Stmt := top 10
abbrev N__law_state : List Str := ["script", "seed", "cell"]
theorem sc__law_state : FnScope N__law_state ["script"] (fnScope s__law_state) := fnScope_by (by decide +kernel)
abbrev s__law_draw : Stmt := top 11
abbrev N__law_draw : List Str := ["state", "many", "cells", "k", "amount", "mixed"]
theorem sc__law_draw : FnScope N__law_draw ["state", "many"] (fnScope s__law_draw) := fnScope_by (by decide +kernel)
abbrev s__law_constant : Stmt := top 12
abbrev N__law_constant : List Str := ["state"]
theorem sc__law_constant : FnScope N__law_constant ["state"] (fnScope s__law_constant) := fnScope_by (by decide +kernel)
abbrev s__law_term : Stmt := top 13
abbrev N__law_term : List Str := ["state", "deep", "kind", "left"]
theorem sc__law_term : FnScope N__law_term ["state", "deep"] (fnScope s__law_term) := fnScope_by (by decide +kernel)
abbrev s__law_value : Stmt := top 14
abbrev N__law_value : List Str := ["term", "names", "left", "right"]
theorem sc__law_value : FnScope N__law_value ["term", "names"] (fnScope s__law_value) := fnScope_by (by decide +kernel)
abbrev s__law_before : Stmt := top 15
abbrev N__law_before : List Str := ["left", "right"]
theorem sc__law_before : FnScope N__law_before ["left", "right"] (fnScope s__law_before) := fnScope_by (by decide +kernel)
abbrev s__law_holds : Stmt := top 16
abbrev N__law_holds : List Str := ["sign", "left", "right"]
theorem sc__law_holds : FnScope N__law_holds ["sign", "left", "right"] (fnScope s__law_holds) := fnScope_by (by decide +kernel)
abbrev s__law_atom : Stmt := top 17
abbrev N__law_atom : List Str := ["state", "k"]
theorem sc__law_atom : FnScope N__law_atom ["state"] (fnScope s__law_atom) := fnScope_by (by decide +kernel)
abbrev s__law_condition : Stmt := top 18
abbrev N__law_condition : List Str := ["state", "kind", "left"]
theorem sc__law_condition : FnScope N__law_condition ["state"] (fnScope s__law_condition) := fnScope_by (by decide +kernel)
abbrev s__law_instance : Stmt := top 19
abbrev N__law_instance : List Str := ["atom", "names", "universe", "values", "term", "one"]
theorem sc__law_instance : FnScope N__law_instance ["atom", "names", "universe"] (fnScope s__law_instance) := fnScope_by (by decide +kernel)
abbrev s__law_conditions : Stmt := top 20
abbrev N__law_conditions : List Str := ["conditions", "names", "universe", "yes", "no", "part", "left", "right", "found"]
theorem sc__law_conditions : FnScope N__law_conditions ["conditions", "names", "universe"] (fnScope s__law_conditions) := fnScope_by (by decide +kernel)
abbrev s__law_extended : Stmt := top 21
abbrev N__law_extended : List Str := ["names", "wanted", "universe", "rows", "name", "longer", "row", "constant", "more"]
theorem sc__law_extended : FnScope N__law_extended ["names", "wanted", "universe"] (fnScope s__law_extended) := fnScope_by (by decide +kernel)
abbrev s_law : Stmt := top 22
abbrev N_law : List Str := ["script", "state", "universe", "k", "constant", "names", "name", "kept", "term", "left", "right", "sign", "atom", "conditions", "known", "wanted"]
theorem sc_law : FnScope N_law ["script"] (fnScope s_law) := fnScope_by (by decide +kernel)
/-- the codes with tables -/
structure Cd where
  c__law_state : Addr
  P__law_state : Addr
def Cd.ts (d : Cd) : Tbs := ⟨d.P__law_state, [d.P__law_state]⟩
def Cd.cs (d : Cd) : List (Addr × Addr) := [(d.c__law_state, d.P__law_state)]
structure Txt (K : PySem.W.Frag) (mg : Str → Option Value) (base : Heap) (d : Cd) : Prop where
  rank : ∃ c, Has K mg "rank" s_rank c
  result : ∃ c, Has K mg "result" s_result c
  value : ∃ c, Has K mg "value" s_value c
  holds : ∃ c, Has K mg "holds" s_holds c
  comparison_holds : ∃ c, Has K mg "comparison_holds" s_comparison_holds c
  atom_instance : ∃ c, Has K mg "atom_instance" s_atom_instance c
  conditions_instance : ∃ c, Has K mg "conditions_instance" s_conditions_instance c
  substitutions : ∃ c, Has K mg "substitutions" s_substitutions c
  _law_state : Has K mg "_law_state" s__law_state d.c__law_state
  h__law_state : PySem.W.CodeHd base d.c__law_state d.P__law_state
  _law_draw : ∃ c, Has K mg "_law_draw" s__law_draw c
  _law_constant : ∃ c, Has K mg "_law_constant" s__law_constant c
  _law_term : ∃ c, Has K mg "_law_term" s__law_term c
  _law_value : ∃ c, Has K mg "_law_value" s__law_value c
  _law_before : ∃ c, Has K mg "_law_before" s__law_before c
  _law_holds : ∃ c, Has K mg "_law_holds" s__law_holds c
  _law_atom : ∃ c, Has K mg "_law_atom" s__law_atom c
  _law_condition : ∃ c, Has K mg "_law_condition" s__law_condition c
  _law_instance : ∃ c, Has K mg "_law_instance" s__law_instance c
  _law_conditions : ∃ c, Has K mg "_law_conditions" s__law_conditions c
  _law_extended : ∃ c, Has K mg "_law_extended" s__law_extended c
  law : ∃ c, Has K mg "law" s_law c
  b_abs : mg "abs" = none
  b_bool : mg "bool" = none
  b_dict : mg "dict" = none
  b_int : mg "int" = none
  b_isinstance : mg "isinstance" = none
  b_len : mg "len" = none
  b_range : mg "range" = none
  b_repr : mg "repr" = none
  b_tuple : mg "tuple" = none
  bm : ∃ P0, base.BuiltinsAt mg P0
theorem ts_one {s t : Str} (h : decide (V.str s = V.str t) = true) : s = t := V.str.inj (of_decide_eq_true h)
theorem ts_no {s t : Str} (h : ¬ decide (V.str s = V.str t) = true) : s ≠ t := fun e => h (decide_eq_true (by rw [e]))
theorem sq_same {K : PySem.W.Frag} {H H' : Hp} {a : Addr} {xs : List V} (h : SqT K H a xs) (s : Same H H') : SqT K H' a xs := sqT_same s h
theorem at3 {α : Type} {x y z w : α} {r : List α} : atI (x :: y :: z :: w :: r) 3 = some w := atI_nat (j := 3) rfl
abbrev sp_rank (K : PySem.W.Frag) (_ts : Tbs) : Sp := spRank K
section
variable {P : Program} {w : World} {K : PySem.W.Frag} {mg : Str → Option Value} {base : Heap} {d : Cd}
-- def rank: level 1, calls [], cells [], gens 0
theorem ok_rank (T : Txt K mg base d) :
    Cal P w K mg base 1 "rank" (sp_rank K d.ts) [] := by
  obtain ⟨c, F⟩ := T.rank
  refine cal (ps := ["constant"]) F (fun _ _ _ _ _ _ us hl => match us, hl with | [_], _ => rfl) sc_rank (fun vs H Q E h => ?_) (fun f A outer s H vs Q E hr h => ?_)
  · obtain ⟨k, rfl, _⟩ := h; rfl
  · obtain ⟨k, rfl, kk⟩ := h
    refine ⟨_, (pss_cons (ps_if (pt_val (pe_callB (cisi (K := K) rfl) (by rfl) T.b_isinstance (by decide +kernel) (pa_cons (pv 0) (pa_cons (pe_bltn (v := .ty "int") (by rfl) T.b_int (by decide +kernel) rfl) pa_nil))))
      (pss_one (ps_ret (pe_tup (pa_cons pe_int (pa_cons (pv 0) pa_nil)))))
      pss_nil)
    (pss_one (ps_ret (pe_tup (pa_cons pe_int (pa_cons (pv 0) pa_nil)))))), ?_⟩
    cases k with
    | inl i => exact ⟨_, rfl, .int i, .ty "int", .type "int", .type "int", true, rfl, .ty _, .base (.int i), rfl, _, rfl, iteT ⟨_, rfl, two, fun t ht => kk t ht⟩⟩
    | inr x => exact ⟨_, rfl, .str x, .ty "int", .type "str", .type "int", false, rfl, .ty _, .base (.str x), rfl, _, rfl, iteF ⟨_, rfl, two, fun t ht => kk t ht⟩⟩
end
def spResult (_K : PySem.W.Frag) (_ts : Tbs) : Sp := fun vs H Q _ => ∃ (s : Str) (a b : Int), vs = [.str s, .int a, .int b] ∧ CMul a b ∧ Q (.int (ar s a b)) H
abbrev sp_result := spResult
section
variable {P : Program} {w : World} {K : PySem.W.Frag} {mg : Str → Option Value} {base : Heap} {d : Cd}
-- def result: level 1, calls [], cells [], gens 0
theorem ok_result (T : Txt K mg base d) :
    Cal P w K mg base 1 "result" (sp_result K d.ts) [] := by
  obtain ⟨c, F⟩ := T.result
  refine cal (ps := ["sign", "left", "right"]) F (fun _ _ _ _ _ _ us hl => match us, hl with | [_, _, _], _ => rfl) sc_result (fun vs H Q E h => ?_) (fun f A outer s H vs Q E hr h => ?_)
  · obtain ⟨s, a, b, rfl, _⟩ := h; rfl
  · obtain ⟨s, a, b, rfl, cm, kk⟩ := h
    refine ⟨_, (pss_cons (ps_if (pt_cmpR op_eq (pv 0) pe_str (nomark _))
      (pss_one (ps_ret (pe_op op_add (pv 1) (pv 2))))
      pss_nil)
    (pss_cons (ps_if (pt_cmpR op_eq (pv 0) pe_str (nomark _))
      (pss_one (ps_ret (pe_op op_sub (pv 1) (pv 2))))
      pss_nil)
    (pss_one (ps_ret (pe_op op_mul (pv 1) (pv 2)))))), ?_⟩
    unfold ar at kk
    refine ⟨_, rfl, rfl, _, rfl, ite2 (fun z => ?_) (fun z => ?_)⟩
    · rw [if_pos (ts_one z)] at kk
      exact ⟨_, rfl, _, rfl, _, _, rfl, rfl, kk⟩
    rw [if_neg (ts_no z)] at kk
    refine ⟨_, rfl, rfl, _, rfl, ite2 (fun z => ?_) (fun z => ?_)⟩
    · rw [if_pos (ts_one z)] at kk
      exact ⟨_, rfl, _, rfl, _, _, rfl, rfl, kk⟩
    rw [if_neg (ts_no z)] at kk
    exact ⟨_, rfl, _, rfl, _, _, rfl, rfl, cm, kk⟩
end
def spVal (m : Nat) (K : PySem.W.Frag) (_ts : Tbs) : Sp := fun vs H Q _ => ∃ (v : V) (t : SU.Tm) (n : Addr) (e : Ev), vs = [v, .ref n] ∧ Dp K H v t.d ∧ NmA H n e ∧ e.Ok ∧ Wf t ∧ t.dep < m ∧ t.dep ≤ 3 ∧ Q (oV (tval e t)) H
abbrev sp_value := spVal 4
section
variable {P : Program} {w : World} {K : PySem.W.Frag} {mg : Str → Option Value} {base : Heap} {d : Cd}
theorem va_bot (T : Txt K mg base d) : Cal P w K mg base 1 "value" (spVal 0 K d.ts) [] := by
  obtain ⟨c, F⟩ := T.value
  refine cal (ps := ["term", "names"]) F (fun _ _ _ _ _ _ us hl => match us, hl with | [_, _], _ => rfl) sc_value (fun vs H Q E h => ?_) (fun f A outer s H vs Q E hr h => ?_)
  · obtain ⟨v, t, n, e, rfl, _⟩ := h; rfl
  · obtain ⟨v, t, n, e, rfl, _, _, _, _, h, _⟩ := h
    exact absurd h (Nat.not_lt_zero _)
theorem va_step (T : Txt K mg base d) {m : Nat} (c_result : Cal P w K mg base 1 "result" (sp_result K d.ts) []) (c_value : Cal P w K mg base (1 + m) "value" (spVal m K d.ts) []) : Cal P w K mg base (1 + m + 1) "value" (spVal (m + 1) K d.ts) [] := by
  obtain ⟨c, F⟩ := T.value
  refine cal (ps := ["term", "names"]) F (fun _ _ _ _ _ _ us hl => match us, hl with | [_, _], _ => rfl) sc_value (fun vs H Q E h => ?_) (fun f A outer s H vs Q E hr h => ?_)
  · obtain ⟨v, t, n, e, rfl, _⟩ := h; rfl
  · obtain ⟨v, t, n, e, rfl, hd, hn, eo, wf, dp, d3, kk⟩ := h
    refine ⟨_, (pss_cons (ps_set (i := 2) sc_value.nd rfl (Or.inl rfl) (pe_ix (ixt (K := K) rfl) (pv 0) pe_int (fun _ _ => rfl)))
    (pss_cons (ps_if (pt_cmpR op_eq (pv 2) pe_str (nomark _))
      (pss_one (ps_ret (pe_dget (u1 hr.units) (pv 1) (pe_ix (ixt (K := K) rfl) (pv 0) pe_int (fun _ _ => rfl)) (fun _ _ => rfl))))
      pss_nil)
    (pss_cons (ps_if (pt_cmpR op_ne (pv 2) pe_str (nomark _))
      (pss_one (ps_ret (pe_ix (ixt (K := K) rfl) (pv 0) pe_int (fun _ _ => rfl))))
      pss_nil)
    (pss_cons (ps_set (i := 3) sc_value.nd rfl (Or.inl rfl) (pe_c c_value hr (by omega) rfl (pa_cons (pe_ix (ixt (K := K) rfl) (pv 0) pe_int (fun _ _ => rfl)) (pa_cons (pv 1) pa_nil))))
    (pss_cons (ps_set (i := 4) sc_value.nd rfl (Or.inl rfl) (pe_c c_value hr (by omega) rfl (pa_cons (pe_ix (ixt (K := K) rfl) (pv 0) pe_int (fun _ _ => rfl)) (pa_cons (pv 1) pa_nil))))
    (pss_cons (ps_if (PW.pt (pw_and (pt_val (pe_callB (cisi (K := K) rfl) (by rfl) T.b_isinstance (by decide +kernel) (pa_cons (pv 3) (pa_cons (pe_bltn (v := .ty "int") (by rfl) T.b_int (by decide +kernel) rfl) pa_nil)))) (pw_and1 (pt_val (pe_callB (cisi (K := K) rfl) (by rfl) T.b_isinstance (by decide +kernel) (pa_cons (pv 4) (pa_cons (pe_bltn (v := .ty "int") (by rfl) T.b_int (by decide +kernel) rfl) pa_nil)))))))
      (pss_one (ps_ret (pe_c c_result hr (by omega) rfl (pa_cons (pe_ix (ixt (K := K) rfl) (pv 0) pe_int (fun _ _ => rfl)) (pa_cons (pv 3) (pa_cons (pv 4) pa_nil))))))
      pss_nil)
    (pss_one (ps_ret pe_non)))))))), ?_⟩
    cases t with
    | var x =>
      obtain ⟨a, v1, v2, rfl, h0, h1, h2⟩ := dp_t2 hd
      cases dp_str h1; cases dp_str h2
      exact ⟨_, rfl, a, _, 0, _, rfl, rfl, h0, at0, _, rfl, rfl, _, rfl, iteT ⟨_, rfl, _, rfl, a, _, 1, _, rfl, rfl, h0, at1, n, _, rfl, nm_get hn wf, kk⟩⟩
    | int i =>
      obtain ⟨a, v1, v2, rfl, h0, h1, h2⟩ := dp_t2 hd
      cases dp_str h1; cases dp_int h2
      exact ⟨_, rfl, a, _, 0, _, rfl, rfl, h0, at0, _, rfl, rfl, _, rfl, iteF ⟨_, rfl, rfl, _, rfl, iteT ⟨_, rfl, a, _, 1, _, rfl, rfl, h0, at1, kk⟩⟩⟩
    | sym x =>
      obtain ⟨a, v1, v2, rfl, h0, h1, h2⟩ := dp_t2 hd
      cases dp_str h1; cases dp_str h2
      exact ⟨_, rfl, a, _, 0, _, rfl, rfl, h0, at0, _, rfl, rfl, _, rfl, iteF ⟨_, rfl, rfl, _, rfl, iteT ⟨_, rfl, a, _, 1, _, rfl, rfl, h0, at1, kk⟩⟩⟩
    | op s l r =>
      obtain ⟨a, v1, v2, v3, v4, rfl, h0, h1, h2, h3, h4⟩ := dp_t4 hd
      cases dp_str h1; cases dp_str h2
      rw [SU.Tm.dep] at dp d3
      rw [tval] at kk
      refine ⟨_, rfl, a, _, 0, _, rfl, rfl, h0, at0, _, rfl, rfl, _, rfl, iteF ⟨_, rfl, rfl, _, rfl, iteF ⟨_, rfl, a, _, 2, _, rfl, rfl, h0, at2, _, rfl, v3, l, n, e, rfl, h3, hn, eo, wf.2.1, by omega, by omega, ?_⟩⟩⟩
      refine ⟨_, rfl, a, _, 3, _, rfl, rfl, h0, at3, _, rfl, v4, r, n, e, rfl, h4, hn, eo, wf.2.2, by omega, by omega, ?_⟩
      obtain ⟨t1, b1, y1, k1, i1⟩ := oV_isi (K := K) (H := H) (tval e l)
      obtain ⟨t2, b2, y2, k2, i2⟩ := oV_isi (K := K) (H := H) (tval e r)
      refine ⟨_, rfl, _, _, _, _, _, rfl, .ty _, y1, k1, _, rfl, ite2 (fun c1 => ?_) (fun c1 => ?_)⟩
      · refine ⟨_, rfl, _, _, _, _, _, rfl, .ty _, y2, k2, _, rfl, ite2 (fun c2 => ?_) (fun c2 => ?_)⟩
        · obtain ⟨x1, e1⟩ := isI_some (i1.symm.trans c1)
          obtain ⟨x2, e2⟩ := isI_some (i2.symm.trans c2)
          rw [e1, e2] at kk
          rw [e1, e2]
          exact ⟨_, rfl, a, _, 1, _, rfl, rfl, h0, at1, _, rfl, _, rfl, s, x1, x2, rfl, bd_mul (d2 := 0) (tval_bd eo wf.2.1 e1) (by omega), kk⟩
        · have : opv s (tval e l) (tval e r) = none := opv_none (.inr (by rw [← i2]; simpa using c2))
          rw [this] at kk; exact kk
      · have : opv s (tval e l) (tval e r) = none := opv_none (.inl (by rw [← i1]; simpa using c1))
        rw [this] at kk; exact iteF kk
theorem va_all (T : Txt K mg base d) (c_result : Cal P w K mg base 1 "result" (sp_result K d.ts) []) : ∀ m : Nat, Cal P w K mg base (1 + m) "value" (spVal m K d.ts) []
  | 0 => va_bot T
  | m + 1 => va_step T c_result (va_all T c_result m)
end
def spHolds (_K : PySem.W.Frag) (_ts : Tbs) : Sp := fun vs H Q _ => ∃ (s : Str) (k l : Key), vs = [.str s, kV k, kV l] ∧ KS k ∧ KS l ∧ ∀ H', Same H H' → Q (.bl (relK s k l)) H'
abbrev sp_holds := spHolds
section
variable {P : Program} {w : World} {K : PySem.W.Frag} {mg : Str → Option Value} {base : Heap} {d : Cd}
-- def holds: level 2, calls [('rank', 1)], cells [], gens 0
theorem ok_holds (T : Txt K mg base d) (c_rank : Cal P w K mg base 1 "rank" (sp_rank K d.ts) []) :
    Cal P w K mg base 2 "holds" (sp_holds K d.ts) [] := by
  obtain ⟨c, F⟩ := T.holds
  refine cal (ps := ["sign", "left", "right"]) F (fun _ _ _ _ _ _ us hl => match us, hl with | [_, _, _], _ => rfl) sc_holds (fun vs H Q E h => ?_) (fun f A outer s H vs Q E hr h => ?_)
  · obtain ⟨s, k, l, rfl, _⟩ := h; rfl
  · obtain ⟨s, k, l, rfl, hk, hl, kk⟩ := h
    refine ⟨_, (pss_cons (ps_par (i := 3) (j := 4) rfl sc_holds.nd rfl rfl (by decide) (by rfl) (by rfl) (pa_cons (pe_c c_rank hr (by decide) rfl (pa_cons (pv 1) pa_nil)) (pa_cons (pe_c c_rank hr (by decide) rfl (pa_cons (pv 2) pa_nil)) pa_nil)) (by rfl))
    (pss_cons (ps_if (pt_cmpR op_eq (pv 0) pe_str (nomark _))
      (pss_one (ps_ret (pe_cmpR (opeqD (K := K) rfl hr.units) (pv 3) (pv 4) (nomark _))))
      pss_nil)
    (pss_cons (ps_if (pt_cmpR op_eq (pv 0) pe_str (nomark _))
      (pss_one (ps_ret (pe_cmpR (opneD (K := K) rfl hr.units) (pv 3) (pv 4) (nomark _))))
      pss_nil)
    (pss_cons (ps_if (pt_cmpR op_eq (pv 0) pe_str (nomark _))
      (pss_one (ps_ret (pe_cmpR (oplt (K := K) rfl hr.units) (pv 3) (pv 4) (nomark _))))
      pss_nil)
    (pss_cons (ps_if (pt_cmpR op_eq (pv 0) pe_str (nomark _))
      (pss_one (ps_ret (pe_cmpR (ople (K := K) rfl hr.units) (pv 3) (pv 4) (nomark _))))
      pss_nil)
    (pss_cons (ps_if (pt_cmpR op_eq (pv 0) pe_str (nomark _))
      (pss_one (ps_ret (pe_cmpR (opgt (K := K) rfl hr.units) (pv 3) (pv 4) (nomark _))))
      pss_nil)
    (pss_one (ps_ret (pe_cmpR (opge (K := K) rfl hr.units) (pv 3) (pv 4) (nomark _)))))))))), ?_⟩
    unfold relK at kk
    refine ⟨_, rfl, k, rfl, fun p hp => ⟨_, rfl, l, rfl, fun q hq => ?_⟩⟩
    have s3 : Same H (upd (upd H p (.tup [.int (tagK k), kV k])) q (.tup [.int (tagK l), kV l])) := (same_new hp).trans (same_new hq)
    have ep : SqT K (upd (upd H p (.tup [.int (tagK k), kV k])) q (.tup [.int (tagK l), kV l])) p [.int (tagK k), kV k] := SqT.of ((same_new hq) _ _ upd_same)
    have eq : SqT K (upd (upd H p (.tup [.int (tagK k), kV k])) q (.tup [.int (tagK l), kV l])) q [.int (tagK l), kV l] := SqT.of upd_same
    generalize upd (upd H p (.tup [.int (tagK k), kV k])) q (.tup [.int (tagK l), kV l]) = H3 at s3 ep eq ⊢
    have kk := kk H3 s3
    refine ⟨_, _, rfl, ?_⟩
    refine ⟨_, rfl, rfl, _, rfl, ite2 (fun z => ?_) (fun z => ?_)⟩
    · rw [if_pos (ts_one z)] at kk
      exact ⟨_, rfl, _, rfl, eq_ranks hk hl ep eq kk⟩
    rw [if_neg (ts_no z)] at kk
    refine ⟨_, rfl, rfl, _, rfl, ite2 (fun z => ?_) (fun z => ?_)⟩
    · rw [if_pos (ts_one z)] at kk
      exact ⟨_, rfl, _, rfl, ne_ranks hk hl ep eq kk⟩
    rw [if_neg (ts_no z)] at kk
    refine ⟨_, rfl, rfl, _, rfl, ite2 (fun z => ?_) (fun z => ?_)⟩
    · rw [if_pos (ts_one z)] at kk
      exact ⟨_, rfl, _, rfl, p, q, k, l, rfl, rfl, ep, eq, kk⟩
    rw [if_neg (ts_no z)] at kk
    refine ⟨_, rfl, rfl, _, rfl, ite2 (fun z => ?_) (fun z => ?_)⟩
    · rw [if_pos (ts_one z)] at kk
      exact ⟨_, rfl, _, rfl, p, q, k, l, rfl, rfl, ep, eq, kk⟩
    rw [if_neg (ts_no z)] at kk
    refine ⟨_, rfl, rfl, _, rfl, ite2 (fun z => ?_) (fun z => ?_)⟩
    · rw [if_pos (ts_one z)] at kk
      exact ⟨_, rfl, _, rfl, p, q, k, l, rfl, rfl, ep, eq, kk⟩
    rw [if_neg (ts_no z)] at kk
    exact ⟨_, rfl, _, rfl, p, q, k, l, rfl, rfl, ep, eq, kk⟩
end
def spCmp (K : PySem.W.Frag) (_ts : Tbs) : Sp := fun vs H Q _ => ∃ (v : V) (s : Str) (l r : SU.Tm) (n : Addr) (e : Ev), vs = [v, .ref n] ∧ Dp K H v (Cnd.cmp s l r).d ∧ NmA H n e ∧ e.Ok ∧ GT l ∧ GT r ∧ ∀ H', Same H H' → Q (.bl (cmpv e s l r)) H'
abbrev sp_comparison_holds := spCmp
section
variable {P : Program} {w : World} {K : PySem.W.Frag} {mg : Str → Option Value} {base : Heap} {d : Cd}
-- def comparison_holds: level 6, calls [('holds', 2), ('value', 5)], cells [], gens 0
theorem ok_comparison_holds (T : Txt K mg base d) (c_holds : Cal P w K mg base 2 "holds" (sp_holds K d.ts) []) (c_value : Cal P w K mg base 5 "value" (sp_value K d.ts) []) :
    Cal P w K mg base 6 "comparison_holds" (sp_comparison_holds K d.ts) [] := by
  obtain ⟨c, F⟩ := T.comparison_holds
  refine cal (ps := ["comparison", "names"]) F (fun _ _ _ _ _ _ us hl => match us, hl with | [_, _], _ => rfl) sc_comparison_holds (fun vs H Q E h => ?_) (fun f A outer s H vs Q E hr h => ?_)
  · obtain ⟨v, s, l, r, n, e, rfl, _⟩ := h; rfl
  · obtain ⟨v, s, l, r, n, e, rfl, hd, hn, eo, gl, gr, kk⟩ := h
    refine ⟨_, (pss_cons (ps_asg (pv 0) (pgtup (K := K) rfl rfl (pgs_cons (pg_name (i := 2) sc_comparison_holds.nd rfl (Or.inl rfl)) (pgs_cons (pg_name (i := 3) sc_comparison_holds.nd rfl (Or.inl rfl)) (pgs_cons (pg_name (i := 4) sc_comparison_holds.nd rfl (Or.inl rfl)) (pgs_cons (pg_name (i := 5) sc_comparison_holds.nd rfl (Or.inl rfl)) pgs_nil))))))
    (pss_cons (ps_set (i := 6) sc_comparison_holds.nd rfl (Or.inl rfl) (pe_c c_value hr (by decide) rfl (pa_cons (pv 4) (pa_cons (pv 1) pa_nil))))
    (pss_cons (ps_set (i := 7) sc_comparison_holds.nd rfl (Or.inl rfl) (pe_c c_value hr (by decide) rfl (pa_cons (pv 5) (pa_cons (pv 1) pa_nil))))
    (pss_cons (ps_if (PW.pt (pw_or (pt_cmpR op_isN (pv 6) pe_non (nomark _)) (pw_or1 (pt_cmpR op_isN (pv 7) pe_non (nomark _)))))
      (pss_one (ps_ret pe_bl))
      pss_nil)
    (pss_one (ps_ret (pe_c c_holds hr (by decide) rfl (pa_cons (pv 3) (pa_cons (pv 6) (pa_cons (pv 7) pa_nil)))))))))), ?_⟩
    obtain ⟨a, v1, v2, v3, v4, rfl, h0, h1, h2, h3, h4⟩ := dp_t4 (d1 := .str "compare") hd
    cases dp_str h1; cases dp_str h2
    refine ⟨_, rfl, a, _, rfl, h0, rfl, _, _, rfl, _, _, rfl, _, _, rfl, _, _, rfl, rfl, ?_⟩
    refine ⟨_, rfl, _, rfl, v3, l, n, e, rfl, h3, hn, eo, gl.1, gl.2, Nat.le_of_lt_succ gl.2, ?_⟩
    refine ⟨_, rfl, _, rfl, v4, r, n, e, rfl, h4, hn, eo, gr.1, gr.2, Nat.le_of_lt_succ gr.2, ?_⟩
    refine ⟨_, rfl, rfl, _, rfl, ite2 (fun z => ?_) (fun z => ?_)⟩
    · rw [oV_non, Option.isNone_iff_eq_none] at z
      rw [cmpv_l z] at kk
      exact iteT (kk H (Same.refl H))
    refine ⟨_, rfl, rfl, _, rfl, ite2 (fun z2 => ?_) (fun z2 => ?_)⟩
    · rw [oV_non, Option.isNone_iff_eq_none] at z2
      rw [cmpv_r z2] at kk
      exact kk H (Same.refl H)
    obtain ⟨k1, q1⟩ : ∃ k, tval e l = some k := Option.ne_none_iff_exists'.mp (fun q => z (by rw [oV_non, q]; rfl))
    obtain ⟨k2, q2⟩ : ∃ k, tval e r = some k := Option.ne_none_iff_exists'.mp (fun q => z2 (by rw [oV_non, q]; rfl))
    rw [cmpv_s q1 q2] at kk
    rw [q1, q2]
    exact ⟨_, rfl, _, rfl, _, rfl, s, k1, k2, rfl, tval_ks eo gl.1 q1, tval_ks eo gr.1 q2, kk⟩
end
end K05
set_option Elab.async false
set_option maxRecDepth 100000
set_option maxHeartbeats 4000000
namespace K05
open PySem L2 C8 GX LC LG LR SU LM
def spAi (K : PySem.W.Frag) (_ts : Tbs) : Sp := fun vs H Q _ => ∃ (v : V) (a : Atm) (n : Addr) (e : Ev) (u : V) (us : List Key), vs = [v, .ref n, u] ∧ Dp K H v a.d ∧ NmA H n e ∧ e.Ok ∧ GA a ∧ UnA K H u us ∧ ∀ v' H', Same H H' → (∀ M, Alv M H → DM M H' v' (instD a.nm (inst e us a))) → Q v' H'
abbrev sp_atom_instance := spAi
section
variable {P : Program} {w : World} {K : PySem.W.Frag} {mg : Str → Option Value} {base : Heap} {d : Cd}
-- def atom_instance: level 6, calls [('value', 5)], cells [], gens 0
theorem ok_atom_instance (T : Txt K mg base d) (c_value : Cal P w K mg base 5 "value" (sp_value K d.ts) []) :
    Cal P w K mg base 6 "atom_instance" (sp_atom_instance K d.ts) [] := by
  obtain ⟨c, F⟩ := T.atom_instance
  refine cal (ps := ["atom", "names", "universe"]) F (fun _ _ _ _ _ _ us hl => match us, hl with | [_, _, _], _ => rfl) sc_atom_instance (fun vs H Q E h => ?_) (fun f A outer s H vs Q E hr h => ?_)
  · obtain ⟨v, a, n, e, u, us, rfl, _⟩ := h; rfl
  · obtain ⟨v, a, n, e, u, us, rfl, hd, hn, eo, ga, hu, kk⟩ := h
    refine ⟨_, (pss_cons (ps_asg (pv 0) (pgtup (K := K) rfl rfl (pgs_cons (pg_name (i := 3) sc_atom_instance.nd rfl (Or.inl rfl)) (pgs_cons (pg_name (i := 4) sc_atom_instance.nd rfl (Or.inl rfl)) (pgs_cons (pg_name (i := 5) sc_atom_instance.nd rfl (Or.inl rfl)) pgs_nil)))))
    (pss_cons (ps_set (i := 6) sc_atom_instance.nd rfl (Or.inl rfl) (pe_lst pa_nil))
    (pss_cons (ps_for PassesOwn.never rfl (pil (K := K) rfl (pv 5)) (pg_name (i := 7) sc_atom_instance.nd rfl (Or.inl rfl))
      (pss_cons (ps_set (i := 8) sc_atom_instance.nd rfl (Or.inl rfl) (pe_c c_value hr (by decide) rfl (pa_cons (pv 7) (pa_cons (pv 1) pa_nil))))
      (pss_cons (ps_if (PW.pt (pw_or (pt_cmpR op_isN (pv 8) pe_non (nomark _)) (pw_or1 (pt_cmpR (opninA (K := K) rfl (u1 hr.units)) (pv 8) (pv 2) rfl))))
        (pss_one (ps_ret pe_non))
        pss_nil)
      (pss_one (ps_expr (pe_bm PySem.F.plainAttrs_list PySem.F.slot_list_append PySem.F.type_list_append mt_append (pv 6) (pa_cons (pv 8) pa_nil)))))))
    (pss_one (ps_ret (pe_tup (pa_cons (pv 4) (pa_cons (pe_callTy (ctuple (K := K) rfl) (by rfl) T.b_tuple (by decide +kernel) (pa_cons (pv 6) pa_nil)) pa_nil)))))))), ?_⟩
    obtain ⟨p, v1, v2, v3, rfl, h0, h1, h2, h3⟩ := dp_t3 hd
    cases dp_str h1; cases dp_str h2
    obtain ⟨l, xs, rfl, hl, len, hat⟩ := dp_lm h3
    refine ⟨_, rfl, p, _, rfl, h0, rfl, _, _, rfl, _, _, rfl, _, _, rfl, rfl, ?_⟩
    refine ⟨Nat.zero_le _, fun D hD => ?_⟩
    refine ⟨_, rfl, l, rfl, ⟨_, sqL_same (same_new hD) hl⟩, for_list (K := K) (a := l) (xs := xs) (fun i σ H' => Same H H' ∧ (a.ts.take i).all (okt e us) = true ∧ H' D = some (.lst (kVs ((a.ts.take i).flatMap (vlt e)))) ∧ ∃ x y, σ = [some (.ref p), some (.ref n), some u, some (.str "atom"), some (.str a.nm), some (.ref l), some (.ref D), x, y]) ⟨same_new hD, rfl, upd_same, none, none, rfl⟩ (fun i σ H' _ h => sqL_same h.1 hl) ?_ ?_⟩
    · rintro i x σ H1 hx ⟨s1, al, e1, x1, y1, rfl⟩
      obtain ⟨z, hz, hdx⟩ := hat hx
      have zm := List.mem_of_getElem? hz
      have gz := ga.2.2 z zm
      refine ⟨_, rfl, _, rfl, x, z, n, e, rfl, dp_same s1 hdx, hn.same s1, eo, gz.1, gz.2, Nat.le_of_lt_succ gz.2, ?_⟩
      have bad : okt e us z = false → Q .non H1 := fun h => kk .non H1 s1 fun M _ => by rw [inst_no zm h]; exact .non
      refine ⟨_, rfl, rfl, _, rfl, ite2 (fun c => ?_) (fun c => ?_)⟩
      · rw [oV_non, Option.isNone_iff_eq_none] at c
        exact iteT (bad (okt_none c))
      obtain ⟨k, ek⟩ : ∃ k, tval e z = some k := Option.ne_none_iff_exists'.mp (fun q => c (by rw [oV_non, q]; rfl))
      rw [ek]
      refine ⟨_, rfl, _, rfl, nin_un (hu.same s1) ⟨_, rfl, ite2 (fun c2 => ?_) (fun c2 => ?_)⟩⟩
      · exact bad (by rw [okt_some ek]; simpa using c2)
      · have km : k ∈ us := by simpa using c2
        refine ⟨_, rfl, .inl ⟨rfl, _, SqL.of e1⟩, _, rfl, D, _, _, rfl, rfl, e1, by rw [List.length_map]; exact vls_le i (Nat.le_trans ga.2.1 (by decide)), same_put s1 hD, all_next al hz (by rw [okt_some ek]; exact decide_eq_true km), ?_, _, _, rfl⟩
        rw [upd_same, flat_next hz, vlt_some ek, show kVs (((a.ts.take i).flatMap (vlt e)) ++ [k]) = kVs ((a.ts.take i).flatMap (vlt e)) ++ [kV k] from List.map_append]; rfl
    · rintro σ H1 ⟨s1, al, e1, x1, y1, rfl⟩
      rw [len, List.take_length] at al e1
      refine ⟨_, rfl, _, rfl, D, _, rfl, .inl ⟨SqL.of e1, fun q hq => ⟨two, fun t ht => ?_⟩⟩⟩
      refine kk _ _ ((s1.trans (same_new hq)).trans (same_new ht)) fun M hM => ?_
      rw [inst_yes al]
      refine .tup (hM.no (s1.trans (same_new hq)) ht) upd_same (.cons (.str _) (.cons (.tup (hM.no s1 hq) ((same_new ht) _ _ upd_same) (keys_dm _)) .nil))
end
def spCi (K : PySem.W.Frag) (_ts : Tbs) : Sp := fun vs H Q _ => ∃ (v : V) (cs : List Cnd) (n : Addr) (e : Ev) (u : V) (us : List Key), vs = [v, .ref n, u] ∧ Dp K H v (csD cs) ∧ NmA H n e ∧ e.Ok ∧ cs.length ≤ 1000 ∧ (∀ c ∈ cs, GC c) ∧ UnA K H u us ∧ ∀ v' H', Same H H' → Dp K H' v' (condD (condI e us cs)) → Q v' H'
abbrev sp_conditions_instance := spCi
section
variable {P : Program} {w : World} {K : PySem.W.Frag} {mg : Str → Option Value} {base : Heap} {d : Cd}
-- def conditions_instance: level 7, calls [('atom_instance', 6), ('comparison_holds', 6)], cells [], gens 0
theorem ok_conditions_instance (T : Txt K mg base d) (c_atom_instance : Cal P w K mg base 6 "atom_instance" (sp_atom_instance K d.ts) []) (c_comparison_holds : Cal P w K mg base 6 "comparison_holds" (sp_comparison_holds K d.ts) []) :
    Cal P w K mg base 7 "conditions_instance" (sp_conditions_instance K d.ts) [] := by
  obtain ⟨c, F⟩ := T.conditions_instance
  refine cal (ps := ["conditions", "names", "universe"]) F (fun _ _ _ _ _ _ us hl => match us, hl with | [_, _, _], _ => rfl) sc_conditions_instance (fun vs H Q E h => ?_) (fun f A outer s H vs Q E hr h => ?_)
  · obtain ⟨v, a, n, e, u, us, rfl, _⟩ := h; rfl
  · obtain ⟨v, cs, n, e, u, us, rfl, hd, hn, eo, lc, gc, hu, kk⟩ := h
    refine ⟨_, (pss_cons (ps_par (i := 3) (j := 4) rfl sc_conditions_instance.nd rfl rfl (by decide) (by rfl) (by rfl) (pa_cons (pe_lst pa_nil) (pa_cons (pe_lst pa_nil) pa_nil)) (by rfl))
    (pss_cons (ps_for PassesOwn.never rfl (pil (K := K) rfl (pv 0)) (pg_name (i := 5) sc_conditions_instance.nd rfl (Or.inl rfl))
      (pss_one (ps_if (pt_cmpR op_eq (pe_ix (ixt (K := K) rfl) (pv 5) pe_int (fun _ _ => rfl)) pe_str (nomark _))
        (pss_one (ps_if (pt_not (pt_val (pe_c c_comparison_holds hr (by decide) rfl (pa_cons (pv 5) (pa_cons (pv 1) pa_nil)))))
          (pss_one (ps_ret pe_non))
          pss_nil))
        (pss_cons (ps_set (i := 6) sc_conditions_instance.nd rfl (Or.inl rfl) (pe_c c_atom_instance hr (by decide) rfl (pa_cons (pe_ix (ixt (K := K) rfl) (pv 5) pe_int (fun _ _ => rfl)) (pa_cons (pv 1) (pa_cons (pv 2) pa_nil)))))
        (pss_cons (ps_if (pt_cmpR op_isN (pv 6) pe_non (nomark _))
          (pss_one (ps_ret pe_non))
          pss_nil)
        (pss_one (ps_if (pt_cmpR op_eq (pe_ix (ixt (K := K) rfl) (pv 5) pe_int (fun _ _ => rfl)) pe_str (nomark _))
          (pss_one (ps_expr (pe_bm PySem.F.plainAttrs_list PySem.F.slot_list_append PySem.F.type_list_append mt_append (pv 3) (pa_cons (pv 6) pa_nil))))
          (pss_one (ps_expr (pe_bm PySem.F.plainAttrs_list PySem.F.slot_list_append PySem.F.type_list_append mt_append (pv 4) (pa_cons (pv 6) pa_nil)))))))))))
    (pss_one (ps_ret (pe_tup (pa_cons (pe_callTy (ctuple (K := K) rfl) (by rfl) T.b_tuple (by decide +kernel) (pa_cons (pv 3) pa_nil)) (pa_cons (pe_callTy (ctuple (K := K) rfl) (by rfl) T.b_tuple (by decide +kernel) (pa_cons (pv 4) pa_nil)) pa_nil))))))), ?_⟩
    obtain ⟨l, xs, rfl, hl, len, hat⟩ := dp_lm hd
    refine ⟨Nat.zero_le _, fun Y hY => ⟨Nat.zero_le _, fun N hN => ⟨_, _, rfl, ?_⟩⟩⟩
    have hNH : H N = none := (same_new hY).free hN
    have hNY : N ≠ Y := fun z => by rw [z, upd_same] at hN; cases hN
    have s0 : Same H (upd (upd H Y (.lst [])) N (.lst [])) := (same_new hY).trans (same_new hN)
    have eY0 : upd (upd H Y (.lst [])) N (.lst []) Y = some (.lst []) := (same_new hN) _ _ upd_same
    have eN0 : upd (upd H Y (.lst [])) N (.lst []) N = some (.lst []) := upd_same
    generalize upd (upd H Y (.lst [])) N (.lst []) = H0 at s0 eY0 eN0 ⊢
    refine ⟨_, rfl, l, rfl, ⟨_, sqL_same s0 hl⟩, for_list (K := K) (a := l) (xs := xs) (fun i σ H' => Same H H' ∧ (cs.take i).all (fun c => (one e us c).isSome) = true ∧ (∃ ys ns, H' Y = some (.lst ys) ∧ H' N = some (.lst ns) ∧ DMs (fun b => b = Y ∨ b = N) H' ys (((cs.take i).flatMap (oneY e us)).map p2D) ∧ DMs (fun b => b = Y ∨ b = N) H' ns (((cs.take i).flatMap (oneN e us)).map p2D)) ∧ ∃ x y, σ = [some (.ref l), some (.ref n), some u, some (.ref Y), some (.ref N), x, y]) ⟨s0, rfl, ⟨[], [], eY0, eN0, .nil, .nil⟩, none, none, rfl⟩ (fun i σ H' _ h => sqL_same h.1 hl) ?_ ?_⟩
    · rintro i x σ H1 hx ⟨s1, al, ⟨ys, ns, eY, eN, dY, dN⟩, x1, y1, rfl⟩
      obtain ⟨c, hz, hdx⟩ := hat hx
      have cm := List.mem_of_getElem? hz
      have gz := gc c cm
      have hdx1 := dp_same s1 hdx
      have bad : ∀ H2, Same H H2 → one e us c = none → Q .non H2 := fun H2 s2 h => kk .non H2 s2 (by rw [cond_no cm h]; exact .non)
      have AL : Alv (fun b => b = Y ∨ b = N) H1 := by
        rintro b (rfl | rfl)
        · rw [eY]; exact fun z => nomatch z
        · rw [eN]; exact fun z => nomatch z
      have lY := (ones_le (e := e) (us := us) i lc).1
      have lN := (ones_le (e := e) (us := us) i lc).2
      have nY : ys.length = ((cs.take i).flatMap (oneY e us)).length := by rw [dms_len dY, List.length_map]
      have nN : ns.length = ((cs.take i).flatMap (oneN e us)).length := by rw [dms_len dN, List.length_map]
      cases c with
      | cmp sg tl tr =>
        obtain ⟨p, v1, v2, v3, v4, rfl, h0, h1, h2, h3, h4⟩ := dp_t4 (d1 := .str "compare") hdx1
        cases dp_str h1
        refine ⟨_, rfl, p, _, 0, _, rfl, rfl, h0, at0, rfl, _, rfl, iteT ⟨_, rfl, _, rfl, _, sg, tl, tr, n, e, rfl, hdx1, hn.same s1, eo, gz.2.1, gz.2.2, fun H2 s2 => ⟨_, rfl, ite2 (fun c2 => ?_) (fun c2 => ?_)⟩⟩⟩
        · refine bad H2 (s1.trans s2) ?_
          have : cmpv e sg tl tr = false := by simpa using c2
          simp [one, this]
        · have cv : cmpv e sg tl tr = true := by simpa using c2
          have o1 : one e us (.cmp sg tl tr) = some ([], []) := by simp [one, cv]
          refine ⟨s1.trans s2, all_next al hz (by rw [o1]; rfl), ⟨ys, ns, s2 _ _ eY, s2 _ _ eN, ?_, ?_⟩, _, _, rfl⟩
          · rw [flat_next hz, show oneY e us (.cmp sg tl tr) = [] from by unfold oneY; rw [o1]; rfl, List.append_nil]; exact dY.kx (kx_same s2)
          · rw [flat_next hz, show oneN e us (.cmp sg tl tr) = [] from by unfold oneN; rw [o1]; rfl, List.append_nil]; exact dN.kx (kx_same s2)
      | yes a =>
        obtain ⟨p, v1, v2, rfl, h0, h1, h2⟩ := dp_t2 (d1 := .str "yes") hdx1
        cases dp_str h1
        refine ⟨_, rfl, p, _, 0, _, rfl, rfl, h0, at0, rfl, _, rfl, iteF ⟨_, rfl, p, _, 1, _, rfl, rfl, h0, at1, _, rfl, _, rfl, v2, a, n, e, u, us, rfl, h2, hn.same s1, eo, gz, hu.same s1, fun v3 H2 s2 dm => ?_⟩⟩
        have dm := dm _ AL
        cases hi : inst e us a with
        | none =>
          rw [hi] at dm
          cases dm
          exact ⟨_, rfl, rfl, _, rfl, iteT (bad H2 (s1.trans s2) (by simp [one, hi]))⟩
        | some ks =>
          rw [hi] at dm
          obtain ⟨t, xs2, rfl, nt, et, _⟩ := dm_tup (ds := [.str a.nm, .tuple (ks.map keyD)]) dm
          have o1 : one e us (.yes a) = some ([(a.nm, ks)], []) := by simp [one, hi]
          have h02 := sqT_same s2 h0
          have eY2 := s2 _ _ eY
          refine ⟨_, rfl, rfl, _, rfl, iteF ⟨_, rfl, p, _, 0, _, rfl, rfl, h02, at0, rfl, _, rfl, iteT ⟨_, rfl, .inl ⟨rfl, _, SqL.of eY2⟩, _, rfl, Y, _, _, rfl, rfl, eY2, by rw [nY]; exact lY, same_put (s1.trans s2) hY, all_next al hz (by rw [o1]; rfl), ⟨_, ns, upd_same, by rw [upd_ne hNY]; exact s2 _ _ eN, ?_, ?_⟩, _, _, rfl⟩⟩⟩
          · rw [flat_next hz, show oneY e us (.yes a) = [(a.nm, ks)] from by unfold oneY; rw [o1]; rfl, List.map_append]
            exact dms_app ((dY.kx (kx_same s2)).kx (Kx.put (.inl rfl))) (.cons (dm.kx (Kx.put (.inl rfl))) .nil)
          · rw [flat_next hz, show oneN e us (.yes a) = [] from by unfold oneN; rw [o1]; rfl, List.append_nil]; exact (dN.kx (kx_same s2)).kx (Kx.put (.inl rfl))
      | no a =>
        obtain ⟨p, v1, v2, rfl, h0, h1, h2⟩ := dp_t2 (d1 := .str "no") hdx1
        cases dp_str h1
        refine ⟨_, rfl, p, _, 0, _, rfl, rfl, h0, at0, rfl, _, rfl, iteF ⟨_, rfl, p, _, 1, _, rfl, rfl, h0, at1, _, rfl, _, rfl, v2, a, n, e, u, us, rfl, h2, hn.same s1, eo, gz, hu.same s1, fun v3 H2 s2 dm => ?_⟩⟩
        have dm := dm _ AL
        cases hi : inst e us a with
        | none =>
          rw [hi] at dm
          cases dm
          exact ⟨_, rfl, rfl, _, rfl, iteT (bad H2 (s1.trans s2) (by simp [one, hi]))⟩
        | some ks =>
          rw [hi] at dm
          obtain ⟨t, xs2, rfl, nt, et, _⟩ := dm_tup (ds := [.str a.nm, .tuple (ks.map keyD)]) dm
          have o1 : one e us (.no a) = some ([], [(a.nm, ks)]) := by simp [one, hi]
          have h02 := sqT_same s2 h0
          have eN2 := s2 _ _ eN
          refine ⟨_, rfl, rfl, _, rfl, iteF ⟨_, rfl, p, _, 0, _, rfl, rfl, h02, at0, rfl, _, rfl, iteF ⟨_, rfl, .inl ⟨rfl, _, SqL.of eN2⟩, _, rfl, N, _, _, rfl, rfl, eN2, by rw [nN]; exact lN, same_put (s1.trans s2) hNH, all_next al hz (by rw [o1]; rfl), ⟨ys, _, by rw [upd_ne (Ne.symm hNY)]; exact s2 _ _ eY, upd_same, ?_, ?_⟩, _, _, rfl⟩⟩⟩
          · rw [flat_next hz, show oneY e us (.no a) = [] from by unfold oneY; rw [o1]; rfl, List.append_nil]; exact (dY.kx (kx_same s2)).kx (Kx.put (.inr rfl))
          · rw [flat_next hz, show oneN e us (.no a) = [(a.nm, ks)] from by unfold oneN; rw [o1]; rfl, List.map_append]
            exact dms_app ((dN.kx (kx_same s2)).kx (Kx.put (.inr rfl))) (.cons (dm.kx (Kx.put (.inr rfl))) .nil)
    · rintro σ H1 ⟨s1, al, ⟨ys, ns, eY, eN, dY, dN⟩, x1, y1, rfl⟩
      rw [len, List.take_length] at al dY dN
      refine ⟨_, rfl, Y, _, rfl, .inl ⟨SqL.of eY, fun q hq => ⟨_, rfl, N, _, rfl, .inl ⟨SqL.of ((same_new hq) _ _ eN), fun r hr => ⟨two, fun t ht => ?_⟩⟩⟩⟩⟩
      have s2 := ((same_new (o := .tup ys) hq).trans (same_new (o := .tup ns) hr)).trans (same_new (o := .tup [.ref q, .ref r]) ht)
      refine kk _ _ (s1.trans s2) ?_
      rw [cond_yes al]
      exact .tup (SqT.of upd_same) (.cons (.tup (SqT.of (((same_new hr).trans (same_new ht)) _ _ upd_same)) (dY.kx (kx_same s2)).dp) (.cons (.tup (SqT.of ((same_new ht) _ _ upd_same)) (dN.kx (kx_same s2)).dp) .nil))
end
end K05
set_option Elab.async false
set_option maxRecDepth 100000
set_option maxHeartbeats 4000000
namespace K05
open PySem L2 C8 GX LC LG LR SU LM
def spSub (K : PySem.W.Frag) (_ts : Tbs) : Sp := fun vs H Q _ => ∃ (n w : Addr) (u : V) (e : Ev) (ws : List Str) (us : List Key), vs = [.ref n, .ref w, u] ∧ NmA H n e ∧ SqL K H w (sVs ws) ∧ ws.length ≤ 3 ∧ UnA K H u us ∧ us.length ≤ 5 ∧ ∀ r ds H', Same H H' → H' r = some (.lst ds) → Rows H' ds (exts us e.ps ws) → Q (.ref r) H'
abbrev sp_substitutions := spSub
section
variable {P : Program} {w : World} {K : PySem.W.Frag} {mg : Str → Option Value} {base : Heap} {d : Cd}
theorem sq_off {H : Hp} {a d : Addr} {xs : List V} {kvs : List (Key × V)} {o : HO} (h : SqL K H a xs) (e : H d = some (.dK kvs)) : SqL K (upd H d o) a xs := by
  have off : ∀ u : HO, u ≠ .dK kvs → H a = some u → upd H d o a = some u := fun u hu q => by
    have : a ≠ d := fun z => by rw [z, e] at q; exact hu (Option.some.inj q).symm
    rw [upd_ne this]; exact q
  rcases h with (h | ⟨ob, h⟩) | h
  · exact .inl (.inl (off _ (fun z => nomatch z) h))
  · exact .inl (.inr ⟨ob, off _ (fun z => nomatch z) h⟩)
  · exact .inr h
theorem ok_substitutions (T : Txt K mg base d) : Cal P w K mg base 1 "substitutions" (sp_substitutions K d.ts) [] := by
  obtain ⟨c, F⟩ := T.substitutions
  refine cal (ps := ["names", "wanted", "universe"]) F (fun _ _ _ _ _ _ us hl => match us, hl with | [_, _, _], _ => rfl) sc_substitutions (fun vs H Q E h => ?_) (fun f A outer s H vs Q E hr h => ?_)
  · obtain ⟨n, w, u, e, ws, us, rfl, _⟩ := h; rfl
  obtain ⟨n, wa, u, e, ws, us, rfl, hn, hw, lw, ⟨ua, rfl, hul⟩, lu, kk⟩ := h
  rcases hul with hul | ⟨kvs, hul, hkeys⟩
  · refine ⟨_, (pss_cons (ps_set (i := 3) sc_substitutions.nd rfl (Or.inl rfl) (pe_lst (pa_cons (pe_callTy call_dictD (by rfl) T.b_dict (by decide +kernel) (pa_cons (pv 0) pa_nil)) pa_nil)))
    (pss_cons (ps_for PassesOwn.never rfl (pil (K := K) rfl (pv 1)) (pg_name (i := 4) sc_substitutions.nd rfl (Or.inr rfl))
      (pss_one (ps_setLc2 (i := 3) (own := [("known", 5), ("constant", 6)]) (vs1 := [6]) rfl sc_substitutions.nd rfl rfl (sw_true rfl rfl rfl (by decide +kernel)) (pil (K := K) rfl (pv 3)) (blkOk_by (N := N_substitutions) (sc := fnScope s_substitutions) (by decide +kernel)) (by decide) (fun _ _ _ _ _ => (pg_name (i := 5) sc_substitutions.nd rfl (Or.inl rfl))) (fun _ _ _ _ _ => pts_nil) (fun _ _ _ _ _ => (pil (K := K) rfl (pv 2))) (fun _ _ _ _ _ => (pg_name (i := 6) sc_substitutions.nd rfl (Or.inl rfl))) (fun _ _ _ _ _ => pts_nil) (fun _ _ _ _ _ => (pe_more (pv 5) (pv 4) (pv 6))))))
    (pss_one (ps_ret (pv 3))))), ?_⟩
    refine ⟨_, rfl, n, _, rfl, .inl hn, fun q hq => ⟨Nat.le_of_lt two, fun F0 hF0 => ?_⟩⟩
    have s0 : Same H (upd (upd H q (.dK (e.ps.map prV))) F0 (.lst [.ref q])) := (same_new hq).trans (same_new hF0)
    have eq0 : upd (upd H q (.dK (e.ps.map prV))) F0 (.lst [.ref q]) q = some (.dK (e.ps.map prV)) := (same_new hF0) _ _ upd_same
    have eF0 : upd (upd H q (.dK (e.ps.map prV))) F0 (.lst [.ref q]) F0 = some (.lst [.ref q]) := upd_same
    generalize upd (upd H q (.dK (e.ps.map prV))) F0 (.lst [.ref q]) = H0 at s0 eq0 eF0 ⊢
    refine ⟨_, rfl, wa, rfl, ⟨_, sqL_same s0 hw⟩, for_list (K := K) (a := wa) (xs := sVs ws) (fun i σ H' => Same H H' ∧ ∃ F vs, H' F = some (.lst vs) ∧ Rows H' vs (exts us e.ps (ws.take i)) ∧ ∃ x, σ = [some (.ref n), some (.ref wa), some (.ref ua), some (.ref F), x, none, none]) ⟨s0, F0, [.ref q], eF0, .cons ⟨q, rfl, eq0⟩ .nil, none, rfl⟩ (fun i σ H' _ h => sqL_same h.1 hw) ?_ ?_⟩
    · rintro i x0 σ H1 hx ⟨s1, F, vs, eF, rF, x1, rfl⟩
      rw [List.getElem?_map] at hx
      obtain ⟨x, hxw, rfl⟩ := Option.map_eq_some_iff.mp hx
      have hi : i < ws.length := (List.getElem?_eq_some_iff.mp hxw).1
      have few : Few i (exts us e.ps (ws.take i)) := by have := few_exts e (ws.take i) lu; rw [List.length_take, Nat.min_eq_left (Nat.le_of_lt hi)] at this; exact this
      refine ⟨_, rfl, F, rfl, ⟨_, SqL.of eF⟩, fun D hD => ?_⟩
      refine it_turns (walk_list (K := K) (a := F) (xs := vs)) (fun j H2 => Same H1 H2 ∧ ∃ ys, H2 D = some (.lst ys) ∧ Rows H2 ys (((exts us e.ps (ws.take i)).take j).flatMap (ext1 us x))) ⟨same_new hD, [], upd_same, .nil⟩ (fun j H2 _ h => SqL.of (h.1 _ _ eF)) (fun j y H2 H2' hj P yw => ?_) (fun H2 P => ?_)
      · obtain ⟨s2, ys, e2, r2⟩ := P
        obtain ⟨rfl, hyv⟩ := yw
        obtain ⟨r, ra, hr, rfl, era⟩ := Rows.at rF hyv
        refine ⟨rfl, _, rfl, ua, rfl, ⟨_, sqL_same (s1.trans s2) hul⟩, ?_⟩
        refine it_turns (walk_list (K := K) (a := ua) (xs := kVs us)) (fun j2 H3 => Same H1 H3 ∧ ∃ ys, H3 D = some (.lst ys) ∧ Rows H3 ys (((exts us e.ps (ws.take i)).take j).flatMap (ext1 us x) ++ (us.take j2).map fun k => putP r (.inr x) k)) ⟨s2, ys, e2, by simpa using r2⟩ (fun _ H3 _ h => sqL_same (s1.trans h.1) hul) (fun j2 y3 H3' H3 hj2 P3 yy => ?_) (fun H3 P3 => ?_)
        · obtain ⟨s3, ys3, e3, r3⟩ := P3
          obtain ⟨rfl, hy⟩ := yy
          rw [List.getElem?_map] at hy
          obtain ⟨k, hk, rfl⟩ := Option.map_eq_some_iff.mp hy
          refine ⟨rfl, fun dd hd => ?_⟩
          have era3 := s3 _ _ era
          have n1 : ra ≠ dd := fun z => by rw [z, hd] at era3; cases era3
          refine ⟨_, rfl, ra, r.map prV, rfl, n1, .inl (by rw [upd_ne n1]; exact era3), upd_same, row_line few (by omega) hr, fun p hp => ?_⟩
          have n2 : p ≠ dd := fun z => by rw [z, upd_same] at hp; cases hp
          have hp3 : H3 p = none := by rw [upd_ne n2, upd_ne n2] at hp; exact hp
          refine ⟨_, rfl, _, rfl, upd_same, by rw [upd_ne (Ne.symm n2), upd_same], .inr x, kV k, rfl, ?_⟩
          have sy : Same H3 (upd (upd (upd (upd (upd H3 dd (.dK [])) dd (.dK (r.map prV))) p (.dK [])) p (.dK [(.inr x, kV k)])) dd (.dK (putK (r.map prV) (.inr x) (kV k)))) := same_put (same_put (same_put (same_put (same_new hd) hd) hp3) hp3) hd
          have ed : upd (upd (upd (upd (upd H3 dd (.dK [])) dd (.dK (r.map prV))) p (.dK [])) p (.dK [(.inr x, kV k)])) dd (.dK (putK (r.map prV) (.inr x) (kV k))) dd = some (.dK ((putP r (.inr x) k).map prV)) := by rw [upd_same, putP_v]
          generalize upd (upd (upd (upd (upd H3 dd (.dK [])) dd (.dK (r.map prV))) p (.dK [])) p (.dK [(.inr x, kV k)])) dd (.dK (putK (r.map prV) (.inr x) (kV k))) = H4 at sy ed ⊢
          have e4 := sy _ _ e3
          have n3 : dd ≠ D := fun z => by rw [z, e4] at ed; cases ed
          refine ⟨ys3, e4, by rw [r3.len]; exact rows_line few (by omega) lu j j2, same_put (s3.trans sy) hD, _, upd_same, ?_⟩
          rw [take_map_next hk, ← List.append_assoc]
          exact Rows.snoc (r3.keep ((Same.keepD sy).trans (KeepD.lst e4))) ⟨dd, rfl, by rw [upd_ne n3]; exact ed⟩
        · obtain ⟨s3, ys3, e3, r3⟩ := P3
          rw [List.length_map] at r3
          rw [List.take_length] at r3
          refine ⟨s3, ys3, e3, ?_⟩
          rw [flat_next hr]; exact r3
      · obtain ⟨s2, ys, e2, r2⟩ := P
        rw [rF.len, List.take_length, ← exts_next hxw] at r2
        exact ⟨s1.trans s2, D, ys, e2, r2, _, rfl⟩
    · rintro σ H1 ⟨s1, F, vs, eF, rF, x1, rfl⟩
      rw [List.length_map, List.take_length] at rF
      exact ⟨_, rfl, kk F vs H1 s1 eF rF⟩
  · refine ⟨_, (pss_cons (ps_set (i := 3) sc_substitutions.nd rfl (Or.inl rfl) (pe_lst (pa_cons (pe_callTy call_dictD (by rfl) T.b_dict (by decide +kernel) (pa_cons (pv 0) pa_nil)) pa_nil)))
    (pss_cons (ps_lock (ps_for PassesOwn.never rfl (pil (K := K) rfl (pv 1)) (pg_name (i := 4) sc_substitutions.nd rfl (Or.inr rfl))
      (pss_one (ps_setLc2 (i := 3) (own := [("known", 5), ("constant", 6)]) (vs1 := [6]) rfl sc_substitutions.nd rfl rfl (sw_true rfl rfl rfl (by decide +kernel)) (pil (K := K) rfl (pv 3)) (blkOk_by (N := N_substitutions) (sc := fnScope s_substitutions) (by decide +kernel)) (by decide) (fun _ _ _ _ _ => (pg_name (i := 5) sc_substitutions.nd rfl (Or.inl rfl))) (fun _ _ _ _ _ => pts_nil) (fun _ _ _ _ _ => (pi_keys (pv 2))) (fun _ _ _ _ _ => (pg_name (i := 6) sc_substitutions.nd rfl (Or.inl rfl))) (fun _ _ _ _ _ => pts_nil) (fun _ _ _ _ _ => (pe_more (pv 5) (pv 4) (pv 6)))))))
    (pss_one (ps_ret (pv 3))))), ?_⟩
    refine ⟨_, rfl, n, _, rfl, .inl hn, fun q hq => ⟨Nat.le_of_lt two, fun F0 hF0 => ?_⟩⟩
    have s0 : Same H (upd (upd H q (.dK (e.ps.map prV))) F0 (.lst [.ref q])) := (same_new hq).trans (same_new hF0)
    have eq0 : upd (upd H q (.dK (e.ps.map prV))) F0 (.lst [.ref q]) q = some (.dK (e.ps.map prV)) := (same_new hF0) _ _ upd_same
    have eF0 : upd (upd H q (.dK (e.ps.map prV))) F0 (.lst [.ref q]) F0 = some (.lst [.ref q]) := upd_same
    have nq : q ≠ ua := fun z => by rw [z] at hq; rw [hul] at hq; cases hq
    generalize upd (upd H q (.dK (e.ps.map prV))) F0 (.lst [.ref q]) = H00 at s0 eq0 eF0 ⊢
    have hu0 := s0 _ _ hul
    refine ⟨ua, .dK kvs, hu0, True.intro, fun od => ?_⟩
    have nF : F0 ≠ ua := fun z => by rw [z, hu0] at eF0; cases eF0
    have hw0 : SqL K (upd H00 ua (.frz od (.dK kvs))) wa (sVs ws) := sq_off (sqL_same s0 hw) hu0
    have el : upd H00 ua (.frz od (.dK kvs)) ua = some (.frz od (.dK kvs)) := upd_same
    have eq1 : upd H00 ua (.frz od (.dK kvs)) q = some (.dK (e.ps.map prV)) := by rw [upd_ne nq]; exact eq0
    have eF1 : upd H00 ua (.frz od (.dK kvs)) F0 = some (.lst [.ref q]) := by rw [upd_ne nF]; exact eF0
    have back : ∀ H', Same (upd H00 ua (.frz od (.dK kvs))) H' → Same H (upd H' ua (.dK kvs)) := fun H' s b o hb => by
      by_cases z : b = ua
      · rw [z] at hb ⊢; rw [hul] at hb; cases hb; exact upd_same
      · rw [upd_ne z]; exact s _ _ (by rw [upd_ne z]; exact s0 _ _ hb)
    generalize upd H00 ua (.frz od (.dK kvs)) = H0 at hw0 el eq1 eF1 back ⊢
    refine ⟨_, rfl, wa, rfl, ⟨_, hw0⟩, for_list (K := K) (a := wa) (xs := sVs ws) (fun i σ H' => Same H0 H' ∧ ∃ F vs, H' F = some (.lst vs) ∧ Rows H' vs (exts us e.ps (ws.take i)) ∧ ∃ x, σ = [some (.ref n), some (.ref wa), some (.ref ua), some (.ref F), x, none, none]) ⟨Same.refl H0, F0, [.ref q], eF1, .cons ⟨q, rfl, eq1⟩ .nil, none, rfl⟩ (fun i σ H' _ h => sqL_same h.1 hw0) ?_ ?_⟩
    · rintro i x0 σ H1 hx ⟨s1, F, vs, eF, rF, x1, rfl⟩
      rw [List.getElem?_map] at hx
      obtain ⟨x, hxw, rfl⟩ := Option.map_eq_some_iff.mp hx
      have hi : i < ws.length := (List.getElem?_eq_some_iff.mp hxw).1
      have few : Few i (exts us e.ps (ws.take i)) := by have := few_exts e (ws.take i) lu; rw [List.length_take, Nat.min_eq_left (Nat.le_of_lt hi)] at this; exact this
      refine ⟨_, rfl, F, rfl, ⟨_, SqL.of eF⟩, fun D hD => ?_⟩
      refine it_turns (walk_list (K := K) (a := F) (xs := vs)) (fun j H2 => Same H1 H2 ∧ ∃ ys, H2 D = some (.lst ys) ∧ Rows H2 ys (((exts us e.ps (ws.take i)).take j).flatMap (ext1 us x))) ⟨same_new hD, [], upd_same, .nil⟩ (fun j H2 _ h => SqL.of (h.1 _ _ eF)) (fun j y H2 H2' hj P yw => ?_) (fun H2 P => ?_)
      · obtain ⟨s2, ys, e2, r2⟩ := P
        obtain ⟨rfl, hyv⟩ := yw
        obtain ⟨r, ra, hr, rfl, era⟩ := Rows.at rF hyv
        refine ⟨rfl, _, rfl, ua, od, rfl, .inl ⟨kvs, (s1.trans s2) _ _ el, ?_⟩⟩
        refine it_turns (walk_keys (d := ua) (o := od) (kvs := kvs)) (fun j2 H3 => Same H1 H3 ∧ ∃ ys, H3 D = some (.lst ys) ∧ Rows H3 ys (((exts us e.ps (ws.take i)).take j).flatMap (ext1 us x) ++ (us.take j2).map fun k => putP r (.inr x) k)) ⟨s2, ys, e2, by simpa using r2⟩ (fun _ H3 _ h => (s1.trans h.1) _ _ el) (fun j2 y3 H3' H3 hj2 P3 yy => ?_) (fun H3 P3 => ?_)
        · obtain ⟨s3, ys3, e3, r3⟩ := P3
          obtain ⟨rfl, k, v0, hk0, rfl⟩ := yy
          have hk : us[j2]? = some k := by rw [← hkeys, List.getElem?_map, hk0]; rfl
          refine ⟨rfl, fun dd hd => ?_⟩
          have era3 := s3 _ _ era
          have n1 : ra ≠ dd := fun z => by rw [z, hd] at era3; cases era3
          refine ⟨_, rfl, ra, r.map prV, rfl, n1, .inl (by rw [upd_ne n1]; exact era3), upd_same, row_line few (by omega) hr, fun p hp => ?_⟩
          have n2 : p ≠ dd := fun z => by rw [z, upd_same] at hp; cases hp
          have hp3 : H3 p = none := by rw [upd_ne n2, upd_ne n2] at hp; exact hp
          refine ⟨_, rfl, _, rfl, upd_same, by rw [upd_ne (Ne.symm n2), upd_same], .inr x, kV k, rfl, ?_⟩
          have sy : Same H3 (upd (upd (upd (upd (upd H3 dd (.dK [])) dd (.dK (r.map prV))) p (.dK [])) p (.dK [(.inr x, kV k)])) dd (.dK (putK (r.map prV) (.inr x) (kV k)))) := same_put (same_put (same_put (same_put (same_new hd) hd) hp3) hp3) hd
          have ed : upd (upd (upd (upd (upd H3 dd (.dK [])) dd (.dK (r.map prV))) p (.dK [])) p (.dK [(.inr x, kV k)])) dd (.dK (putK (r.map prV) (.inr x) (kV k))) dd = some (.dK ((putP r (.inr x) k).map prV)) := by rw [upd_same, putP_v]
          generalize upd (upd (upd (upd (upd H3 dd (.dK [])) dd (.dK (r.map prV))) p (.dK [])) p (.dK [(.inr x, kV k)])) dd (.dK (putK (r.map prV) (.inr x) (kV k))) = H4 at sy ed ⊢
          have e4 := sy _ _ e3
          have n3 : dd ≠ D := fun z => by rw [z, e4] at ed; cases ed
          refine ⟨ys3, e4, by rw [r3.len]; exact rows_line few (by omega) lu j j2, same_put (s3.trans sy) hD, _, upd_same, ?_⟩
          rw [take_map_next hk, ← List.append_assoc]
          exact Rows.snoc (r3.keep ((Same.keepD sy).trans (KeepD.lst e4))) ⟨dd, rfl, by rw [upd_ne n3]; exact ed⟩
        · obtain ⟨s3, ys3, e3, r3⟩ := P3
          rw [show kvs.length = us.length from by rw [← hkeys, List.length_map]] at r3
          rw [List.take_length] at r3
          refine ⟨s3, ys3, e3, ?_⟩
          rw [flat_next hr]; exact r3
      · obtain ⟨s2, ys, e2, r2⟩ := P
        rw [rF.len, List.take_length, ← exts_next hxw] at r2
        exact ⟨s1.trans s2, D, ys, e2, r2, _, rfl⟩
    · rintro σ H1 ⟨s1, F, vs, eF, rF, x1, rfl⟩
      rw [List.length_map, List.take_length] at rF
      have e1 := s1 _ _ el
      have nF1 : F ≠ ua := fun z => by rw [z, e1] at eF; cases eF
      refine ⟨e1, _, rfl, kk F vs _ (back H1 s1) (by rw [upd_ne nF1]; exact eF) (rF.keep fun b kvs' hb => ?_)⟩
      have : b ≠ ua := fun z => by rw [z, e1] at hb; cases hb
      rw [upd_ne this]; exact hb
end
end K05
set_option Elab.async false
set_option maxRecDepth 100000
set_option maxHeartbeats 4000000
namespace K05
open PySem L2 C8 GX LC LG LR SU LM
def spExt (K : PySem.W.Frag) (_ts : Tbs) : Sp := fun vs H Q _ => ∃ (n w ua : Addr) (e : Ev) (ws : List Str) (us : List Key), vs = [.ref n, .ref w, .ref ua] ∧ NmA H n e ∧ SqL K H w (sVs ws) ∧ ws.length ≤ 3 ∧ SqL K H ua (kVs us) ∧ us.length ≤ 5 ∧ ∀ r ds H', Same H H' → H' r = some (.lst ds) → Rows H' ds (exts us e.ps ws) → Q (.ref r) H'
abbrev sp__law_extended := spExt
section
variable {P : Program} {w : World} {K : PySem.W.Frag} {mg : Str → Option Value} {base : Heap} {d : Cd}
-- def _law_extended: level 1, calls [], cells [], gens 0
theorem ok__law_extended (T : Txt K mg base d) :
    Cal P w K mg base 1 "_law_extended" (sp__law_extended K d.ts) [] := by
  obtain ⟨c, F⟩ := T._law_extended
  refine cal (ps := ["names", "wanted", "universe"]) F (fun _ _ _ _ _ _ us hl => match us, hl with | [_, _, _], _ => rfl) sc__law_extended (fun vs H Q E h => ?_) (fun f A outer s H vs Q E hr h => ?_)
  · obtain ⟨n, w, u, e, ws, us, rfl, _⟩ := h; rfl
  · obtain ⟨n, wa, ua, e, ws, us, rfl, hn, hw, lw, hul, lu, kk⟩ := h
    refine ⟨_, (pss_cons (ps_set (i := 3) sc__law_extended.nd rfl (Or.inl rfl) (pe_lst (pa_cons (pe_callTy call_dictD (by rfl) T.b_dict (by decide +kernel) (pa_cons (pv 0) pa_nil)) pa_nil)))
    (pss_cons (ps_for PassesOwn.never rfl (pil (K := K) rfl (pv 1)) (pg_name (i := 4) sc__law_extended.nd rfl (Or.inl rfl))
      (pss_cons (ps_set (i := 5) sc__law_extended.nd rfl (Or.inl rfl) (pe_lst pa_nil))
      (pss_cons (ps_for PassesOwn.never rfl (pil (K := K) rfl (pv 3)) (pg_name (i := 6) sc__law_extended.nd rfl (Or.inl rfl))
        (pss_one (ps_for PassesOwn.never rfl (pil (K := K) rfl (pv 2)) (pg_name (i := 7) sc__law_extended.nd rfl (Or.inl rfl))
          (pss_cons (ps_set (i := 8) sc__law_extended.nd rfl (Or.inl rfl) (pe_callTy call_dictD (by rfl) T.b_dict (by decide +kernel) (pa_cons (pv 6) pa_nil)))
          (pss_cons (ps_dput (u1 hr.units) (pv 8) (pv 4) (pv 7) rfl)
          (pss_one (ps_expr (pe_bm PySem.F.plainAttrs_list PySem.F.slot_list_append PySem.F.type_list_append mt_append (pv 5) (pa_cons (pv 8) pa_nil)))))))))
      (pss_one (ps_set (i := 3) sc__law_extended.nd rfl (Or.inl rfl) (pv 5))))))
    (pss_one (ps_ret (pv 3))))), ?_⟩
    refine ⟨_, rfl, n, _, rfl, .inl hn, fun q hq => ⟨Nat.le_of_lt two, fun F0 hF0 => ?_⟩⟩
    have s0 : Same H (upd (upd H q (.dK (e.ps.map prV))) F0 (.lst [.ref q])) := (same_new hq).trans (same_new hF0)
    have eq0 : upd (upd H q (.dK (e.ps.map prV))) F0 (.lst [.ref q]) q = some (.dK (e.ps.map prV)) := (same_new hF0) _ _ upd_same
    have eF0 : upd (upd H q (.dK (e.ps.map prV))) F0 (.lst [.ref q]) F0 = some (.lst [.ref q]) := upd_same
    generalize upd (upd H q (.dK (e.ps.map prV))) F0 (.lst [.ref q]) = H0 at s0 eq0 eF0 ⊢
    refine ⟨_, rfl, wa, rfl, ⟨_, sqL_same s0 hw⟩, for_list (K := K) (a := wa) (xs := sVs ws) (fun i σ H' => Same H H' ∧ ∃ F vs, H' F = some (.lst vs) ∧ Rows H' vs (exts us e.ps (ws.take i)) ∧ ∃ x a b c dd, σ = [some (.ref n), some (.ref wa), some (.ref ua), some (.ref F), x, a, b, c, dd]) ⟨s0, F0, [.ref q], eF0, .cons ⟨q, rfl, eq0⟩ .nil, none, none, none, none, none, rfl⟩ (fun i σ H' _ h => sqL_same h.1 hw) ?_ ?_⟩
    · rintro i x0 σ H1 hx ⟨s1, F, vs, eF, rF, x1, a1, b1, c1, d1, rfl⟩
      rw [List.getElem?_map] at hx
      obtain ⟨x, hxw, rfl⟩ := Option.map_eq_some_iff.mp hx
      have hi : i < ws.length := (List.getElem?_eq_some_iff.mp hxw).1
      have few : Few i (exts us e.ps (ws.take i)) := by have := few_exts e (ws.take i) lu; rw [List.length_take, Nat.min_eq_left (Nat.le_of_lt hi)] at this; exact this
      refine ⟨Nat.zero_le _, fun D hD => ?_⟩
      refine ⟨_, rfl, F, rfl, ⟨_, SqL.of ((same_new hD) _ _ eF)⟩, for_list (K := K) (a := F) (xs := vs) (fun j σ H2 => Same H1 H2 ∧ ∃ ys, H2 D = some (.lst ys) ∧ Rows H2 ys (((exts us e.ps (ws.take i)).take j).flatMap (ext1 us x)) ∧ ∃ a b c, σ = [some (.ref n), some (.ref wa), some (.ref ua), some (.ref F), some (.str x), some (.ref D), a, b, c]) ⟨same_new hD, [], upd_same, .nil, b1, c1, d1, rfl⟩ (fun j σ H2 _ h => SqL.of (h.1 _ _ eF)) ?_ ?_⟩
      · rintro j y σ H2 hyv ⟨s2, ys, e2, r2, a2, b2, c2, rfl⟩
        obtain ⟨r, ra, hr, rfl, era⟩ := Rows.at rF hyv
        refine ⟨_, rfl, ua, rfl, ⟨_, sqL_same (s1.trans s2) hul⟩, for_list (K := K) (a := ua) (xs := kVs us) (fun j2 σ H3 => Same H1 H3 ∧ ∃ ys, H3 D = some (.lst ys) ∧ Rows H3 ys (((exts us e.ps (ws.take i)).take j).flatMap (ext1 us x) ++ (us.take j2).map fun k => putP r (.inr x) k) ∧ ∃ b c, σ = [some (.ref n), some (.ref wa), some (.ref ua), some (.ref F), some (.str x), some (.ref D), some (.ref ra), b, c]) ⟨s2, ys, e2, by simpa using r2, b2, c2, rfl⟩ (fun j2 σ H3 _ h => sqL_same (s1.trans h.1) hul) ?_ ?_⟩
        · rintro j2 y3 σ H3 hy ⟨s3, ys3, e3, r3, b3, c3, rfl⟩
          rw [List.getElem?_map] at hy
          obtain ⟨k, hk, rfl⟩ := Option.map_eq_some_iff.mp hy
          have era3 := s3 _ _ era
          refine ⟨_, rfl, ra, _, rfl, .inl era3, fun dd hd => ?_⟩
          refine ⟨_, rfl, _, rfl, _, rfl, dd, _, rfl, DPut.k (k := .inr x) upd_same (row_line few (by omega) hr), ?_⟩
          have sy : Same H3 (upd (upd H3 dd (.dK (r.map prV))) dd (.dK (putK (r.map prV) (.inr x) (kV k)))) := same_put (same_new hd) hd
          have ed : upd (upd H3 dd (.dK (r.map prV))) dd (.dK (putK (r.map prV) (.inr x) (kV k))) dd = some (.dK ((putP r (.inr x) k).map prV)) := by rw [upd_same, putP_v]
          generalize upd (upd H3 dd (.dK (r.map prV))) dd (.dK (putK (r.map prV) (.inr x) (kV k))) = H4 at sy ed ⊢
          have e4 := sy _ _ e3
          have n3 : dd ≠ D := fun z => by rw [z, e4] at ed; cases ed
          refine ⟨_, rfl, .inl ⟨rfl, _, SqL.of e4⟩, _, rfl, D, _, _, rfl, rfl, e4, by rw [r3.len]; exact rows_line few (by omega) lu j j2, same_put (s3.trans sy) hD, _, upd_same, ?_, _, _, rfl⟩
          rw [take_map_next hk, ← List.append_assoc]
          exact Rows.snoc (r3.keep ((Same.keepD sy).trans (KeepD.lst e4))) ⟨dd, rfl, by rw [upd_ne n3]; exact ed⟩
        · rintro σ H3 ⟨s3, ys3, e3, r3, b3, c3, rfl⟩
          rw [List.length_map, List.take_length] at r3
          refine ⟨s3, ys3, e3, ?_, _, _, _, rfl⟩
          rw [flat_next hr]; exact r3
      · rintro σ H2 ⟨s2, ys, e2, r2, a2, b2, c2, rfl⟩
        rw [rF.len, List.take_length, ← exts_next hxw] at r2
        exact ⟨_, rfl, s1.trans s2, D, ys, e2, r2, _, _, _, _, _, rfl⟩
    · rintro σ H1 ⟨s1, F, vs, eF, rF, x1, a1, b1, c1, d1, rfl⟩
      rw [List.length_map, List.take_length] at rF
      exact ⟨_, rfl, kk F vs H1 s1 eF rF⟩
end
end K05
set_option Elab.async false
set_option maxRecDepth 100000
set_option maxHeartbeats 4000000
namespace K05
open PySem L2 C8 GX LC LG LR SU LM
def spLv (m : Nat) (K : PySem.W.Frag) (_ts : Tbs) : Sp := fun vs H Q _ => ∃ (v : V) (t : SU.Tm) (n : Addr) (e : Ev), vs = [v, .ref n] ∧ Dp K H v t.d ∧ NmA H n e ∧ e.Ok ∧ Wf t ∧ t.dep < m ∧ t.dep ≤ 3 ∧ ∀ H', Same H H' → Q (oV (tval e t)) H'
abbrev sp__law_value := spLv 4
section
variable {P : Program} {w : World} {K : PySem.W.Frag} {mg : Str → Option Value} {base : Heap} {d : Cd}
theorem lv_bot (T : Txt K mg base d) : Cal P w K mg base 1 "_law_value" (spLv 0 K d.ts) [] := by
  obtain ⟨c, F⟩ := T._law_value
  refine cal (ps := ["term", "names"]) F (fun _ _ _ _ _ _ us hl => match us, hl with | [_, _], _ => rfl) sc__law_value (fun vs H Q E h => ?_) (fun f A outer s H vs Q E hr h => ?_)
  · obtain ⟨v, t, n, e, rfl, _⟩ := h; rfl
  · obtain ⟨v, t, n, e, rfl, _, _, _, _, h, _⟩ := h
    exact absurd h (Nat.not_lt_zero _)
theorem lv_step (T : Txt K mg base d) {m : Nat} (c__law_value : Cal P w K mg base (1 + m) "_law_value" (spLv m K d.ts) []) : Cal P w K mg base (1 + m + 1) "_law_value" (spLv (m + 1) K d.ts) [] := by
  obtain ⟨c, F⟩ := T._law_value
  refine cal (ps := ["term", "names"]) F (fun _ _ _ _ _ _ us hl => match us, hl with | [_, _], _ => rfl) sc__law_value (fun vs H Q E h => ?_) (fun f A outer s H vs Q E hr h => ?_)
  · obtain ⟨v, t, n, e, rfl, _⟩ := h; rfl
  · obtain ⟨v, t, n, e, rfl, hd, hn, eo, wf, dp, d3, kk⟩ := h
    refine ⟨_, (pss_cons (ps_if (pt_cmpR op_eq (pe_ix (ixt (K := K) rfl) (pv 0) pe_int (fun _ _ => rfl)) pe_str (nomark _))
      (pss_one (ps_ret (pe_dget (u1 hr.units) (pv 1) (pe_ix (ixt (K := K) rfl) (pv 0) pe_int (fun _ _ => rfl)) (fun _ _ => rfl))))
      pss_nil)
    (pss_cons (ps_if (pt_cmpR op_ne (pe_ix (ixt (K := K) rfl) (pv 0) pe_int (fun _ _ => rfl)) pe_str (nomark _))
      (pss_one (ps_ret (pe_ix (ixt (K := K) rfl) (pv 0) pe_int (fun _ _ => rfl))))
      pss_nil)
    (pss_cons (ps_set (i := 2) sc__law_value.nd rfl (Or.inl rfl) (pe_c c__law_value hr (by omega) rfl (pa_cons (pe_ix (ixt (K := K) rfl) (pv 0) pe_int (fun _ _ => rfl)) (pa_cons (pv 1) pa_nil))))
    (pss_cons (ps_set (i := 3) sc__law_value.nd rfl (Or.inl rfl) (pe_c c__law_value hr (by omega) rfl (pa_cons (pe_ix (ixt (K := K) rfl) (pv 0) pe_int (fun _ _ => rfl)) (pa_cons (pv 1) pa_nil))))
    (pss_cons (ps_if (PW.pt (pw_or (pt_not (pt_val (pe_callB (cisi (K := K) rfl) (by rfl) T.b_isinstance (by decide +kernel) (pa_cons (pv 2) (pa_cons (pe_bltn (v := .ty "int") (by rfl) T.b_int (by decide +kernel) rfl) pa_nil))))) (pw_or1 (pt_not (pt_val (pe_callB (cisi (K := K) rfl) (by rfl) T.b_isinstance (by decide +kernel) (pa_cons (pv 3) (pa_cons (pe_bltn (v := .ty "int") (by rfl) T.b_int (by decide +kernel) rfl) pa_nil))))))))
      (pss_one (ps_ret pe_non))
      pss_nil)
    (pss_one (ps_ret (pe_dget (u1 hr.units) (pe_disp (pps_cons pe_str (pe_op op_add (pv 2) (pv 3)) (pps_cons pe_str (pe_op op_sub (pv 2) (pv 3)) (pps_cons pe_str (pe_op op_mul (pv 2) (pv 3)) pps_nil))) rfl rfl (fun z => nomatch z) (by decide)) (pe_ix (ixt (K := K) rfl) (pv 0) pe_int (fun _ _ => rfl)) (fun _ _ => rfl))))))))), ?_⟩
    cases t with
    | var x =>
      obtain ⟨a, v1, v2, rfl, h0, h1, h2⟩ := dp_t2 hd
      cases dp_str h1; cases dp_str h2
      exact ⟨_, rfl, a, _, 0, _, rfl, rfl, h0, at0, rfl, _, rfl, iteT ⟨_, rfl, _, rfl, a, _, 1, _, rfl, rfl, h0, at1, n, _, rfl, nm_get hn wf, kk H (Same.refl H)⟩⟩
    | int i =>
      obtain ⟨a, v1, v2, rfl, h0, h1, h2⟩ := dp_t2 hd
      cases dp_str h1; cases dp_int h2
      exact ⟨_, rfl, a, _, 0, _, rfl, rfl, h0, at0, rfl, _, rfl, iteF ⟨_, rfl, a, _, 0, _, rfl, rfl, h0, at0, rfl, _, rfl, iteT ⟨_, rfl, a, _, 1, _, rfl, rfl, h0, at1, kk H (Same.refl H)⟩⟩⟩
    | sym x =>
      obtain ⟨a, v1, v2, rfl, h0, h1, h2⟩ := dp_t2 hd
      cases dp_str h1; cases dp_str h2
      exact ⟨_, rfl, a, _, 0, _, rfl, rfl, h0, at0, rfl, _, rfl, iteF ⟨_, rfl, a, _, 0, _, rfl, rfl, h0, at0, rfl, _, rfl, iteT ⟨_, rfl, a, _, 1, _, rfl, rfl, h0, at1, kk H (Same.refl H)⟩⟩⟩
    | op s l r =>
      obtain ⟨a, v1, v2, v3, v4, rfl, h0, h1, h2, h3, h4⟩ := dp_t4 hd
      cases dp_str h1; cases dp_str h2
      rw [SU.Tm.dep] at dp d3
      rw [tval] at kk
      refine ⟨_, rfl, a, _, 0, _, rfl, rfl, h0, at0, rfl, _, rfl, iteF ⟨_, rfl, a, _, 0, _, rfl, rfl, h0, at0, rfl, _, rfl, iteF ⟨_, rfl, a, _, 2, _, rfl, rfl, h0, at2, _, rfl, v3, l, n, e, rfl, h3, hn, eo, wf.2.1, by omega, by omega, fun H1 s1 => ?_⟩⟩⟩
      have h01 := sqT_same s1 h0
      refine ⟨_, rfl, a, _, 3, _, rfl, rfl, h01, at3, _, rfl, v4, r, n, e, rfl, dp_same s1 h4, hn.same s1, eo, wf.2.2, by omega, by omega, fun H2 s2 => ?_⟩
      have h02 := sqT_same s2 h01
      have s12 := s1.trans s2
      obtain ⟨t1, b1, y1, k1, i1⟩ := oV_isi (K := K) (H := H2) (tval e l)
      obtain ⟨t2, b2, y2, k2, i2⟩ := oV_isi (K := K) (H := H2) (tval e r)
      refine ⟨_, rfl, _, _, _, _, _, rfl, .ty _, y1, k1, _, rfl, ite2 (fun c1 => ?_) (fun c1 => ?_)⟩
      · have : opv s (tval e l) (tval e r) = none := opv_none (.inl (by rw [← i1]; simpa using c1))
        rw [this] at kk; exact iteT (kk H2 s12)
      refine ⟨_, rfl, _, _, _, _, _, rfl, .ty _, y2, k2, _, rfl, ite2 (fun c2 => ?_) (fun c2 => ?_)⟩
      · have : opv s (tval e l) (tval e r) = none := opv_none (.inr (by rw [← i2]; simpa using c2))
        rw [this] at kk; exact kk H2 s12
      obtain ⟨x1, e1⟩ := isI_some (i1.symm.trans (by simpa using c1))
      obtain ⟨x2, e2⟩ := isI_some (i2.symm.trans (by simpa using c2))
      rw [e1, e2] at kk
      rw [e1, e2]
      refine fun p hp => ⟨_, rfl, _, rfl, _, _, rfl, rfl, _, rfl, _, rfl, _, _, rfl, rfl, _, rfl, _, rfl, _, _, rfl, rfl, bd_mul (d2 := 0) (tval_bd eo wf.2.1 e1) (by omega), upd_same, [(.inr "+", .int (x1 + x2)), (.inr "-", .int (x1 - x2)), (.inr "*", .int (x1 * x2))], rfl, (show 3 ≤ 15 by decide), ?_⟩
      have s3 : Same H2 (upd (upd H2 p (.dK [])) p (.dK (mergeK [] [(.inr "+", .int (x1 + x2)), (.inr "-", .int (x1 - x2)), (.inr "*", .int (x1 * x2))]))) := same_put (same_new hp) hp
      refine ⟨_, rfl, a, _, 1, _, rfl, rfl, sqT_same s3 h02, at1, p, _, rfl, .inl ⟨_, .inr s, .inl upd_same, rfl, (ops_get wf.1).symm⟩, ?_⟩
      rw [ar_V]
      exact kk _ (s12.trans s3)
theorem lv_all (T : Txt K mg base d) : ∀ m : Nat, Cal P w K mg base (1 + m) "_law_value" (spLv m K d.ts) []
  | 0 => lv_bot T
  | m + 1 => lv_step T (lv_all T m)
end
def spBef (_K : PySem.W.Frag) (_ts : Tbs) : Sp := fun vs H Q _ => ∃ (k l : Key), vs = [kV k, kV l] ∧ Q (.bl (ltK k l)) H
abbrev sp__law_before := spBef
section
variable {P : Program} {w : World} {K : PySem.W.Frag} {mg : Str → Option Value} {base : Heap} {d : Cd}
-- def _law_before: level 1, calls [], cells [], gens 0
theorem ok__law_before (T : Txt K mg base d) :
    Cal P w K mg base 1 "_law_before" (sp__law_before K d.ts) [] := by
  obtain ⟨c, F⟩ := T._law_before
  refine cal (ps := ["left", "right"]) F (fun _ _ _ _ _ _ us hl => match us, hl with | [_, _], _ => rfl) sc__law_before (fun vs H Q E h => ?_) (fun f A outer s H vs Q E hr h => ?_)
  · obtain ⟨k, l, rfl, _⟩ := h; rfl
  · obtain ⟨k, l, rfl, kk⟩ := h
    refine ⟨_, (pss_cons (ps_if (PW.pt (pw_and (pt_val (pe_callB (cisi (K := K) rfl) (by rfl) T.b_isinstance (by decide +kernel) (pa_cons (pv 0) (pa_cons (pe_bltn (v := .ty "int") (by rfl) T.b_int (by decide +kernel) rfl) pa_nil)))) (pw_and1 (pt_val (pe_callB (cisi (K := K) rfl) (by rfl) T.b_isinstance (by decide +kernel) (pa_cons (pv 1) (pa_cons (pe_bltn (v := .ty "int") (by rfl) T.b_int (by decide +kernel) rfl) pa_nil)))))))
      (pss_one (ps_ret (pe_cmpR op_ltK (pv 0) (pv 1) (nomark _))))
      pss_nil)
    (pss_cons (ps_if (PW.pt (pw_or (pt_val (pe_callB (cisi (K := K) rfl) (by rfl) T.b_isinstance (by decide +kernel) (pa_cons (pv 0) (pa_cons (pe_bltn (v := .ty "int") (by rfl) T.b_int (by decide +kernel) rfl) pa_nil)))) (pw_or1 (pt_val (pe_callB (cisi (K := K) rfl) (by rfl) T.b_isinstance (by decide +kernel) (pa_cons (pv 1) (pa_cons (pe_bltn (v := .ty "int") (by rfl) T.b_int (by decide +kernel) rfl) pa_nil)))))))
      (pss_one (ps_ret (pe_callB (cisi (K := K) rfl) (by rfl) T.b_isinstance (by decide +kernel) (pa_cons (pv 0) (pa_cons (pe_bltn (v := .ty "int") (by rfl) T.b_int (by decide +kernel) rfl) pa_nil)))))
      pss_nil)
    (pss_one (ps_ret (pe_cmpR op_ltK (pv 0) (pv 1) (nomark _)))))), ?_⟩
    cases k with
    | inl i =>
      cases l with
      | inl j => exact ⟨_, rfl, .int i, .ty "int", .type "int", .type "int", true, rfl, .ty _, .base (.int i), rfl, _, rfl, iteT ⟨_, rfl, .int j, .ty "int", .type "int", .type "int", true, rfl, .ty _, .base (.int j), rfl, _, rfl, iteT ⟨_, rfl, _, rfl, .inl i, .inl j, rfl, rfl, rfl, kk⟩⟩⟩
      | inr y => exact ⟨_, rfl, .int i, .ty "int", .type "int", .type "int", true, rfl, .ty _, .base (.int i), rfl, _, rfl, iteT ⟨_, rfl, .str y, .ty "int", .type "str", .type "int", false, rfl, .ty _, .base (.str y), rfl, _, rfl, iteF ⟨_, rfl, .int i, .ty "int", .type "int", .type "int", true, rfl, .ty _, .base (.int i), rfl, _, rfl, iteT (iteT ⟨_, rfl, .int i, .ty "int", .type "int", .type "int", true, rfl, .ty _, .base (.int i), rfl, kk⟩)⟩⟩⟩
    | inr x =>
      cases l with
      | inl j => exact ⟨_, rfl, .str x, .ty "int", .type "str", .type "int", false, rfl, .ty _, .base (.str x), rfl, _, rfl, iteF (iteF ⟨_, rfl, .str x, .ty "int", .type "str", .type "int", false, rfl, .ty _, .base (.str x), rfl, _, rfl, iteF ⟨_, rfl, .int j, .ty "int", .type "int", .type "int", true, rfl, .ty _, .base (.int j), rfl, _, rfl, iteT ⟨_, rfl, .str x, .ty "int", .type "str", .type "int", false, rfl, .ty _, .base (.str x), rfl, kk⟩⟩⟩)⟩
      | inr y => exact ⟨_, rfl, .str x, .ty "int", .type "str", .type "int", false, rfl, .ty _, .base (.str x), rfl, _, rfl, iteF (iteF ⟨_, rfl, .str x, .ty "int", .type "str", .type "int", false, rfl, .ty _, .base (.str x), rfl, _, rfl, iteF ⟨_, rfl, .str y, .ty "int", .type "str", .type "int", false, rfl, .ty _, .base (.str y), rfl, _, rfl, iteF ⟨_, rfl, _, rfl, .inr x, .inr y, rfl, rfl, rfl, kk⟩⟩⟩)⟩
end
def spLh (_K : PySem.W.Frag) (_ts : Tbs) : Sp := fun vs H Q _ => ∃ (s : Str) (k l : Key), vs = [.str s, kV k, kV l] ∧ s ∈ REL ∧ ∀ H', Same H H' → Q (.bl (relK s k l)) H'
abbrev sp__law_holds := spLh
section
variable {P : Program} {w : World} {K : PySem.W.Frag} {mg : Str → Option Value} {base : Heap} {d : Cd}
-- def _law_holds: level 2, calls [('_law_before', 1)], cells [], gens 0
theorem ok__law_holds (T : Txt K mg base d) (c__law_before : Cal P w K mg base 1 "_law_before" (sp__law_before K d.ts) []) :
    Cal P w K mg base 2 "_law_holds" (sp__law_holds K d.ts) [] := by
  obtain ⟨c, F⟩ := T._law_holds
  refine cal (ps := ["sign", "left", "right"]) F (fun _ _ _ _ _ _ us hl => match us, hl with | [_, _, _], _ => rfl) sc__law_holds (fun vs H Q E h => ?_) (fun f A outer s H vs Q E hr h => ?_)
  · obtain ⟨s, k, l, rfl, _⟩ := h; rfl
  · obtain ⟨s, k, l, rfl, hs, kk⟩ := h
    refine ⟨_, (pss_cons (ps_if (pt_cmpR (opin (K := K) rfl) (pv 0) (pe_tup (pa_cons pe_str (pa_cons pe_str pa_nil))) rfl)
      (pss_one (ps_ret (pe_cmpR op_eq (pe_cmpR op_eq (pv 1) (pv 2) (nomark _)) (pe_cmpR op_eq (pv 0) pe_str (nomark _)) (nomark _))))
      pss_nil)
    (pss_cons (ps_if (pt_cmpR (opin (K := K) rfl) (pv 0) (pe_tup (pa_cons pe_str (pa_cons pe_str pa_nil))) rfl)
      (pss_one (ps_ret (pe_cmpR op_eq (pe_c c__law_before hr (by decide) rfl (pa_cons (pv 1) (pa_cons (pv 2) pa_nil))) (pe_cmpR op_eq (pv 0) pe_str (nomark _)) (nomark _))))
      pss_nil)
    (pss_one (ps_ret (pe_cmpR op_eq (pe_c c__law_before hr (by decide) rfl (pa_cons (pv 2) (pa_cons (pv 1) pa_nil))) (pe_cmpR op_eq (pv 0) pe_str (nomark _)) (nomark _)))))), ?_⟩
    refine ⟨_, rfl, two, fun p hp => ⟨p, _, rfl, .inr (SqT.of upd_same), rfl, rfl, _, rfl, ite2 (fun c => ?_) (fun c => ?_)⟩⟩
    · have c := (in_two (s := s) (a := "=") (b := "!=")).symm.trans c
      refine ⟨_, rfl, _, rfl, kV_scal k l, _, rfl, rfl, rfl, ?_⟩
      rw [law_eq hs c]
      exact kk _ (same_new hp)
    have c1 : ¬ (decide (Str.ofString "=" = s) || decide (Str.ofString "!=" = s)) = true := fun z => c ((in_two (s := s) (a := "=") (b := "!=")).trans z)
    refine ⟨_, rfl, two, fun q hq => ⟨q, _, rfl, .inr (SqT.of upd_same), rfl, rfl, _, rfl, ite2 (fun c => ?_) (fun c => ?_)⟩⟩
    · have c := (in_two (s := s) (a := "<") (b := ">=")).symm.trans c
      refine ⟨_, rfl, _, rfl, k, l, rfl, _, rfl, rfl, rfl, ?_⟩
      rw [law_lt c]
      exact kk _ ((same_new hp).trans (same_new hq))
    have c2 : ¬ (decide (Str.ofString "<" = s) || decide (Str.ofString ">=" = s)) = true := fun z => c ((in_two (s := s) (a := "<") (b := ">=")).trans z)
    refine ⟨_, rfl, _, rfl, l, k, rfl, _, rfl, rfl, rfl, ?_⟩
    rw [law_gt hs c1 c2]
    exact kk _ ((same_new hp).trans (same_new hq))
end
end K05
set_option Elab.async false
set_option maxRecDepth 100000
set_option maxHeartbeats 4000000
namespace K05
open PySem L2 C8 GX LC LG LR SU LM
def spLi (K : PySem.W.Frag) (_ts : Tbs) : Sp := fun vs H Q _ => ∃ (v : V) (a : Atm) (n : Addr) (e : Ev) (ua : Addr) (us : List Key), vs = [v, .ref n, .ref ua] ∧ Dp K H v a.d ∧ NmA H n e ∧ e.Ok ∧ GA a ∧ SqL K H ua (kVs us) ∧ ∀ v' H', Same H H' → (∀ M, Alv M H → DM M H' v' (instD a.nm (inst e us a))) → Q v' H'
abbrev sp__law_instance := spLi
theorem vals_keys {e : Ev} {us : List Key} : ∀ {ts : List SU.Tm}, ts.all (okt e us) = true → ts.map (fun t => oV (tval e t)) = kVs (ts.flatMap (vlt e))
  | [], _ => rfl
  | t :: r, h => by
    rw [List.all_cons, Bool.and_eq_true] at h
    cases ek : tval e t with
    | none => rw [okt_none ek] at h; exact absurd h.1 Bool.false_ne_true
    | some k =>
      rw [List.map_cons, ek, vals_keys h.2, List.flatMap_cons, vlt_some ek]; rfl
section
variable {P : Program} {w : World} {K : PySem.W.Frag} {mg : Str → Option Value} {base : Heap} {d : Cd}
-- def _law_instance: level 6, calls [('_law_value', 5)], cells ['names', 'universe'], gens 0
theorem ok__law_instance (T : Txt K mg base d) (c__law_value : Cal P w K mg base 5 "_law_value" (sp__law_value K d.ts) []) :
    Cal P w K mg base 6 "_law_instance" (sp__law_instance K d.ts) [] := by
  obtain ⟨c, F⟩ := T._law_instance
  refine cal (ps := ["atom", "names", "universe"]) F (fun _ _ _ _ _ _ us hl => match us, hl with | [_, _, _], _ => rfl) sc__law_instance (fun vs H Q E h => ?_) (fun f A outer s H vs Q E hr h => ?_)
  · obtain ⟨v, a, n, e, u, us, rfl, _⟩ := h; rfl
  · obtain ⟨v, a, n, e, ua, us, rfl, hd, hn, eo, ga, hu, kk⟩ := h
    refine ⟨_, (pss_cons (ps_setLc (i := 3) (own := [("term", 4)]) rfl sc__law_instance.nd rfl rfl (sw_true rfl rfl rfl (by decide +kernel)) (pil (K := K) rfl (pe_ix (ixt (K := K) rfl) (pv 0) pe_int (fun _ _ => rfl))) (blkOk_by (N := N__law_instance) (sc := fnScope s__law_instance) (by decide +kernel)) (fun _ _ _ _ _ => (pg_name (i := 4) sc__law_instance.nd rfl (Or.inl rfl))) (fun _ _ _ _ _ => pts_nil) (fun _ _ _ _ _ => (pe_c c__law_value hr (by decide) rfl (pa_cons (pv 4) (pa_cons (pv 1) pa_nil)))))
    (pss_cons (ps_if (pt_cmpR op_gt (pe_callB (clen (K := K) rfl) (by rfl) T.b_len PySem.boot_len (pa_cons (pe_lc (own := [("one", 5)]) rfl sc__law_instance.nd (pil (K := K) rfl (pv 3)) (blkOk_by (N := N__law_instance) (sc := fnScope s__law_instance) (by decide +kernel)) (fun _ _ _ _ _ => (pg_name (i := 5) sc__law_instance.nd rfl (Or.inl rfl))) (fun _ _ _ _ _ => (pts_one (PW.pt (pw_or (pt_cmpR op_isN (pv 5) pe_non (nomark _)) (pw_or1 (pt_cmpR (opnin (K := K) rfl) (pv 5) (pv 2) rfl)))))) (fun _ _ _ _ _ => (pv 5))) pa_nil)) pe_int (nomark _))
      (pss_one (ps_ret pe_non))
      pss_nil)
    (pss_one (ps_ret (pe_tup (pa_cons (pe_ix (ixt (K := K) rfl) (pv 0) pe_int (fun _ _ => rfl)) (pa_cons (pe_callTy (ctuple (K := K) rfl) (by rfl) T.b_tuple (by decide +kernel) (pa_cons (pv 3) pa_nil)) pa_nil))))))), ?_⟩
    obtain ⟨p, v1, v2, v3, rfl, h0, h1, h2, h3⟩ := dp_t3 hd
    cases dp_str h1; cases dp_str h2
    obtain ⟨l, xs, rfl, hl, len, hat⟩ := dp_lm h3
    refine ⟨_, rfl, p, _, 2, _, rfl, rfl, h0, at2, l, rfl, ⟨_, hl⟩, fun D hD => ?_⟩
    refine it_turns (walk_list (K := K) (a := l) (xs := xs)) (fun j H1 => Same H H1 ∧ H1 D = some (.lst ((a.ts.take j).map fun t => oV (tval e t)))) ⟨same_new hD, upd_same⟩ (fun j H1 _ h => sqL_same h.1 hl) (fun j x H1' H1 hj P y => ?_) (fun H1 P => ?_)
    · obtain ⟨s1, e1⟩ := P
      obtain ⟨rfl, hx⟩ := y
      obtain ⟨z, hz, hdx⟩ := hat hx
      have gz := ga.2.2 z (List.mem_of_getElem? hz)
      refine ⟨rfl, _, rfl, _, rfl, x, z, n, e, rfl, dp_same s1 hdx, hn.same s1, eo, gz.1, gz.2, Nat.le_of_lt_succ gz.2, fun H2 s2 => ⟨_, s2 _ _ e1, ?_, same_put (s1.trans s2) hD, ?_⟩⟩
      · rw [List.length_map, List.length_take]; exact Nat.lt_of_le_of_lt (by have := ga.2.1; omega : _ ≤ 1000) (by decide)
      · rw [upd_same, take_map_next hz]
    obtain ⟨s1, e1⟩ := P
    rw [len, List.take_length] at e1
    refine ⟨_, rfl, D, rfl, ⟨_, SqL.of e1⟩, fun B hB => ?_⟩
    have hBD : B ≠ D := fun z => by rw [z, e1] at hB; cases hB
    refine it_turns (walk_list (K := K) (a := D) (xs := a.ts.map fun t => oV (tval e t))) (fun j H2 => Same H1 H2 ∧ ∃ bs, H2 B = some (.lst bs) ∧ bs.length ≤ j ∧ (bs.length = 0 ↔ (a.ts.take j).all (okt e us) = true)) ⟨same_new hB, [], upd_same, Nat.le_refl _, by simp⟩ (fun j H2 _ h => SqL.of (h.1 _ _ e1)) (fun j x H2' H2 hj P y => ?_) (fun H2 P => ?_)
    · obtain ⟨s2, bs, e2, lb, hb⟩ := P
      obtain ⟨rfl, hx⟩ := y
      rw [List.getElem?_map] at hx
      obtain ⟨z, hz, rfl⟩ := Option.map_eq_some_iff.mp hx
      have hj' : j < a.ts.length := (List.getElem?_eq_some_iff.mp hz).1
      have more : okt e us z = false → ∃ acc, H2 B = some (.lst acc) ∧ acc.length < sizeLine ∧ Same H1 (upd H2 B (.lst (acc ++ [oV (tval e z)]))) ∧ ∃ bs, upd H2 B (.lst (acc ++ [oV (tval e z)])) B = some (.lst bs) ∧ bs.length ≤ j + 1 ∧ (bs.length = 0 ↔ (a.ts.take (j + 1)).all (okt e us) = true) := fun h => by
        refine ⟨bs, e2, Nat.lt_of_le_of_lt (by have := ga.2.1; omega : bs.length ≤ 1000) (by decide), same_put s2 hB, _, upd_same, by rw [List.length_append]; simp; omega, ?_⟩
        rw [List.length_append, List.take_add_one, hz, List.all_append]
        simp [h]
      have less : okt e us z = true → Same H1 H2 ∧ ∃ bs, H2 B = some (.lst bs) ∧ bs.length ≤ j + 1 ∧ (bs.length = 0 ↔ (a.ts.take (j + 1)).all (okt e us) = true) := fun h => by
        refine ⟨s2, bs, e2, by omega, ?_⟩
        rw [List.take_add_one, hz, List.all_append]
        simp [h, hb]
      refine ⟨rfl, _, rfl, rfl, _, rfl, ite2 (fun c => ?_) (fun c => ?_)⟩
      · rw [oV_non, Option.isNone_iff_eq_none] at c
        exact iteT ⟨_, rfl, more (okt_none c)⟩
      obtain ⟨k, ek⟩ : ∃ k, tval e z = some k := Option.ne_none_iff_exists'.mp (fun q => c (by rw [oV_non, q]; rfl))
      rw [ek] at more ⊢
      refine ⟨_, rfl, _, rfl, ua, _, rfl, .inl (sqL_same (s1.trans s2) hu), flat_key k, flat_keys, ?_⟩
      rw [show inV (oV (some k)) (kVs us) = decide (k ∈ us) from inV_key]
      refine ⟨_, rfl, ite2 (fun c2 => ⟨_, rfl, more ?_⟩) (fun c2 => less ?_)⟩
      · rw [okt_some ek]; simpa using c2
      · rw [okt_some ek]; simpa using c2
    obtain ⟨s2, bs, e2, lb, hb⟩ := P
    rw [List.length_map, List.take_length] at hb
    refine ⟨B, _, rfl, .inl (SqL.of e2), _, _, rfl, rfl, _, rfl, ite2 (fun c => ?_) (fun c => ?_)⟩
    · have nb : ¬ a.ts.all (okt e us) = true := fun z => by
        have := hb.mpr z
        rw [decide_eq_true_eq] at c
        omega
      refine kk _ _ (s1.trans s2) fun M hM => ?_
      have : inst e us a = none := by unfold inst; rw [if_neg nb]
      rw [this]; exact .non
    have al : a.ts.all (okt e us) = true := hb.mp (by
      rw [decide_eq_true_eq] at c
      omega)
    have s12 := s1.trans s2
    refine ⟨_, rfl, p, _, 1, _, rfl, rfl, sqT_same s12 h0, at1, _, rfl, D, _, rfl, .inl ⟨SqL.of (s2 _ _ e1), fun q hq => ⟨two, fun t ht => ?_⟩⟩⟩
    refine kk _ _ ((s12.trans (same_new hq)).trans (same_new ht)) fun M hM => ?_
    rw [inst_yes al]
    refine .tup (hM.no (s12.trans (same_new hq)) ht) upd_same (.cons (.str _) (.cons (.tup (hM.no s12 hq) ((same_new ht) _ _ upd_same) ?_) .nil))
    rw [vals_keys al]; exact keys_dm _
end
def spLc (K : PySem.W.Frag) (_ts : Tbs) : Sp := fun vs H Q _ => ∃ (v : V) (cs : List Cnd) (n : Addr) (e : Ev) (ua : Addr) (us : List Key), vs = [v, .ref n, .ref ua] ∧ Dp K H v (csD cs) ∧ NmA H n e ∧ e.Ok ∧ cs.length ≤ 1000 ∧ (∀ c ∈ cs, GC c) ∧ SqL K H ua (kVs us) ∧ ∀ v' H', Same H H' → Dp K H' v' (condD (condI e us cs)) → Q v' H'
abbrev sp__law_conditions := spLc
section
variable {P : Program} {w : World} {K : PySem.W.Frag} {mg : Str → Option Value} {base : Heap} {d : Cd}
-- def _law_conditions: level 7, calls [('_law_holds', 2), ('_law_instance', 6), ('_law_value', 5)], cells [], gens 0
theorem ok__law_conditions (T : Txt K mg base d) (c__law_holds : Cal P w K mg base 2 "_law_holds" (sp__law_holds K d.ts) []) (c__law_instance : Cal P w K mg base 6 "_law_instance" (sp__law_instance K d.ts) []) (c__law_value : Cal P w K mg base 5 "_law_value" (sp__law_value K d.ts) []) :
    Cal P w K mg base 7 "_law_conditions" (sp__law_conditions K d.ts) [] := by
  obtain ⟨c, F⟩ := T._law_conditions
  refine cal (ps := ["conditions", "names", "universe"]) F (fun _ _ _ _ _ _ us hl => match us, hl with | [_, _, _], _ => rfl) sc__law_conditions (fun vs H Q E h => ?_) (fun f A outer s H vs Q E hr h => ?_)
  · obtain ⟨v, a, n, e, u, us, rfl, _⟩ := h; rfl
  · obtain ⟨v, cs, n, e, ua, us, rfl, hd, hn, eo, lc, gc, hu, kk⟩ := h
    refine ⟨_, (pss_cons (ps_set (i := 3) sc__law_conditions.nd rfl (Or.inl rfl) (pe_lst pa_nil))
    (pss_cons (ps_set (i := 4) sc__law_conditions.nd rfl (Or.inl rfl) (pe_lst pa_nil))
    (pss_cons (ps_for PassesOwn.never rfl (pil (K := K) rfl (pv 0)) (pg_name (i := 5) sc__law_conditions.nd rfl (Or.inl rfl))
      (pss_one (ps_if (pt_cmpR op_eq (pe_ix (ixt (K := K) rfl) (pv 5) pe_int (fun _ _ => rfl)) pe_str (nomark _))
        (pss_cons (ps_set (i := 6) sc__law_conditions.nd rfl (Or.inl rfl) (pe_c c__law_value hr (by decide) rfl (pa_cons (pe_ix (ixt (K := K) rfl) (pv 5) pe_int (fun _ _ => rfl)) (pa_cons (pv 1) pa_nil))))
        (pss_cons (ps_set (i := 7) sc__law_conditions.nd rfl (Or.inl rfl) (pe_c c__law_value hr (by decide) rfl (pa_cons (pe_ix (ixt (K := K) rfl) (pv 5) pe_int (fun _ _ => rfl)) (pa_cons (pv 1) pa_nil))))
        (pss_one (ps_if (PW.pt (pw_or (pt_cmpR op_isN (pv 6) pe_non (nomark _)) (pw_or (pt_cmpR op_isN (pv 7) pe_non (nomark _)) (pw_or1 (pt_not (pt_val (pe_c c__law_holds hr (by decide) rfl (pa_cons (pe_ix (ixt (K := K) rfl) (pv 5) pe_int (fun _ _ => rfl)) (pa_cons (pv 6) (pa_cons (pv 7) pa_nil))))))))))
          (pss_one (ps_ret pe_non))
          pss_nil))))
        (pss_cons (ps_set (i := 8) sc__law_conditions.nd rfl (Or.inl rfl) (pe_c c__law_instance hr (by decide) rfl (pa_cons (pe_ix (ixt (K := K) rfl) (pv 5) pe_int (fun _ _ => rfl)) (pa_cons (pv 1) (pa_cons (pv 2) pa_nil)))))
        (pss_cons (ps_if (pt_cmpR op_isN (pv 8) pe_non (nomark _))
          (pss_one (ps_ret pe_non))
          pss_nil)
        (pss_one (ps_if (pt_cmpR op_eq (pe_ix (ixt (K := K) rfl) (pv 5) pe_int (fun _ _ => rfl)) pe_str (nomark _))
          (pss_one (ps_expr (pe_bm PySem.F.plainAttrs_list PySem.F.slot_list_append PySem.F.type_list_append mt_append (pv 3) (pa_cons (pv 8) pa_nil))))
          (pss_one (ps_expr (pe_bm PySem.F.plainAttrs_list PySem.F.slot_list_append PySem.F.type_list_append mt_append (pv 4) (pa_cons (pv 8) pa_nil)))))))))))
    (pss_one (ps_ret (pe_tup (pa_cons (pe_callTy (ctuple (K := K) rfl) (by rfl) T.b_tuple (by decide +kernel) (pa_cons (pv 3) pa_nil)) (pa_cons (pe_callTy (ctuple (K := K) rfl) (by rfl) T.b_tuple (by decide +kernel) (pa_cons (pv 4) pa_nil)) pa_nil)))))))), ?_⟩
    obtain ⟨l, xs, rfl, hl, len, hat⟩ := dp_lm hd
    refine ⟨Nat.zero_le _, fun Y hY => ⟨Nat.zero_le _, fun N hN => ?_⟩⟩
    have hNH : H N = none := (same_new hY).free hN
    have hNY : N ≠ Y := fun z => by rw [z, upd_same] at hN; cases hN
    have s0 : Same H (upd (upd H Y (.lst [])) N (.lst [])) := (same_new hY).trans (same_new hN)
    have eY0 : upd (upd H Y (.lst [])) N (.lst []) Y = some (.lst []) := (same_new hN) _ _ upd_same
    have eN0 : upd (upd H Y (.lst [])) N (.lst []) N = some (.lst []) := upd_same
    generalize upd (upd H Y (.lst [])) N (.lst []) = H0 at s0 eY0 eN0 ⊢
    refine ⟨_, rfl, l, rfl, ⟨_, sqL_same s0 hl⟩, for_list (K := K) (a := l) (xs := xs) (fun i σ H' => Same H H' ∧ (cs.take i).all (fun c => (one e us c).isSome) = true ∧ (∃ ys ns, H' Y = some (.lst ys) ∧ H' N = some (.lst ns) ∧ DMs (fun b => b = Y ∨ b = N) H' ys (((cs.take i).flatMap (oneY e us)).map p2D) ∧ DMs (fun b => b = Y ∨ b = N) H' ns (((cs.take i).flatMap (oneN e us)).map p2D)) ∧ ∃ x y z u, σ = [some (.ref l), some (.ref n), some (.ref ua), some (.ref Y), some (.ref N), x, y, z, u]) ⟨s0, rfl, ⟨[], [], eY0, eN0, .nil, .nil⟩, none, none, none, none, rfl⟩ (fun i σ H' _ h => sqL_same h.1 hl) ?_ ?_⟩
    · rintro i x σ H1 hx ⟨s1, al, ⟨ys, ns, eY, eN, dY, dN⟩, x1, y1, z1, u1', rfl⟩
      obtain ⟨c, hz, hdx⟩ := hat hx
      have cm := List.mem_of_getElem? hz
      have gz := gc c cm
      have hdx1 := dp_same s1 hdx
      have bad : ∀ H2, Same H H2 → one e us c = none → Q .non H2 := fun H2 s2 h => kk .non H2 s2 (by rw [cond_no cm h]; exact .non)
      have AL : Alv (fun b => b = Y ∨ b = N) H1 := by
        rintro b (rfl | rfl)
        · rw [eY]; exact fun z => nomatch z
        · rw [eN]; exact fun z => nomatch z
      have lY := (ones_le (e := e) (us := us) i lc).1
      have lN := (ones_le (e := e) (us := us) i lc).2
      have nY : ys.length = ((cs.take i).flatMap (oneY e us)).length := by rw [dms_len dY, List.length_map]
      have nN : ns.length = ((cs.take i).flatMap (oneN e us)).length := by rw [dms_len dN, List.length_map]
      cases c with
      | cmp sg tl tr =>
        obtain ⟨p, v1, v2, v3, v4, rfl, h0, h1, h2, h3, h4⟩ := dp_t4 (d1 := .str "compare") hdx1
        cases dp_str h1; cases dp_str h2
        have gl := gz.2.1
        have gr := gz.2.2
        refine ⟨_, rfl, p, _, 0, _, rfl, rfl, h0, at0, rfl, _, rfl, iteT ⟨_, rfl, p, _, 2, _, rfl, rfl, h0, at2, _, rfl, v3, tl, n, e, rfl, h3, hn.same s1, eo, gl.1, gl.2, Nat.le_of_lt_succ gl.2, fun H2 s2 => ?_⟩⟩
        refine ⟨_, rfl, p, _, 3, _, rfl, rfl, sqT_same s2 h0, at3, _, rfl, v4, tr, n, e, rfl, dp_same s2 h4, (hn.same s1).same s2, eo, gr.1, gr.2, Nat.le_of_lt_succ gr.2, fun H3 s3 => ?_⟩
        have s23 := s2.trans s3
        have no : cmpv e sg tl tr = false → ∀ H4, Same H3 H4 → Q .non H4 := fun h H4 s4 => bad H4 ((s1.trans s23).trans s4) (by simp [one, h])
        refine ⟨_, rfl, rfl, _, rfl, ite2 (fun c => ?_) (fun c => ?_)⟩
        · rw [oV_non, Option.isNone_iff_eq_none] at c
          exact iteT (no (cmpv_l c) H3 (Same.refl H3))
        refine ⟨_, rfl, rfl, _, rfl, ite2 (fun c2 => ?_) (fun c2 => ?_)⟩
        · rw [oV_non, Option.isNone_iff_eq_none] at c2
          exact iteT (no (cmpv_r c2) H3 (Same.refl H3))
        obtain ⟨k1, q1⟩ : ∃ k, tval e tl = some k := Option.ne_none_iff_exists'.mp (fun q => c (by rw [oV_non, q]; rfl))
        obtain ⟨k2, q2⟩ : ∃ k, tval e tr = some k := Option.ne_none_iff_exists'.mp (fun q => c2 (by rw [oV_non, q]; rfl))
        have cs' := cmpv_s (s := sg) q1 q2
        rw [q1, q2]
        refine ⟨_, rfl, p, _, 1, _, rfl, rfl, sqT_same s23 h0, at1, _, rfl, _, rfl, sg, k1, k2, rfl, gz.1, fun H4 s4 => ?_⟩
        have s14 := s23.trans s4
        refine ⟨_, rfl, ite2 (fun c3 => no ?_ H4 s4) (fun c3 => ?_)⟩
        · rw [cs']; simpa using c3
        · have cv : cmpv e sg tl tr = true := by rw [cs']; simpa using c3
          have o1 : one e us (.cmp sg tl tr) = some ([], []) := by simp [one, cv]
          refine ⟨s1.trans s14, all_next al hz (by rw [o1]; rfl), ⟨ys, ns, s14 _ _ eY, s14 _ _ eN, ?_, ?_⟩, _, _, _, _, rfl⟩
          · rw [flat_next hz, show oneY e us (.cmp sg tl tr) = [] from by unfold oneY; rw [o1]; rfl, List.append_nil]; exact dY.kx (kx_same s14)
          · rw [flat_next hz, show oneN e us (.cmp sg tl tr) = [] from by unfold oneN; rw [o1]; rfl, List.append_nil]; exact dN.kx (kx_same s14)
      | yes a =>
        obtain ⟨p, v1, v2, rfl, h0, h1, h2⟩ := dp_t2 (d1 := .str "yes") hdx1
        cases dp_str h1
        refine ⟨_, rfl, p, _, 0, _, rfl, rfl, h0, at0, rfl, _, rfl, iteF ⟨_, rfl, p, _, 1, _, rfl, rfl, h0, at1, _, rfl, _, rfl, v2, a, n, e, ua, us, rfl, h2, hn.same s1, eo, gz, sqL_same s1 hu, fun v3 H2 s2 dm => ?_⟩⟩
        have dm := dm _ AL
        cases hi : inst e us a with
        | none =>
          rw [hi] at dm
          cases dm
          exact ⟨_, rfl, rfl, _, rfl, iteT (bad H2 (s1.trans s2) (by simp [one, hi]))⟩
        | some ks =>
          rw [hi] at dm
          obtain ⟨t, xs2, rfl, nt, et, _⟩ := dm_tup (ds := [.str a.nm, .tuple (ks.map keyD)]) dm
          have o1 : one e us (.yes a) = some ([(a.nm, ks)], []) := by simp [one, hi]
          have h02 := sqT_same s2 h0
          have eY2 := s2 _ _ eY
          refine ⟨_, rfl, rfl, _, rfl, iteF ⟨_, rfl, p, _, 0, _, rfl, rfl, h02, at0, rfl, _, rfl, iteT ⟨_, rfl, .inl ⟨rfl, _, SqL.of eY2⟩, _, rfl, Y, _, _, rfl, rfl, eY2, by rw [nY]; exact lY, same_put (s1.trans s2) hY, all_next al hz (by rw [o1]; rfl), ⟨_, ns, upd_same, by rw [upd_ne hNY]; exact s2 _ _ eN, ?_, ?_⟩, _, _, _, _, rfl⟩⟩⟩
          · rw [flat_next hz, show oneY e us (.yes a) = [(a.nm, ks)] from by unfold oneY; rw [o1]; rfl, List.map_append]
            exact dms_app ((dY.kx (kx_same s2)).kx (Kx.put (.inl rfl))) (.cons (dm.kx (Kx.put (.inl rfl))) .nil)
          · rw [flat_next hz, show oneN e us (.yes a) = [] from by unfold oneN; rw [o1]; rfl, List.append_nil]; exact (dN.kx (kx_same s2)).kx (Kx.put (.inl rfl))
      | no a =>
        obtain ⟨p, v1, v2, rfl, h0, h1, h2⟩ := dp_t2 (d1 := .str "no") hdx1
        cases dp_str h1
        refine ⟨_, rfl, p, _, 0, _, rfl, rfl, h0, at0, rfl, _, rfl, iteF ⟨_, rfl, p, _, 1, _, rfl, rfl, h0, at1, _, rfl, _, rfl, v2, a, n, e, ua, us, rfl, h2, hn.same s1, eo, gz, sqL_same s1 hu, fun v3 H2 s2 dm => ?_⟩⟩
        have dm := dm _ AL
        cases hi : inst e us a with
        | none =>
          rw [hi] at dm
          cases dm
          exact ⟨_, rfl, rfl, _, rfl, iteT (bad H2 (s1.trans s2) (by simp [one, hi]))⟩
        | some ks =>
          rw [hi] at dm
          obtain ⟨t, xs2, rfl, nt, et, _⟩ := dm_tup (ds := [.str a.nm, .tuple (ks.map keyD)]) dm
          have o1 : one e us (.no a) = some ([], [(a.nm, ks)]) := by simp [one, hi]
          have h02 := sqT_same s2 h0
          have eN2 := s2 _ _ eN
          refine ⟨_, rfl, rfl, _, rfl, iteF ⟨_, rfl, p, _, 0, _, rfl, rfl, h02, at0, rfl, _, rfl, iteF ⟨_, rfl, .inl ⟨rfl, _, SqL.of eN2⟩, _, rfl, N, _, _, rfl, rfl, eN2, by rw [nN]; exact lN, same_put (s1.trans s2) hNH, all_next al hz (by rw [o1]; rfl), ⟨ys, _, by rw [upd_ne (Ne.symm hNY)]; exact s2 _ _ eY, upd_same, ?_, ?_⟩, _, _, _, _, rfl⟩⟩⟩
          · rw [flat_next hz, show oneY e us (.no a) = [] from by unfold oneY; rw [o1]; rfl, List.append_nil]; exact (dY.kx (kx_same s2)).kx (Kx.put (.inr rfl))
          · rw [flat_next hz, show oneN e us (.no a) = [(a.nm, ks)] from by unfold oneN; rw [o1]; rfl, List.map_append]
            exact dms_app ((dN.kx (kx_same s2)).kx (Kx.put (.inr rfl))) (.cons (dm.kx (Kx.put (.inr rfl))) .nil)
    · rintro σ H1 ⟨s1, al, ⟨ys, ns, eY, eN, dY, dN⟩, x1, y1, z1, u1', rfl⟩
      rw [len, List.take_length] at al dY dN
      refine ⟨_, rfl, Y, _, rfl, .inl ⟨SqL.of eY, fun q hq => ⟨_, rfl, N, _, rfl, .inl ⟨SqL.of ((same_new hq) _ _ eN), fun r hr => ⟨two, fun t ht => ?_⟩⟩⟩⟩⟩
      have s2 := ((same_new (o := .tup ys) hq).trans (same_new (o := .tup ns) hr)).trans (same_new (o := .tup [.ref q, .ref r]) ht)
      refine kk _ _ (s1.trans s2) ?_
      rw [cond_yes al]
      exact .tup (SqT.of upd_same) (.cons (.tup (SqT.of (((same_new hr).trans (same_new ht)) _ _ upd_same)) (dY.kx (kx_same s2)).dp) (.cons (.tup (SqT.of ((same_new ht) _ _ upd_same)) (dN.kx (kx_same s2)).dp) .nil))
end
end K05
set_option Elab.async false
set_option maxRecDepth 100000
set_option maxHeartbeats 4000000
namespace K05
open PySem L2 C8 GX LC LG LR SU LM
abbrev sp__law_state := spState
abbrev sp__law_draw := spDraw
section
variable {P : Program} {w : World} {K : PySem.W.Frag} {mg : Str → Option Value} {base : Heap} {d : Cd}
-- def _law_state: level 1, calls [], cells [], gens 0
theorem ok__law_state (T : Txt K mg base d) :
    Cal P w K mg base 1 "_law_state" (sp__law_state K d.ts) [] := by
  refine cal (ps := ["script"]) T._law_state (fun _ _ _ _ _ _ us hl => match us, hl with | [_], _ => rfl) sc__law_state (fun vs H Q E h => ?_) (fun f A outer s H vs Q E hr h => ?_)
  · obtain ⟨a, ns, rfl, _⟩ := h; rfl
  · obtain ⟨a, ns, rfl, hS, hn, kk⟩ := h
    refine ⟨_, (pss_cons (ps_set (i := 1) sc__law_state.nd rfl (Or.inl rfl) pe_int)
    (pss_cons (ps_for PassesOwn.never rfl (pil (K := K) rfl (pv 0)) (pg_name (i := 2) sc__law_state.nd rfl (Or.inl rfl))
      (pss_one (ps_set (i := 1) sc__law_state.nd rfl (Or.inl rfl) (pe_op op_mod (pe_callTy call_int1 (by rfl) T.b_int (by decide +kernel) (pa_cons (pe_op op_add (pe_op op_mul (pv 1) pe_int) (pv 2)) pa_nil)) pe_int))))
    (pss_one (ps_ret (pe_lst (pa_cons (pe_lc (own := [("cell", 2)]) rfl sc__law_state.nd (pil (K := K) rfl (pv 0)) (blkOk_by (N := N__law_state) (sc := fnScope s__law_state) (by decide +kernel)) (fun _ _ _ _ _ => (pg_name (i := 2) sc__law_state.nd rfl (Or.inl rfl))) (fun _ _ _ _ _ => pts_nil) (fun _ _ _ _ _ => (pe_callB call_abs (by rfl) T.b_abs (by decide +kernel) (pa_cons (pv 2) pa_nil)))) (pa_cons (pe_op op_add (pv 1) pe_int) (pa_cons (pe_op op_mod (pe_callTy call_int1 (by rfl) T.b_int (by decide +kernel) (pa_cons (pv 1) pa_nil)) pe_int) pa_nil)))))))), ?_⟩
    refine ⟨_, rfl, a, rfl, ⟨_, hS⟩, for_list (K := K) (a := a) (xs := ns.map V.int) (fun i σ H' => H' = H ∧ ∃ sd v, σ = [some (.ref a), some (.int sd), v]) ⟨rfl, _, none, rfl⟩ (fun _ _ _ _ ⟨e, _⟩ => e ▸ hS) ?_ ?_⟩
    · rintro i x σ H' hx ⟨rfl, sd, v, rfl⟩
      obtain ⟨z, rfl⟩ := map_int_at hx
      refine ⟨_, rfl, _, _, rfl, rfl, .inr ⟨by decide, by decide⟩, _, rfl, _, _, rfl, rfl, .inl ⟨_, rfl, _, _, rfl, rfl, (by show (0 : Int) < 1000003; decide), rfl, _, _, rfl⟩⟩
    · rintro σ H' ⟨rfl, sd, v, rfl⟩
      refine ⟨_, rfl, a, rfl, ⟨_, hS⟩, fun D hD => lc_list (K := K) (a := a) (xs := ns.map V.int) (fun i H2 => Same H' H2 ∧ ∃ ms : List Int, H2 D = some (.lst (ms.map V.int)) ∧ ms.length = i) ⟨same_new hD, [], upd_same, rfl⟩ (fun i H2 _ h => h.1.seq hS) ?_ ?_⟩
      · rintro i x H2 hx ⟨hs, ms, hD2, hm⟩
        have hi : i < ns.length := by
          have := (List.getElem?_eq_some_iff.mp hx).1; rwa [List.length_map] at this
        obtain ⟨z, rfl⟩ := map_int_at hx
        refine ⟨rfl, ?_⟩
        refine ⟨_, rfl, _, rfl, ms.map V.int, hD2, by rw [List.length_map]; exact Nat.lt_of_le_of_lt (by omega : ms.length ≤ 63) (by decide), same_put hs hD, ms ++ [if z < 0 then -z else z], ?_, by rw [List.length_append, List.length_singleton, hm]⟩
        rw [List.map_append]; exact upd_same
      · rintro H2 ⟨hs, ms, hD2, hm⟩
        rw [List.length_map] at hm
        refine ⟨_, rfl, _, _, rfl, rfl, _, rfl, .inl ⟨_, rfl, _, _, rfl, rfl, (by show (0 : Int) < 4; decide), three, fun st hst => ?_⟩⟩
        have hst' := hs.free hst
        exact kk st D _ (same_put hs hst') hst' hD ⟨_, _, ms, upd_same, by rw [upd_ne (ne_of_none hD2 hst)]; exact hD2, by omega, Int.emod_nonneg _ (by decide), Int.emod_lt_of_pos _ (by decide)⟩
end
section
variable {P : Program} {w : World} {K : PySem.W.Frag} {mg : Str → Option Value} {base : Heap} {d : Cd}
-- def _law_draw: level 1, calls [], cells [], gens 0
theorem ok__law_draw (T : Txt K mg base d) :
    Cal P w K mg base 1 "_law_draw" (sp__law_draw K d.ts) [] := by
  obtain ⟨c, F⟩ := T._law_draw
  refine cal (ps := ["state", "many"]) F (fun _ _ _ _ _ _ us hl => match us, hl with | [_, _], _ => rfl) sc__law_draw (fun vs H Q E h => ?_) (fun f A outer s H vs Q E hr h => ?_)
  · obtain ⟨st, c, M, many, rfl, _⟩ := h; rfl
  · obtain ⟨st, c, M, many, rfl, hm0, hm1, hw, k0⟩ := h
    refine ⟨_, (pss_cons (ps_set (i := 2) sc__law_draw.nd rfl (Or.inl rfl) (pe_ix (ixl (K := K) rfl) (pv 0) pe_int (fun _ _ => rfl)))
    (pss_cons (ps_for PassesOwn.never rfl (pi_range1 rfl T.b_range (pa_cons (pe_callB (clen (K := K) rfl) (by rfl) T.b_len PySem.boot_len (pa_cons (pv 2) pa_nil)) pa_nil)) (pg_name (i := 3) sc__law_draw.nd rfl (Or.inl rfl))
      (pss_one (ps_if (PW.pt (pw_and (pt_cmpR op_eq (pe_ix (ixl (K := K) rfl) (pv 2) pe_int (fun _ _ => rfl)) pe_int (nomark _)) (pw_and1 (pt_cmpR op_gt (pe_callB (clen (K := K) rfl) (by rfl) T.b_len PySem.boot_len (pa_cons (pv 2) pa_nil)) pe_int (nomark _)))))
        (pss_one (ps_expr (pe_bm PySem.F.plainAttrs_list PySem.F.slot_list_pop PySem.F.type_list_pop mt_popAt (pv 2) (pa_cons pe_int pa_nil))))
        pss_nil)))
    (pss_cons (ps_if (PW.pt (pw_and (pt_cmpR op_gt (pe_callB (clen (K := K) rfl) (by rfl) T.b_len PySem.boot_len (pa_cons (pv 2) pa_nil)) pe_int (nomark _)) (pw_and1 (pt_cmpR op_gt (pe_ix (ixl (K := K) rfl) (pv 2) pe_int (fun _ _ => rfl)) pe_int (nomark _)))))
      (pss_cons (ps_set (i := 4) sc__law_draw.nd rfl (Or.inl rfl) (pe_ix (ixl (K := K) rfl) (pv 2) pe_int (fun _ _ => rfl)))
      (pss_cons (ps_asg (pe_op op_fdiv (pv 4) (pv 1)) (pg_sub (pv 2) pe_int set_list))
      (pss_one (ps_ret (pe_op op_mod (pe_callTy call_int1 (by rfl) T.b_int (by decide +kernel) (pa_cons (pv 4) pa_nil)) (pv 1))))))
      pss_nil)
    (pss_cons (ps_set (i := 5) sc__law_draw.nd rfl (Or.inl rfl) (pe_op op_mod (pe_callTy call_int1 (by rfl) T.b_int (by decide +kernel) (pa_cons (pe_op op_add (pe_op op_mul (pe_ix (ixl (K := K) rfl) (pv 0) pe_int (fun _ _ => rfl)) pe_int) pe_int) pa_nil)) pe_int))
    (pss_cons (ps_asg (pv 5) (pg_sub (pv 0) pe_int set_list))
    (pss_one (ps_ret (pe_op op_mod (pe_callTy call_int1 (by rfl) T.b_int (by decide +kernel) (pa_cons (pe_op op_fdiv (pv 5) pe_int) pa_nil)) (pv 1))))))))), ?_⟩
    have kk : ∀ (d : Int) H', 0 ≤ d → d < many → StAt H' st c → Keep2 st c H H' → Q (.int d) H' := fun d H' h1 h2 s k => k0 d H' h1 h2 (hw.draw s k).1 (hw.draw s k).2
    have hst := hw.stat
    have hne := hst.ne
    obtain ⟨sd, kd, ns, h1, h2, hn, hkd⟩ := hst
    refine ⟨_, rfl, st, _, 0, _, rfl, rfl, SqL.of h1, rfl, ?_⟩
    refine ⟨_, rfl, c, _, rfl, .inl (SqL.of h2), _, rfl, by omega, by rw [List.length_map]; omega, ?_⟩
    rw [Int.toNat_natCast, List.length_map]
    refine for_range (lo := 0) (n := ns.length) (fun i σ H' => ∃ (v : Option V) (ms : List Int), σ = [some (.ref st), some (.int many), some (.ref c), v, none, none] ∧ H' st = some (.lst [.ref c, .int sd, .int kd]) ∧ H' c = some (.lst (ms.map V.int)) ∧ ms.length ≤ 63 ∧ (ns.length ≠ 0 → ms ≠ []) ∧ Keep2 st c H H')
      ⟨none, ns, rfl, h1, h2, hn, fun h z => h (by rw [z]; rfl), Keep2.refl H⟩ ?_ ?_
    · rintro i σ H' hi ⟨v, ms, rfl, g1, g2, gm, gne, gk⟩
      have hms := gne (by omega)
      obtain ⟨m0, mr, rfl⟩ : ∃ m0 mr, ms = m0 :: mr := by
        cases ms with
        | nil => exact absurd rfl hms
        | cons a b => exact ⟨a, b, rfl⟩
      refine ⟨_, rfl, c, _, 0, _, rfl, rfl, SqL.of g2, at0, rfl, _, rfl, ite2 (fun _ => ?_) (fun _ => ?_)⟩
      · refine ⟨_, rfl, c, _, rfl, .inl (SqL.of g2), _, _, rfl, rfl, _, rfl, ite2 (fun h4 => ?_) (fun _ => ?_)⟩
        · rw [decide_eq_true_eq, List.length_map, List.length_cons] at h4
          refine ⟨_, rfl, .inl ⟨rfl, _, SqL.of g2⟩, c, _, 0, 0, _, rfl, rfl, g2, by decide, by decide, ?_, rfl, ?_⟩
          · unfold seqIndex?; simp
          · refine ⟨_, mr, rfl, by rw [upd_ne hne]; exact g1, upd_same, by simp only [List.length_cons] at gm; omega, fun _ z => ?_, gk.put_c⟩
            rw [z] at h4; simp at h4
        · exact ⟨_, m0 :: mr, rfl, g1, g2, gm, fun _ => hms, gk⟩
      · exact iteF ⟨_, m0 :: mr, rfl, g1, g2, gm, fun _ => hms, gk⟩
    · rintro σ H' ⟨v, ms, rfl, g1, g2, gm, gne, gk⟩
      have last : ∀ (σ : List (Option V)), σ = [some (.ref st), some (.int many), some (.ref c), v, none, none] →
        (tSeq (tAsg (tOp (rI (fun _ j => 0 < j) fun i j => .int (i % j)) (tCB (fun xs H Q => (∃ i, xs = [.int i] ∧ Q (.int i) H) ∨ ∃ k, xs = [.bl k] ∧ Q (.int (if k then 1 else 0)) H) (tCons (tOp (rI0 fun i j => .int (i + j)) (tOp (rI CMul fun i j => .int (i * j)) (tOp (rIxL K) (tVar 0) (tC (.int 1))) (tC (.int 48271))) (tC (.int 12345))) tNil)) (tC (.int 2147483647))) (gName 5))
          (tSeq (tAsg (tVar 5) (gSub (tVar 0) (tC (.int 1)) rSetL)) (tRet (tOp (rI (fun _ j => 0 < j) fun i j => .int (i % j)) (tCB (fun xs H Q => (∃ i, xs = [.int i] ∧ Q (.int i) H) ∨ ∃ k, xs = [.bl k] ∧ Q (.int (if k then 1 else 0)) H) (tCons (tOp (rI CDiv fun i j => .int (i / j)) (tVar 5) (tC (.int 64))) tNil)) (tVar 1)))))
          { nx := fun _ H' => Q .non H', rt := Q } σ H' := by
        rintro _ rfl
        refine ⟨_, rfl, st, _, 1, _, rfl, rfl, SqL.of g1, rfl, _, _, rfl, rfl, .inr ⟨by decide, by decide⟩, _, _, rfl, rfl, .inl ⟨_, rfl, _, _, rfl, rfl, (by show (0 : Int) < 2147483647; decide), ?_⟩⟩
        refine ⟨_, rfl, _, rfl, st, _, 1, 1, rfl, rfl, g1, rfl, ?_⟩
        refine ⟨_, rfl, _, _, rfl, rfl, ⟨by decide, by decide⟩, .inl ⟨_, rfl, _, rfl, _, _, rfl, rfl, hm0, ?_⟩⟩
        exact kk _ _ (Int.emod_nonneg _ (by omega)) (Int.emod_lt_of_pos _ hm0) ⟨_, _, ms, upd_same, by rw [upd_ne hne.symm]; exact g2, gm, hkd⟩ gk.put_st
      refine ⟨_, rfl, c, _, rfl, .inl (SqL.of g2), _, _, rfl, rfl, _, rfl, ite2 (fun h4 => ?_) (fun _ => ?_)⟩
      · rw [decide_eq_true_eq, List.length_map] at h4
        obtain ⟨m0, mr, rfl⟩ : ∃ m0 mr, ms = m0 :: mr := by
          cases ms with
          | nil => simp at h4
          | cons a b => exact ⟨a, b, rfl⟩
        refine ⟨_, rfl, c, _, 0, _, rfl, rfl, SqL.of g2, at0, _, _, rfl, rfl, _, rfl, ite2 (fun h5 => ?_) (fun _ => ?_)⟩
        · refine ⟨_, rfl, c, _, 0, _, rfl, rfl, SqL.of g2, at0, ?_⟩
          refine ⟨_, rfl, _, rfl, _, _, rfl, rfl, ⟨hm0, hm1⟩, _, rfl, c, _, 0, 0, rfl, rfl, g2, ixN0 (by simp), ?_⟩
          refine ⟨_, rfl, .inl ⟨_, rfl, _, rfl, _, _, rfl, rfl, hm0, ?_⟩⟩
          exact kk _ _ (Int.emod_nonneg _ (by omega)) (Int.emod_lt_of_pos _ hm0) ⟨sd, kd, (m0 / many) :: mr, by rw [upd_ne hne]; exact g1, upd_same, gm, hkd⟩ gk.put_c
        · exact (last _ rfl)
      · exact (last _ rfl)
end
end K05
set_option Elab.async false
set_option maxRecDepth 100000
set_option maxHeartbeats 4000000
namespace K05
open PySem L2 C8 GX LC LG LR SU LM
def spCon (_K : PySem.W.Frag) (ts : Tbs) : Sp := fun vs H Q _ => ∃ (st ca : Addr) (M : Vol), vs = [.ref st] ∧ Wd ts st ca M H ∧ ∀ (k : Key) H', Wd ts st ca M H' → Ky ts st ca H H' → KB k → Q (kV k) H'
abbrev sp__law_constant := spCon
section
variable {P : Program} {w : World} {K : PySem.W.Frag} {mg : Str → Option Value} {base : Heap} {d : Cd}
-- def _law_constant: level 2, calls [('_law_draw', 1)], cells [], gens 0
theorem ok__law_constant (T : Txt K mg base d) (c__law_draw : Cal P w K mg base 1 "_law_draw" (sp__law_draw K d.ts) []) :
    Cal P w K mg base 2 "_law_constant" (sp__law_constant K d.ts) [] := by
  obtain ⟨c, F⟩ := T._law_constant
  refine cal (ps := ["state"]) F (fun _ _ _ _ _ _ us hl => match us, hl with | [_], _ => rfl) sc__law_constant (fun vs H Q E h => ?_) (fun f A outer s H vs Q E hr h => ?_)
  · obtain ⟨st, c, M, rfl, _⟩ := h; rfl
  · obtain ⟨st, ca, M, rfl, hw, kk⟩ := h
    refine ⟨_, (pss_cons (ps_if (pt_cmpR op_eq (pe_c c__law_draw hr (by decide) rfl (pa_cons (pv 0) (pa_cons pe_int pa_nil))) pe_int (nomark _))
      (pss_one (ps_ret (pe_c c__law_draw hr (by decide) rfl (pa_cons (pv 0) (pa_cons pe_int pa_nil)))))
      pss_nil)
    (pss_one (ps_ret (pe_ix (ixl (K := K) rfl) (pe_lst (pa_cons pe_str (pa_cons pe_str (pa_cons pe_str (pa_cons pe_str pa_nil))))) (pe_c c__law_draw hr (by decide) rfl (pa_cons (pv 0) (pa_cons pe_int pa_nil))) (fun _ _ => rfl))))), ?_⟩
    refine ⟨_, rfl, st, ca, M, 2, rfl, by decide, by decide, hw, fun d1 H1 a0 a1 w1 k1 => ⟨rfl, _, rfl, ite2 (fun _ => ?_) (fun _ => ?_)⟩⟩
    · exact ⟨_, rfl, st, ca, M, 7, rfl, by decide, by decide, w1, fun d2 H2 b0 b1 w2 k2 => kk (.inl d2) H2 w2 (k1.trans k2) (by show d2.natAbs ≤ 8; omega)⟩
    refine ⟨four, fun l hl => ?_⟩
    have w2 := w1.new (o := HO.lst [.str "a", .str "b", .str "zeta", .str "b9"]) hl
    have s2 : Same H1 (upd H1 l (HO.lst [.str "a", .str "b", .str "zeta", .str "b9"])) := same_new hl
    have e2 : upd H1 l (HO.lst [.str "a", .str "b", .str "zeta", .str "b9"]) l = some (HO.lst [.str "a", .str "b", .str "zeta", .str "b9"]) := upd_same
    have n2 := w1.fresh hl
    generalize upd H1 l (HO.lst [.str "a", .str "b", .str "zeta", .str "b9"]) = H2 at w2 s2 e2 ⊢
    refine ⟨_, rfl, st, ca, M, 4, rfl, by decide, by decide, w2, fun dd H3 c0 c1 w3 k3 => ?_⟩
    obtain ⟨y, hy, ey⟩ := at_mem (xs := CT) c0 (by simpa [CT] using c1)
    exact ⟨l, _, dd, _, rfl, rfl, SqL.of (k3 l _ (w2.nl n2) e2), ey V.str, kk (.inr y) H3 w3 ((k1.trans (Kx.of s2)).trans k3) hy⟩
end
def spTm (m : Int) (_K : PySem.W.Frag) (ts : Tbs) : Sp := fun vs H Q _ => ∃ (st ca : Addr) (M : Vol) (dp : Int), vs = [.ref st, .int dp] ∧ 0 ≤ dp ∧ dp < m ∧ Wd ts st ca M H ∧ ∀ (t : SU.Tm) v H', Wd ts st ca M H' → Ky ts st ca H H' → DM M H' v t.d → Wf t → (t.dep : Int) ≤ dp → Q v H'
abbrev sp__law_term := spTm 4
section
variable {P : Program} {w : World} {K : PySem.W.Frag} {mg : Str → Option Value} {base : Heap} {d : Cd}
theorem tm_bot (T : Txt K mg base d) : Cal P w K mg base 1 "_law_term" (spTm ((0 : Nat) : Int) K d.ts) [] := by
  obtain ⟨c, F⟩ := T._law_term
  refine cal (ps := ["state", "deep"]) F (fun _ _ _ _ _ _ us hl => match us, hl with | [_, _], _ => rfl) sc__law_term (fun vs H Q E h => ?_) (fun f A outer s H vs Q E hr h => ?_)
  · obtain ⟨st, ca, M, dp, rfl, _⟩ := h; rfl
  · obtain ⟨st, ca, M, dp, rfl, h1, h2, _⟩ := h
    omega
theorem tm_step (T : Txt K mg base d) {m : Nat} (c__law_draw : Cal P w K mg base 1 "_law_draw" (sp__law_draw K d.ts) []) (c__law_term : Cal P w K mg base (1 + m) "_law_term" (spTm (m : Int) K d.ts) []) : Cal P w K mg base (1 + m + 1) "_law_term" (spTm ((m + 1 : Nat) : Int) K d.ts) [] := by
  obtain ⟨c, F⟩ := T._law_term
  refine cal (ps := ["state", "deep"]) F (fun _ _ _ _ _ _ us hl => match us, hl with | [_, _], _ => rfl) sc__law_term (fun vs H Q E h => ?_) (fun f A outer s H vs Q E hr h => ?_)
  · obtain ⟨st, ca, M, dp, rfl, _⟩ := h; rfl
  · obtain ⟨st, ca, M, dp, rfl, q0, q1, hw, kk⟩ := h
    refine ⟨_, (pss_cons (ps_set (i := 2) sc__law_term.nd rfl (Or.inl rfl) (pe_c c__law_draw hr (by omega) rfl (pa_cons (pv 0) (pa_cons pe_int pa_nil))))
    (pss_cons (ps_if (PW.pt (pw_or (pt_cmpR op_lt (pv 2) pe_int (nomark _)) (pw_or1 (pt_cmpR op_eq (pv 1) pe_int (nomark _)))))
      (pss_one (ps_ret (pe_tup (pa_cons pe_str (pa_cons (pe_ix (ixl (K := K) rfl) (pe_lst (pa_cons pe_str (pa_cons pe_str (pa_cons pe_str pa_nil)))) (pe_c c__law_draw hr (by omega) rfl (pa_cons (pv 0) (pa_cons pe_int pa_nil))) (fun _ _ => rfl)) pa_nil)))))
      pss_nil)
    (pss_cons (ps_if (pt_cmpR op_eq (pv 2) pe_int (nomark _))
      (pss_one (ps_ret (pe_tup (pa_cons pe_str (pa_cons (pe_c c__law_draw hr (by omega) rfl (pa_cons (pv 0) (pa_cons pe_int pa_nil))) pa_nil)))))
      pss_nil)
    (pss_cons (ps_if (pt_cmpR op_eq (pv 2) pe_int (nomark _))
      (pss_one (ps_ret (pe_tup (pa_cons pe_str (pa_cons (pe_ix (ixl (K := K) rfl) (pe_lst (pa_cons pe_str (pa_cons pe_str (pa_cons pe_str pa_nil)))) (pe_c c__law_draw hr (by omega) rfl (pa_cons (pv 0) (pa_cons pe_int pa_nil))) (fun _ _ => rfl)) pa_nil)))))
      pss_nil)
    (pss_cons (ps_set (i := 3) sc__law_term.nd rfl (Or.inl rfl) (pe_c c__law_term hr (by omega) rfl (pa_cons (pv 0) (pa_cons (pe_op op_sub (pv 1) pe_int) pa_nil))))
    (pss_one (ps_ret (pe_tup (pa_cons pe_str (pa_cons (pe_ix (ixl (K := K) rfl) (pe_lst (pa_cons pe_str (pa_cons pe_str (pa_cons pe_str pa_nil)))) (pe_c c__law_draw hr (by omega) rfl (pa_cons (pv 0) (pa_cons pe_int pa_nil))) (fun _ _ => rfl)) (pa_cons (pv 3) (pa_cons (pe_c c__law_term hr (by omega) rfl (pa_cons (pv 0) (pa_cons (pe_op op_sub (pv 1) pe_int) pa_nil))) pa_nil)))))))))))), ?_⟩
    refine ⟨_, rfl, st, ca, M, 6, rfl, by decide, by decide, hw, fun kind H1 a0 a1 w1 k1 => ?_⟩
    have A : ∀ σ : L2.St, σ[0]? = some (some (.ref st)) → tRet (tTup (tCons (tC (.str "var")) (tCons (tOp (rIxL K) (tLst (tCons (tC (.str "X")) (tCons (tC (.str "Y")) (tCons (tC (.str "Z")) tNil)))) (tCall (sp__law_draw K d.ts) [] C8.E0 (tCons (tVar 0) (tCons (tC (.int 3)) tNil)))) tNil))) { nx := fun _ H' => Q .non H', rt := Q } σ H1 := fun σ hσ => by
      refine ⟨three, fun l hl => ?_⟩
      have w2 := w1.new (o := HO.lst [.str "X", .str "Y", .str "Z"]) hl
      have s2 : Same H1 (upd H1 l (HO.lst [.str "X", .str "Y", .str "Z"])) := same_new hl
      have e2 : upd H1 l (HO.lst [.str "X", .str "Y", .str "Z"]) l = some (HO.lst [.str "X", .str "Y", .str "Z"]) := upd_same
      have n2 := w1.fresh hl
      generalize upd H1 l (HO.lst [.str "X", .str "Y", .str "Z"]) = H2 at w2 s2 e2 ⊢
      refine ⟨_, hσ, st, ca, M, 3, rfl, by decide, by decide, w2, fun dd H3 c0 c1 w3 k3 => ?_⟩
      obtain ⟨x, hx, ex⟩ := at_mem (xs := VZ) c0 (by simpa [VZ] using c1)
      refine ⟨l, _, dd, _, rfl, rfl, SqL.of (k3 l _ (w2.nl n2) e2), ex V.str, two, fun p hp => ?_⟩
      exact kk (.var x) _ _ (w3.new hp) (((k1.trans (Kx.of s2)).trans k3).trans (Kx.new hp)) (mk_tup w3 hp (.cons (.str _) (.cons (.str _) .nil))) hx q0
    refine ⟨_, rfl, _, _, rfl, rfl, _, rfl, ite2 (fun c1 => iteT (A _ rfl)) (fun c1 => ⟨_, rfl, rfl, _, rfl, ite2 (fun c2 => A _ rfl) (fun c2 => ?_)⟩)⟩
    have hdp : dp ≠ 0 := fun z => c2 (by rw [z]; exact decide_eq_true rfl)
    refine ⟨_, rfl, rfl, _, rfl, ite2 (fun c3 => ?_) (fun c3 => ?_)⟩
    · refine ⟨_, rfl, st, ca, M, 8, rfl, by decide, by decide, w1, fun dd H2 c0 c1 w2 k2 => ⟨two, fun p hp => ?_⟩⟩
      exact kk (.int dd) _ _ (w2.new hp) ((k1.trans k2).trans (Kx.new hp)) (mk_tup w2 hp (.cons (.str _) (.cons (.int _) .nil))) (by show dd.natAbs ≤ 8; omega) q0
    refine ⟨_, rfl, rfl, _, rfl, ite2 (fun c4 => ?_) (fun c4 => ?_)⟩
    · refine ⟨three, fun l hl => ?_⟩
      have w2 := w1.new (o := HO.lst [.str "a", .str "b", .str "zeta"]) hl
      have s2 : Same H1 (upd H1 l (HO.lst [.str "a", .str "b", .str "zeta"])) := same_new hl
      have e2 : upd H1 l (HO.lst [.str "a", .str "b", .str "zeta"]) l = some (HO.lst [.str "a", .str "b", .str "zeta"]) := upd_same
      have n2 := w1.fresh hl
      generalize upd H1 l (HO.lst [.str "a", .str "b", .str "zeta"]) = H2 at w2 s2 e2 ⊢
      refine ⟨_, rfl, st, ca, M, 3, rfl, by decide, by decide, w2, fun dd H3 c0 c1 w3 k3 => ?_⟩
      obtain ⟨x, hx, ex⟩ := at_mem (xs := [("a" : Str), "b", "zeta"]) c0 (by simpa using c1)
      have hx1 : x ∈ CT := by
        simp only [List.mem_cons, List.not_mem_nil, or_false] at hx
        rcases hx with rfl | rfl | rfl <;> decide +kernel
      refine ⟨l, _, dd, _, rfl, rfl, SqL.of (k3 l _ (w2.nl n2) e2), ex V.str, two, fun p hp => ?_⟩
      exact kk (.sym x) _ _ (w3.new hp) (((k1.trans (Kx.of s2)).trans k3).trans (Kx.new hp)) (mk_tup w3 hp (.cons (.str _) (.cons (.str _) .nil))) hx1 q0
    refine ⟨_, rfl, _, rfl, _, _, rfl, rfl, st, ca, M, dp - 1, rfl, by omega, by omega, w1, fun t1 v1 H2 w2 k2 d2 f2 p2 => ?_⟩
    refine ⟨three, fun l hl => ?_⟩
    have w3 := w2.new (o := HO.lst [.str "+", .str "-", .str "*"]) hl
    have s3 : Same H2 (upd H2 l (HO.lst [.str "+", .str "-", .str "*"])) := same_new hl
    have e3 : upd H2 l (HO.lst [.str "+", .str "-", .str "*"]) l = some (HO.lst [.str "+", .str "-", .str "*"]) := upd_same
    have n3 := w2.fresh hl
    generalize upd H2 l (HO.lst [.str "+", .str "-", .str "*"]) = H3 at w3 s3 e3 ⊢
    refine ⟨_, rfl, st, ca, M, 3, rfl, by decide, by decide, w3, fun dd H4 c0 c1' w4 k4 => ?_⟩
    obtain ⟨sg, hsg, esg⟩ := at_mem (xs := OPS) c0 (by simpa [OPS] using c1')
    refine ⟨l, _, dd, _, rfl, rfl, SqL.of (k4 l _ (w3.nl n3) e3), esg V.str, _, rfl, _, rfl, _, rfl, _, _, rfl, rfl, st, ca, M, dp - 1, rfl, by omega, by omega, w4, fun t2 v2 H5 w5 k5 d5 f5 p5 => ⟨four, fun p hp => ?_⟩⟩
    have d2' := ((d2.same s3).ky w3 k4).ky w4 k5
    exact kk (.op sg t1 t2) _ _ (w5.new hp) (((k1.trans k2).trans ((Kx.of s3).trans (k4.trans k5))).trans (Kx.new hp)) (mk_tup w5 hp (.cons (.str _) (.cons (.str _) (.cons d2' (.cons d5 .nil))))) ⟨hsg, f2, f5⟩ (by rw [SU.Tm.dep]; omega)
theorem tm_all (T : Txt K mg base d) (c__law_draw : Cal P w K mg base 1 "_law_draw" (sp__law_draw K d.ts) []) : ∀ m : Nat, Cal P w K mg base (1 + m) "_law_term" (spTm (m : Int) K d.ts) []
  | 0 => tm_bot T
  | m + 1 => tm_step T c__law_draw (tm_all T c__law_draw m)
end
def spAtom (_K : PySem.W.Frag) (ts : Tbs) : Sp := fun vs H Q _ => ∃ (st ca : Addr) (M : Vol), vs = [.ref st] ∧ Wd ts st ca M H ∧ ∀ (x : Atm) v H', Wd ts st ca M H' → Ky ts st ca H H' → DM M H' v x.d → GA x → Q v H'
abbrev sp__law_atom := spAtom
section
variable {P : Program} {w : World} {K : PySem.W.Frag} {mg : Str → Option Value} {base : Heap} {d : Cd}
-- def _law_atom: level 6, calls [('_law_draw', 1), ('_law_term', 5)], cells ['state'], gens 0
theorem ok__law_atom (T : Txt K mg base d) (c__law_draw : Cal P w K mg base 1 "_law_draw" (sp__law_draw K d.ts) []) (c__law_term : Cal P w K mg base 5 "_law_term" (sp__law_term K d.ts) []) :
    Cal P w K mg base 6 "_law_atom" (sp__law_atom K d.ts) [] := by
  obtain ⟨c, F⟩ := T._law_atom
  refine cal (ps := ["state"]) F (fun _ _ _ _ _ _ us hl => match us, hl with | [_], _ => rfl) sc__law_atom (fun vs H Q E h => ?_) (fun f A outer s H vs Q E hr h => ?_)
  · obtain ⟨st, c, M, rfl, _⟩ := h; rfl
  · obtain ⟨st, ca, M, rfl, hw, kk⟩ := h
    refine ⟨_, (pss_one (ps_ret (pe_tup (pa_cons pe_str (pa_cons (pe_ix (ixl (K := K) rfl) (pe_lst (pa_cons pe_str (pa_cons pe_str pa_nil))) (pe_c c__law_draw hr (by decide) rfl (pa_cons (pv 0) (pa_cons pe_int pa_nil))) (fun _ _ => rfl)) (pa_cons (pe_lc (own := [("k", 1)]) rfl sc__law_atom.nd (pi_range1 rfl T.b_range (pa_cons (pe_c c__law_draw hr (by decide) rfl (pa_cons (pv 0) (pa_cons pe_int pa_nil))) pa_nil)) (blkOk_by (N := N__law_atom) (sc := fnScope s__law_atom) (by decide +kernel)) (fun _ _ _ _ _ => (pg_name (i := 1) sc__law_atom.nd rfl (Or.inl rfl))) (fun _ _ _ _ _ => pts_nil) (fun _ _ _ _ _ => (pe_c c__law_term hr (by decide) rfl (pa_cons (pv 0) (pa_cons pe_int pa_nil))))) pa_nil)))))), ?_⟩
    refine ⟨two, fun l hl => ?_⟩
    have w2 := hw.new (o := HO.lst [.str "p", .str "q"]) hl
    have s2 : Same H (upd H l (HO.lst [.str "p", .str "q"])) := same_new hl
    have e2 : upd H l (HO.lst [.str "p", .str "q"]) l = some (HO.lst [.str "p", .str "q"]) := upd_same
    have n2 := hw.fresh hl
    generalize upd H l (HO.lst [.str "p", .str "q"]) = H2 at w2 s2 e2 ⊢
    refine ⟨_, rfl, st, ca, M, 2, rfl, by decide, by decide, w2, fun dd H3 c0 c1 w3 k3 => ?_⟩
    obtain ⟨sg, hsg, esg⟩ := at_mem (xs := PQ) c0 (by simpa [PQ] using c1)
    refine ⟨l, _, dd, _, rfl, rfl, SqL.of (k3 l _ (w2.nl n2) e2), esg V.str, ?_⟩
    refine ⟨_, rfl, st, ca, M, 3, rfl, by decide, by decide, w3, fun d1 H4 a0 a1 w4 k4 => ⟨_, rfl, by omega, by omega, fun D hD => ?_⟩⟩
    refine lc_draw (n := d1.toNat) (dat := SU.Tm.d) (good := GT) w4 hD (by omega) (fun i H5 w5 k5 Qk F hk => ?_) (fun ts ys H5 w5 k5 nD eD dD l5 g5 => ?_)
    · exact ⟨rfl, _, rfl, st, ca, addV M D, 2, rfl, by decide, by decide, w5, fun x v H6 w6 k6 d6 f6 p6 => hk x v H6 w6 k6 d6 ⟨f6, by omega⟩⟩
    · have d5 := dm_of nD eD dD
      refine ⟨three, fun p hp => ?_⟩
      exact kk ⟨sg, ts⟩ _ _ (w5.new hp) ((((Kx.of s2 : Ky d.ts st ca H H2).trans k3).trans (k4.trans k5)).trans (Kx.new hp)) (mk_tup w5 hp (.cons (.str _) (.cons (.str _) (.cons d5 .nil)))) ⟨hsg, by show ts.length ≤ 4; omega, g5⟩
end
def spCnd (_K : PySem.W.Frag) (ts : Tbs) : Sp := fun vs H Q _ => ∃ (st ca : Addr) (M : Vol), vs = [.ref st] ∧ Wd ts st ca M H ∧ ∀ (x : Cnd) v H', Wd ts st ca M H' → Ky ts st ca H H' → DM M H' v x.d → GC x → Q v H'
abbrev sp__law_condition := spCnd
section
variable {P : Program} {w : World} {K : PySem.W.Frag} {mg : Str → Option Value} {base : Heap} {d : Cd}
-- def _law_condition: level 7, calls [('_law_atom', 6), ('_law_draw', 1), ('_law_term', 5)], cells [], gens 0
theorem ok__law_condition (T : Txt K mg base d) (c__law_atom : Cal P w K mg base 6 "_law_atom" (sp__law_atom K d.ts) []) (c__law_draw : Cal P w K mg base 1 "_law_draw" (sp__law_draw K d.ts) []) (c__law_term : Cal P w K mg base 5 "_law_term" (sp__law_term K d.ts) []) :
    Cal P w K mg base 7 "_law_condition" (sp__law_condition K d.ts) [] := by
  obtain ⟨c, F⟩ := T._law_condition
  refine cal (ps := ["state"]) F (fun _ _ _ _ _ _ us hl => match us, hl with | [_], _ => rfl) sc__law_condition (fun vs H Q E h => ?_) (fun f A outer s H vs Q E hr h => ?_)
  · obtain ⟨st, c, M, rfl, _⟩ := h; rfl
  · obtain ⟨st, ca, M, rfl, hw, kk⟩ := h
    refine ⟨_, (pss_cons (ps_set (i := 1) sc__law_condition.nd rfl (Or.inl rfl) (pe_c c__law_draw hr (by decide) rfl (pa_cons (pv 0) (pa_cons pe_int pa_nil))))
    (pss_cons (ps_if (pt_cmpR op_lt (pv 1) pe_int (nomark _))
      (pss_one (ps_ret (pe_tup (pa_cons (pe_ix (ixl (K := K) rfl) (pe_lst (pa_cons pe_str (pa_cons pe_str pa_nil))) (pe_op op_fdiv (pv 1) pe_int) (fun _ _ => rfl)) (pa_cons (pe_c c__law_atom hr (by decide) rfl (pa_cons (pv 0) pa_nil)) pa_nil)))))
      pss_nil)
    (pss_cons (ps_set (i := 2) sc__law_condition.nd rfl (Or.inl rfl) (pe_c c__law_term hr (by decide) rfl (pa_cons (pv 0) (pa_cons pe_int pa_nil))))
    (pss_one (ps_ret (pe_tup (pa_cons pe_str (pa_cons (pe_ix (ixl (K := K) rfl) (pe_lst (pa_cons pe_str (pa_cons pe_str (pa_cons pe_str (pa_cons pe_str (pa_cons pe_str (pa_cons pe_str pa_nil))))))) (pe_c c__law_draw hr (by decide) rfl (pa_cons (pv 0) (pa_cons pe_int pa_nil))) (fun _ _ => rfl)) (pa_cons (pv 2) (pa_cons (pe_c c__law_term hr (by decide) rfl (pa_cons (pv 0) (pa_cons pe_int pa_nil))) pa_nil)))))))))), ?_⟩
    refine ⟨_, rfl, st, ca, M, 5, rfl, by decide, by decide, hw, fun kind H1 a0 a1 w1 k1 => ?_⟩
    refine ⟨_, rfl, _, _, rfl, rfl, _, rfl, ite2 (fun c1 => ?_) (fun c1 => ?_)⟩
    · rw [decide_eq_true_eq] at c1
      refine ⟨two, fun l hl => ?_⟩
      have w2 := w1.new (o := HO.lst [.str "yes", .str "no"]) hl
      have s2 : Same H1 (upd H1 l (HO.lst [.str "yes", .str "no"])) := same_new hl
      have e2 : upd H1 l (HO.lst [.str "yes", .str "no"]) l = some (HO.lst [.str "yes", .str "no"]) := upd_same
      have n2 := w1.fresh hl
      generalize upd H1 l (HO.lst [.str "yes", .str "no"]) = H2 at w2 s2 e2 ⊢
      have hk2 : kind / 2 = 0 ∨ kind / 2 = 1 := by omega
      rcases hk2 with hk2 | hk2
      · refine ⟨_, rfl, _, _, rfl, rfl, ⟨by decide, by decide⟩, l, _, kind / 2, .str "yes", rfl, rfl, SqL.of e2, by rw [hk2]; exact at0, _, rfl, st, ca, M, rfl, w2, fun x v H3 w3 k3 d3 g3 => ⟨two, fun p hp => ?_⟩⟩
        exact kk (.yes x) _ _ (w3.new hp) (((k1.trans (Kx.of s2)).trans k3).trans (Kx.new hp)) (mk_tup w3 hp (.cons (.str _) (.cons d3 .nil))) g3
      · refine ⟨_, rfl, _, _, rfl, rfl, ⟨by decide, by decide⟩, l, _, kind / 2, .str "no", rfl, rfl, SqL.of e2, by rw [hk2]; exact at1, _, rfl, st, ca, M, rfl, w2, fun x v H3 w3 k3 d3 g3 => ⟨two, fun p hp => ?_⟩⟩
        exact kk (.no x) _ _ (w3.new hp) (((k1.trans (Kx.of s2)).trans k3).trans (Kx.new hp)) (mk_tup w3 hp (.cons (.str _) (.cons d3 .nil))) g3
    refine ⟨_, rfl, st, ca, M, 2, rfl, by decide, by decide, w1, fun t1 v1 H2 w2 k2 d2 f2 p2 => ?_⟩
    refine ⟨by decide, fun l hl => ?_⟩
    have w3 := w2.new (o := HO.lst [.str "=", .str "!=", .str "<", .str "<=", .str ">", .str ">="]) hl
    have s3 : Same H2 (upd H2 l (HO.lst [.str "=", .str "!=", .str "<", .str "<=", .str ">", .str ">="])) := same_new hl
    have e3 : upd H2 l (HO.lst [.str "=", .str "!=", .str "<", .str "<=", .str ">", .str ">="]) l = some (HO.lst [.str "=", .str "!=", .str "<", .str "<=", .str ">", .str ">="]) := upd_same
    have n3 := w2.fresh hl
    generalize upd H2 l (HO.lst [.str "=", .str "!=", .str "<", .str "<=", .str ">", .str ">="]) = H3 at w3 s3 e3 ⊢
    refine ⟨_, rfl, st, ca, M, 6, rfl, by decide, by decide, w3, fun dd H4 b0 b1 w4 k4 => ?_⟩
    obtain ⟨sg, hsg, esg⟩ := at_mem (xs := REL) b0 (by simpa [REL] using b1)
    refine ⟨l, _, dd, _, rfl, rfl, SqL.of (k4 l _ (w3.nl n3) e3), esg V.str, _, rfl, _, rfl, st, ca, M, 2, rfl, by decide, by decide, w4, fun t2 v2 H5 w5 k5 d5 f5 p5 => ⟨four, fun p hp => ?_⟩⟩
    have d2' := ((d2.same s3).ky w3 k4).ky w4 k5
    exact kk (.cmp sg t1 t2) _ _ (w5.new hp) (((k1.trans k2).trans ((Kx.of s3).trans (k4.trans k5))).trans (Kx.new hp)) (mk_tup w5 hp (.cons (.str _) (.cons (.str _) (.cons d2' (.cons d5 .nil))))) ⟨hsg, ⟨f2, by omega⟩, f5, by omega⟩
end
end K05
set_option Elab.async false
set_option maxRecDepth 100000
set_option maxHeartbeats 4000000
namespace K05
open PySem L2 C8 GX LC LG LR SU LM
def spLaw (K : PySem.W.Frag) (ts : Tbs) : Sp := fun vs H Q _ => ∃ (a : Addr) (ns : List Int), vs = [.ref a] ∧ SqL K H a (ns.map V.int) ∧ ns.length ≤ 63 ∧ (∀ P ∈ ts.all, H P = some (.tbl #[])) ∧ ts.one ∈ ts.all ∧ ∀ H', Q (.bl true) H'
abbrev sp_law := spLaw
theorem world {ts : Tbs} {st ca : Addr} {H H' : Hp} (hT : ∀ P ∈ ts.all, H P = some (.tbl #[])) (ho : ts.one ∈ ts.all) (s : Same H H') (h : StAt H' st ca) : Wd ts st ca (Lx ts st ca) H' := by
  refine ⟨fun b hb => ?_, h, .inl rfl, .inr rfl, fun P hP => ⟨#[], s _ _ (hT P hP), trivial⟩, ⟨#[], s _ _ (hT _ ho), trivial, fun pos cv e => nomatch (show (none : Option Value) = some cv from e)⟩⟩
  obtain ⟨sd, kd, ns, h1, h2, _⟩ := h
  rcases hb with z | z
  · exact .inl ⟨_, by rw [z]; exact h1, rfl⟩
  · exact .inl ⟨_, by rw [z]; exact h2, rfl⟩
theorem putK_keys {kvs : List (Key × V)} {k : Key} {v : V} (h : k ∉ kvs.map (·.1)) : (putK kvs k v).map (·.1) = kvs.map (·.1) ++ [k] := by
  unfold putK
  rw [if_neg]
  · rw [List.map_append]; rfl
  · intro z
    obtain ⟨p, hp, e⟩ := List.any_eq_true.mp z
    exact h (List.mem_map.mpr ⟨p, hp, of_decide_eq_true e⟩)
theorem nodup_at {us : List Key} (h : us.Nodup) : ∀ {i : Nat} {k : Key}, us[i]? = some k → k ∉ us.take i := by
  induction us with
  | nil => intro i k e; simp at e
  | cons a r ih =>
    intro i k e
    rw [List.nodup_cons] at h
    cases i with
    | zero => simp
    | succ i =>
      rw [List.getElem?_cons_succ] at e
      rw [List.take_succ_cons, List.mem_cons]
      rintro (z | z)
      · exact h.1 (z ▸ List.mem_of_getElem? e)
      · exact ih h.2 e z
section
variable {P : Program} {w : World} {K : PySem.W.Frag} {mg : Str → Option Value} {base : Heap} {d : Cd}
theorem ok_law (T : Txt K mg base d) (c__law_atom : Cal P w K mg base 6 "_law_atom" (sp__law_atom K d.ts) []) (c__law_before : Cal P w K mg base 1 "_law_before" (sp__law_before K d.ts) []) (c__law_condition : Cal P w K mg base 7 "_law_condition" (sp__law_condition K d.ts) []) (c__law_conditions : Cal P w K mg base 7 "_law_conditions" (sp__law_conditions K d.ts) []) (c__law_constant : Cal P w K mg base 2 "_law_constant" (sp__law_constant K d.ts) []) (c__law_draw : Cal P w K mg base 1 "_law_draw" (sp__law_draw K d.ts) []) (c__law_extended : Cal P w K mg base 1 "_law_extended" (sp__law_extended K d.ts) []) (c__law_holds : Cal P w K mg base 2 "_law_holds" (sp__law_holds K d.ts) []) (c__law_instance : Cal P w K mg base 6 "_law_instance" (sp__law_instance K d.ts) []) (c__law_state : Cal P w K mg base 1 "_law_state" (sp__law_state K d.ts) []) (c__law_term : Cal P w K mg base 5 "_law_term" (sp__law_term K d.ts) []) (c__law_value : Cal P w K mg base 5 "_law_value" (sp__law_value K d.ts) []) (c_atom_instance : Cal P w K mg base 6 "atom_instance" (sp_atom_instance K d.ts) []) (c_conditions_instance : Cal P w K mg base 7 "conditions_instance" (sp_conditions_instance K d.ts) []) (c_holds : Cal P w K mg base 2 "holds" (sp_holds K d.ts) []) (c_rank : Cal P w K mg base 1 "rank" (sp_rank K d.ts) []) (c_substitutions : Cal P w K mg base 1 "substitutions" (sp_substitutions K d.ts) []) (c_value : Cal P w K mg base 5 "value" (sp_value K d.ts) []) :
    ∀ (f : Addr) (fd : FuncData) (c : Addr), FunC K "law" "law" s_law f fd c → FnG P w K mg base 8 f fd ["script"] (sp_law K d.ts) := by
  intro f fd c F
  refine fnG (ps := ["script"]) F sc_law (fun vs H Q E h => ?_) (fun A outer s H vs Q E hgu hr h => ?_)
  · obtain ⟨a, ns, rfl, _⟩ := h; rfl
  · obtain ⟨a, ns, rfl, hS, hn, hT, ho, kk⟩ := h
    refine ⟨_, (pss_cons (ps_set (i := 1) sc_law.nd rfl (Or.inr rfl) (pe_c c__law_state hr (by decide) rfl (pa_cons (pv 0) pa_nil)))
    (pss_cons (ps_set (i := 2) sc_law.nd rfl (Or.inl rfl) (pe_lst pa_nil))
    (pss_cons (ps_for PassesOwn.never rfl (pi_range1 rfl T.b_range (pa_cons (pe_op op_add pe_int (pe_c c__law_draw hr (by decide) rfl (pa_cons (pv 1) (pa_cons pe_int pa_nil)))) pa_nil)) (pg_name (i := 3) sc_law.nd rfl (Or.inl rfl))
      (pss_cons (ps_set (i := 4) sc_law.nd rfl (Or.inl rfl) (pe_c c__law_constant hr (by decide) rfl (pa_cons (pv 1) pa_nil)))
      (pss_one (ps_if (pt_cmpR (opnin (K := K) rfl) (pv 4) (pv 2) rfl)
        (pss_one (ps_expr (pe_bm PySem.F.plainAttrs_list PySem.F.slot_list_append PySem.F.type_list_append mt_append (pv 2) (pa_cons (pv 4) pa_nil))))
        pss_nil))))
    (pss_cons (ps_set (i := 5) sc_law.nd rfl (Or.inl rfl) pe_dnewK)
    (pss_cons (ps_for PassesOwn.never rfl (pil (K := K) rfl (pe_lst (pa_cons pe_str (pa_cons pe_str (pa_cons pe_str pa_nil))))) (pg_name (i := 6) sc_law.nd rfl (Or.inl rfl))
      (pss_one (ps_dput (u1 hr.units) (pv 5) (pv 6) (pe_ix (ixl (K := K) rfl) (pv 2) (pe_c c__law_draw hr (by decide) rfl (pa_cons (pv 1) (pa_cons (pe_callB (clen (K := K) rfl) (by rfl) T.b_len PySem.boot_len (pa_cons (pv 2) pa_nil)) pa_nil))) (fun _ _ => rfl)) rfl)))
    (pss_cons (ps_set (i := 7) sc_law.nd rfl (Or.inl rfl) (pe_callB (crepru (K := K) rfl hgu hr.units) (by rfl) T.b_repr (by decide +kernel) (pa_cons (pe_lst (pa_cons (pv 2) (pa_cons (pv 5) pa_nil))) pa_nil)))
    (pss_cons (ps_set (i := 8) sc_law.nd rfl (Or.inl rfl) (pe_c c__law_term hr (by decide) rfl (pa_cons (pv 1) (pa_cons pe_int pa_nil))))
    (pss_cons (ps_if (PW.pt (pw_or (pt_cmpR op_ne (pe_c c_value hr (by decide) rfl (pa_cons (pv 8) (pa_cons (pv 5) pa_nil))) (pe_c c__law_value hr (by decide) rfl (pa_cons (pv 8) (pa_cons (pv 5) pa_nil))) (nomark _)) (pw_or1 (pt_val (pe_callB (cisi (K := K) rfl) (by rfl) T.b_isinstance (by decide +kernel) (pa_cons (pe_c c_value hr (by decide) rfl (pa_cons (pv 8) (pa_cons (pv 5) pa_nil))) (pa_cons (pe_bltn (v := .ty "bool") (by rfl) T.b_bool (by decide +kernel) rfl) pa_nil)))))))
      (pss_one (ps_ret pe_bl))
      pss_nil)
    (pss_cons (ps_for PassesOwn.never rfl (pil (K := K) rfl (pv 2)) (pg_name (i := 9) sc_law.nd rfl (Or.inl rfl))
      (pss_one (ps_for PassesOwn.never rfl (pil (K := K) rfl (pv 2)) (pg_name (i := 10) sc_law.nd rfl (Or.inl rfl))
        (pss_cons (ps_if (pt_cmpR op_ne (pe_cmpR (oplt (K := K) rfl hr.units) (pe_c c_rank hr (by decide) rfl (pa_cons (pv 9) pa_nil)) (pe_c c_rank hr (by decide) rfl (pa_cons (pv 10) pa_nil)) (nomark _)) (pe_c c__law_before hr (by decide) rfl (pa_cons (pv 9) (pa_cons (pv 10) pa_nil))) (nomark _))
          (pss_one (ps_ret pe_bl))
          pss_nil)
        (pss_cons (ps_if (pt_cmpR op_ne (pe_cmpR (opeqD (K := K) rfl hr.units) (pe_c c_rank hr (by decide) rfl (pa_cons (pv 9) pa_nil)) (pe_c c_rank hr (by decide) rfl (pa_cons (pv 10) pa_nil)) (nomark _)) (pe_cmpR op_eq (pv 9) (pv 10) (nomark _)) (nomark _))
          (pss_one (ps_ret pe_bl))
          pss_nil)
        (pss_one (ps_for PassesOwn.never rfl (pil (K := K) rfl (pe_lst (pa_cons pe_str (pa_cons pe_str (pa_cons pe_str (pa_cons pe_str (pa_cons pe_str (pa_cons pe_str pa_nil)))))))) (pg_name (i := 11) sc_law.nd rfl (Or.inl rfl))
          (pss_one (ps_if (pt_cmpR op_ne (pe_c c_holds hr (by decide) rfl (pa_cons (pv 11) (pa_cons (pv 9) (pa_cons (pv 10) pa_nil)))) (pe_c c__law_holds hr (by decide) rfl (pa_cons (pv 11) (pa_cons (pv 9) (pa_cons (pv 10) pa_nil)))) (nomark _))
            (pss_one (ps_ret pe_bl))
            pss_nil)))))))))
    (pss_cons (ps_set (i := 12) sc_law.nd rfl (Or.inl rfl) (pe_c c__law_atom hr (by decide) rfl (pa_cons (pv 1) pa_nil)))
    (pss_cons (ps_setLc (i := 13) (own := [("k", 3)]) rfl sc_law.nd rfl rfl (sw_true rfl rfl rfl (by decide +kernel)) (pi_range1 rfl T.b_range (pa_cons (pe_c c__law_draw hr (by decide) rfl (pa_cons (pv 1) (pa_cons pe_int pa_nil))) pa_nil)) (blkOk_by (N := N_law) (sc := fnScope s_law) (by decide +kernel)) (fun _ _ _ _ _ => (pg_name (i := 3) sc_law.nd rfl (Or.inl rfl))) (fun _ _ _ _ _ => pts_nil) (fun _ _ _ _ _ => (pe_c c__law_condition hr (by decide) rfl (pa_cons (pv 1) pa_nil))))
    (pss_cons (ps_if (pt_cmpR (opneD (K := K) rfl hr.units) (pe_c c_atom_instance hr (by decide) rfl (pa_cons (pv 12) (pa_cons (pv 5) (pa_cons (pv 2) pa_nil)))) (pe_c c__law_instance hr (by decide) rfl (pa_cons (pv 12) (pa_cons (pv 5) (pa_cons (pv 2) pa_nil)))) (nomark _))
      (pss_one (ps_ret pe_bl))
      pss_nil)
    (pss_cons (ps_if (pt_cmpR (opneD (K := K) rfl hr.units) (pe_c c_conditions_instance hr (by decide) rfl (pa_cons (pv 13) (pa_cons (pv 5) (pa_cons (pv 2) pa_nil)))) (pe_c c__law_conditions hr (by decide) rfl (pa_cons (pv 13) (pa_cons (pv 5) (pa_cons (pv 2) pa_nil)))) (nomark _))
      (pss_one (ps_ret pe_bl))
      pss_nil)
    (pss_cons (ps_set (i := 14) sc_law.nd rfl (Or.inl rfl) pe_dnewK)
    (pss_cons (ps_for PassesOwn.never rfl (pil (K := K) rfl (pv 2)) (pg_name (i := 4) sc_law.nd rfl (Or.inl rfl))
      (pss_one (ps_dput (u1 hr.units) (pv 14) (pv 4) pe_bl rfl)))
    (pss_cons (ps_if (pt_cmpR (opneD (K := K) rfl hr.units) (pe_c c_conditions_instance hr (by decide) rfl (pa_cons (pv 13) (pa_cons (pv 5) (pa_cons (pv 14) pa_nil)))) (pe_c c__law_conditions hr (by decide) rfl (pa_cons (pv 13) (pa_cons (pv 5) (pa_cons (pv 2) pa_nil)))) (nomark _))
      (pss_one (ps_ret pe_bl))
      pss_nil)
    (pss_cons (ps_set (i := 15) sc_law.nd rfl (Or.inl rfl) (pe_slice (slL (K := K) rfl) (pe_lst (pa_cons pe_str (pa_cons pe_str (pa_cons pe_str pa_nil)))) po_none (po_some (pe_c c__law_draw hr (by decide) rfl (pa_cons (pv 1) (pa_cons pe_int pa_nil))))))
    (pss_cons (ps_if (pt_cmpR (op_neV (K := K) rfl hr.units) (pe_c c_substitutions hr (by decide) rfl (pa_cons (pv 5) (pa_cons (pv 15) (pa_cons (pv 14) pa_nil)))) (pe_c c__law_extended hr (by decide) rfl (pa_cons (pv 5) (pa_cons (pv 15) (pa_cons (pv 2) pa_nil)))) (nomark _))
      (pss_one (ps_ret pe_bl))
      pss_nil)
    (pss_cons (ps_if (pt_cmpR (op_neV (K := K) rfl hr.units) (pe_c c_substitutions hr (by decide) rfl (pa_cons (pv 5) (pa_cons (pv 15) (pa_cons (pv 2) pa_nil)))) (pe_c c__law_extended hr (by decide) rfl (pa_cons (pv 5) (pa_cons (pv 15) (pa_cons (pv 2) pa_nil)))) (nomark _))
      (pss_one (ps_ret pe_bl))
      pss_nil)
    (pss_one (ps_ret (pe_cmpR op_eq (pe_callB (crepru (K := K) rfl hgu hr.units) (by rfl) T.b_repr (by decide +kernel) (pa_cons (pe_lst (pa_cons (pv 2) (pa_cons (pv 5) pa_nil))) pa_nil)) (pv 7) (nomark _))))))))))))))))))))))), ?_⟩
    refine ⟨_, rfl, a, ns, rfl, hS, hn, fun st ca H1 s1 nst nca stat => ?_⟩
    have w1 := world hT ho s1 stat
    refine ⟨Nat.zero_le _, fun U hU => ?_⟩
    have lU := w1.nl (w1.fresh hU)
    have w2 : Wd d.ts st ca (addV (Lx d.ts st ca) U) (upd H1 U (.lst [])) := (w1.new hU).add ⟨_, upd_same, rfl⟩
    have e2 : upd H1 U (.lst []) U = some (.lst (kVs [])) := upd_same
    generalize upd H1 U (.lst []) = H2 at w2 e2 ⊢
    refine ⟨_, rfl, st, ca, _, 5, rfl, by decide, by decide, w2, fun d1 H3 a0 a1 w3 k3 => ⟨_, _, rfl, rfl, _, rfl, by omega, by omega, ?_⟩⟩
    refine for_range (lo := 0) (n := (1 + d1).toNat) (fun i σ H' => Wd d.ts st ca (addV (Lx d.ts st ca) U) H' ∧ ∃ us : List Key, H' U = some (.lst (kVs us)) ∧ us.Nodup ∧ (∀ k ∈ us, KB k) ∧ us.length ≤ i ∧ (0 < i → us ≠ []) ∧ ∃ x y, σ = [some (.ref a), some (.ref st), some (.ref U), x, y, none, none, none, none, none, none, none, none, none, none, none]) ⟨w3, [], k3 U _ lU e2, List.nodup_nil, (fun _ z => nomatch z), Nat.le_refl _, (fun z => absurd z (Nat.lt_irrefl _)), none, none, rfl⟩ ?_ ?_
    · rintro i σ H4 hi ⟨w4, us, e4, nd, kb, lu, ne, x, y, rfl⟩
      refine ⟨_, rfl, st, ca, _, rfl, w4, fun k H5 w5 k5 hk => ?_⟩
      have e5 := k5 U _ lU e4
      refine ⟨_, rfl, _, rfl, U, _, rfl, .inl (SqL.of e5), flat_key k, flat_keys, ?_⟩
      rw [inV_key]
      refine ⟨_, rfl, ite2 (fun c => ?_) (fun c => ?_)⟩
      · have nk : k ∉ us := by simpa using c
        refine ⟨_, rfl, .inl ⟨rfl, _, SqL.of e5⟩, _, rfl, U, _, _, rfl, rfl, e5, by rw [List.length_map]; exact Nat.lt_of_le_of_lt (by omega : us.length ≤ 1000) (by decide), w5.wr lU e5, us ++ [k], ?_, ?_, ?_, ?_, fun _ => by simp, _, _, rfl⟩
        · rw [upd_same, show kVs (us ++ [k]) = kVs us ++ [kV k] from List.map_append]
        · exact List.nodup_append.mpr ⟨nd, List.pairwise_singleton _ _, fun q hq b hb e => nk (by rw [List.mem_singleton.mp hb] at e; rw [← e]; exact hq)⟩
        · intro q hq
          rcases List.mem_append.mp hq with hq | hq
          · exact kb q hq
          · rw [List.mem_singleton.mp hq]; exact hk
        · rw [List.length_append]; simp; omega
      · have mk : k ∈ us := by simpa using c
        exact ⟨w5, us, e5, nd, kb, by omega, fun _ => List.ne_nil_of_mem mk, _, _, rfl⟩
    rintro σ H4 ⟨w4, us, e4, nd, kb, lu, ne, x, y, rfl⟩
    have lu5 : us.length ≤ 5 := by omega
    have upos : 0 < us.length := List.length_pos_iff.mpr (ne (by omega))
    refine fun n hnn => ?_
    have lN := w4.nl (w4.fresh hnn)
    have w5 : Wd d.ts st ca (addV (addV (Lx d.ts st ca) U) n) (upd H4 n (.dK [])) := (w4.new hnn).add ⟨_, upd_same, rfl⟩
    have e5 : upd H4 n (.dK []) n = some (.dK (([] : Row).map prV)) := upd_same
    have u5 : upd H4 n (.dK []) U = some (.lst (kVs us)) := (same_new hnn) _ _ e4
    generalize upd H4 n (.dK []) = H5 at w5 e5 u5 ⊢
    refine ⟨three, fun l hl => ?_⟩
    have lL := w5.nl (w5.fresh hl)
    have w6 := w5.new (o := HO.lst [.str "X", .str "Y", .str "Z"]) hl
    have s6 : Same H5 (upd H5 l (HO.lst [.str "X", .str "Y", .str "Z"])) := same_new hl
    have l6 : upd H5 l (HO.lst [.str "X", .str "Y", .str "Z"]) l = some (.lst (sVs VZ)) := upd_same
    generalize upd H5 l (HO.lst [.str "X", .str "Y", .str "Z"]) = H6 at w6 s6 l6 ⊢
    refine ⟨l, rfl, ⟨_, SqL.of l6⟩, for_list (K := K) (a := l) (xs := sVs VZ) (fun i σ H' => Wd d.ts st ca (addV (addV (Lx d.ts st ca) U) n) H' ∧ H' l = some (.lst (sVs VZ)) ∧ H' U = some (.lst (kVs us)) ∧ (∃ ps : Row, H' n = some (.dK (ps.map prV)) ∧ ps.map (·.1) = (VZ.take i).map Sum.inr ∧ (∀ p ∈ ps, KB p.2)) ∧ ∃ z, σ = [some (.ref a), some (.ref st), some (.ref U), x, y, some (.ref n), z, none, none, none, none, none, none, none, none, none]) ⟨w6, l6, s6 _ _ u5, ⟨[], s6 _ _ e5, rfl, (fun _ z => nomatch z)⟩, none, rfl⟩ (fun i σ H' _ h => SqL.of h.2.1) ?_ ?_⟩
    · rintro i x0 σ H7 hx ⟨w7, l7, u7, ⟨ps, e7, kp, kb7⟩, z, rfl⟩
      rw [List.getElem?_map] at hx
      obtain ⟨nm, hnm, rfl⟩ := Option.map_eq_some_iff.mp hx
      have hi : i < 3 := (List.getElem?_eq_some_iff.mp hnm).1
      have nk : (Sum.inr nm : Key) ∉ ps.map (·.1) := by
        rw [kp]
        have h3 : i = 0 ∨ i = 1 ∨ i = 2 := by omega
        rcases h3 with rfl | rfl | rfl
        · rw [show VZ[0]? = some (Str.ofString "X") from rfl] at hnm; cases hnm; decide +kernel
        · rw [show VZ[1]? = some (Str.ofString "Y") from rfl] at hnm; cases hnm; decide +kernel
        · rw [show VZ[2]? = some (Str.ofString "Z") from rfl] at hnm; cases hnm; decide +kernel
      have lps : ps.length ≤ 3 := by
        have := congrArg List.length kp
        rw [List.length_map, List.length_map, List.length_take] at this
        omega
      refine ⟨_, rfl, _, rfl, _, rfl, U, _, rfl, .inl (SqL.of u7), st, ca, _, _, rfl, by rw [List.length_map]; omega, by rw [List.length_map]; omega, w7, fun dd H8 q0 q1 w8 k8 => ?_⟩
      rw [List.length_map] at q1
      obtain ⟨k, hk, ek⟩ := at_mem (xs := us) q0 q1
      have e8 := k8 n _ lN e7
      have u8 := k8 U _ lU u7
      have l8 := k8 l _ lL l7
      have nln : l ≠ n := fun z => by rw [z, e8] at l8; cases l8
      have nUn : U ≠ n := fun z => by rw [z, e8] at u8; cases u8
      refine ⟨U, _, dd, _, rfl, rfl, SqL.of u8, ek kV, _, rfl, _, rfl, n, _, rfl, DPut.k (k := .inr nm) e8 (by rw [List.length_map]; exact Nat.lt_of_le_of_lt (by omega : ps.length ≤ 1000) (by decide)), w8.wr lN e8, by rw [upd_ne nln]; exact l8, by rw [upd_ne nUn]; exact u8, ⟨ps ++ [(.inr nm, k)], ?_, ?_, ?_⟩, _, rfl⟩
      · rw [upd_same, ← putP_v, putP_new nk]
      · rw [List.map_append, kp, take_map_next hnm]; rfl
      · intro p hp
        rcases List.mem_append.mp hp with hp | hp
        · exact kb7 p hp
        · rw [List.mem_singleton.mp hp]; exact kb k hk
    rintro σ H7 ⟨w7, l7, u7, ⟨ps, e7, kp, kb7⟩, z, rfl⟩
    obtain ⟨e, rfl, eo⟩ := ev_of (ps := ps) kp kb7
    obtain ⟨sh, sz⟩ := un_ok lu5 kb eo
    refine ⟨_, rfl, _, rfl, two, fun r0 hr0 => ⟨r0, U, n, us, e.ps, rfl, SqL.of upd_same, SqL.of ((same_new hr0) _ _ u7), (same_new hr0) _ _ e7, sh, sz, ?_⟩⟩
    have s8 : Same H7 (upd H7 r0 (.lst [.ref U, .ref n])) := same_new hr0
    generalize upd H7 r0 (.lst [.ref U, .ref n]) = H8 at s8 ⊢
    have w8 := wd_same w7 s8
    refine ⟨_, rfl, st, ca, _, 3, rfl, by decide, by decide, w8, fun t v H9 w9 k9 dm wf dp => ?_⟩
    have u9 := k9 U _ lU (s8 _ _ u7)
    have e9 : NmA H9 n e := k9 n _ lN (s8 _ _ e7)
    have dp3 : t.dep ≤ 3 := by omega
    refine ⟨_, rfl, _, rfl, v, t, n, e, rfl, dm.dp, e9, eo, wf, by omega, dp3, _, rfl, _, rfl, v, t, n, e, rfl, dm.dp, e9, eo, wf, by omega, dp3, fun H10 s10 => ⟨oV_scal _ _, _, rfl, ite2 (fun c => absurd c (by simp)) (fun _ => ?_)⟩⟩
    have e10 := e9.same s10
    have u10 := s10 _ _ u9
    have w10 := wd_same w9 s10
    obtain ⟨t1, y1, q1⟩ := oV_isb (K := K) (H := H10) (tval e t)
    refine ⟨_, rfl, _, rfl, v, t, n, e, rfl, (dm.same s10).dp, e10, eo, wf, by omega, dp3, _, .ty "bool", t1, .type "bool", false, rfl, .ty _, y1, q1, _, rfl, iteF ?_⟩
    refine ⟨_, rfl, U, rfl, ⟨_, SqL.of u10⟩, for_list (K := K) (a := U) (xs := kVs us) (fun i σ H' => Same H10 H' ∧ ∃ p q r, σ = [some (.ref a), some (.ref st), some (.ref U), x, y, some (.ref n), z, some (.str (unD us e.ps).shown), some v, p, q, r, none, none, none, none]) ⟨Same.refl H10, none, none, none, rfl⟩ (fun i σ H' _ h => SqL.of (h.1 _ _ u10)) ?_ ?_⟩
    · rintro i v1 σ H11 hx ⟨s11, p, q, r, rfl⟩
      rw [List.getElem?_map] at hx
      obtain ⟨k1, hk1, rfl⟩ := Option.map_eq_some_iff.mp hx
      have ks1 := (kb k1 (List.mem_of_getElem? hk1)).ks
      refine ⟨_, rfl, U, rfl, ⟨_, SqL.of (s11 _ _ u10)⟩, for_list (K := K) (a := U) (xs := kVs us) (fun j σ H' => Same H10 H' ∧ ∃ q r, σ = [some (.ref a), some (.ref st), some (.ref U), x, y, some (.ref n), z, some (.str (unD us e.ps).shown), some v, some (kV k1), q, r, none, none, none, none]) ⟨s11, q, r, rfl⟩ (fun j σ H' _ h => SqL.of (h.1 _ _ u10)) ?_ ?_⟩
      · rintro j v2 σ H12 hy ⟨s12, q, r, rfl⟩
        rw [List.getElem?_map] at hy
        obtain ⟨k2, hk2, rfl⟩ := Option.map_eq_some_iff.mp hy
        have ks2 := (kb k2 (List.mem_of_getElem? hk2)).ks
        refine ⟨_, rfl, k1, rfl, fun pa hpa => ⟨_, rfl, k2, rfl, fun qa hqa => ?_⟩⟩
        have sA : Same H12 (upd (upd H12 pa (.tup [.int (tagK k1), kV k1])) qa (.tup [.int (tagK k2), kV k2])) := (same_new hpa).trans (same_new hqa)
        have epa : upd (upd H12 pa (.tup [.int (tagK k1), kV k1])) qa (.tup [.int (tagK k2), kV k2]) pa = some (.tup [.int (tagK k1), kV k1]) := (same_new hqa) _ _ upd_same
        have eqa : upd (upd H12 pa (.tup [.int (tagK k1), kV k1])) qa (.tup [.int (tagK k2), kV k2]) qa = some (.tup [.int (tagK k2), kV k2]) := upd_same
        generalize upd (upd H12 pa (.tup [.int (tagK k1), kV k1])) qa (.tup [.int (tagK k2), kV k2]) = H13 at sA epa eqa ⊢
        refine ⟨pa, qa, k1, k2, rfl, rfl, SqT.of epa, SqT.of eqa, _, rfl, _, rfl, k1, k2, rfl, rfl, _, rfl, ite2 (fun c => absurd c (by simp [byK])) (fun _ => ?_)⟩
        refine ⟨_, rfl, k1, rfl, fun pb hpb => ⟨_, rfl, k2, rfl, fun qb hqb => ?_⟩⟩
        have sB : Same H13 (upd (upd H13 pb (.tup [.int (tagK k1), kV k1])) qb (.tup [.int (tagK k2), kV k2])) := (same_new hpb).trans (same_new hqb)
        have epb : upd (upd H13 pb (.tup [.int (tagK k1), kV k1])) qb (.tup [.int (tagK k2), kV k2]) pb = some (.tup [.int (tagK k1), kV k1]) := (same_new hqb) _ _ upd_same
        have eqb : upd (upd H13 pb (.tup [.int (tagK k1), kV k1])) qb (.tup [.int (tagK k2), kV k2]) qb = some (.tup [.int (tagK k2), kV k2]) := upd_same
        generalize upd (upd H13 pb (.tup [.int (tagK k1), kV k1])) qb (.tup [.int (tagK k2), kV k2]) = H14 at sB epb eqb ⊢
        refine eq_ranks ks1 ks2 (SqT.of epb) (SqT.of eqb) ⟨_, rfl, _, rfl, kV_scal k1 k2, rfl, _, rfl, ite2 (fun c => absurd c (by rw [kV_dec]; simp)) (fun _ => ?_)⟩
        refine ⟨by decide, fun l2 hl2 => ?_⟩
        have sC : Same H14 (upd H14 l2 (.lst [.str "=", .str "!=", .str "<", .str "<=", .str ">", .str ">="])) := same_new hl2
        have eC : upd H14 l2 (.lst [.str "=", .str "!=", .str "<", .str "<=", .str ">", .str ">="]) l2 = some (.lst (sVs REL)) := upd_same
        generalize upd H14 l2 (.lst [.str "=", .str "!=", .str "<", .str "<=", .str ">", .str ">="]) = H15 at sC eC ⊢
        refine ⟨l2, rfl, ⟨_, SqL.of eC⟩, for_list (K := K) (a := l2) (xs := sVs REL) (fun m σ H' => Same H15 H' ∧ ∃ r, σ = [some (.ref a), some (.ref st), some (.ref U), x, y, some (.ref n), z, some (.str (unD us e.ps).shown), some v, some (kV k1), some (kV k2), r, none, none, none, none]) ⟨Same.refl H15, r, rfl⟩ (fun m σ H' _ h => SqL.of (h.1 _ _ eC)) ?_ ?_⟩
        · rintro m v3 σ H16 hz ⟨s16, r, rfl⟩
          rw [List.getElem?_map] at hz
          obtain ⟨sg, hsg, rfl⟩ := Option.map_eq_some_iff.mp hz
          exact ⟨_, rfl, _, rfl, _, rfl, sg, k1, k2, rfl, ks1, ks2, fun H17 s17 => ⟨_, rfl, _, rfl, _, rfl, sg, k1, k2, rfl, List.mem_of_getElem? hsg, fun H18 s18 => ⟨rfl, _, rfl, ite2 (fun c => absurd c (by simp)) (fun _ => ⟨(s16.trans s17).trans s18, _, rfl⟩)⟩⟩⟩
        · rintro σ H16 ⟨s16, r, rfl⟩
          exact ⟨(s12.trans sA).trans ((sB.trans sC).trans s16), _, _, rfl⟩
      · rintro σ H12 ⟨s12, q, r, rfl⟩
        exact ⟨s12, _, _, _, rfl⟩
    rintro σ H11 ⟨s11, p, q, r, rfl⟩
    have w11 := wd_same w10 s11
    refine ⟨_, rfl, st, ca, _, rfl, w11, fun at0' vA H12 w12 k12 dA gA => ?_⟩
    refine ⟨_, rfl, st, ca, _, 4, rfl, by decide, by decide, w12, fun d2 H13 b0 b1 w13 k13 => ⟨_, rfl, by omega, by omega, fun C hC => ?_⟩⟩
    refine lc_draw (n := d2.toNat) (dat := Cnd.d) (good := GC) w13 hC (by omega) (fun i H14 w14 k14 Qk F hk => ?_) (fun cs ys H14 w14 k14 nC eC dC lC gC => ?_)
    · exact ⟨rfl, _, rfl, st, ca, _, rfl, w14, fun x v H15 w15 k15 d15 g15 => hk x v H15 w15 k15 d15 g15⟩
    have lcs : cs.length ≤ 1000 := by omega
    have dCs : DM (addV (addV (Lx d.ts st ca) U) n) H14 (.ref C) (csD cs) := dm_of nC eC dC
    have u14 := k14 U _ lU (k13 U _ lU (k12 U _ lU (s11 _ _ u10)))
    have e14 : NmA H14 n e := k14 n _ lN (k13 n _ lN (k12 n _ lN (s11 _ _ e10)))
    have dA14 := (dA.ky w12 k13).ky w13 k14
    refine ⟨_, rfl, _, rfl, _, rfl, vA, at0', n, e, .ref U, us, rfl, dA14.dp, e14, eo, gA, ⟨U, rfl, .inl (SqL.of u14)⟩, fun v1 H15 s15 i15 => ⟨_, rfl, _, rfl, _, rfl, vA, at0', n, e, U, us, rfl, (dA14.same s15).dp, e14.same s15, eo, gA, SqL.of (s15 _ _ u14), fun v2 H16 s16 i16 => ?_⟩⟩
    refine ne_data ((i15 NoV (fun _ z => z.elim)).same s16).dp (i16 NoV (fun _ z => z.elim)).dp (shaped_inst eo gA) ⟨_, rfl, iteF ?_⟩
    have s17 := s15.trans s16
    refine ⟨_, rfl, _, rfl, _, rfl, .ref C, cs, n, e, .ref U, us, rfl, (dCs.same s17).dp, e14.same s17, eo, lcs, gC, ⟨U, rfl, .inl (SqL.of (s17 _ _ u14))⟩, fun v1 H17 s18 i17 => ⟨_, rfl, _, rfl, _, rfl, .ref C, cs, n, e, U, us, rfl, (dCs.same (s17.trans s18)).dp, e14.same (s17.trans s18), eo, lcs, gC, SqL.of ((s17.trans s18) _ _ u14), fun v2 H18 s19 i18 => ?_⟩⟩
    refine ne_data (dp_same s19 i17) i18 (shaped_cond eo gC) ⟨_, rfl, iteF ?_⟩
    have s20 := (s17.trans s18).trans s19
    have u18 := s20 _ _ u14
    have e18 := e14.same s20
    have w18 := wd_same w14 s20
    have dC18 := dCs.same s20
    clear s15 i15 i16 s16 s17 s18 i17 s19 i18 s20
    refine fun kn hkn => ?_
    have lK := w18.nl (w18.fresh hkn)
    refine ⟨_, rfl, U, rfl, ⟨_, SqL.of ((same_new hkn) _ _ u18)⟩, for_list (K := K) (a := U) (xs := kVs us) (fun i σ H' => Same H18 H' ∧ (∃ kvs : List (Key × V), H' kn = some (.dK kvs) ∧ kvs.map (·.1) = us.take i) ∧ ∃ y, σ = [some (.ref a), some (.ref st), some (.ref U), x, y, some (.ref n), z, some (.str (unD us e.ps).shown), some v, p, q, r, some vA, some (.ref C), some (.ref kn), none]) ⟨same_new hkn, ⟨[], upd_same, rfl⟩, y, rfl⟩ (fun i σ H' _ h => SqL.of (h.1 _ _ u18)) ?_ ?_⟩
    · rintro i v1 σ H19 hx ⟨s19, ⟨kvs, ek, hks⟩, y, rfl⟩
      rw [List.getElem?_map] at hx
      obtain ⟨k, hk, rfl⟩ := Option.map_eq_some_iff.mp hx
      have lk : kvs.length ≤ 5 := by
        have := congrArg List.length hks
        rw [List.length_map, List.length_take] at this
        omega
      refine ⟨_, rfl, _, rfl, kn, _, rfl, DPut.k ek (Nat.lt_of_le_of_lt (by omega : kvs.length ≤ 1000) (by decide)), same_put s19 hkn, ⟨_, upd_same, ?_⟩, _, rfl⟩
      rw [putK_keys (by rw [hks]; exact nodup_at nd hk), hks, List.take_add_one, hk]; rfl
    rintro σ H19 ⟨s19, ⟨kvs, ek, hks⟩, y, rfl⟩
    rw [List.length_map, List.take_length] at hks
    have u19 := s19 _ _ u18
    have e19 := e18.same s19
    have w19 := wd_same w18 s19
    have d19 := dC18.same s19
    refine ⟨_, rfl, _, rfl, _, rfl, .ref C, cs, n, e, .ref kn, us, rfl, d19.dp, e19, eo, lcs, gC, ⟨kn, rfl, .inr ⟨kvs, ek, hks⟩⟩, fun v1 H20 s20 i20 => ⟨_, rfl, _, rfl, _, rfl, .ref C, cs, n, e, U, us, rfl, (d19.same s20).dp, e19.same s20, eo, lcs, gC, SqL.of (s20 _ _ u19), fun v2 H21 s21 i21 => ?_⟩⟩
    refine ne_data (dp_same s21 i20) i21 (shaped_cond eo gC) ⟨_, rfl, iteF ?_⟩
    have s22 := s20.trans s21
    have w22 := wd_same w19 s22
    have u22 := s22 _ _ u19
    have e22 := e19.same s22
    have k22 := s22 _ _ ek
    refine ⟨three, fun l3 hl3 => ?_⟩
    have lL3 := w22.nl (w22.fresh hl3)
    have w23 := w22.new (o := HO.lst [.str "U", .str "V", .str "W"]) hl3
    have s23 : Same H21 (upd H21 l3 (HO.lst [.str "U", .str "V", .str "W"])) := same_new hl3
    have e23 : upd H21 l3 (HO.lst [.str "U", .str "V", .str "W"]) l3 = some (HO.lst [.str "U", .str "V", .str "W"]) := upd_same
    generalize upd H21 l3 (HO.lst [.str "U", .str "V", .str "W"]) = H23 at w23 s23 e23 ⊢
    refine ⟨_, rfl, st, ca, _, 4, rfl, by decide, by decide, w23, fun dd H24 c0 c1 w24 k24 => ⟨_, rfl, l3, _, rfl, SqL.of (k24 l3 _ lL3 e23), fun wl hwl => ?_⟩⟩
    obtain ⟨nn, rfl⟩ : ∃ n : Nat, dd = n := ⟨dd.toNat, by omega⟩
    have s25 : Same H24 (upd H24 wl (.lst (cutV [.str "U", .str "V", .str "W"] none (some (nn : Int))))) := same_new hwl
    have e25 : upd H24 wl (.lst (cutV [.str "U", .str "V", .str "W"] none (some (nn : Int)))) wl = some (.lst (cutV [.str "U", .str "V", .str "W"] none (some (nn : Int)))) := upd_same
    generalize upd H24 wl (.lst (cutV [.str "U", .str "V", .str "W"] none (some (nn : Int)))) = H25 at s25 e25 ⊢
    rw [show cutV [V.str "U", V.str "V", V.str "W"] none (some (nn : Int)) = ([Str.ofString "U", Str.ofString "V", Str.ofString "W"].take nn).map V.str from (cut_to (n := nn)).trans (List.map_take (f := V.str) (l := [Str.ofString "U", Str.ofString "V", Str.ofString "W"])).symm] at e25
    have lws : ([Str.ofString "U", Str.ofString "V", Str.ofString "W"].take nn).length ≤ 3 := by rw [List.length_take]; simp only [List.length_cons, List.length_nil]; omega
    generalize [Str.ofString "U", Str.ofString "V", Str.ofString "W"].take nn = ws at e25 lws
    have u25 := s25 _ _ (k24 U _ lU (s23 _ _ u22))
    have e25n : NmA H25 n e := s25 _ _ (k24 n _ lN (s23 _ _ e22))
    have k25 := s25 _ _ (k24 kn _ lK (s23 _ _ k22))
    have ndr : ∀ r ∈ exts us e.ps ws, (r.map (·.1)).Nodup := fun r hr => ((few_exts e ws lu5).2 r hr).2
    refine ⟨_, rfl, _, rfl, _, rfl, n, wl, .ref kn, e, ws, us, rfl, e25n, SqL.of e25, lws, ⟨kn, rfl, .inr ⟨kvs, k25, hks⟩⟩, lu5, fun r1 ds1 H26 s26 f1 g1 => ⟨_, rfl, _, rfl, _, rfl, n, wl, U, e, ws, us, rfl, e25n.same s26, SqL.of (s26 _ _ e25), lws, SqL.of (s26 _ _ u25), lu5, fun r2 ds2 H27 s27 f2 g2 => ?_⟩⟩
    refine ⟨2, r1, r2, _, _, by decide, rfl, rfl, SqL.of (s27 _ _ f1), SqL.of f2, eq_rows (g1.keep (Same.keepD s27)) g2 ndr, _, rfl, iteF ?_⟩
    have s28 := s26.trans s27
    refine ⟨_, rfl, _, rfl, _, rfl, n, wl, .ref U, e, ws, us, rfl, e25n.same s28, SqL.of (s28 _ _ e25), lws, ⟨U, rfl, .inl (SqL.of (s28 _ _ u25))⟩, lu5, fun r3 ds3 H28 s29 f3 g3 => ⟨_, rfl, _, rfl, _, rfl, n, wl, U, e, ws, us, rfl, e25n.same (s28.trans s29), SqL.of ((s28.trans s29) _ _ e25), lws, SqL.of ((s28.trans s29) _ _ u25), lu5, fun r4 ds4 H29 s30 f4 g4 => ?_⟩⟩
    refine ⟨2, r3, r4, _, _, by decide, rfl, rfl, SqL.of (s30 _ _ f3), SqL.of f4, eq_rows (g3.keep (Same.keepD s30)) g4 ndr, _, rfl, iteF ?_⟩
    have s31 := (s28.trans s29).trans s30
    refine ⟨_, rfl, _, rfl, two, fun r5 hr5 => ⟨r5, U, n, us, e.ps, rfl, SqL.of upd_same, SqL.of ((same_new hr5) _ _ (s31 _ _ u25)), (same_new hr5) _ _ (s31 _ _ e25n), sh, sz, _, rfl, rfl, ?_⟩⟩
    have := kk (upd H29 r5 (.lst [.ref U, .ref n]))
    rw [← show decide (V.str (unD us e.ps).shown = V.str (unD us e.ps).shown) = true from decide_eq_true rfl] at this
    exact this
end
end K05
set_option Elab.async false
set_option maxRecDepth 100000
set_option maxHeartbeats 4000000
namespace K05
open PySem L2 C8 GX LC LG LR SU LM
theorem has_ex {K : PySem.W.Frag} {mg : Str → Option Value} {x : Str} {st : Stmt} {c : Addr} (h : Has K mg x st c) : ∃ c, Has K mg x st c := ⟨c, h⟩
theorem all_mk {l : PySem.W.OpenLaw} {w : World} {K : PySem.W.Frag} {h : Heap} {mg : Str → Option Value} {fa : Addr} {d : Cd} (X : K.In h) (G : h.Ns mainGlobals mg) (hfa : mg "law" = some (.ref fa))
    (h0 : ∃ c, Has K mg "rank" s_rank c) (h1 : ∃ c, Has K mg "result" s_result c) (h2 : ∃ c, Has K mg "value" s_value c) (h3 : ∃ c, Has K mg "holds" s_holds c) (h4 : ∃ c, Has K mg "comparison_holds" s_comparison_holds c) (h5 : ∃ c, Has K mg "atom_instance" s_atom_instance c) (h6 : ∃ c, Has K mg "conditions_instance" s_conditions_instance c) (h7 : ∃ c, Has K mg "substitutions" s_substitutions c) (h8 : Has K mg "_law_state" s__law_state d.c__law_state) (h9 : ∃ c, Has K mg "_law_draw" s__law_draw c) (h10 : ∃ c, Has K mg "_law_constant" s__law_constant c) (h11 : ∃ c, Has K mg "_law_term" s__law_term c) (h12 : ∃ c, Has K mg "_law_value" s__law_value c) (h13 : ∃ c, Has K mg "_law_before" s__law_before c) (h14 : ∃ c, Has K mg "_law_holds" s__law_holds c) (h15 : ∃ c, Has K mg "_law_atom" s__law_atom c) (h16 : ∃ c, Has K mg "_law_condition" s__law_condition c) (h17 : ∃ c, Has K mg "_law_instance" s__law_instance c) (h18 : ∃ c, Has K mg "_law_conditions" s__law_conditions c) (h19 : ∃ c, Has K mg "_law_extended" s__law_extended c) (h20 : ∃ c, Has K mg "law" s_law c)
    (z0 : PySem.W.nsIn K mainGlobals "abs" = some none) (z1 : PySem.W.nsIn K mainGlobals "bool" = some none) (z2 : PySem.W.nsIn K mainGlobals "dict" = some none) (z3 : PySem.W.nsIn K mainGlobals "int" = some none) (z4 : PySem.W.nsIn K mainGlobals "isinstance" = some none) (z5 : PySem.W.nsIn K mainGlobals "len" = some none) (z6 : PySem.W.nsIn K mainGlobals "range" = some none) (z7 : PySem.W.nsIn K mainGlobals "repr" = some none) (z8 : PySem.W.nsIn K mainGlobals "tuple" = some none)
    
    (hT : ∀ p ∈ d.cs, h.get? p.2 = some { cls := .none, data := .fields #[] }) (nT : ∀ p ∈ d.cs, K.lookup p.2 = none) (C : ∀ p ∈ d.cs, PySem.W.CodeHd h p.1 p.2) :
    LawAtG l w K 8 63 "script" mg fa h := by
  obtain ⟨cl, f, fd, F, hm, kp, df⟩ := id h20
  have e := hfa.symm.trans hm
  cases e
  obtain ⟨oc, od, dV, kV, doc, pm, an, ct, osl, rfl, lk, hcd⟩ := F.ex
  have e : dV = .none := df
  subst e
  refine ⟨PySem.W.fnOf "law" "law" (fnArgs s_law) (fnBody s_law) (fnScope s_law) .none kV doc pm an (.ref cl) ct, d.cs, spLaw K d.ts, ⟨hT, nT, C⟩, fun s v => .of_eq rfl, fun H a ns hn hTb hS => ⟨a, ns, rfl, hS, hn, ?_, by simp [Cd.ts], fun _ => rfl⟩, fun base _ _ TB => ?_⟩
  · intro P hP
    have e : d.ts.all = d.cs.map (·.2) := rfl
    rw [e] at hP
    obtain ⟨p, hp, rfl⟩ := List.mem_map.mp hP
    exact hTb p hp
  have bm : ∃ P0, base.BuiltinsAt mg P0 := ⟨_, (TB (d.c__law_state, d.P__law_state) (by simp [Cd.cs])).bm⟩
  have T : Txt K mg base d := ⟨h0, h1, h2, h3, h4, h5, h6, h7, h8, (TB (d.c__law_state, d.P__law_state) (by simp [Cd.cs])).code, h9, h10, h11, h12, h13, h14, h15, h16, h17, h18, h19, h20, PySem.W.mg_none_of X G z0, PySem.W.mg_none_of X G z1, PySem.W.mg_none_of X G z2, PySem.W.mg_none_of X G z3, PySem.W.mg_none_of X G z4, PySem.W.mg_none_of X G z5, PySem.W.mg_none_of X G z6, PySem.W.mg_none_of X G z7, PySem.W.mg_none_of X G z8, bm⟩
  have q_rank := ok_rank (P := l.prog) (w := w) (base := base) T 
  have q_result := ok_result (P := l.prog) (w := w) (base := base) T 
  have q_value := va_all (P := l.prog) (w := w) (base := base) T q_result 4
  have q_holds := ok_holds (P := l.prog) (w := w) (base := base) T q_rank
  have q_comparison_holds := ok_comparison_holds (P := l.prog) (w := w) (base := base) T q_holds q_value
  have q_atom_instance := ok_atom_instance (P := l.prog) (w := w) (base := base) T q_value
  have q_conditions_instance := ok_conditions_instance (P := l.prog) (w := w) (base := base) T q_atom_instance q_comparison_holds
  have q_substitutions := ok_substitutions (P := l.prog) (w := w) (base := base) T 
  have q__law_state := ok__law_state (P := l.prog) (w := w) (base := base) T 
  have q__law_draw := ok__law_draw (P := l.prog) (w := w) (base := base) T 
  have q__law_constant := ok__law_constant (P := l.prog) (w := w) (base := base) T q__law_draw
  have q__law_term := tm_all (P := l.prog) (w := w) (base := base) T q__law_draw 4
  have q__law_value := lv_all (P := l.prog) (w := w) (base := base) T 4
  have q__law_before := ok__law_before (P := l.prog) (w := w) (base := base) T 
  have q__law_holds := ok__law_holds (P := l.prog) (w := w) (base := base) T q__law_before
  have q__law_atom := ok__law_atom (P := l.prog) (w := w) (base := base) T q__law_draw q__law_term
  have q__law_condition := ok__law_condition (P := l.prog) (w := w) (base := base) T q__law_atom q__law_draw q__law_term
  have q__law_instance := ok__law_instance (P := l.prog) (w := w) (base := base) T q__law_value
  have q__law_conditions := ok__law_conditions (P := l.prog) (w := w) (base := base) T q__law_holds q__law_instance q__law_value
  have q__law_extended := ok__law_extended (P := l.prog) (w := w) (base := base) T 
  exact ok_law (P := l.prog) (w := w) (base := base) T q__law_atom q__law_before q__law_condition q__law_conditions q__law_constant q__law_draw q__law_extended q__law_holds q__law_instance q__law_state q__law_term q__law_value q_atom_instance q_conditions_instance q_holds q_rank q_substitutions q_value _ _ _ F
theorem all_mk2 {l : PySem.W.OpenLaw} {w : World} {K : PySem.W.Frag} {h : Heap} {mg : Str → Option Value} {fa : Addr} {c__law_state P__law_state : Addr} (X : K.In h) (G : h.Ns mainGlobals mg) (hfa : mg "law" = some (.ref fa))
    (h0 : ∃ c, Has K mg "rank" s_rank c) (h1 : ∃ c, Has K mg "result" s_result c) (h2 : ∃ c, Has K mg "value" s_value c) (h3 : ∃ c, Has K mg "holds" s_holds c) (h4 : ∃ c, Has K mg "comparison_holds" s_comparison_holds c) (h5 : ∃ c, Has K mg "atom_instance" s_atom_instance c) (h6 : ∃ c, Has K mg "conditions_instance" s_conditions_instance c) (h7 : ∃ c, Has K mg "substitutions" s_substitutions c) (h8 : Has K mg "_law_state" s__law_state c__law_state) (h9 : ∃ c, Has K mg "_law_draw" s__law_draw c) (h10 : ∃ c, Has K mg "_law_constant" s__law_constant c) (h11 : ∃ c, Has K mg "_law_term" s__law_term c) (h12 : ∃ c, Has K mg "_law_value" s__law_value c) (h13 : ∃ c, Has K mg "_law_before" s__law_before c) (h14 : ∃ c, Has K mg "_law_holds" s__law_holds c) (h15 : ∃ c, Has K mg "_law_atom" s__law_atom c) (h16 : ∃ c, Has K mg "_law_condition" s__law_condition c) (h17 : ∃ c, Has K mg "_law_instance" s__law_instance c) (h18 : ∃ c, Has K mg "_law_conditions" s__law_conditions c) (h19 : ∃ c, Has K mg "_law_extended" s__law_extended c) (h20 : ∃ c, Has K mg "law" s_law c)
    (z0 : PySem.W.nsIn K mainGlobals "abs" = some none) (z1 : PySem.W.nsIn K mainGlobals "bool" = some none) (z2 : PySem.W.nsIn K mainGlobals "dict" = some none) (z3 : PySem.W.nsIn K mainGlobals "int" = some none) (z4 : PySem.W.nsIn K mainGlobals "isinstance" = some none) (z5 : PySem.W.nsIn K mainGlobals "len" = some none) (z6 : PySem.W.nsIn K mainGlobals "range" = some none) (z7 : PySem.W.nsIn K mainGlobals "repr" = some none) (z8 : PySem.W.nsIn K mainGlobals "tuple" = some none)
    
    (t0 : PySem.W.CodeHd h c__law_state P__law_state ∧ h.get? P__law_state = some { cls := .none, data := .fields #[] }) (n0 : K.lookup P__law_state = none) :
    LawAtG l w K 8 63 "script" mg fa h := by
  refine all_mk (d := ⟨c__law_state, P__law_state⟩) X G hfa h0 h1 h2 h3 h4 h5 h6 h7 h8 h9 h10 h11 h12 h13 h14 h15 h16 h17 h18 h19 h20 z0 z1 z2 z3 z4 z5 z6 z7 z8  ?_ ?_ ?_
  · exact List.forall_mem_cons.mpr ⟨t0.2, (fun _ h => nomatch h)⟩
  · exact List.forall_mem_cons.mpr ⟨n0, (fun _ h => nomatch h)⟩
  · exact List.forall_mem_cons.mpr ⟨t0.1, (fun _ h => nomatch h)⟩
end K05
open PySem PySem.W PyProof.Rows
local macro_rules | `(tactic| walk_at "has") => `(tactic| (refine' LC.has_mk (by assumption) (by assumption) ?a ?l ?d ?k; (case a => k_is); (case l => k_is); (case d => k_is); (case k => k_is)))
set_option maxRecDepth 100000 in
set_option maxHeartbeats 0 in
theorem PySem.Challenge.cw_stablepapers_k05_terms_and_substitutions_holds : PySem.Challenge.rw_stablepapers_k05_terms_and_substitutions.Holds := by
  w_on; o_law; k_head; (case hw => w_witness2)
  k_fill
  refine LG.walkG (l := PySem.Challenge.rw_stablepapers_k05_terms_and_substitutions) (n := 63) (k := 8) (x := "script") rfl (by decide) rfl ⟨rfl, by decide, by decide⟩ (fun w h Y => PySem.W.kIn_of Y) ?F
  case F =>
    intro w mg mb fa h Tp KX G hmg
    obtain ⟨lo, mean, Tp⟩ := Tp
    refine' K05.all_mk2 KX G hmg ?h0 ?h1 ?h2 ?h3 ?h4 ?h5 ?h6 ?h7 ?h8 ?h9 ?h10 ?h11 ?h12 ?h13 ?h14 ?h15 ?h16 ?h17 ?h18 ?h19 ?h20 ?z0 ?z1 ?z2 ?z3 ?z4 ?z5 ?z6 ?z7 ?z8  ?t0 ?n0
    (case h0 => exact K05.has_ex (by walk_at "has"))
    (case h1 => exact K05.has_ex (by walk_at "has"))
    (case h2 => exact K05.has_ex (by walk_at "has"))
    (case h3 => exact K05.has_ex (by walk_at "has"))
    (case h4 => exact K05.has_ex (by walk_at "has"))
    (case h5 => exact K05.has_ex (by walk_at "has"))
    (case h6 => exact K05.has_ex (by walk_at "has"))
    (case h7 => exact K05.has_ex (by walk_at "has"))
    (case h8 => walk_at "has")
    (case h9 => exact K05.has_ex (by walk_at "has"))
    (case h10 => exact K05.has_ex (by walk_at "has"))
    (case h11 => exact K05.has_ex (by walk_at "has"))
    (case h12 => exact K05.has_ex (by walk_at "has"))
    (case h13 => exact K05.has_ex (by walk_at "has"))
    (case h14 => exact K05.has_ex (by walk_at "has"))
    (case h15 => exact K05.has_ex (by walk_at "has"))
    (case h16 => exact K05.has_ex (by walk_at "has"))
    (case h17 => exact K05.has_ex (by walk_at "has"))
    (case h18 => exact K05.has_ex (by walk_at "has"))
    (case h19 => exact K05.has_ex (by walk_at "has"))
    (case h20 => exact K05.has_ex (by walk_at "has"))
    (case t0 => (refine' PySem.W.tab_of (x := "_law_state") Tp KX rfl (LC.tab_mk ?a0 ?b0 ?e0 ?c0 ?v0); (case a0 => k_is); (case b0 => k_is); (case e0 => rfl); (case c0 => k_is); (case v0 => rfl))); (case n0 => kernel_rfl)
    (case z0 => k_is); (case z1 => k_is); (case z2 => k_is); (case z3 => k_is); (case z4 => k_is); (case z5 => k_is); (case z6 => k_is); (case z7 => k_is); (case z8 => k_is)
    
#print axioms PySem.Challenge.cw_stablepapers_k05_terms_and_substitutions_holds
