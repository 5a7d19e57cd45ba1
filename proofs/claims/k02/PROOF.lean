import PyProof.Rows.All
import Wide.All
import OpenK.AllK
import Wide.FinOn
import HandS.ForMost
import HandS.ExcInit
import HandS.ExcField
import HandS.ExcIs
import KE.KExcIs
import KE.KExcInit
import PyProof.ExcBaseAll.LookupError
import HandS.GenList
import HandS.AnyAll
import PyProof.TupleOfGen
import HandS.TupSets
import KE.SortData
import HandS.SetBool
import HandS.List
import HandS.TupAny
import HandS.TupMul
import HandS.Flow
import HandS.Deep
import HandS.IsInst
import HandS.Style
import PyProof.TupleOfStr
import PyProof.ListStr
import HandS.Walk
import HandS.Zip
import HandS.EndTab
import HandS.EndOwn
import PySem.Challenge.RW_runsbehind_k02_paths_and_runs_or_none
set_option Elab.async false
set_option linter.all false
set_option autoImplicit false
set_option maxRecDepth 100000
set_option maxHeartbeats 2000000
/-! G1: a generator expression's own frame. -/
namespace GE
open PySem PySem.Spec PyProof.Rows L2 GenW GxR
structure GOk (N : List Str) (sc scope : Scope) (own : List (Str × Nat)) : Prop where
  kind : scope.kind = .function
  co : scope.isCoroutine = false
  uniq : ∀ y ∈ scope.names, scope.names.lookup y.1 = some y.2
  cell : ∀ y ∈ scope.names, y.2 ≠ .cell
  dot : scope.names.lookup (".0" : Str) = some NameKind.local
  ix : ∀ p ∈ own, N[p.2]? = some p.1
  free : ∀ y ∈ scope.names, y.2 = .free → sc.names.lookup y.1 = some .cell ∨ sc.names.lookup y.1 = some .free
  own : ∀ y ∈ scope.names, y.2 = .local → y.1 ∈ own.map (·.1) ∨ y.1 ∉ N
/-- its context -/
abbrev gx (X : Cx) (A : Around) (s : Shared) (H : Hp) (cenv : Env) (fp : List Addr) (pn : List (Addr × Obj)) : Cx :=
  { X with A := A, s_0 := s, H_0 := H, env := cenv, outer := X.stack, stack := cenv :: X.stack, ex := fp, fn := fun _ => false, calm := true, pn := pn, xe := fun _ _ => False }
section
variable {X : Cx} {pins pins' pn : List (Addr × Obj)} {σ : L2.St} {H : Hp} {s s' : Shared}
theorem gen_start {scope : Scope} {own : List (Str × Nat)} {fp : List Addr} {A : Around} {m : Str → Option Value} {code : Value} {cenv : Env} (I : Inv X pins σ H s) (ok : GOk X.N X.env.scope scope own) (hN : X.N.Nodup) (hfp : ∀ b ∈ fp, FpOk X pins H b ∧ b < s.heap.objs.size)
    (hA : A.handled = none) (hAf : A.frames = some (cenv :: X.stack)) (hcenv : genEnv scope (cloFrom X.env.cells scope.names []) s.heap.objs.size code builtinsNs X.env = cenv)
    (kp : ∀ b o, s.heap.get? b = some o → s'.heap.get? b = some o) (hn : s'.heap.Ns s.heap.objs.size m) (hos : s'.os = s.os) (hb : AllBare s'.gens)
    (hpn : ∀ p ∈ pn ++ pins', s'.heap.get? p.1 = some p.2 ∧ H p.1 = none ∧ p.1 ≠ s.heap.objs.size ∧ p.1 ∉ frs X.stack ∧ ∀ v, p.2.data ≠ .cell v) :
    Inv (gx X A s H cenv fp pn) pins' (wipe σ (own.map (·.2))) H s' := by
  have hfree : ∀ y ∈ scope.names, y.2 = .free → ∃ c, X.env.cells.lookup y.1 = some c := fun y hy e => by
    rcases ok.free y hy e with k | k
    · exact I.ok.has _ (.inl k)
    · exact I.ok.has _ (.inr k)
  have hL : cenv.locals = s.heap.objs.size := by rw [← hcenv]; rfl
  have hcl : cenv.cells = cloFrom X.env.cells scope.names [] := by rw [← hcenv]; rfl
  have hsc : cenv.scope = scope := by rw [← hcenv]; rfl
  have cm : ∀ {y c}, (y, c) ∈ cloFrom X.env.cells scope.names [] → X.env.cells.lookup y = some c ∧ c < s.heap.objs.size := fun {y c} hm => by
    rcases cloFrom_mem hm with hm | ⟨h1, rfl⟩
    · cases hm
    · obtain ⟨c, hc⟩ := hfree _ h1 rfl
      rw [hc]
      obtain ⟨w, z⟩ := I.cell _ _ hc
      exact ⟨rfl, z.lt⟩
  have mem : ∀ {y c}, cenv.cells.lookup y = some c → X.env.cells.lookup y = some c ∧ c < s.heap.objs.size := fun {y c} e => by
    rw [hcl] at e
    exact cm (PySem.mem_of_lookup e)
  have look : ∀ {y}, scope.names.lookup y = some .free → ∃ c, cenv.cells.lookup y = some c ∧ X.env.cells.lookup y = some c := fun {y} hl => by
    have hy : (y, NameKind.free) ∈ scope.names := PySem.mem_of_lookup hl
    obtain ⟨c', e'⟩ := mem_lookup (cloFrom_has (cells := X.env.cells) (acc := []) hy)
    rw [← hcl] at e'
    exact ⟨c', e', (mem e').1⟩
  have e0 := I.env0
  have okB : (gx X A s H cenv fp pn).Ok := by
    refine ⟨I.ok.mod, by show cenv.scope.kind = _; rw [hsc]; exact ok.kind, by show cenv.globals = _; rw [← hcenv]; exact I.ok.glob, by show cenv.builtins = _; rw [← hcenv]; rfl, by show s.heap.objs.size ≤ cenv.locals; rw [hL]; exact Nat.le_refl _,
      fun y z c e1 e2 => ?_, fun y hy => ?_, fun y c z e => ?_, fun _ => hA, hAf, .inr ⟨rfl, ?_⟩, fun b hb => ⟨?_, fun y c e z => ?_⟩, I.bs, Nat.le_trans I.ok.bsz I.sz, fun b o e hb => ?_, fun b hb z => ?_, I.stack, I.stkFree⟩
    · exact I.ok.inj y z c (mem e1).1 (mem e2).1
    · show ∃ c, cenv.cells.lookup y = some c
      have hy : scope.names.lookup y = some .cell ∨ scope.names.lookup y = some .free := by
        have hy : cenv.scope.names.lookup y = some .cell ∨ cenv.scope.names.lookup y = some .free := hy
        rw [hsc] at hy
        exact hy
      rcases hy with hy | hy
      · exact absurd rfl (ok.cell _ (PySem.mem_of_lookup hy))
      · obtain ⟨c, h1, _⟩ := look hy
        exact ⟨c, h1⟩
    · cases (show false = true from z)
    · show cenv.frame = some cenv.locals
      rw [← hcenv]; rfl
    · show b ≠ cenv.locals
      rw [hL]; exact Nat.ne_of_lt (hfp b hb).2
    · exact (hfp b hb).1.2.2.2.2.1 y c (mem e).1 z
    · rcases (hfp b hb).1.2.2.2.1 with z | z
      · exact I.ok.noex b o e z
      · exact absurd (Nat.lt_of_lt_of_le (Heap.lt_size e) (Nat.le_trans I.ok.bsz z)) (Nat.lt_irrefl _)
    · rcases List.mem_cons.mp (I.stkSub b z) with z | z
      · exact (hfp b hb).1.2.1 z
      · exact (hfp b hb).1.2.2.1 z
  refine ⟨okB, hos, hb, Un.kept kp, ⟨m, by show Heap.Ns _ cenv.locals _; rw [hL]; exact hn, fun i y av e1 e2 e3 => ?_⟩, fun y c e => ?_, ?_, fun y c e => I.freeC y c (mem e).1, fun p hp => ?_, I.hok.kept kp, by rw [wipe_length]; exact I.len⟩
  · obtain ⟨e2, hne⟩ := wipe_some e2
    have hfr : scope.names.lookup y = some .free := by
      have e3 : cenv.scope.names.lookup y = some .local ∨ cenv.scope.names.lookup y = some .cell ∨ cenv.scope.names.lookup y = some .free := e3
      rw [hsc] at e3
      rcases e3 with e3 | e3 | e3
      · rcases ok.own _ (PySem.mem_of_lookup e3) rfl with e' | e'
        · obtain ⟨p, hp, hpy⟩ := List.mem_map.mp e'
          have e4 := ok.ix p hp
          have : p.1 = y := hpy
          rw [this] at e4
          exact absurd (List.mem_map.mpr ⟨p, hp, nodup_ix hN e4 e1⟩) hne
        · exact absurd (List.mem_of_getElem? e1) e'
      · exact absurd rfl (ok.cell _ (PySem.mem_of_lookup e3))
      · exact e3
    obtain ⟨m0, hn0, hl⟩ := I.loc
    have hvis : Vis X.env.scope y := (ok.free _ (PySem.mem_of_lookup hfr) rfl).elim (fun k => .inr (.inl k)) (fun k => .inr (.inr k))
    obtain ⟨w, r, q⟩ := hl i y av e1 e2 hvis
    refine ⟨w, r, .inr ⟨.inr ?_, ?_⟩⟩
    · show cenv.scope.names.lookup y = some .free
      rw [hsc]; exact hfr
    obtain ⟨c, h1, h2⟩ := look hfr
    rcases q with ⟨k, _⟩ | ⟨_, c', e', z⟩
    · have k : X.env.scope.names.lookup y = some .local := k
      rcases ok.free _ (PySem.mem_of_lookup hfr) rfl with k' | k' <;> rw [show X.env.scope.names.lookup y = _ from k'] at k <;> cases k
    · rw [h2] at e'; cases e'
      exact ⟨c, h1, z.keeps kp⟩
  · obtain ⟨w, z⟩ := I.cell y c (mem e).1
    exact ⟨w, z.keeps kp⟩
  · show H cenv.locals = none
    rw [hL]; exact I.hok.fresh (Nat.le_refl _)
  · obtain ⟨h1, h2, h3, h4, h5⟩ := hpn p hp
    exact ⟨h1, h2, by show p.1 ≠ cenv.locals; rw [hL]; exact h3, h4, h5⟩
end
end GE

set_option Elab.async false
set_option linter.all false
set_option autoImplicit false
set_option maxRecDepth 100000
set_option maxHeartbeats 2000000
/-! G2: a generator expression, made; its turns. -/
namespace GE
open PySem PySem.Spec PyProof.Rows L2 GenW GxR
abbrev gE (elt tg iter : Expr) (ifs : List Expr) (scope : Scope) (pos : Pos) : Expr := .GeneratorExp elt [⟨tg, iter, ifs, 0⟩] scope pos
abbrev gL (elt tg iter : Expr) (ifs : List Expr) (scope : Scope) (pos : Pos) (it : Addr) (cenv : Env) : Code := .compLoop (gE elt tg iter ifs scope pos) 0 (.ref it) .none cenv
theorem over_frames {A : Around} {elt tg iter : Expr} {ifs : List Expr} {scope : Scope} {pos : Pos} {it : Addr} {cenv : Env} {l : List Env} (h : A.frames = some l) : (A.over (gL elt tg iter ifs scope pos it cenv) []).frames = some (cenv :: l) := by
  show pushEnvs (gL elt tg iter ifs scope pos it cenv).envs (pushEnvs [] A.frames) = _
  rw [h]
  rfl
theorem over_room {A : Around} {k : Nat} {elt tg iter : Expr} {ifs : List Expr} {scope : Scope} {pos : Pos} {it : Addr} {cenv : Env} (r : Room (k + 1) A) : Room k (A.over (gL elt tg iter ifs scope pos it cenv) []) := by
  refine ⟨r.hd, ?_, ?_⟩
  · have := r.dp
    have e : (A.over (gL elt tg iter ifs scope pos it cenv) []).depth = A.depth + 1 := rfl
    rw [e]; omega
  · have := r.un
    have e : (A.over (gL elt tg iter ifs scope pos it cenv) []).units = A.units + 3 := rfl
    rw [e]; omega
/-- what a generator expression asks: W by the turn, a measure and what is out -/
def tGx (wi : TI) (P : Addr) (g : TG) (tt : TT) (te : TE) (vs : List Nat) : TGen := fun σ H cont => wi σ H fun J H1 => TabG H1 P ∧ ∀ H2, Tabbed P H1 H2 → ∃ W : Nat → Nat → List V → Hp → Prop, (∃ m, W 0 m [] H2) ∧ ∀ i m ys H, W i m ys H →
  (J.stop i H ∧ cont ys H) ∨ (J.go i H ∧ ∃ Nx : List V → Hp → Prop, (∀ ys' H', Nx ys' H' → ∃ m', m' < m ∧ W (i + 1) m' ys' H') ∧ ∀ x H', J.yld i H x H' → g x (wipe σ vs) H' fun σ2 H2 => wipe σ2 vs = wipe σ vs ∧ tt σ2 H2 fun b H3 =>
    if b = true then te σ2 H3 fun y H4 => ys.length < sizeLine ∧ Nx (ys ++ [y]) H4 else Nx ys H3)
section
variable {X : Cx} {elt tg iter : Expr} {ifs : List Expr} {scope : Scope} {pos : Pos} {own : List (Str × Nat)} {J : L2.It} {g : TG} {tt : TT} {te : TE} {σ : L2.St} {H : Hp} {sc : Shared} {fp : List Addr} {it a S : Addr} {gn : Nat} {go : Obj} {cenv : Env} {A : Around} {k : Nat}
  {tn : Nat → Heap → Prop} {cont : List V → Hp → Prop} {W : Nat → Nat → List V → Hp → Prop} {E : XK}
theorem seg_loop (hco : cenv.scope.isCoroutine = false) (hA : A.handled = none) (hSa : a ≠ S) (hfS : ∀ b ∈ fp, b ≠ S) (T : Turn X.prog X.w X.K tg J fp it tn) (hgo : ∀ h : Heap, h.get? a = some go → h.IsGen a gn)
    (pg : PG (gx X (A.over (gL elt tg iter ifs scope pos it cenv) []) sc H cenv fp [(a, go)]) tg g) (pt : PTs (gx X (A.over (gL elt tg iter ifs scope pos it cenv) []) sc H cenv fp [(a, go)]) ifs tt) (pe : PE (gx X (A.over (gL elt tg iter ifs scope pos it cenv) []) sc H cenv fp [(a, go)]) elt te)
    (hAp : Apart (gx X (A.over (gL elt tg iter ifs scope pos it cenv) []) sc H cenv fp [(a, go)]) S) (hpa : ∀ b ∈ fp, b ≠ a)
    (turn : ∀ i m ys H, W i m ys H → (J.stop i H ∧ cont ys H) ∨ (J.go i H ∧ ∃ Nx : List V → Hp → Prop, (∀ ys' H', Nx ys' H' → ∃ m', m' < m ∧ W (i + 1) m' ys' H') ∧ ∀ x H', J.yld i H x H' → g x (wipe σ (own.map (·.2))) H' fun σ2 H2 => wipe σ2 (own.map (·.2)) = wipe σ (own.map (·.2)) ∧ tt σ2 H2 fun b H3 =>
      if b = true then te σ2 H3 fun y H4 => ys.length < sizeLine ∧ Nx (ys ++ [y]) H4 else Nx ys H3)) :
    ∀ (m i n : Nat) (ys : List V) (s₀ s : Shared) (H5 : Hp), n + ys.length = sizeLine → GI (gx X (A.over (gL elt tg iter ifs scope pos it cenv) []) sc H cenv fp [(a, go)]) S [] ys (wipe σ (own.map (·.2))) H5 s → tn i s.heap → (∀ b ∈ fp, H5 b = none) → W i m ys H5 →
      Seg (model X.prog X.w) A (REnd X.prog X.w X.stack H sc fp S a gn cont E) (YItem sc S a gn) n s₀ (gL elt tg iter ifs scope pos it cenv) ((model X.prog X.w).den (gL elt tg iter ifs scope pos it cenv)) [] s := by
  intro m
  induction m using Nat.strongRecOn with
  | ind m ih =>
    intro i n ys s₀ s H5 hn hI st n5 w5
    have stat : ∀ {pins : List (Addr × Obj)} {σ' : L2.St} {H' : Hp} {s' : Shared}, (∀ p ∈ pins, p.1 ∉ fp) → Inv (gx X (A.over (gL elt tg iter ifs scope pos it cenv) []) sc H cenv fp [(a, go)]) pins σ' H' s' → (∀ b ∈ fp, H' b = none) → ∀ b ∈ fp, FpOk (gx X (A.over (gL elt tg iter ifs scope pos it cenv) []) sc H cenv fp [(a, go)]) pins H' b := fun {pins σ' H' s'} hp I' hn b hb =>
      ⟨hn b hb, (I'.ok.exf b hb).1, I'.ok.exfs b hb, .inl hb, fun x c e => (I'.ok.exf b hb).2 x c e, fun p hq => by
        rcases List.mem_append.mp hq with z | z
        · rw [List.mem_singleton.mp z]
          exact (hpa b hb).symm
        · exact fun e => hp p z (e ▸ hb)⟩
    obtain ⟨acc, cc, rv, I5⟩ := hI
    have hS1 : ∀ p ∈ [(S, lstObj acc cc)], p.1 ∉ fp := fun p hp => by
      rw [List.mem_singleton.mp hp]
      exact fun z => hfS S z rfl
    show Seg _ A _ _ _ s₀ _ ((compTurn (gE elt tg iter ifs scope pos) 0 (.ref it) .none cenv).onRaise (leaving cenv)) [] s
    rw [compTurn_gen, Sem.onRaise_eq_wrap]
    refine seg_bind_wrap (wpAny_standAt ?_)
    rcases turn i m ys H5 w5 with ⟨stop, qq⟩ | ⟨gg, Nx, hNx, step⟩
    · have td := T.done (gx X (A.over (gL elt tg iter ifs scope pos it cenv) []) sc H cenv fp [(a, go)]) rfl rfl rfl rfl i _ s _ H5 (fun _ _ => False) I5 (stat hS1 I5 n5) st stop
      refine seg_bind_wrap (thnF td fun r s6 ⟨hr, I6⟩ => ?_)
      subst hr
      have hp := I6.pin (S, lstObj acc cc) (List.mem_append_right _ (List.mem_singleton.mpr rfl))
      refine seg_end (.ok .next) (.inl ⟨.inr rfl, H5, ys, acc, cc, I6.os, I6.bare, I6.base, I6.hok, hp.2.1, hp.1, rv, by omega, qq⟩)
    · have ti := T.item (gx X (A.over (gL elt tg iter ifs scope pos it cenv) []) sc H cenv fp [(a, go)]) rfl rfl rfl rfl i _ s _ H5 (fun _ _ => False) I5 (stat hS1 I5 n5) st gg
      refine seg_bind_wrap (thnF ti fun r s6 ⟨u, hr, h6⟩ => ?_)
      subst hr
      refine seg_bind_wrap (thnF h6 fun _ s7 ⟨x, H7, I7, r7, y7, st7, n7⟩ => ?_)
      have I7' := I7.pinned (stat hS1 I7 n7) (T.obj _ _ st7)
      refine seg_bind_wrap (thnF (pg.run _ s7 _ H7 x u _ I7' r7 (step x H7 y7)) fun _ s8 ⟨σ8, H8, I8, hw8, q8⟩ => ?_)
      refine seg_bind_wrap (thnF (pt.run _ s8 σ8 H8 _ I8 q8) fun b s9 ⟨H9, I9, q9⟩ => ?_)
      -- the turn's end, whatever is out
      have pin7 : ∀ {H' : Hp} {s' : Shared} {σ' : L2.St} {l : List (Addr × Obj)}, Inv (gx X (A.over (gL elt tg iter ifs scope pos it cenv) []) sc H cenv fp [(a, go)]) (l ++ pinsAt fp s7.heap) σ' H' s' → ∀ b ∈ fp, ∀ o, s7.heap.get? b = some o → s'.heap.get? b = some o ∧ H' b = none := fun {H' s' σ' l} I' b hb o e =>
        let z := I'.pin (b, o) (List.mem_append_right _ (List.mem_append_right _ (mem_pinsAt hb e)))
        ⟨z.1, z.2.1⟩
      have fin : ∀ {n' : Nat} {zs : List V} {s₁ s' : Shared} {H' : Hp}, n' + zs.length = sizeLine → GI (gx X (A.over (gL elt tg iter ifs scope pos it cenv) []) sc H cenv fp [(a, go)]) S (pinsAt fp s7.heap) zs σ8 H' s' → Nx zs H' →
          Seg (model X.prog X.w) A (REnd X.prog X.w X.stack H sc fp S a gn cont E) (YItem sc S a gn) n' s₁ (gL elt tg iter ifs scope pos it cenv) ((model X.prog X.w).den (gL elt tg iter ifs scope pos it cenv)) [] s' := by
        intro n' zs s₁ s' H' hn' hI' nx
        obtain ⟨m', hm, w'⟩ := hNx zs H' nx
        obtain ⟨acc', c', rv', I'⟩ := hI'
        have I'' : Inv (gx X (A.over (gL elt tg iter ifs scope pos it cenv) []) sc H cenv fp [(a, go)]) ([(S, lstObj acc' c')] ++ pinsAt fp s7.heap) σ8 H' s' := I'
        have hl : (wipe σ (own.map (·.2))).length = σ8.length := by rw [← hw8, wipe_length]
        refine ih m' hm (i + 1) n' zs s₁ s' H' hn' ⟨acc', c', rv', I''.unpinned.weak hl (fun j v e => ?_)⟩ (T.keep _ _ _ st7 fun b hb o e => (pin7 I'' b hb o e).1) (fun b hb => ?_) w'
        · rw [← hw8] at e
          exact (wipe_some e).1
        · obtain ⟨o, e, _⟩ := T.obj _ _ st7 b hb
          exact (pin7 I'' b hb o e).2
      cases b with
      | false =>
        simp only [Bool.false_eq_true, if_false] at q9 ⊢
        exact seg_again rfl (fin hn ⟨acc, cc, rv, I9⟩ q9)
      | true =>
        simp only [if_true] at q9 ⊢
        have hy : ∀ v, yieldOut cenv v = yieldValue v := fun v => by simp only [yieldOut, hco, Bool.false_eq_true, if_false]
        simp only [hy]
        rw [Sem.bind_eq_wrap', Sem.bind_eq_wrap', Sem.wrap_wrap, Sem.wrap_wrap]
        refine seg_wrap (thnF (pe.run _ s9 σ8 H9 _ I9 q9) fun z s10 ⟨yv, H10, I10, r10, hlt, nx⟩ => ?_)
        obtain ⟨n, rfl⟩ : ∃ n', n = n' + 1 := ⟨n - 1, by omega⟩
        refine seg_at (seg_yield rfl rfl rfl ?_)
        have hG : GI (gx X (A.over (gL elt tg iter ifs scope pos it cenv) []) sc H cenv fp [(a, go)]) S (pinsAt fp s7.heap) ys σ8 H10 s10 := ⟨acc, cc, rv, I10⟩
        have hp := I10.pin (S, lstObj acc cc) (List.mem_append_right _ (List.mem_append_left _ (List.mem_singleton.mpr rfl)))
        have hpa := I10.pin (a, go) (List.mem_append_left _ (List.mem_singleton.mpr rfl))
        have hsz : acc.size = ys.length := by
          have e1 := rv.length
          have e2 : acc.toList.length = acc.size := by simp
          omega
        refine ⟨I10.os, I10.bare, I10.nolimit, hgo _ hpa.1, ⟨acc, cc, hp.1, by rw [hsz]; omega⟩, fun s'' hs => ?_⟩
        refine seg_again rfl (fin (by rw [List.length_append, List.length_singleton]; omega) (hG.woken (fun p hp => ?_) (fun p hp => ?_) hAp r10 hs) nx)
        · rw [List.mem_singleton.mp hp]; exact hSa
        · exact fun e => hfS p.1 (of_pinsAt hp).1 e
end
end GE

set_option Elab.async false
set_option linter.all false
set_option autoImplicit false
set_option maxRecDepth 100000
set_option maxHeartbeats 4000000
/-! G3: a generator expression as one that has not begun. -/
namespace GE
open PySem PySem.Spec PyProof.Rows L2 GenW GxR
section
variable {X : Cx} {elt tg iter : Expr} {ifs : List Expr} {scope : Scope} {pos : Pos} {own : List (Str × Nat)} {wi : TI} {g : TG} {tt : TT} {te : TE} {c P : Addr} {k j : Nat} {E : XK}
theorem pgen_gx (hr : Room j X.A) (hN : X.N.Nodup) (TB : TabB X.base X.mg c P) (hcode : X.env.code = .ref c) (ok : GOk X.N X.env.scope scope own) (hi : PI X tg iter wi)
    (hg : ∀ (A : Around) (s : Shared) (H : Hp) (cenv : Env) (fp : List Addr) (pn : List (Addr × Obj)), Room k A → cenv.scope = scope → PG (gx X A s H cenv fp pn) tg g)
    (ht : ∀ (A : Around) (s : Shared) (H : Hp) (cenv : Env) (fp : List Addr) (pn : List (Addr × Obj)), Room k A → cenv.scope = scope → PTs (gx X A s H cenv fp pn) ifs tt)
    (he : ∀ (A : Around) (s : Shared) (H : Hp) (cenv : Env) (fp : List Addr) (pn : List (Addr × Obj)), Room k A → cenv.scope = scope → PE (gx X A s H cenv fp pn) elt te) (hs : ∀ v, genFold iter X.env v = pure v) :
    PGen X (k + 1) (gE elt tg iter ifs scope pos) (tGx wi P g tt te (own.map (·.2))) E := by
  refine ⟨fun pins s σ H cont I h => ?_⟩
  have hfree : ∀ y ∈ scope.names, y.2 = .free → ∃ c, X.env.cells.lookup y.1 = some c := fun y hy e => by
    rcases ok.free y hy e with k | k
    · exact I.ok.has _ (.inl k)
    · exact I.ok.has _ (.inr k)
  refine wpAny_GeneratorExp_make ok.co (closure_ok hfree) ok.cell ok.dot ok.kind (by have := hr.dp; omega) ?_ hs
  refine thn (hi.run pins s σ H _ I h) fun xv s1 hx => thn hx fun itv s2 h2 => ?_
  obtain ⟨it, fp, tn, J, H2, rfl, I2, T, st2, f2, ⟨ps, hP, ht3⟩, q⟩ := h2
  refine ⟨I2.nolimit, ?_⟩
  have hPs : s2.heap.get? P = some { cls := .none, data := .fields ps } := I2.hok P _ hP
  have hPf : ∀ b ∈ fp, b ≠ P := fun b hb z => by
    have := (f2 b hb).1
    rw [z, hP] at this
    cases this
  have sz2 : ∀ b ∈ fp, b < s2.heap.objs.size := fun b hb => by
    obtain ⟨o, e, _⟩ := T.obj _ _ st2 b hb
    exact Heap.lt_size e
  have cd : PySem.W.CodeHd s2.heap c P := TB.code.keeps fun b u e => I2.bk b u e
  have cont2 : ∀ (code : Value) (h3 : Heap) (tk : Nat) (ps' : Array Value), Heap.ExtBut P s2.heap h3 → s2.heap.objs.size ≤ h3.objs.size → h3.get? P = some { cls := .none, data := .fields ps' } → (∃ more, ps' = ps ++ more) → TriplesOk ps'.toList →
      wpAny (model X.prog X.w) X.A (builtinsFor X.env.globals X.env.builtins) (fun bi s₄ =>
        ∀ h', h'.Ns s₄.heap.objs.size (fun y => if y = ".0" then some (.ref it) else none) → Heap.SameBut s₄.heap.objs.size (s₄.heap.push { cls := .type "frame", data := .dict #[] }) h' →
          ∃ H1 sc ex, Inv X pins σ H1 sc ∧ ExOk X pins ex ∧ GMade X.prog X.w (k + 1) X.stack H1 sc ex cont E (.ref h'.objs.size) { s₄ with
            gens := s₄.gens.push (.fresh (.compStart (gE elt tg iter ifs scope pos) 0 (.ref it) .none (genEnv scope (cloFrom X.env.cells scope.names []) s₄.heap.objs.size code bi X.env))),
            toks := s₄.toks + 1 + 1 + 1,
            heap := h'.push { cls := .type "generator", data := .fields #[.int s₄.gens.size 0, .str "<genexpr>" (s₄.toks + 1), .str (X.env.qual ++ "<genexpr>") (s₄.toks + 1 + 1)] } }) X.xe { s2 with heap := h3, toks := tk } := by
    intro code h3 tk ps' hx hsz hP3 hmore htr
    obtain ⟨bm, ob, e1, e2, e3, e4, e5, e6, e7, e8⟩ := TB.bm
    have keep3 : ∀ b u, b ≠ P → s2.heap.get? b = some u → h3.get? b = some u := fun b u hb e => hx b u hb e
    refine wpAny_builtinsFor (m := X.mg) (by rw [I2.ok.glob]; exact (I2.mod.glob.keeps I2.bk).extBut hx TB.gP) e1 e2 (keep3 _ _ e4 (I2.bk _ _ e5)) e6 e7 e8 ?_
    intro h' hn' hs'
    obtain ⟨more, rfl⟩ := hmore
    generalize hsc : ({ s2 with heap := h3, toks := tk } : Shared) = sc at hn' hs' ⊢
    have hsch : sc.heap = h3 := by rw [← hsc]
    have scg : sc.gens = s2.gens := by rw [← hsc]
    have sco : sc.os = s2.os := by rw [← hsc]
    have I3 : Inv X pins σ (upd H2 P (.tbl (ps ++ more))) sc := by
      have J := inv_tab (more := more) (h' := h3) (g' := s2.gens) (d' := s2.drawn) (t' := tk) I2 hP keep3 hP3 I2.bare
      rw [← hsc]
      exact J
    have Tb : Tabbed P H2 (upd H2 P (.tbl (ps ++ more))) := ⟨⟨ps ++ more, upd_same, htr⟩, fun b hb => upd_ne hb⟩
    obtain ⟨W, ⟨m0, w0⟩, turn⟩ := q _ Tb
    have f3 : ∀ b ∈ fp, FpOk X pins (upd H2 P (.tbl (ps ++ more))) b ∧ b < sc.heap.objs.size := fun b hb => by
      refine ⟨⟨?_, (f2 b hb).2⟩, by rw [hsch]; exact Nat.lt_of_lt_of_le (sz2 b hb) hsz⟩
      rw [upd_ne (hPf b hb)]
      exact (f2 b hb).1
    have st3 : tn 0 sc.heap := T.keep _ _ _ st2 fun b hb o e => by rw [hsch]; exact keep3 b o (hPf b hb) e
    have szh : h'.objs.size = sc.heap.objs.size + 1 := by rw [hs'.1, Heap.size_push]
    have keep' : ∀ b o, sc.heap.get? b = some o → h'.get? b = some o := fun b o e => hs'.extBut b o (Nat.ne_of_lt (Heap.lt_size e)) (Heap.get?_push_of_some _ e)
    generalize hgo : ({ cls := .type "generator", data := .fields #[.int sc.gens.size 0, .str "<genexpr>" (sc.toks + 1), .str (X.env.qual ++ "<genexpr>") (sc.toks + 1 + 1)] } : Obj) = go
    have hgen : ∀ h : Heap, h.get? h'.objs.size = some go → h.IsGen h'.objs.size sc.gens.size := fun h e => ⟨go, _, _, e, by rw [← hgo], by rw [← hgo], by rw [← hgo]⟩
    have hpushed : (h'.push go).get? h'.objs.size = some go := by rw [← hgo]; exact Heap.get?_push_size _ rfl
    refine ⟨_, sc, fp, I3, fun b hb => ?_, h'.objs.size, sc.gens.size, _, rfl, by omega, ?_, hgen _ hpushed, Array.getElem?_push_size .., rfl, ?_, ?_, fun b o e => Heap.get?_push_of_some _ (keep' b o e), ?_⟩
    · obtain ⟨_, z1, z2, z3, z4, z5⟩ := (f3 b hb).1
      exact ⟨z3, z1, z4, z5⟩
    · show _ < (h'.push go).objs.size
      rw [Heap.size_push]; exact Nat.lt_succ_self _
    · exact AllBare.push I3.bare rfl
    · exact I3.nolimit.keeps fun b o e => Heap.get?_push_of_some _ (keep' b o e)
    intro Aw Sx s5 hrw hfr hSx hk2 hSo hos hba
    obtain ⟨cS, heS⟩ := hSo
    have hSx' : (h'.push go).objs.size ≤ Sx := hSx
    rw [Heap.size_push] at hSx'
    have ltS : sc.heap.objs.size < Sx := Nat.lt_of_lt_of_le (by omega) hSx'
    have ltS' : h'.objs.size < Sx := hSx'
    have kp5 : ∀ b o, sc.heap.get? b = some o → s5.heap.get? b = some o := fun b o e => hk2 b o (Heap.get?_push_of_some _ (keep' b o e))
    have hn5 : s5.heap.Ns sc.heap.objs.size (fun y => if y = ".0" then some (.ref it) else none) := hn'.keeps fun b o e => hk2 b o (Heap.get?_push_of_some _ e)
    have hea : s5.heap.get? h'.objs.size = some go := hk2 _ go hpushed
    have young : ∀ b, sc.heap.objs.size ≤ b → (upd H2 P (.tbl (ps ++ more))) b = none ∧ b ∉ frs X.stack ∧ ∀ y c, X.env.cells.lookup y = some c → c ≠ b := fun b hb => by
      refine ⟨I3.hok.fresh hb, fun hm => ?_, fun y c e z => ?_⟩
      · rcases List.mem_cons.mp (I3.stkSub b hm) with z | z
        · exact absurd (Nat.lt_of_lt_of_le I3.lt (by rw [← z]; exact hb)) (Nat.lt_irrefl _)
        · exact I3.nofs hb z
      · obtain ⟨v, o, ho, _⟩ := I3.cell y c e
        have := Heap.lt_size ho
        rw [z] at this
        exact absurd (Nat.lt_of_lt_of_le this hb) (Nat.lt_irrefl _)
    generalize hcenv : genEnv scope (cloFrom X.env.cells scope.names []) sc.heap.objs.size code builtinsNs X.env = cenv
    have hcl : ∀ {y c}, cenv.cells.lookup y = some c → X.env.cells.lookup y = some c := fun {y c} e => by
      have e2 : (cloFrom X.env.cells scope.names []).lookup y = some c := by
        have : cenv.cells = cloFrom X.env.cells scope.names [] := by rw [← hcenv]; rfl
        rw [this] at e
        exact e
      rcases cloFrom_mem (PySem.mem_of_lookup e2) with hm | ⟨h1, rfl⟩
      · cases hm
      · obtain ⟨c, hc⟩ := hfree _ h1 rfl
        rw [hc]
        rfl
    have hloc : cenv.locals = sc.heap.objs.size := by rw [← hcenv]; rfl
    have hscp : cenv.scope = scope := by rw [← hcenv]; rfl
    have hA : (Aw.over (gL elt tg iter ifs scope pos it cenv) []).handled = none := hrw.hd
    have hR : Room k (Aw.over (gL elt tg iter ifs scope pos it cenv) []) := over_room hrw
    have hgd : ∀ v, go.data ≠ .cell v := fun v q => by rw [← hgo] at q; cases q
    have I5 : Inv (gx X (Aw.over (gL elt tg iter ifs scope pos it cenv) []) sc (upd H2 P (.tbl (ps ++ more))) cenv fp [(h'.objs.size, go)]) [(Sx, lstObj #[] cS)] (wipe σ (own.map (·.2))) (upd H2 P (.tbl (ps ++ more))) s5 := by
      refine gen_start I3 ok hN f3 hA (over_frames hfr) hcenv kp5 hn5 (hos.trans rfl) hba fun p hp => ?_
      rcases List.mem_append.mp hp with z | z
      · rw [List.mem_singleton.mp z]
        obtain ⟨y1, y2, _⟩ := young h'.objs.size (by omega)
        exact ⟨hea, y1, Nat.ne_of_gt (show sc.heap.objs.size < h'.objs.size by omega), y2, hgd⟩
      · rw [List.mem_singleton.mp z]
        obtain ⟨y1, y2, _⟩ := young Sx (Nat.le_of_lt ltS)
        exact ⟨heS, y1, Nat.ne_of_gt ltS, y2, fun v q => by cases q⟩
    have hAp : Apart (gx X (Aw.over (gL elt tg iter ifs scope pos it cenv) []) sc (upd H2 P (.tbl (ps ++ more))) cenv fp [(h'.objs.size, go)]) Sx := by
      obtain ⟨_, _, y3⟩ := young Sx (Nat.le_of_lt ltS)
      exact ⟨Nat.le_of_lt ltS, by show Sx ≠ cenv.locals; rw [hloc]; exact Nat.ne_of_gt ltS, fun x c e => y3 x c (hcl e)⟩
    have st5 : tn 0 s5.heap := T.keep _ _ _ st3 fun b _ o e => kp5 b o e
    have loop := seg_loop (X := X) (elt := elt) (tg := tg) (iter := iter) (ifs := ifs) (scope := scope) (pos := pos) (own := own) (J := J) (g := g) (tt := tt) (te := te) (σ := σ) (fp := fp) (it := it) (S := Sx) (gn := sc.gens.size) (A := Aw) (cont := cont) (W := W) (E := E)
      (by rw [hscp]; exact ok.co) hrw.hd (Nat.ne_of_lt ltS') (fun b hb => Nat.ne_of_lt (Nat.lt_trans (f3 b hb).2 ltS)) T (fun h e => hgen h e) (hg _ _ _ _ _ _ hR hscp) (ht _ _ _ _ _ _ hR hscp) (he _ _ _ _ _ _ hR hscp) hAp (fun b hb => Nat.ne_of_lt (Nat.lt_trans (f3 b hb).2 (by omega))) turn
      m0 0 sizeLine [] s5 s5 (upd H2 P (.tbl (ps ++ more))) rfl ⟨#[], cS, .nil, I5⟩ st5 (fun b hb => (f3 b hb).1.1) w0
    show Seg _ Aw _ _ _ s5 _ ((compStart (gE elt tg iter ifs scope pos) 0 (.ref it) .none cenv).onRaise (leaving cenv)) [] s5
    unfold compStart
    rw [Sem.onRaise_eq_wrap]
    show Seg _ Aw _ _ _ s5 _ ((ask >>= _).wrap _ _ _ _) [] s5
    refine seg_bind_wrap (wpAny_askSetting ?_)
    split
    · exact seg_again rfl loop
    · first
        | exact seg_bind_wrap (wpAny_rule (seg_bind_wrap (wpAny_standAt (seg_bind_wrap (T.self _ 0 s5 _ _ st5 (seg_again rfl loop))))))
        | (refine seg_bind_wrap (wpAny_rule ?_); show Seg _ Aw _ _ _ s5 _ ((standAt iter.pos >>= _).wrap _ _ _ _) [] s5; exact seg_bind_wrap (wpAny_standAt (seg_bind_wrap (T.self _ 0 s5 _ _ st5 (seg_again rfl loop)))))
  cases hf : codeAmong pos ps.toList with
  | none =>
    refine wpAny_genexprCodeX hcode (cd.code hPs ht3) (cd.tab hPs) hf fun c' h' tk hx hge hlt hco' _ htab' _ => ?_
    obtain ⟨o1, vs, f1, tf, fl, tg, inF, tx, tt, op, _, _, _, _, _, _, _, _, _, htr, _⟩ := hco'
    exact cont2 _ h' tk _ hx (Nat.le_trans hge (Nat.le_of_lt hlt)) htab'.2 ⟨_, rfl⟩ htr
  | some cv =>
    refine wpAny_genexprCode_hit hcode (cd.code hPs ht3) hf ?_
    exact cont2 cv s2.heap s2.toks ps (Heap.ExtBut.refl _ _) (Nat.le_refl _) hPs ⟨#[], by simp⟩ ht3
end
end GE

set_option Elab.async false
set_option linter.all false
set_option autoImplicit false
set_option maxRecDepth 100000
set_option maxHeartbeats 4000000
/-! G4: tuple(g). -/
namespace GE
open PySem PySem.Spec PyProof.Rows L2 GenW GxR
abbrev EF : XK := fun _ _ _ => False
section
variable {P : Program} {w : World} {outer : List Env} {H : Hp} {sc s : Shared} {ex : List Addr} {Qg : List V → Hp → Prop} {A : Around} {k : Nat} {u : Value} {E : Value → Shared → Prop}
theorem cx_false {e : Value} {s' : Shared} (h : CX P w outer H sc EF e s') : False := by
  obtain ⟨_, _, _, _, _, _, _, _, _, _, _, _, z⟩ := h
  exact z
/-- all that a generator hands out, gathered -/
theorem collect_gm {Q' : List Value → Shared → Prop} (hr : Room (k + 2) A) (hfr : A.frames = some outer) (h : GMade P w k outer H sc ex Qg EF u s)
    (hQ : ∀ (s' : Shared) (acc : Array Value) H' ys, Vals ys acc.toList → ys.length ≤ sizeLine → s'.os = sc.os → AllBare s'.gens → Un (frs outer) ex H H' sc.heap s'.heap → HOk P w H' s'.heap → Qg ys H' → Q' acc.toList s') :
    wpAny (model P w) A (collect u) Q' E s := by
  obtain ⟨a, g, c, rfl, ha1, ha2, hg, hgs, hos, hb, hl, hkp, wake⟩ := h
  have hSa : s.heap.objs.size ≠ a := Nat.ne_of_gt ha2
  have hcl : cStatics < s.heap.objs.size := let ⟨_, hn, _⟩ := hl; hn.lt
  have hSc : s.heap.objs.size ≠ cStatics := Nat.ne_of_gt hcl
  unfold collect
  refine wpAny_bind (wpAny_runValue (codeAny_builtin F.entry_proto_collect ?_))
  rw [Around.under_plainId F.plain_proto_collect _]
  show wpAny _ A.in1 (newList [] >>= fun l => again (.builtin "list.__iadd__" ⟨[l, .ref a], []⟩)) _ _ s
  refine wpAny_bind (wpAny_newObj_type ?_ (by show 0 ≤ sizeLine; decide))
  refine wpAny_pure ⟨plainId_quiet F.plain_list_iadd _, codeAny_builtin F.entry_list_iadd ?_⟩
  rw [Around.under_plainId F.plain_list_iadd _]
  show wpAny _ A.in1 (Builtin.List.listExtendWith (.ref s.heap.objs.size) (.ref a) (.ref s.heap.objs.size)) _ _ _
  unfold Builtin.List.listExtendWith
  have up : ∀ (h : Heap) (f : Obj → Obj), (∀ b o, s.heap.get? b = some o → h.get? b = some o) → ∀ b o, s.heap.get? b = some o → (h.update s.heap.objs.size f).get? b = some o := fun h f q b o e =>
    (Heap.get?_update_other _ _ (Ne.symm (Nat.ne_of_lt (Heap.lt_size e)))).trans (q b o e)
  have k1 : ∀ b o, s.heap.get? b = some o → (s.heap.push { cls := .type "list", data := .seq ([] : List Value).toArray }).get? b = some o := fun b o e => Heap.get?_push_of_some _ e
  have gty : ∀ {h : Heap}, (∀ b o, s.heap.get? b = some o → h.get? b = some o) → h.IsGen a g := fun {h} q => hg.keeps q
  refine wpAny_bind (wpAny_typeOf (Heap.IsGen.typeIs (s := { s with heap := _ }) (gty k1)) ?_)
  have h1 : Builtin.List.listSameRef (.ref s.heap.objs.size) (.ref a) = false := by simp [Builtin.List.listSameRef, hSa]
  have h2 : (Value.type "generator" == Value.type "list") = false := by decide
  have h3 : (Value.type "generator" == Value.type "tuple") = false := by decide
  simp only [h1, h2, h3, Bool.or_false, Bool.false_eq_true, if_false]
  refine wpAny_bind (wpAny_pyIter_gen (s := { s with heap := _ }) (gty k1) ?_)
  refine wpAny_bind (wpAny_holding ?_)
  unfold Builtin.List.listLengthHint
  refine wpAny_bind (wpAny_specialOf (Heap.IsGen.typeIs (s := { s with heap := _ }) (gty k1)) F.gen_no_len ?_)
  show wpAny _ A.in1 (specialOf (Value.ref a) (Str.ofString "__length_hint__") >>= _) _ _ _
  refine wpAny_bind (wpAny_specialOf (Heap.IsGen.typeIs (s := { s with heap := _ }) (gty k1)) F.gen_no_hint ?_)
  refine wpAny_pure ?_
  show wpAny _ A.in1 (rule "list.extend.makes-room" >>= fun _ => Builtin.List.listTouch (.ref s.heap.objs.size) >>= fun _ =>
    again (.builtin "list.extend.loop" ⟨[.ref s.heap.objs.size, .ref a, .ref s.heap.objs.size], []⟩)) _ _ _
  refine wpAny_bind (wpAny_rule ?_)
  have hS1 : (s.heap.push { cls := .type "list", data := .seq ([] : List Value).toArray }).get? s.heap.objs.size = some { cls := .type "list", data := .seq ([] : List Value).toArray } := Heap.get?_push_size _ rfl
  refine wpAny_bind ?_
  show wpAny _ A.in1 (updateSeq s.heap.objs.size (·.push .none) >>= fun _ => updateSeq s.heap.objs.size (·.pop)) _ _ _
  refine wpAny_bind (wpAny_updateSeq hS1 rfl ?_)
  have hS2 := Heap.get?_update_self (Obj.mapSeq (·.push Value.none)) hS1 rfl
  refine wpAny_updateSeq (hz := by seq_fits) hS2 rfl ?_
  have hS3 := Heap.get?_update_self (Obj.mapSeq (·.pop)) hS2 rfl
  have k3 := up _ (Obj.mapSeq (·.pop)) (up _ (Obj.mapSeq (·.push Value.none)) k1)
  refine wpAny_pure ⟨plainId_quiet F.plain_extend_loop _, ?_⟩
  refine drain (P := P) (w := w) (outer := outer) (H := H) (sc := sc) (ex := ex) (Q := Qg) (EX := EF) (A := A) (g := g) hr.hd (by have := hr.dp; show A.depth < _; omega) hSa hSc
    (fun s' acc c H' ys q1 q2 q3 q4 q5 q6 q7 q8 q9 => ?_) (fun e s' hc => (cx_false hc).elim)
    sizeLine _ (gty k3) (hl.keeps k3) ⟨_, hgs, rfl, ?_⟩
  · show wpAny _ A (load s.heap.objs.size >>= _) _ _ s'
    refine wpAny_bind (wpAny_load q1 ?_)
    exact wpAny_pure (hQ s' acc H' ys q2 q3 q4 q5 q6 q7 q9)
  · refine wake _ _ _ ⟨hr.hd, ?_, ?_⟩ hfr (Nat.le_refl _) k3 ⟨_, hS3⟩ hos (allBare_setGen (s := { s with heap := _ }) hb rfl)
    · have := hr.dp
      show A.depth + 3 * k + 5 < _
      omega
    · have := hr.un
      show A.units + 1 + 1 + 16 * k + 200 < _
      omega
/-- tuple(g) -/
theorem call_tuple_gm {Q' : Value → Shared → Prop} (hr : Room (k + 5) A) (hfr : A.frames = some outer) (h : GMade P w k outer H sc ex Qg EF u s)
    (hQ : ∀ (s' : Shared) (acc : Array Value) H' ys, Vals ys acc.toList → ys.length ≤ sizeLine → s'.os = sc.os → AllBare s'.gens → Un (frs outer) ex H H' sc.heap s'.heap → HOk P w H' s'.heap → Qg ys H' →
      Q' (.ref s'.heap.objs.size) { s' with heap := s'.heap.push { cls := .type "tuple", data := .seq acc } }) :
    wpAny (model P w) A (call (.type "tuple") [u]) Q' E s := by
  have hu : ∃ a, u = .ref a ∧ s.TypeIs (.ref a) "generator" := by
    obtain ⟨a, g, c, rfl, ha1, ha2, hg, _⟩ := h
    exact ⟨a, rfl, hg.typeIs⟩
  obtain ⟨a, rfl, hTI⟩ := hu
  have r1 : Room (k + 2) A.in1.in1 := ⟨hr.hd, by have := hr.dp; show A.depth + 3 * (k + 2) + 5 < _; omega, by have := hr.un; show A.units + 1 + 1 + 16 * (k + 2) + 200 < _; omega⟩
  refine callType_codes (Q₁ := fun obj s₁ => s₁.TypeIs obj "tuple" ∧ Q' obj s₁) F.called_tuple (F.typeCall_tuple_1 _) F.entry_object_init ?_ fun obj s₁ h₁ => ?_
  · refine codeAny_of_tree ?_
    show wpAny _ A.in1.in1 (do checkBuiltinCall "tuple.__new__" ⟨[.type "tuple", .ref a], []⟩; again (.builtin "tuple.__new__" ⟨[.type "tuple", .ref a], []⟩)) _ _ s
    refine wpAny_bind (wpAny_of_eq (F.newCall_tuple_1 _) (wpAny_pure ⟨plainId_quiet F.plain_tuple_new _, codeAny_builtin F.entry_tuple_new ?_⟩))
    rw [Around.under_plainId F.plain_tuple_new _]
    have hsub := sub_tuple_self
    have hinit := init_tuple_lookup
    have hmh := madeHere_tuple
    wp_walk using wpAny_typeOf hTI, collect_gm (A := A.in1.in1) r1 hfr h
    intro s' acc H' ys q1 q2 q3 q4 q5 q6 q7
    show wpAny _ _ (Builtin.Tuple.tupleExact acc.toList.toArray >>= fun v => ret v) _ _ _
    unfold Builtin.Tuple.tupleExact
    have hl : acc.size = ys.length := by
      have := q1.length
      have e2 : acc.toList.length = acc.size := by simp
      omega
    refine wpAny_bind (wpAny_newObj_type ?_ (by show acc.toList.toArray.size ≤ sizeLine; simp only [Array.toArray_toList]; omega))
    refine wpAny_pure ?_
    have e : acc.toList.toArray = acc := by simp
    rw [e]
    exact ⟨⟨_, Heap.get?_push_size _ rfl, rfl⟩, hQ s' acc H' ys q1 q2 q3 q4 q5 q6 q7⟩
  · exact ⟨h₁.1, F.args_object_init_2 obj _, object_init_meets F.called_tuple.init.lookup F.called_tuple.made (by decide) P w A.in1 _ s₁ ⟨h₁.1, rfl, h₁.2⟩⟩
end
section
variable {X : Cx} {k : Nat} {e : Expr} {tg : TGen} {nm : Str} {p pos : Pos}
/-- behind the gathering: the tuple is tracked -/
theorem Inv.drainedT {pins : List (Addr × Obj)} {σ : L2.St} {H H' : Hp} {sc s' : Shared} {ex : List Addr} {acc : Array Value} {out : List V} (I : Inv X pins σ H sc) (hlen : out.length ≤ sizeLine) (r : Vals out acc.toList)
    (hex : ExOk X pins ex) (os : s'.os = sc.os) (hb : AllBare s'.gens) (un : Un (frs X.stack) ex H H' sc.heap s'.heap) (hok : HOk X.prog X.w H' s'.heap) :
    H' s'.heap.objs.size = none ∧ Inv X pins σ (upd H' s'.heap.objs.size (.tup out)) { s' with heap := s'.heap.push { cls := .type "tuple", data := .seq acc } } := by
  have I1 : Inv X pins σ H' s' := I.call' (ch := ex) os un hok hb hex
  refine ⟨I1.hok.fresh (Nat.le_refl _), ?_⟩
  refine I1.laid (t' := s'.toks) (fun b o e => Heap.get?_push_of_some _ e) (Nat.le_refl _) ⟨hlen, acc.toList, r, ?_⟩
  exact ⟨_, Heap.get?_push_size _ rfl, rfl, 0, by simp⟩
def tTupG (tg : TGen) : TE := fun σ H Q => tg σ H fun out H2 => ∀ p, H2 p = none → Q (.ref p) (upd H2 p (.tup out))
theorem pe_tupG (h : PGen X k e tg EF) (hr : Room (k + 5) X.A) (hg : Gl X nm) (hmg : X.mg nm = none) (hv : bootBuiltins nm = some (.type "tuple")) (hnm : nm ≠ "__name__" := by decide) (hdb : (nm == ("__debug__" : Str)) = false := by decide)
    (he : starEach [e] X.env = (false, eval e X.env) :: starEach [] X.env := by rfl) : PE X (.Call (.Name nm p) [e] [] pos) (tTupG tg) := by
  refine ⟨fun pins s σ H Q I hq => ?_⟩
  refine wpAny_Call_Name_kw (ld_blt I hg hmg hv ?_ hnm hdb)
  refine PyProof.Rows.callWith_type1 ?_ he rfl
  rw [he]
  show wpAny _ _ (spliced ((false, eval e X.env) :: backTo pos (starEach [] X.env))) _ _ s
  refine Calls.spliced_cons (thn (h.run pins s σ H _ I hq) fun u s1 ⟨H1, sc, ex, I1, hex, hG⟩ => ?_)
  refine Calls.spliced_nil ?_
  refine call_tuple_gm hr I1.ok.frames hG fun s' acc H' ys q1 hl q3 q4 q5 q6 q8 => ?_
  obtain ⟨z1, z2⟩ := Inv.drainedT I1 hl q1 hex q3 q4 q5 q6
  exact ⟨.ref s'.heap.objs.size, _, z2, rfl, q8 _ z1⟩
end
end GE

set_option Elab.async false
set_option linter.all false
set_option autoImplicit false
set_option maxRecDepth 100000
set_option maxHeartbeats 2000000
/-! S1: what may stand in a set: a number, a text, a tuple of such. Its hash, its equality. -/
namespace Zs
open PySem PySem.Spec PyProof.Rows L2

abbrev Kx := Sum Key (List Key)
def tupQ : Kx → Bool
  | .inl _ => false
  | .inr _ => true

section
variable (P : Program) (w : World)
def hsh : Kx → Int
  | .inl k => keyH w k
  | .inr ks => tupleKeyHash (mixKind P w) ks
/-- v is the element k -/
def El (h : Heap) : Kx → Value → Prop
  | .inl k, v => keyIs k v = true
  | .inr ks, v => ∃ b, v = .ref b ∧ IsTupleKey (mixKind P w) h ks b
end

section
variable {P : Program} {w : World} {A : Around} {E : Value → Shared → Prop} {s : Shared}

theorem El.one {h : Heap} : ∀ {k k' : Kx} {v : Value}, El P w h k v → El P w h k' v → k = k'
  | .inl _, .inl _, v, x, y => congrArg Sum.inl ((mixKind P w).inj v _ _ x y)
  | .inl _, .inr _, v, x, ⟨b, e, _⟩ => by
    subst e
    rcases keyIs_shape x with ⟨_, _, _, q⟩ | ⟨_, _, _, q⟩ <;> exact nomatch q
  | .inr _, .inl _, v, ⟨b, e, _⟩, y => by
    subst e
    rcases keyIs_shape y with ⟨_, _, _, q⟩ | ⟨_, _, _, q⟩ <;> exact nomatch q
  | .inr _, .inr _, v, ⟨b, e, x⟩, ⟨c, e', y⟩ => by
    rw [e] at e'
    injection e' with e'
    subst e'
    exact congrArg Sum.inr (x.inj y)
/-- it stays where the sequences stay -/
theorem El.stay {h h' : Heap} (q : ∀ b o its n, h.get? b = some o → o.data = .seq its n → h'.get? b = some o) : ∀ {k : Kx} {v : Value}, El P w h k v → El P w h' k v
  | .inl _, _, x => x
  | .inr _, _, ⟨b, e, o, its, n, ho, hc, hd, hi⟩ => ⟨b, e, o, its, n, q b o its n ho hd, hc, hd, hi⟩
theorem El.grow {h h' : Heap} (q : ∀ b o, h.get? b = some o → h'.get? b = some o) {k : Kx} {v : Value} (x : El P w h k v) : El P w h' k v :=
  x.stay fun b o _ _ e _ => q b o e
/-- a set changes, no sequence does -/
theorem seq_stays {h h' : Heap} {a : Addr} {o : Obj} {es : Array (Int × Value)} {ep : Nat} {t : SetTable} (ho : h.get? a = some o) (hd : o.data = .set es ep t) (sb : Heap.SameBut a h h') :
    ∀ b u its n, h.get? b = some u → u.data = .seq its n → h'.get? b = some u := fun b u its n e d =>
  (sb.2 b fun z => by
    subst z
    rw [ho] at e
    cases e
    rw [hd] at d
    exact nomatch d).trans e
theorem El.hash {k : Kx} {v : Value} {Q : Int → Shared → Prop} (hu : A.units < cLine) (x : El P w s.heap k v) (h : ∀ n, Q (hsh P w k) { s with toks := s.toks + n }) : wpAny (model P w) A (pyHash v) Q E s := by
  cases k with
  | inl k => exact (mixKind P w).pyHash x (h 1)
  | inr ks =>
    obtain ⟨b, rfl, x⟩ := x
    exact wpAny_pyHash_tuple hu x (h _)
theorem El.eq {k k' : Kx} {u v : Value} {Q : Bool → Shared → Prop} (hu : A.units < cLine) (x : El P w s.heap k u) (y : El P w s.heap k' v) (e : tupQ k = tupQ k') (h : Q (decide (k = k')) s) : wpAny (model P w) A (eqBool u v) Q E s := by
  cases k with
  | inl k =>
    cases k' with
    | inl k' => exact (mixKind P w).eqBool x y (by simpa using h)
    | inr _ => exact nomatch e
  | inr ks =>
    cases k' with
    | inl _ => exact nomatch e
    | inr ks' =>
      obtain ⟨b, rfl, x⟩ := x
      obtain ⟨c, rfl, y⟩ := y
      exact wpAny_eqBool_tuple hu x y (by simpa using h)
theorem El.scan {h : Heap} : ∀ {k : Kx} {v : Value}, El P w h k v → v.scannable = !tupQ k
  | .inl _, v, x => by rcases keyIs_shape x with ⟨_, _, _, rfl⟩ | ⟨_, _, _, rfl⟩ <;> rfl
  | .inr _, v, ⟨b, e, _⟩ => by subst e; rfl
/-- the items of such a tuple are numbers and texts -/
theorem its_plain : ∀ {ks : List Key} {vs : List Value}, ItemsAre (mixKind P w) ks vs → ∀ v ∈ vs, ∃ k, keyIs k v = true
  | _, _, .nil, v, z => nomatch z
  | _, _, .cons h r, v, z => (List.mem_cons.mp z).elim (fun e => ⟨_, e ▸ h⟩) (its_plain r v)
theorem noClass (n : Nat) {k : Key} {v : Value} (h : keyIs k v = true) : ofAClassStatement n v = pure false := by
  rcases keyIs_shape h with ⟨_, _, _, rfl⟩ | ⟨_, _, _, rfl⟩ <;> cases n <;> rfl
theorem byVal (n : Nat) {k : Key} {v : Value} (h : keyIs k v = true) : ∃ b, hashByValue n v = pure b := by
  rcases keyIs_shape h with ⟨_, _, _, rfl⟩ | ⟨_, _, _, rfl⟩ <;> cases n <;> exact ⟨_, rfl⟩
theorem tup_class {ks : List Key} {b : Addr} {Q : Bool → Shared → Prop} (x : IsTupleKey (mixKind P w) s.heap ks b) (h : Q false s) : wpAny (model P w) A (ofAClassStatement 8 (.ref b)) Q E s := by
  have hT := x.typeIs
  obtain ⟨o, its, n, ho, _, hd, hi⟩ := x
  have pl := its_plain hi
  unfold ofAClassStatement
  refine wpAny_bind (wpAny_typeOf hT ?_)
  have e : (("tuple" : String) == "tuple") = true := by decide
  dsimp only
  rw [e]
  simp only [if_true, Bool.not_true, Bool.false_eq_true, if_false]
  try refine wpAny_bind (wpAny_pure ?_)
  try simp only [Bool.not_true, Bool.false_eq_true, if_false]
  refine wpAny_bind (m := seqItems? (.ref b)) (wpAny_seqItems ho hd ?_)
  dsimp only
  refine wpAny_bind ?_
  change wpAny _ _ (forIn its _ _) _ _ s
  rw [← Array.forIn_toList]
  refine wpAny_forIn_list _ (fun rest r s' => s' = s ∧ r.1 = none ∧ (∀ v ∈ rest, ∃ k, keyIs k v = true)) _ (fun v rest r s' z => ?_) (fun r s' z => ?_) _ _ ⟨rfl, rfl, pl⟩
  · obtain ⟨e1, e2, z⟩ := z
    subst e1
    obtain ⟨k, hk⟩ := z v List.mem_cons_self
    rw [noClass 7 hk]
    refine wpAny_bind (wpAny_pure ?_)
    simp only [Bool.false_eq_true, if_false]
    exact wpAny_pure ⟨rfl, rfl, fun u q => z u (List.mem_cons_of_mem _ q)⟩
  · obtain ⟨r1, r2⟩ := r
    obtain ⟨e1, e2, _⟩ := z
    subst e1
    simp only at e2
    subst e2
    exact wpAny_pure h
theorem tup_byVal {ks : List Key} {b : Addr} {Q : Bool → Shared → Prop} (x : IsTupleKey (mixKind P w) s.heap ks b) (h : ∀ c, Q c s) : wpAny (model P w) A (hashByValue 8 (.ref b)) Q E s := by
  have hT := x.typeIs
  obtain ⟨o, its, n, ho, _, hd, hi⟩ := x
  have pl := its_plain hi
  unfold hashByValue
  refine wpAny_bind (wpAny_specialOf hT F.slot_tuple_hash.lookup ?_)
  refine wpAny_bind (m := seqItems? (.ref b)) (wpAny_seqItems ho hd ?_)
  refine wpAny_bind ?_
  change wpAny _ _ (forIn its _ _) _ _ s
  rw [← Array.forIn_toList]
  refine wpAny_forIn_list _ (fun rest r s' => s' = s ∧ (r.1 = none ∨ rest = [] ∨ True) ∧ (∀ v ∈ rest, ∃ k, keyIs k v = true)) _ (fun v rest r s' z => ?_) (fun r s' z => ?_) _ _ ⟨rfl, .inl rfl, pl⟩
  · obtain ⟨e1, _, z⟩ := z
    subst e1
    obtain ⟨k, hk⟩ := z v List.mem_cons_self
    obtain ⟨c, hc⟩ := byVal 7 hk
    rw [hc]
    refine wpAny_bind (wpAny_pure ?_)
    cases c
    · simp only [Bool.not_false, if_true]
      exact wpAny_pure (wpAny_pure (h _))
    · simp only [Bool.not_true, Bool.false_eq_true, if_false]
      exact wpAny_pure ⟨rfl, .inr (.inr trivial), fun u q => z u (List.mem_cons_of_mem _ q)⟩
  · obtain ⟨r1, r2⟩ := r
    obtain ⟨e1, _, _⟩ := z
    subst e1
    cases r1 <;> exact wpAny_pure (h _)
/-- a search among tuples shows nothing of itself -/
theorem tup_seen {ks : List Key} {b : Addr} {Q : Bool → Shared → Prop} (x : IsTupleKey (mixKind P w) s.heap ks b) {ys : List Value} (hy : ∀ y ∈ ys, ∃ k, El P w s.heap (.inr k) y) (h : Q false s) :
    wpAny (model P w) A (searchCouldBeSeen (.ref b) ys) Q E s := by
  unfold searchCouldBeSeen
  refine wpAny_bind ?_
  refine wpAny_forIn_list _ (fun rest r s' => s' = s ∧ r.1 = none ∧ ∀ y ∈ rest, ∃ k, El P w s.heap (.inr k) y) _ (fun v rest r s' z => ?_) (fun r s' z => ?_) _ _ ⟨rfl, rfl, hy⟩
  · obtain ⟨e1, e2, z⟩ := z
    subst e1
    obtain ⟨k, c, rfl, y⟩ := z v List.mem_cons_self
    have on : ∀ u ∈ rest, ∃ k, El P w s'.heap (.inr k) u := fun u q => z u (List.mem_cons_of_mem _ q)
    dsimp only
    by_cases same : (b == c || (carriedByValue (.ref b) && carriedByValue (.ref c))) = true
    · exact wp_if_pos same (wpAny_pure ⟨rfl, rfl, on⟩)
    · refine wp_if_neg same (wpAny_bind (wpAny_eqIsQuiet_tuple x ?_))
      simp only [Bool.not_true, Bool.false_eq_true, if_false]
      refine wpAny_bind (wpAny_eqIsQuiet_tuple y ?_)
      simp only [Bool.not_true, Bool.false_eq_true, if_false]
      refine wpAny_bind (tup_class x ?_)
      simp only [Bool.false_eq_true, if_false]
      refine wpAny_bind (tup_class y ?_)
      simp only [Bool.false_eq_true, if_false]
      exact wpAny_pure ⟨rfl, rfl, on⟩
  · obtain ⟨r1, r2⟩ := r
    obtain ⟨e1, e2, _⟩ := z
    subst e1
    simp only at e2
    subst e2
    exact wpAny_pure h
end
end Zs

set_option Elab.async false
set_option linter.all false
set_option autoImplicit false
set_option maxRecDepth 100000
set_option maxHeartbeats 2000000
/-! S2: sets of such elements; a tuple looked for in the table. -/
namespace Zs
open PySem PySem.Spec PyProof.Rows L2

abbrev Rw := List (Value × Kx)
section
variable (P : Program) (w : World)
def hss (L : Rw) : List Int := L.map fun p => hsh P w p.2
def ents (L : Rw) : List (Int × Value) := L.map fun p => (hsh P w p.2, p.1)
/-- what holds of a table of tuples besides -/
structure Tb (L : Rw) (t : SetTable) : Prop where
  ok : TabOk t (hss P w L)
  room : L.length * 5 < t.mask * 3
  few : L.length < 64
/-- elements that are all looked for one by one, or all by the table -/
def Kind (L : Rw) (t : SetTable) : Prop := (L ≠ [] ∧ ∀ p ∈ L, tupQ p.2 = false) ∨ ((∀ p ∈ L, tupQ p.2 = true) ∧ Tb P w L t)
structure St (h : Heap) (a : Addr) (L : Rw) (es : Array (Int × Value)) (ep : Nat) (t : SetTable) : Prop where
  ob : ∃ o, h.get? a = some o ∧ o.ExactSet ∧ o.data = .set es ep t
  rows : es.toList = ents P w L
  nd : (L.map (·.2)).Nodup
  el : ∀ p ∈ L, El P w h p.2 p.1
  ris : Ris t.place.toList
  fit : t.fits es.size = true
  led : w.params.followText "set-order" = true ∨ t.led = true
  few : L.length < scanBound
  kind : Kind P w L t
end

section
variable {P : Program} {w : World} {A : Around} {E : Value → Shared → Prop} {s : Shared}
variable {a : Addr} {L : Rw} {es : Array (Int × Value)} {ep : Nat} {t : SetTable} {h h' : Heap}

theorem ents_len (L : Rw) : (ents P w L).length = L.length := List.length_map _
theorem size_of (r : es.toList = ents P w L) : es.size = L.length := by
  have q := congrArg List.length r
  rwa [Array.length_toList, ents_len] at q
theorem ent_at (r : es.toList = ents P w L) {i : Nat} {p : Value × Kx} (e : L[i]? = some p) : es[i]? = some (hsh P w p.2, p.1) := by
  rw [← Array.getElem?_toList, r, ents, List.getElem?_map, e, Option.map_some]
theorem St.size (R : St P w h a L es ep t) : es.size = L.length := size_of R.rows
theorem St.move (R : St P w h a L es ep t) (q : ∀ o, h.get? a = some o → h'.get? a = some o) (z : ∀ p ∈ L, El P w h' p.2 p.1) : St P w h' a L es ep t :=
  let ⟨o, ho, r⟩ := R.ob
  { R with ob := ⟨o, q o ho, r⟩, el := z }
theorem St.grow (R : St P w h a L es ep t) (q : ∀ b o, h.get? b = some o → h'.get? b = some o) : St P w h' a L es ep t :=
  R.move (fun o e => q a o e) fun p hp => (R.el p hp).grow q

/-- the c-th place on the way of the hash g -/
abbrev pos (t : SetTable) (g : Int) (c : Nat) : SetTable.Probe := nth t.mask (t.probeStart g) c
theorem pos_way (t : SetTable) (g : Int) (c : Nat) : (pos t g c).j = way t.mask g c := rfl
theorem pos_on (t : SetTable) (g : Int) (c q : Nat) : nth t.mask (pos t g c) q = pos t g (c + q) := (nth_add t.mask c _ q).symm
theorem adv_dm (m : Nat) {p : SetTable.Probe} (e : p.dummy = none) : (adv m p).dummy = none := by
  unfold adv
  split <;> exact e
theorem nth_dm (m : Nat) : ∀ (c : Nat) {p : SetTable.Probe}, p.dummy = none → (nth m p c).dummy = none
  | 0, _, e => e
  | c + 1, _, e => nth_dm m c (adv_dm m e)
theorem tab_len {hs : List Int} (T : TabOk t hs) : t.place.toList.length = hs.length := by rw [Array.length_toList]; exact T.sz

/-- looked for, to be put in -/
theorem look {k : List Key} {v : Value} (R : St P w s.heap a L es ep t) (al : ∀ p ∈ L, tupQ p.2 = true) (T : Tb P w L t) (hu : A.units < cLine) (x : El P w s.heap (.inr k) v) {Q : SetFound → Shared → Prop}
    (hin : Sum.inr k ∈ L.map (·.2) → Q (.there none) s) {N : Nat} (hN : way t.mask (hsh P w (.inr k)) N ∉ t.place.toList) (hN2 : N < 10 * SetTable.turns t.mask)
    (hb : ∀ c, c < N → way t.mask (hsh P w (.inr k)) c ∈ t.place.toList) (hout : Sum.inr k ∉ L.map (·.2) → Q (.free (way t.mask (hsh P w (.inr k)) N) false) s) :
    ∀ (f c : Nat) (at? : Option SetTable.Probe), at?.getD (t.probeStart (hsh P w (.inr k))) = pos t (hsh P w (.inr k)) c → c ≤ N → N - c < f →
      (∀ (i : Nat) p, L[i]? = some p → p.2 = .inr k → ∃ c', c ≤ c' ∧ c' < N ∧ t.place.toList[i]? = some (way t.mask (hsh P w (.inr k)) c')) →
      wpAny (model P w) A (setSearchFrom a v (hsh P w (.inr k)) true f at?) Q E s := by
  intro f
  induction f with
  | zero => exact fun c at? _ _ z => absurd z (Nat.not_lt_zero _)
  | succ f ih =>
    intro c at? e0 hc hf back
    obtain ⟨o, ho, _, hd⟩ := R.ob
    obtain ⟨g, hg⟩ : ∃ g, g = hsh P w (.inr k) := ⟨_, rfl⟩
    rw [← hg] at hN hb hout back e0 ih ⊢
    have hat : ∀ (i : Nat) p, L[i]? = some p → ((es[i]?.map (·.1)).getD 0) = hsh P w p.2 := fun i p e => by rw [ent_at R.rows e]; rfl
    rw [setSearchFrom_succ]
    refine wpAny_bind (wpAny_setState_of ho hd R.fit ?_)
    dsimp only
    have hg2 : ¬ t.gaveWay = true := by unfold SetTable.gaveWay; rw [mask_odd T.ok.mok]; decide
    refine wp_if_neg hg2 ?_
    try refine wpAny_bind (wpAny_pure ?_)
    rw [e0]
    have far : c + (N - c) = N := by omega
    have spec := go_spec t T.ok.ris T.ok.dm (fun i => (es[i]?.map (·.1)).getD 0) g (10 * SetTable.turns t.mask) (N - c) (pos t g c) (nth_dm _ _ rfl) (by omega)
      (fun q z => by rw [pos_on]; exact hb (c + q) (by omega)) (by rw [pos_on, far]; exact hN)
    rcases spec with ⟨q, i, hq, hi, hh, hno, hpr⟩ | ⟨hno, hpr⟩
    · rw [show t.probe (fun i => (es[i]?.map (·.1)).getD 0) g (pos t g c) = _ from hpr]
      dsimp only
      rw [pos_on] at hi
      have hil : i < L.length := by
        have z := (List.getElem?_eq_some_iff.mp hi).1
        rwa [tab_len T.ok, hss, List.length_map] at z
      obtain ⟨p, hp⟩ : ∃ p, L[i]? = some p := ⟨_, List.getElem?_eq_getElem hil⟩
      have hm := List.mem_of_getElem? hp
      have goOn : wpAny (model P w) A (searchRest a v g true f es t (nth t.mask (pos t g c) q).j i (nth t.mask (pos t g c) (q + 1))) Q E s := by
        unfold searchRest
        rw [ent_at R.rows hp]
        refine wpAny_bind (wpAny_holding ((R.el p hm).eq hu x (al p hm) ?_))
        refine wpAny_bind (wpAny_setState_of ho hd R.fit ?_)
        dsimp only
        by_cases ek : p.2 = .inr k
        · exact wp_if_pos (by simp [ek]) (wpAny_pure (hin (List.mem_map.mpr ⟨p, hm, ek⟩)))
        · refine wp_if_neg (by simp [ek]) ?_
          try refine wpAny_bind (wpAny_pure ?_)
          rw [sameMem]
          have live : t.slot (nth t.mask (pos t g c) q).j = .live i := slot_live T.ok.ris (by rw [pos_on]; exact hi)
          dsimp only
          simp only [if_true, live, ent_at R.rows hp]
          obtain ⟨b, eb, _⟩ : ∃ b, p.1 = Value.ref b ∧ True := by
            have z := R.el p hm
            have y := al p hm
            cases hk2 : p.2 with
            | inl _ => rw [hk2] at y; exact nomatch y
            | inr _ =>
              rw [hk2] at z
              exact ⟨z.choose, z.choose_spec.1, trivial⟩
          rw [eb]
          refine wpAny_bind (wpAny_isSame_ref_self (wpAny_bind (wpAny_pure ?_)))
          simp only [if_true]
          refine wp_if_neg (by simp [ek]) (ih (c + (q + 1)) _ ?_ (by omega) (by omega) fun i' p' h' e' => ?_)
          · rw [← pos_on, Option.getD_some]
          · obtain ⟨c', l1, l2, l3⟩ := back i' p' h' e'
            refine ⟨c', ?_, l2, l3⟩
            have same : hsh P w p'.2 = g := by rw [e', hg]
            show c + q < c'
            refine Nat.lt_of_not_le fun le => ?_
            rcases Nat.lt_or_eq_of_le le with lt | eq
            · refine hno (c' - c) i' (by omega) ?_ ((hat i' p' h').trans same)
              rw [pos_on, show c + (c' - c) = c' by omega]
              exact l3
            · have l4 := slot_live T.ok.ris l3
              rw [eq, show way t.mask g (c + q) = (nth t.mask (pos t g c) q).j by rw [pos_on]; rfl, live] at l4
              injection l4 with l4
              rw [← l4, hp] at h'
              exact ek ((congrArg Prod.snd (Option.some.inj h')).trans e')
      by_cases hl : t.led = true
      · refine wp_if_neg (by simp [hl]) ?_
        try refine wpAny_bind (wpAny_pure ?_)
        exact goOn
      · refine wp_if_pos (by simp [hl]) ?_
        obtain ⟨b, rfl, xb⟩ := x
        refine wpAny_bind (tup_seen xb (fun y hy => ?_) ?_)
        · obtain ⟨e, he, rfl⟩ := List.mem_map.mp hy
          have he2 : e ∈ es.toList := by simpa using (show e ∈ es ∧ e.1 = g by simpa using he).1
          rw [R.rows] at he2
          obtain ⟨p2, m2, rfl⟩ := List.mem_map.mp he2
          have z := R.el p2 m2
          have y := al p2 m2
          cases hk2 : p2.2 with
          | inl _ => rw [hk2] at y; exact nomatch y
          | inr k2 => rw [hk2] at z; exact ⟨k2, z⟩
        · refine wp_if_neg (by decide) ?_
          try refine wpAny_bind (wpAny_pure ?_)
          exact goOn
    · rw [show t.probe (fun i => (es[i]?.map (·.1)).getD 0) g (pos t g c) = _ from hpr]
      dsimp only
      rw [pos_on, far]
      refine wpAny_pure (hout fun hm => ?_)
      obtain ⟨p, mp, ek⟩ := List.mem_map.mp hm
      obtain ⟨i, hi⟩ := List.mem_iff_getElem?.mp mp
      obtain ⟨c', l1, l2, l3⟩ := back i p hi ek
      refine hno (c' - c) i (by omega) ?_ ((hat i p hi).trans (by rw [ek, hg]))
      rw [pos_on, show c + (c' - c) = c' by omega]
      exact l3
/-- so, from the way's first place -/
theorem look0 {k : List Key} {v : Value} (R : St P w s.heap a L es ep t) (al : ∀ p ∈ L, tupQ p.2 = true) (T : Tb P w L t) (hu : A.units < cLine) (x : El P w s.heap (.inr k) v) {Q : SetFound → Shared → Prop}
    (hin : Sum.inr k ∈ L.map (·.2) → Q (.there none) s)
    (hout : ∀ N, Sum.inr k ∉ L.map (·.2) → way t.mask (hsh P w (.inr k)) N ∉ t.place.toList → (∀ c, c < N → way t.mask (hsh P w (.inr k)) c ∈ t.place.toList) → Q (.free (way t.mask (hsh P w (.inr k)) N) false) s) :
    wpAny (model P w) A (setSearch a v (hsh P w (.inr k)) true) Q E s := by
  have rm := T.room
  have hl : (hss P w L).length = L.length := List.length_map _
  obtain ⟨N, n1, n2, n3⟩ := T.ok.first (by omega) (hsh P w (.inr k))
  have small : N < 100000 := by
    have : 10 * SetTable.turns t.mask ≤ 1420 := by
      unfold SetTable.turns
      rcases T.ok.mok with e | e | e <;> omega
    omega
  unfold setSearch
  refine look R al T hu x hin n2 n1 n3 (fun z => hout N z n2 n3) 100000 0 none rfl (Nat.zero_le _) (by omega) fun i p hp ek => ?_
  have e1 : (hss P w L)[i]? = some (hsh P w (.inr k)) := by rw [hss, List.getElem?_map, hp, ← ek]; rfl
  have il : i < t.place.toList.length := by rw [tab_len T.ok]; exact (List.getElem?_eq_some_iff.mp e1).1
  obtain ⟨c, z, e⟩ := T.ok.before n2 e1 (List.getElem?_eq_getElem il)
  exact ⟨c, Nat.zero_le _, z, by rw [List.getElem?_eq_getElem il, e]⟩
end
end Zs

set_option Elab.async false
set_option linter.all false
set_option autoImplicit false
set_option maxRecDepth 100000
set_option maxHeartbeats 2000000
/-! S3: one element more. -/
namespace Zs
open PySem PySem.Spec PyProof.Rows L2

/-- what is one order of a list's images is one of the list's -/
theorem perm_pre {α β : Type} (f : α → β) {l m : List β} (p : l.Perm m) : ∀ L : List α, m = L.map f → ∃ L' : List α, l = L'.map f ∧ L'.Perm L := by
  induction p with
  | nil => exact fun L e => ⟨L, e, .refl _⟩
  | @cons x l m _ ih =>
    intro L e
    cases L with
    | nil => exact nomatch e
    | cons y L =>
      rw [List.map_cons] at e
      injection e with e1 e2
      obtain ⟨L', e3, q⟩ := ih L e2
      exact ⟨y :: L', by rw [List.map_cons, e1, e3], q.cons y⟩
  | swap x y l =>
    intro L e
    match L, e with
    | u :: v :: L, e =>
      rw [List.map_cons, List.map_cons] at e
      injection e with e1 e
      injection e with e2 e
      exact ⟨v :: u :: L, by rw [List.map_cons, List.map_cons, e1, e2, e], .swap u v L⟩
  | trans _ _ i1 i2 =>
    intro L e
    obtain ⟨L1, e1, q1⟩ := i2 L e
    obtain ⟨L2, e2, q2⟩ := i1 L1 e1
    exact ⟨L2, e2, q2.trans q1⟩

section
variable {P : Program} {w : World} {A : Around} {E : Value → Shared → Prop} {s : Shared}
variable {a : Addr} {L : Rw} {es : Array (Int × Value)} {ep : Nat} {t : SetTable} {h h' : Heap}

theorem picked {α β : Type} (f : α → β) (g : Nat → β) (L : List α) (z : ∀ i (q : i < L.length), g i = f L[i]) : ∀ o : List Nat, (∀ i ∈ o, i < L.length) → (o.filterMap fun i => L[i]?).map f = o.map g
  | [], _ => rfl
  | i :: o, q => by
    have hi := q i List.mem_cons_self
    rw [List.filterMap_cons_some (List.getElem?_eq_getElem hi), List.map_cons, List.map_cons, picked f g L z o fun j y => q j (List.mem_cons_of_mem _ y), z i hi]
theorem fm_congr {α β : Type} {f g : α → Option β} : ∀ {l : List α}, (∀ x ∈ l, f x = g x) → l.filterMap f = l.filterMap g
  | [], _ => rfl
  | x :: l, z => by rw [List.filterMap_cons, List.filterMap_cons, z x List.mem_cons_self, fm_congr fun y m => z y (List.mem_cons_of_mem _ m)]
theorem nodup_perm {L L' : Rw} (p : L'.Perm L) (n : (L.map (·.2)).Nodup) : (L'.map (·.2)).Nodup := (p.map (·.2)).nodup_iff.mpr n

/-- the table of tuples laid anew -/
theorem relay {o : Obj} (ho : s.heap.get? a = some o) (hx : o.ExactSet) (hd : o.data = .set es ep t) (rows : es.toList = ents P w L) (sz : t.place.size = es.size) (dm : t.dummies = #[]) (fl : es.size ≤ t.mask)
    (nd : (L.map (·.2)).Nodup) (el : ∀ p ∈ L, El P w s.heap p.2 p.1) (al : ∀ p ∈ L, tupQ p.2 = true) (led : w.params.followText "set-order" = true ∨ t.led = true) (few : L.length < 64) {n M : Nat}
    (hM : MaskOk M) (e1 : SetTable.sizeAbove n - 1 = M) (e2 : SetTable.sizeAbove n ≤ 128) (rm : L.length * 5 < M * 3) {Q : Unit → Shared → Prop}
    (q : ∀ h' L' es' ep' t', Heap.SameBut a s.heap h' → L'.Perm L → St P w h' a L' es' ep' t' → Q () { s with heap := h' }) : wpAny (model P w) A (setRelay a n) Q E s := by
  have len := size_of rows
  have fit : t.fits es.size = true := by
    unfold SetTable.fits SetTable.fill
    rw [dm, Bool.and_eq_true, beq_iff_eq, decide_eq_true_eq]
    refine ⟨sz, ?_⟩
    show t.place.size + 0 ≤ t.mask
    omega
  obtain ⟨t', ord, er, pm, T, m1, m2, _, _⟩ := relaid_ok t (hs := es.map (·.1)) (wanted := n) e1 hM (by rw [Array.size_map, len]; omega)
  rw [Array.size_map, len] at pm
  have inR : ∀ i ∈ ord.toList, i < L.length := fun i z => List.mem_range.mp (pm.mem_iff.mp z)
  obtain ⟨L', hL⟩ : ∃ L' : Rw, L' = ord.toList.filterMap fun i => L[i]? := ⟨_, rfl⟩
  have pL : L'.Perm L := by
    rw [hL]
    refine (pm.filterMap _).trans ?_
    rw [List.filterMap_getElem?_range_length]
  have rows' : (ord.filterMap (es[·]?)).toList = ents P w L' := by
    rw [Array.toList_filterMap, ents, hL, List.map_filterMap]
    refine fm_congr fun i z => ?_
    rw [ent_at rows (List.getElem?_eq_getElem (inR i z)), List.getElem?_eq_getElem (inR i z), Option.map_some]
  have hs' : ord.toList.map (fun i => (es.map (·.1)).getD i 0) = hss P w L' := by
    rw [hss, hL]
    refine (picked _ _ L (fun i z => ?_) _ inR).symm
    have y : (es.map (·.1))[i]? = some (hsh P w L[i].2) := by rw [Array.getElem?_map, ent_at rows (List.getElem?_eq_getElem z), Option.map_some]
    rw [Array.getD_eq_getD_getElem?, y, Option.getD_some]
  rw [hs'] at T
  have len' : (ord.filterMap (es[·]?)).size = es.size := by rw [size_of rows', pL.length_eq, len]
  rw [setRelay_eq]
  refine wpAny_bind (wpAny_setState_of ho hd fit ?_)
  dsimp only
  refine wp_if_neg (by rw [sizeLine_eq]; omega) ?_
  try refine wpAny_bind (wpAny_pure ?_)
  rw [er]
  dsimp only
  refine wpAny_bind (wp_if_neg (by simp [len']) ?_)
  try refine wpAny_bind (wpAny_pure ?_)
  refine wpAny_pure ?_
  dsimp only
  have sb : Heap.SameBut a s.heap (s.heap.update a (Obj.putSet (ord.filterMap (es[·]?)) t')) := Heap.SameBut.update ..
  refine wpAny_storeSet_of ho hd (q _ L' (ord.filterMap (es[·]?)) (ep + 1) t' sb pL ?_) (by rw [len', len, sizeLine_eq]; omega)
  have few' : L'.length < 64 := pL.length_eq ▸ few
  have tl : t'.place.size = L'.length := by rw [T.sz, hss, List.length_map]
  refine ⟨⟨_, store_at ho hd, ⟨hx.1, hx.2.1, hx.2.2⟩, rfl⟩, rows', nodup_perm pL nd, fun p z => (el p (pL.mem_iff.mp z)).stay (seq_stays ho hd sb), T.ris, ?_, by rw [m2]; exact led, Nat.lt_trans few' (by decide),
    .inr ⟨fun p z => al p (pL.mem_iff.mp z), T, by rw [pL.length_eq, m1]; exact rm, few'⟩⟩
  unfold SetTable.fits SetTable.fill
  rw [T.dm, Bool.and_eq_true, beq_iff_eq, decide_eq_true_eq, size_of rows', m1]
  refine ⟨tl, ?_⟩
  show t'.place.size + 0 ≤ M
  rw [tl, pL.length_eq]
  omega

/-- what comes of an element put in -/
abbrev Put (P : Program) (w : World) (s : Shared) (a : Addr) (L : Rw) (v : Value) (k : Kx) (Q : Bool → Shared → Prop) : Prop :=
  ∀ b h' L' es' ep' t', Heap.SameBut a s.heap h' → St P w h' a L' es' ep' t' → (k ∈ L.map (·.2) → L' = L) → (k ∉ L.map (·.2) → L'.Perm ((v, k) :: L)) → Q b { s with heap := h' }

theorem add_tup {k : List Key} {v : Value} (R : St P w s.heap a L es ep t) (al : ∀ p ∈ L, tupQ p.2 = true) (T : Tb P w L t) (hu : A.units < cLine) (x : El P w s.heap (.inr k) v) (few : L.length + 1 < 64) {Q : Bool → Shared → Prop}
    (q : Put P w s a L v (.inr k) Q) : wpAny (model P w) A (setAddHashed a v (hsh P w (.inr k))) Q E s := by
  obtain ⟨o, ho, hx, hd⟩ := R.ob
  have rm := T.room
  have len := R.size
  have hk : (hss P w L).length = L.length := List.length_map _
  unfold setAddHashed
  rw [show (100000 : Nat) = 99999 + 1 from rfl, setAddHashedIn_succ]
  refine wpAny_holding (wpAny_bind (wpAny_setState_of ho hd R.fit ?_))
  dsimp only
  have noScan : byScan v es = false := by
    unfold byScan
    rw [x.scan] <;> rfl
  refine wp_if_neg (by rw [noScan]; decide) ?_
  try refine wpAny_bind (wpAny_pure ?_)
  refine wpAny_bind (look0 R al T hu x (fun z => ?_) fun N z n1 n2 => ?_)
  · exact wpAny_pure (q false s.heap L es ep t (Heap.SameBut.refl a s.heap) R (fun _ => rfl) fun y => absurd z y)
  · dsimp only
    refine wpAny_bind (wpAny_setState_of ho hd R.fit ?_)
    dsimp only
    obtain ⟨q1, q2, q3, q4, q5, _, _, _, q9⟩ := T.ok.put n1 n2
    generalize t.put (way t.mask (hsh P w (.inr k)) N) = pt at q1 q3 q4 q5 q9 ⊢
    obtain ⟨t1, i⟩ := pt
    dsimp only at q1 q3 q4 q5 q9 ⊢
    subst q1
    generalize SetTable.below t.place (way t.mask (hsh P w (.inr k)) N) = i at q2 q3 ⊢
    obtain ⟨L1, hL1⟩ : ∃ L1 : Rw, L1 = L.take i ++ (v, Sum.inr k) :: L.drop i := ⟨_, rfl⟩
    have pm : L1.Perm ((v, .inr k) :: L) := by rw [hL1]; exact put_perm L i _
    have rows : (SetTable.insertAt es i (hsh P w (.inr k), v)).toList = ents P w L1 := by
      rw [SetTable.toList_insertAt, R.rows, hL1, ents, ents, List.map_append, List.map_cons, List.map_take, List.map_drop]
    have q3' : TabOk t1 (hss P w L1) := by
      rw [hL1, hss, List.map_append, List.map_cons, List.map_take, List.map_drop]
      exact q3
    have l1 : L1.length = L.length + 1 := pm.length_eq
    have nd1 : (L1.map (·.2)).Nodup := nodup_perm pm (by rw [List.map_cons]; exact List.nodup_cons.mpr ⟨z, R.nd⟩)
    have al1 : ∀ p ∈ L1, tupQ p.2 = true := fun p y => (List.mem_cons.mp (pm.mem_iff.mp y)).elim (fun e => by rw [e]; rfl) (al p)
    have el1 : ∀ p ∈ L1, El P w s.heap p.2 p.1 := fun p y => (List.mem_cons.mp (pm.mem_iff.mp y)).elim (fun e => by rw [e]; exact x) (R.el p)
    have led1 : w.params.followText "set-order" = true ∨ t1.led = true := by rw [q5]; exact R.led
    have pl1 : t1.place.size = L1.length := by rw [q3'.sz, hss, List.length_map]
    have fill1 : t1.fill = L.length + 1 := by rw [q9, hk]
    generalize SetTable.insertAt es i (hsh P w (.inr k), v) = es1 at rows ⊢
    have len1 := size_of rows
    -- the mark that says that hashes tell nothing of the order
    have fin : ∀ t2 : SetTable, t2 = t1 ∨ t2 = { t1 with plain := false } → wpAny (model P w) A (do
        storeSet a es1 t2
        if (!false && t2.tooFull) = true then setRelay a (SetTable.grown (es.size + 1))
        return true) Q E s := fun t2 ht => by
      have T2 : TabOk t2 (hss P w L1) := by
        rcases ht with e | e
        · rw [e]; exact q3'
        · rw [e]; exact ⟨q3'.ris, q3'.dm, q3'.sz, q3'.mok, q3'.bd, q3'.reach⟩
      have m2 : t2.mask = t.mask := by rcases ht with e | e <;> rw [e] <;> exact q4
      have led2 : w.params.followText "set-order" = true ∨ t2.led = true := by rcases ht with e | e <;> rw [e] <;> exact led1
      have pl2 : t2.place.size = L1.length := by rcases ht with e | e <;> rw [e] <;> exact pl1
      have fill2 : t2.fill = L.length + 1 := by rcases ht with e | e <;> rw [e] <;> exact fill1
      have sb : Heap.SameBut a s.heap (s.heap.update a (Obj.putSet es1 t2)) := Heap.SameBut.update ..
      have ho1 := store_at (es' := es1) (t' := t2) ho hd
      have el2 : ∀ p ∈ L1, El P w (s.heap.update a (Obj.putSet es1 t2)) p.2 p.1 := fun p y => (el1 p y).stay (seq_stays ho hd sb)
      refine wpAny_bind (wpAny_storeSet_of ho hd ?_ (by rw [len1, l1, sizeLine_eq]; omega))
      generalize s.heap.update a (Obj.putSet es1 t2) = h1 at sb ho1 el2 ⊢
      have two : (t.mask = 7 ∧ L.length = 4) ∨ (t.mask = 31 ∧ L.length = 18) ∨ t2.tooFull = false := by
        cases hf : t2.tooFull with
        | false => exact .inr (.inr rfl)
        | true =>
          unfold SetTable.tooFull at hf
          rw [decide_eq_true_eq, fill2, m2] at hf
          rcases T.ok.mok with e | e | e <;> rw [e] at hf rm
          · exact .inl ⟨e, by omega⟩
          · exact .inr (.inl ⟨e, by omega⟩)
          · omega
      have again : ∀ M, MaskOk M → SetTable.sizeAbove (SetTable.grown (es.size + 1)) - 1 = M → SetTable.sizeAbove (SetTable.grown (es.size + 1)) ≤ 128 → (L.length + 1) * 5 < M * 3 → L.length + 1 ≤ t.mask →
          wpAny (model P w) A (setRelay a (SetTable.grown (es.size + 1))) (fun _ s' => wpAny (model P w) A (pure true) Q E s') E { s with heap := h1 } := fun M z1 z2 z3 z4 z5 =>
        relay (s := { s with heap := h1 }) ho1 ⟨hx.1, hx.2.1, hx.2.2⟩ rfl rows (by rw [pl2, len1]) T2.dm (by rw [len1, l1, m2]; exact z5) nd1 el2 al1 led2 (by rw [l1]; exact few) z1 z2 z3 (by rw [l1]; exact z4)
          fun h2 L2 es2 ep2 t3 sb2 p2 R2 => wpAny_pure (q true h2 L2 es2 ep2 t3 (sb.trans sb2) R2 (fun y => absurd y z) fun _ => p2.trans pm)
      by_cases hf : t2.tooFull = true
      · have big : wpAny (model P w) A (setRelay a (SetTable.grown (es.size + 1))) (fun _ s' => wpAny (model P w) A (pure true) Q E s') E { s with heap := h1 } := by
          rcases two with ⟨e, y⟩ | ⟨e, y⟩ | y
          · refine again 31 (.inr (.inl rfl)) ?_ ?_ (by omega) (by omega) <;> rw [len, y, size_20]
            decide
          · refine again 127 (.inr (.inr rfl)) ?_ ?_ (by omega) (by omega) <;> rw [len, y, size_76]
            decide
          · rw [y] at hf
            exact absurd hf (by decide)
        first
          | exact wpAny_bind (wp_if_pos (by simp [hf]) big)
          | exact wp_if_pos (by simp [hf]) (wpAny_bind big)
      · have done : Q true { s with heap := h1 } := by
          refine q true h1 L1 es1 (ep + 1) t2 sb ⟨⟨_, ho1, ⟨hx.1, hx.2.1, hx.2.2⟩, rfl⟩, rows, nd1, el2, T2.ris, ?_, led2, by rw [l1]; exact Nat.lt_trans few (by decide), .inr ⟨al1, T2, ?_, by rw [l1]; exact few⟩⟩ (fun y => absurd y z) fun _ => pm
          · unfold SetTable.fits
            rw [Bool.and_eq_true, beq_iff_eq, decide_eq_true_eq, pl2, len1, fill2, m2]
            refine ⟨rfl, ?_⟩
            unfold SetTable.tooFull at hf
            rw [decide_eq_true_eq, fill2, m2] at hf
            rcases T.ok.mok with e | e | e <;> rw [e] at hf rm ⊢ <;> omega
          · unfold SetTable.tooFull at hf
            rw [decide_eq_true_eq, fill2, m2] at hf
            rw [l1, m2]
            omega
        first
          | exact wp_if_neg (by simp [hf]) (wpAny_pure done)
          | exact wpAny_bind (wp_if_neg (by simp [hf]) (wpAny_pure (wpAny_pure done)))
    by_cases hp : t1.plain = true
    · have mark : wpAny (model P w) A (hashByValue 8 v) (fun c s' => wpAny (model P w) A (do
          storeSet a es1 (if c = true then t1 else { t1 with plain := false })
          if (!false && (if c = true then t1 else { t1 with plain := false }).tooFull) = true then setRelay a (SetTable.grown (es.size + 1))
          return true) Q E s') E s := by
        obtain ⟨b, rfl, xb⟩ := x
        refine tup_byVal xb fun c => ?_
        cases c
        · exact fin _ (.inr rfl)
        · exact fin _ (.inl rfl)
      first
        | exact wpAny_bind (wp_if_pos hp mark)
        | exact wp_if_pos hp (wpAny_bind mark)
    · first
        | exact wpAny_bind (wp_if_neg hp (wpAny_pure (by simpa using fin t1 (.inl rfl))))
        | exact wp_if_neg hp (wpAny_bind (wpAny_pure (by simpa using fin t1 (.inl rfl))))
        | exact wp_if_neg hp (by simpa using fin t1 (.inl rfl))
end
end Zs

set_option Elab.async false
set_option linter.all false
set_option autoImplicit false
set_option maxRecDepth 100000
set_option maxHeartbeats 2000000
/-! S4: a number or a text put in; an element put in, of either kind. -/
namespace Zs
open PySem PySem.Spec PyProof.Rows L2

section
variable {P : Program} {w : World} {A : Around} {E : Value → Shared → Prop} {s : Shared}
variable {a : Addr} {L : Rw} {es : Array (Int × Value)} {ep : Nat} {t : SetTable} {h h' : Heap}

theorem scanned (rows : es.toList = ents P w L) (al : ∀ p ∈ L, tupQ p.2 = false) (el : ∀ p ∈ L, El P w h p.2 p.1) : ElemsOf (mixKind P w) es.toList := fun e z => by
  rw [rows] at z
  obtain ⟨p, m, rfl⟩ := List.mem_map.mp z
  have x := el p m
  have y := al p m
  have sc := x.scan
  obtain ⟨v, k⟩ := p
  cases k with
  | inr _ => exact nomatch y
  | inl k => exact ⟨⟨k, x, rfl⟩, sc⟩
/-- who is found -/
theorem met {k : Key} {v : Value} (rows : es.toList = ents P w L) (al : ∀ p ∈ L, tupQ p.2 = false) (el : ∀ p ∈ L, El P w h p.2 p.1) :
    (es.toList.findIdx? (fun e => (mixKind P w).is k e.2) = none ∧ Sum.inl k ∉ L.map (·.2)) ∨ (∃ j, es.toList.findIdx? (fun e => (mixKind P w).is k e.2) = some j) ∧ Sum.inl k ∈ L.map (·.2) := by
  have key : ∀ p ∈ L, (mixKind P w).is k p.1 = true → p.2 = .inl k := fun p m z => (show El P w h (.inl k) p.1 from z).one (el p m) |>.symm
  cases e : es.toList.findIdx? (fun e => (mixKind P w).is k e.2) with
  | none =>
    refine .inl ⟨rfl, fun z => ?_⟩
    obtain ⟨p, m, ek⟩ := List.mem_map.mp z
    have no := List.findIdx?_eq_none_iff.mp e (hsh P w p.2, p.1) (by rw [rows]; exact List.mem_map.mpr ⟨p, m, rfl⟩)
    have x := el p m
    rw [ek] at x
    rw [show (mixKind P w).is k p.1 = true from x] at no
    exact nomatch no
  | some j =>
    refine .inr ⟨⟨j, rfl⟩, ?_⟩
    obtain ⟨hj, z, _⟩ := List.findIdx?_eq_some_iff_getElem.mp e
    have m : es.toList[j] ∈ ents P w L := rows ▸ List.getElem_mem hj
    obtain ⟨p, mp, ep⟩ := List.mem_map.mp m
    rw [← ep] at z
    exact List.mem_map.mpr ⟨p, mp, key p mp z⟩

/-- the store that ends it, and the laying anew where it is too full -/
theorem scan_end {o : Obj} (ho : s.heap.get? a = some o) (hx : o.ExactSet) (hd : o.data = .set es ep t) {es1 : Array (Int × Value)} {t1 : SetTable} {L1 : Rw} (rows : es1.toList = ents P w L1) (nd : (L1.map (·.2)).Nodup)
    (el : ∀ p ∈ L1, El P w s.heap p.2 p.1) (al : ∀ p ∈ L1, tupQ p.2 = false) (ne : L1 ≠ []) (few : L1.length < scanBound) (ris : Ris t1.place.toList) (fit : t1.fits es1.size = true) (led : w.params.followText "set-order" = true ∨ t1.led = true)
    {g : Bool → Sem Unit} (hg : ∀ (b : Bool) (s' : Shared) (Q' : Unit → Shared → Prop), Q' () s' → wpAny (model P w) A (g b) Q' E s') {dm : Bool} {Q : Option Bool → Shared → Prop}
    (q : ∀ h' L' es' ep' t', Heap.SameBut a s.heap h' → L'.Perm L1 → St P w h' a L' es' ep' t' → Q (some true) { s with heap := h' }) :
    wpAny (model P w) A (do
        storeSet a es1 t1
        if (!dm && t1.tooFull) = true then do
            g (relayAll t1 es1 (SetTable.grown es1.size)).2.2
            storeSet a (relayAll t1 es1 (SetTable.grown es1.size)).1 (relayAll t1 es1 (SetTable.grown es1.size)).2.1
            pure (some true)
          else pure (some true)) Q E s := by
  have len := size_of rows
  have room : es1.size ≤ sizeLine := fits_of_scanBound (by rw [len]; exact few)
  have sb : Heap.SameBut a s.heap (s.heap.update a (Obj.putSet es1 t1)) := Heap.SameBut.update ..
  have ho1 := store_at (es' := es1) (t' := t1) ho hd
  have el1 : ∀ p ∈ L1, El P w (s.heap.update a (Obj.putSet es1 t1)) p.2 p.1 := fun p z => (el p z).stay (seq_stays ho hd sb)
  refine wpAny_bind (wpAny_storeSet_of ho hd ?_ room)
  generalize s.heap.update a (Obj.putSet es1 t1) = h1 at sb ho1 el1 ⊢
  split
  · have pm := relayAll_perm t1 es1 (SetTable.grown es1.size)
    have fit2 := relayAll_fits t1 es1 (SetTable.grown es1.size)
    have ris2 := relayAll_ris t1 es1 (SetTable.grown es1.size)
    have led2 := relayAll_led t1 es1 (SetTable.grown es1.size)
    generalize relayAll t1 es1 (SetTable.grown es1.size) = r at pm fit2 ris2 led2 ⊢
    obtain ⟨es2, t2, gave⟩ := r
    dsimp only at pm fit2 ris2 led2 ⊢
    obtain ⟨L2, e2, p2⟩ := perm_pre _ (rows ▸ pm) L1 rfl
    refine wpAny_bind (hg gave _ _ ?_)
    have sz2 : es2.size ≤ sizeLine := by
      rw [size_of (P := P) (w := w) e2, p2.length_eq, ← len]
      exact room
    have sb2 : Heap.SameBut a h1 (h1.update a (Obj.putSet es2 t2)) := Heap.SameBut.update ..
    refine wpAny_bind (wpAny_storeSet_of (s := { s with heap := h1 }) ho1 rfl (wpAny_pure ?_) sz2)
    refine q _ L2 es2 (ep + 1 + 1) t2 (sb.trans sb2) p2 ⟨⟨_, store_at ho1 rfl, ⟨hx.1, hx.2.1, hx.2.2⟩, rfl⟩, e2, nodup_perm p2 nd, fun p z => (el1 p (p2.mem_iff.mp z)).stay (seq_stays ho1 rfl sb2), ris2, fit2, by rw [led2]; exact led,
      by rw [p2.length_eq]; exact few, .inl ⟨fun e => ne (by rw [e] at p2; exact List.nil_perm.mp p2), fun p z => al p (p2.mem_iff.mp z)⟩⟩
  · exact wpAny_pure (q h1 L1 es1 (ep + 1) t1 sb (.refl _) ⟨⟨_, ho1, ⟨hx.1, hx.2.1, hx.2.2⟩, rfl⟩, rows, nd, el1, ris, fit, led, few, .inl ⟨ne, al⟩⟩)

theorem add_scan {k : Key} {v : Value} (R : St P w s.heap a L es ep t) (al : ∀ p ∈ L, tupQ p.2 = false) (x : El P w s.heap (.inl k) v) (few : L.length + 1 < scanBound) {Q : Bool → Shared → Prop}
    (q : Put P w s a L v (.inl k) Q) : wpAny (model P w) A (setAddHashed a v (hsh P w (.inl k))) Q E s := by
  obtain ⟨o, ho, hx, hd⟩ := R.ob
  have len := R.size
  have sc : v.scannable = true := x.scan
  have ok := scanned R.rows al R.el
  unfold setAddHashed
  rw [show (100000 : Nat) = 99999 + 1 from rfl, setAddHashedIn_succ]
  refine wpAny_holding (wpAny_bind (wpAny_setState_of ho hd R.fit ?_))
  dsimp only
  refine wp_if_pos (byScan_of sc (by rw [len]; exact R.few) ok) ?_
  unfold setAddByScan
  refine wpAny_bind (wpAny_bind (wpAny_rule (wpAny_bind (wpAny_setScan_of (knd := mixKind P w) (k := k) x ho hd R.fit ok ?_))))
  rcases met (k := k) (v := v) R.rows al R.el with ⟨e, no⟩ | ⟨⟨j, e⟩, yes⟩
  · rw [e]
    dsimp only
    have pm := layNew_perm t es (hsh P w (.inl k)) v
    have fit := layNew_fits t es (hsh P w (.inl k)) v
    have ris := layNew_ris t es (hsh P w (.inl k)) v R.ris
    have led := layNew_led t es (hsh P w (.inl k)) v
    generalize layNew t es (hsh P w (.inl k)) v = r at pm fit ris led ⊢
    obtain ⟨es1, t1, dm, gave⟩ := r
    dsimp only at pm fit ris led ⊢
    have pm2 : es1.toList.Perm (ents P w ((v, .inl k) :: L)) := by
      refine pm.trans ?_
      rw [Array.toList_push, R.rows]
      exact List.perm_append_singleton _ _
    obtain ⟨L1, e1, p1⟩ := perm_pre _ pm2 _ rfl
    have quiet : ∀ (b : Bool) (s' : Shared) (Q' : Unit → Shared → Prop), Q' () s' → wpAny (model P w) A (match b with | true => rule "set.scan.the-table-gave-way" | false => pure ()) Q' E s' := fun b s' Q' z => by
      cases b
      · exact wpAny_pure z
      · exact wpAny_rule z
    refine wpAny_bind (quiet gave _ _ ?_)
    have fin : ∀ t2 : SetTable, (t2 = t1 ∨ t2 = { t1 with plain := false }) → wpAny (model P w) A (do
        storeSet a es1 t2
        if (!dm && t2.tooFull) = true then do
            (fun b : Bool => match b with | true => rule "set.scan.the-table-gave-way" | false => pure ()) (relayAll t2 es1 (SetTable.grown es1.size)).2.2
            storeSet a (relayAll t2 es1 (SetTable.grown es1.size)).1 (relayAll t2 es1 (SetTable.grown es1.size)).2.1
            pure (some true)
          else pure (some true)) (fun r s' => wpAny (model P w) A (match r with | some added => pure added | none => setAddHashedIn a v (hsh P w (.inl k)) 99999) Q E s') E s := fun t2 ht => by
      refine scan_end (L1 := L1) ho hx hd e1 (nodup_perm p1 (by rw [List.map_cons]; exact List.nodup_cons.mpr ⟨no, R.nd⟩)) (fun p z => (List.mem_cons.mp (p1.mem_iff.mp z)).elim (fun y => by rw [y]; exact x) (R.el p))
        (fun p z => (List.mem_cons.mp (p1.mem_iff.mp z)).elim (fun y => by rw [y]; rfl) (al p)) (fun z => by rw [z] at p1; exact nomatch List.nil_perm.mp p1) (by rw [p1.length_eq]; exact few) ?_ ?_ ?_ quiet
        fun h' L' es' ep' t' sb pL R' => wpAny_pure (q true h' L' es' ep' t' sb R' (fun z => absurd z no) fun _ => pL.trans p1)
      · rcases ht with z | z <;> rw [z] <;> exact ris
      · rcases ht with z | z
        · rw [z]; exact fit
        · rw [z]; exact SetTable.fits_plain_off fit
      · rcases ht with z | z <;> rw [z] <;> (show _ ∨ t1.led = true; rw [led]; exact R.led)
    by_cases hp : t1.plain = true
    · first
        | (refine wp_if_pos hp (wpAny_bind ?_); rw [hashByValue_scannable 8 sc]; refine wpAny_pure ?_; cases plainKind v; exact fin _ (.inr rfl); exact fin _ (.inl rfl))
        | (refine wpAny_bind (wp_if_pos hp ?_); rw [hashByValue_scannable 8 sc]; refine wpAny_pure ?_; cases plainKind v; exact fin _ (.inr rfl); exact fin _ (.inl rfl))
    · first
        | refine wpAny_bind (wp_if_neg hp (wpAny_pure ?_))
        | refine wp_if_neg hp (wpAny_bind (wpAny_pure ?_))
      simp only [↓reduceIte]
      exact fin t1 (.inl rfl)
  · rw [e]
    dsimp only
    exact wpAny_pure (wpAny_pure (q false s.heap L es ep t (Heap.SameBut.refl a s.heap) R (fun _ => rfl) fun z => absurd yes z))
end
end Zs

set_option Elab.async false
set_option linter.all false
set_option autoImplicit false
set_option maxRecDepth 100000
set_option maxHeartbeats 2000000
/-! S5: any element put in; set(xs) of a list. -/
namespace Zs
open PySem PySem.Spec PyProof.Rows L2

def roomFor : Bool → Nat
  | true => 64
  | false => scanBound
theorem roomFor_le : ∀ c, roomFor c ≤ scanBound
  | true => by decide
  | false => Nat.le_refl _

section
variable {P : Program} {w : World} {A : Around} {E : Value → Shared → Prop} {s : Shared}
variable {a : Addr} {L : Rw} {es : Array (Int × Value)} {ep : Nat} {t : SetTable} {h h' : Heap}

theorem put_el {k : Kx} {v : Value} (R : St P w s.heap a L es ep t) (al : ∀ p ∈ L, tupQ p.2 = tupQ k) (hu : A.units < cLine) (x : El P w s.heap k v) (few : L.length + 1 < roomFor (tupQ k)) {Q : Bool → Shared → Prop}
    (q : ∀ n, Put P w { s with toks := s.toks + n } a L v k Q) : wpAny (model P w) A (setAdd a v) Q E s := by
  unfold setAdd
  refine wpAny_holding (wpAny_bind (x.hash hu fun n => ?_))
  cases k with
  | inl k =>
    have few' : L.length + 1 < scanBound := by simpa only [roomFor, tupQ] using few
    exact add_scan (s := { s with toks := s.toks + n }) R al x few' (q n)
  | inr k =>
    have few' : L.length + 1 < 64 := by simpa only [roomFor, tupQ] using few
    rcases R.kind with ⟨ne, z⟩ | ⟨_, T⟩
    · obtain ⟨p, m⟩ := List.exists_mem_of_ne_nil L ne
      exact nomatch (show false = true from (z p m).symm.trans (al p m))
    · exact add_tup (s := { s with toks := s.toks + n }) R al T hu x few' (q n)

/-- a new set -/
abbrev newSt (w : World) : Obj := { cls := .type "set", dict := none, data := .set #[] 0 (.fresh 0 0 (!w.params.followText "set-order")) }
theorem st_new (ho : h.get? a = some (newSt w)) : St P w h a [] #[] 0 (.fresh 0 0 (!w.params.followText "set-order")) where
  ob := ⟨_, ho, ⟨rfl, rfl, rfl⟩, rfl⟩
  rows := rfl
  nd := List.nodup_nil
  el := fun p z => (nomatch z)
  ris := List.Pairwise.nil
  fit := rfl
  led := by cases e : w.params.followText "set-order" <;> simp [SetTable.fresh]
  few := by decide
  kind := .inr ⟨fun p z => (nomatch z), ⟨⟨List.Pairwise.nil, rfl, rfl, .inl rfl, fun x z => (by cases z), fun i g j z => (by simp [hss] at z)⟩, (show 0 * 5 < 7 * 3 by decide), (show 0 < 64 by decide)⟩⟩

/-- the keys so far: all, each once -/
structure Some (ks : List Kx) (L : Rw) : Prop where
  mem : ∀ k, k ∈ L.map (·.2) ↔ k ∈ ks
  len : L.length ≤ ks.length
theorem Some.nil : Some [] [] := ⟨fun k => .rfl, Nat.le_refl _⟩
theorem Some.more {ks : List Kx} {L L' : Rw} {k : Kx} {v : Value} (S : Some ks L) (c1 : k ∈ L.map (·.2) → L' = L) (c2 : k ∉ L.map (·.2) → L'.Perm ((v, k) :: L)) : Some (ks ++ [k]) L' := by
  rcases Classical.em (k ∈ L.map (·.2)) with c | c
  · rw [c1 c]
    refine ⟨fun j => ?_, by rw [List.length_append]; exact Nat.le_add_right_of_le S.len⟩
    rw [S.mem, List.mem_append, List.mem_singleton]
    refine ⟨.inl, fun z => z.elim id fun e => ?_⟩
    rw [e]
    exact (S.mem k).mp c
  · have p := c2 c
    refine ⟨fun j => ?_, ?_⟩
    · rw [(p.map (·.2)).mem_iff, List.map_cons, List.mem_cons, List.mem_append, List.mem_singleton, S.mem]
      exact Or.comm
    · rw [p.length_eq, List.length_append]
      exact Nat.succ_le_succ S.len

/-- the keys of a set, and its values as they stood -/
def Held (P : Program) (w : World) (Z : Value × Kx → Prop) (h0 : Heap) (ks : List Kx) (L : Rw) : Prop := Some ks L ∧ ∀ p ∈ L, El P w h0 p.2 p.1 ∧ Z p
theorem Held.more {Z : Value × Kx → Prop} {h0 : Heap} {ks : List Kx} {L L' : Rw} {k : Kx} {v : Value} (S : Held P w Z h0 ks L) (x : El P w h0 k v ∧ Z (v, k)) (c1 : k ∈ L.map (·.2) → L' = L) (c2 : k ∉ L.map (·.2) → L'.Perm ((v, k) :: L)) : Held P w Z h0 (ks ++ [k]) L' := by
  refine ⟨S.1.more c1 c2, fun p m => ?_⟩
  rcases Classical.em (k ∈ L.map (·.2)) with c | c
  · rw [c1 c] at m
    exact S.2 p m
  · rcases List.mem_cons.mp ((c2 c).mem_iff.mp m) with e | m
    · rw [e]; exact x
    · exact S.2 p m
theorem take_on {α : Type} {l : List α} {i : Nat} {x : α} (e : l[i]? = some x) : l.take (i + 1) = l.take i ++ [x] := by
  rw [List.take_succ, e, Option.toList_some]

/-- set.update, item by item -/
theorem fill {Z : Value × Kx → Prop} {I S : Addr} {fp wr : List Addr} {G : Array GenState → Array GenState → Prop} {ks : List Kx} {Pv : Nat → Value → Prop} {at_ : Nat → Shared → Prop} {R : Result → Shared → Prop} {c : Bool}
    (W : WalksS P w A.in1 I fp wr G ks.length Pv at_) (out : S ∉ fp) (hu : A.in1.units < cLine) (al : ∀ k ∈ ks, tupQ k = c) (few : ks.length < roomFor c) (h0 : Heap) (noS : h0.get? S = none) (noW : ∀ b ∈ wr, h0.get? b = none)
    (el : ∀ i v, Pv i v → ∃ k, ks[i]? = some k ∧ El P w h0 k v ∧ Z (v, k)) :
    ∀ (n i : Nat) (s : Shared), ks.length - i = n → i ≤ ks.length → at_ i s → (∀ b o, h0.get? b = some o → s.heap.get? b = some o) → (∃ L es ep t, St P w s.heap S L es ep t ∧ Held P w Z h0 (ks.take i) L) →
      (∀ s' L es ep t, Moved (S :: wr) G s s' → St P w s'.heap S L es ep t → Held P w Z h0 ks L → (∀ b o, h0.get? b = some o → s'.heap.get? b = some o) → R (.ok (.ret .none)) s') →
      codeAny (model P w) A (.builtin "set.update.loop" ⟨[.ref S, .ref I], []⟩) R s := by
  have apart : S ∉ wr := fun z => out (W.sub _ z)
  have more : ∀ b ∈ wr, b ∈ S :: wr := fun b z => List.mem_cons_of_mem _ z
  have onward : ∀ {s s' : Shared}, Moved wr G s s' → (∀ b o, h0.get? b = some o → s.heap.get? b = some o) → ∀ b o, h0.get? b = some o → s'.heap.get? b = some o := fun m k b o e =>
    m.heap b o (fun z => by rw [noW b z] at e; exact nomatch e) (k b o e)
  intro n
  induction n with
  | zero =>
    intro i s en hi st keep ⟨L, es, ep, t, D, H⟩ fin
    have ei : i = ks.length := by omega
    subst ei
    refine codeAny_builtin F.entry_set_update_loop ?_
    rw [Around.under_plainId F.plain_set_update_loop _]
    change wpAny _ A.in1 (pyNext (.ref I) >>= _) _ _ s
    refine wpAny_bind (W.done s _ _ st fun s' m => ?_)
    change wpAny _ A.in1 (ret Value.none) _ _ s'
    have keep' := onward m keep
    rw [List.take_length] at H
    exact wpAny_pure (fin s' L es ep t (m.mono more) (D.move (fun o e => m.heap S o apart e) fun p z => (H.2 p z).1.grow keep') H keep')
  | succ n ih =>
    intro i s en hi st keep ⟨L, es, ep, t, D, H⟩ fin
    have lt : i < ks.length := by omega
    refine codeAny_builtin F.entry_set_update_loop ?_
    rw [Around.under_plainId F.plain_set_update_loop _]
    change wpAny _ A.in1 (pyNext (.ref I) >>= _) _ _ s
    refine wpAny_bind (W.item i s _ _ lt st fun v s' hv st' m => ?_)
    obtain ⟨k, ek, x0⟩ := el i v hv
    have keep' := onward m keep
    have D' : St P w s'.heap S L es ep t := D.move (fun o e => m.heap S o apart e) fun p z => (H.2 p z).1.grow keep'
    have mk : k ∈ ks := List.mem_of_getElem? ek
    have ck := al k mk
    change wpAny _ A.in1 (holding [v] (setAdd S v) >>= _) _ _ s'
    refine wpAny_bind (wpAny_holding (put_el D' (fun p z => ?_) hu (x0.1.grow keep') ?_ fun n' b h' L' es' ep' t' sb D2 c1 c2 => ?_))
    · rw [ck]
      exact al _ (List.mem_of_mem_take ((H.1.mem _).mp (List.mem_map.mpr ⟨p, z, rfl⟩)))
    · have l1 := H.1.len
      rw [List.length_take] at l1
      rw [ck]
      omega
    · have H2 : Held P w Z h0 (ks.take (i + 1)) L' := by rw [take_on ek]; exact H.more x0 c1 c2
      have keep2 : ∀ b o, h0.get? b = some o → h'.get? b = some o := fun b o e => (sb.2 b fun z => by rw [z, noS] at e; exact nomatch e).trans (keep' b o e)
      refine wpAny_pure ⟨plainId_quiet F.plain_set_update_loop _, ih (i + 1) _ (by omega) lt (W.frame _ s' _ _ st' (Nat.le_add_right _ _) fun b z o e => ?_) keep2 ⟨L', es', ep', t', D2, H2⟩ fun s2 L2 es2 ep2 t2 m2 D3 H3 k3 => ?_⟩
      · exact (sb.2 b fun y => out (y ▸ z)).trans e
      · refine fin s2 L2 es2 ep2 t2 (Moved.trans W.gtrans ((m.mono more).then_heap (Nat.le_add_right _ _) fun b o z e => ?_) m2) D3 H3 k3
        exact (sb.2 b fun y => z (by rw [y]; exact List.mem_cons_self)).trans e
end
end Zs

set_option Elab.async false
set_option linter.all false
set_option autoImplicit false
set_option maxRecDepth 100000
set_option maxHeartbeats 4000000
/-! S6: set(xs) of a list. -/
namespace Zs
open PySem PySem.Spec PyProof.Rows L2



section
variable {P : Program} {w : World} {A : Around} {E : Value → Shared → Prop} {s : Shared}

theorem blank {h : Heap} {b : Addr} (z : h.objs.size ≤ b) : h.get? b = none := by
  cases q : h.get? b with
  | none => rfl
  | some o => exact absurd (Nat.lt_of_lt_of_le (Heap.lt_size q) z) (Nat.lt_irrefl _)
abbrev withSet (w : World) (s : Shared) : Shared := { s with heap := s.heap.push (newSt w) }
/-- what a new set is, filled with ks -/
abbrev Full (P : Program) (w : World) (Z : Value × Kx → Prop) (s : Shared) (ks : List Kx) (s' : Shared) : Prop :=
  ∃ h' tk L es ep t, s' = { s with heap := h', toks := tk } ∧ St P w h' s.heap.objs.size L es ep t ∧ Held P w Z s.heap ks L ∧ ∀ b o, s.heap.get? b = some o → h'.get? b = some o
/-- set.__init__ with a list, at the new set -/
theorem init_list {Z : Value × Kx → Prop} {l : Addr} {vs : Array Value} {ks : List Kx} {c : Bool} (hh : A.handled = none) (hl : s.heap.IsList l vs) (el : ∀ (i : Nat) v, vs[i]? = some v → ∃ k, ks[i]? = some k ∧ El P w s.heap k v ∧ Z (v, k)) (sz : vs.size = ks.length)
    (al : ∀ k ∈ ks, tupQ k = c) (few : ks.length < roomFor c) (hu : A.in1.units < cLine) {R : Fin → Shared → Prop}
    (q : ∀ s', Full P w Z s ks s' → R (.done (.ret .none)) s') :
    wpAny (model P w) A (Builtin.«set.__init__» ⟨[.ref s.heap.objs.size, .ref l], []⟩) R E (withSet w s) := by
  have ls : l < s.heap.objs.size := let ⟨_, e, _⟩ := hl; Heap.lt_size e
  have hS : (withSet w s).heap.get? s.heap.objs.size = some (newSt w) := Heap.get?_push_size _ rfl
  have hT : (withSet w s).TypeIs (.ref s.heap.objs.size) "set" := ⟨_, hS, rfl⟩
  have hl1 : (withSet w s).heap.IsList l vs := hl.push _
  have grown : (withSet w s).heap.objs.size = s.heap.objs.size + 1 := Heap.size_push ..
  have base : ∀ b o, s.heap.get? b = some o → (withSet w s).heap.get? b = some o := fun b o e => Heap.get?_push_of_some _ e
  obtain ⟨ol, hol, hcl, nl, hdl⟩ := id hl1
  obtain ⟨ocls, odict, odata, oslots⟩ := ol
  simp only at hcl hdl
  subst hcl hdl
  have no1 := F.sub_list_set
  have no2 := F.sub_list_frozenset
  have no3 : (Value.type "list" == Value.type "dict") = false := by decide
  unfold Builtin.«set.__init__» noKeywords Builtin.Frozenset.updateFrom
  generalize hPI : pyIter = PI
  wp_walk
  subst hPI
  refine wpAny_pyIter_list hl1 (wpAny_bind (wpAny_runValue ?_))
  have la : l ≠ (withSet w s).heap.objs.size := by rw [grown]; exact Nat.ne_of_lt (Nat.lt_succ_of_lt ls)
  have sa : s.heap.objs.size ∉ [(withSet w s).heap.objs.size, l] := fun z => by
    rw [grown] at z
    rcases List.mem_cons.mp z with e | z
    · exact absurd e (Nat.ne_of_lt (Nat.lt_succ_self _))
    · exact absurd (List.mem_singleton.mp z) (Nat.ne_of_gt ls)
  have W := (Walks.list (prog := P) (w := w) (A := A.in1) (show A.in1.handled = none by simp [hh]) _ l la vs).toS
  rw [sz] at W
  refine fill (A := A) W sa hu al few s.heap (blank (Nat.le_refl _)) (fun b z => blank ?_) el _ 0 _ rfl (Nat.zero_le _) ?g2 ?g1
    ⟨[], #[], 0, _, st_new ?g0, Some.nil, fun p z => nomatch z⟩ fun s' L es ep t m D H keep => ?_
  case g2 => exact ⟨⟨_, Heap.get?_push_size _ rfl, rfl, rfl⟩, hl1.push _⟩
  case g1 => exact fun b o e => Heap.get?_push_of_some _ (base b o e)
  case g0 => exact Heap.get?_push_of_some _ hS
  · rw [List.mem_singleton.mp z, grown]
    exact Nat.le_succ _
  · obtain ⟨h', g', d', tk', os'⟩ := s'
    have e1 : g' = s.gens := m.gens
    have e2 : d' = s.drawn := m.drawn
    have e3 : os' = s.os := m.os
    subst e1 e2 e3
    refine wpAny_pure (wpAny_pure (q _ ⟨h', tk', L, es, ep, t, rfl, D, H, keep⟩))

/-- set(xs) -/
theorem set_list {Z : Value × Kx → Prop} {l : Addr} {vs : Array Value} {ks : List Kx} {c : Bool} (hh : A.handled = none) (hl : s.heap.IsList l vs) (el : ∀ (i : Nat) v, vs[i]? = some v → ∃ k, ks[i]? = some k ∧ El P w s.heap k v ∧ Z (v, k)) (sz : vs.size = ks.length)
    (al : ∀ k ∈ ks, tupQ k = c) (few : ks.length < roomFor c) (hu : A.units + 8 < cLine) {Q : Value → Shared → Prop} (q : ∀ s', Full P w Z s ks s' → Q (.ref s.heap.objs.size) s') :
    wpAny (model P w) A (call (.type "set") [.ref l]) Q E s := by
  obtain ⟨_, _, m1⟩ := F.called_set.mro
  have m2 := F.called_set.made
  have m3 := F.called_set.sub
  have m4 := F.called_set.notType
  have m5 := F.called_set.canCreate
  have m6 := F.typeCall_set_1 (.ref l)
  refine wpAny_call (codeAny_of_tree ?_)
  change wpAny _ _ (callAny (.type "set") _) _ _ _
  refine wpAny_pure ⟨Code.quiet_builtin _ (by decide +kernel), codeAny_builtin F.entry_type_call ?_⟩
  rw [Around.under_plain (weight_type_call_type "set" [.ref l] []) rfl]
  (repeat any_goals first | assumption | wp_step)
  refine codeAny_mono (code_set_led1 (.ref l) (E := E) (Q₁ := fun u s' => u = .ref s.heap.objs.size ∧ s' = withSet w s) ⟨rfl, rfl⟩) fun r s1 hr => ?_
  match r, hr with
  | .error _, hr => exact hr
  | .ok (.ret u), ⟨e1, e2⟩ =>
    subst e1 e2
    have hT : (withSet w s).TypeIs (.ref s.heap.objs.size) "set" := ⟨_, Heap.get?_push_size _ rfl, rfl⟩
    have m7 := F.called_set.init.lookup
    have m8 := F.called_set.init.bind (.ref s.heap.objs.size)
    (repeat any_goals first | assumption | wp_step)
    refine codeAny_mono (codeAny_call_builtin (R := wants (fun r s' => r = .none ∧ Full P w Z s ks s') E) F.called_set.init.plain F.entry_set_init (check_set_init_1 hT ?_)) fun r s2 hr2 => ?_
    · exact init_list (by simp [hh]) hl el sz al few (by show A.units + 1 + 1 + 1 < cLine; omega) fun s' F' => ⟨rfl, F'⟩
    · match r, hr2 with
      | .error _, hr2 => exact hr2
      | .ok (.ret _), ⟨e3, F'⟩ =>
        subst e3
        (repeat any_goals first | assumption | wp_step)
        exact q _ F'
      | .ok .next, hr2 => exact hr2.elim
      | .ok .brk, hr2 => exact hr2.elim
      | .ok .cont, hr2 => exact hr2.elim
  | .ok .next, hr => exact hr.elim
  | .ok .brk, hr => exact hr.elim
  | .ok .cont, hr => exact hr.elim
end
end Zs

set_option Elab.async false
set_option linter.all false
set_option autoImplicit false
set_option maxRecDepth 100000
set_option maxHeartbeats 4000000
/-! S7: sorted(a set). -/
namespace Zs
open PySem PySem.Spec PyProof.Rows L2 PySem.W

def k1P : Key → PyData
  | .inl i => .int i
  | .inr x => .str x
/-- an element, read -/
def kP : Kx → PyData
  | .inl k => k1P k
  | .inr ks => .tuple (ks.map k1P)
theorem k1P_depth (k : Key) : (k1P k).depth = 0 := by cases k <;> rfl
theorem k1P_all : ∀ ks : List Key, PyData.depthAll (ks.map k1P) = 0
  | [] => rfl
  | k :: r => by rw [List.map_cons, PyData.depthAll, k1P_depth, k1P_all r]; rfl
theorem kP_depth (k : Kx) : (kP k).depth ≤ 1 := by
  cases k with
  | inl k => rw [show kP (.inl k) = k1P k from rfl, k1P_depth]; exact Nat.zero_le _
  | inr ks => rw [show kP (.inr ks) = .tuple (ks.map k1P) from rfl, PyData.depth, k1P_all]; exact Nat.le_refl _

section
variable {P : Program} {w : World} {A : Around} {E : Value → Shared → Prop} {s : Shared}
variable {a : Addr} {L : Rw} {es : Array (Int × Value)} {ep : Nat} {t : SetTable} {h h' : Heap}

theorem read1 {k : Key} {v : Value} (x : keyIs k v = true) : Reads h v (k1P k) [] := by
  rcases keyIs_shape x with ⟨i, u, rfl, rfl⟩ | ⟨y, u, rfl, rfl⟩
  · exact .int i u
  · exact .str y u
theorem readAll : ∀ {ks : List Key} {vs : List Value}, ItemsAre (mixKind P w) ks vs → ReadsAll h vs (ks.map k1P) []
  | _, _, .nil => .nil
  | _, _, .cons x r => .cons (as := []) (bs := []) (read1 x) (readAll r)
theorem El.read {k : Kx} {v : Value} (x : El P w h k v) : Reads h v (kP k) [] := by
  cases k with
  | inl k => exact read1 x
  | inr ks =>
    obtain ⟨b, rfl, o, its, n, ho, hc, hd, hi⟩ := x
    exact .tuple ho hc hd (readAll hi)
theorem each_of {α β : Type} {R : α → β → Prop} {γ : Type} {f : γ → α} {g : γ → β} : ∀ {l : List γ}, (∀ x ∈ l, R (f x) (g x)) → EachIs R (l.map f) (l.map g)
  | [], _ => .nil
  | x :: l, z => .cons (z x List.mem_cons_self) (each_of fun y m => z y (List.mem_cons_of_mem _ m))

/-- sorted(S): a new list -/
theorem sorted_st (R : St P w s.heap a L es ep t) (hh : A.handled = none) (al : ∀ k ∈ L.map (·.2), ∀ k' ∈ L.map (·.2), alike (kP k) (kP k') = true) (so : Sortable ((L.map (·.2)).map kP)) (hu : A.units + 8 < cLine) {Q : Value → Shared → Prop}
    (q : ∀ s' p n (out : List Value) (ks : List Kx), (∀ b o, s.heap.get? b = some o → s'.heap.get? b = some o) → s'.gens = s.gens → s'.os = s.os → s.heap.objs.size ≤ p → s'.heap.get? p = some (seqObj "list" out.toArray n) →
      ks.Perm (L.map (·.2)) → EachIs (fun v k => (v, k) ∈ L) out (ks.mergeSort (dataLe false kP)) → Q (.ref p) s') : wpAny (model P w) A (call (.builtin "sorted") [.ref a]) Q E s := by
  obtain ⟨o, ho, hx, hd⟩ := R.ob
  have few := R.few
  refine Calls.call_function_entry kind_sorted plain_sorted entry_sorted (args_sorted1 _) ?_
  unfold Builtin.«sorted»
  refine wpAny_bind (m := checkCount "sorted" 1 1 _) (wpAny_pure ?_)
  refine wpAny_bind (collect_set (A := A.in1) hh ⟨o, ho, hx.1, hd⟩ R.fit (by rw [R.size]; exact few) R.ris R.led fun s1 vs keep big g1 o1 pm => ?_)
  have e0 : es.toList.map (·.2) = L.map (·.1) := by rw [R.rows, ents, List.map_map]; rfl
  rw [e0] at pm
  obtain ⟨L1, e1, p1⟩ := perm_pre _ pm L rfl
  have len : vs.length ≤ sizeLine := by
    rw [e1, List.length_map, p1.length_eq]
    exact fits_of_scanBound few
  refine wpAny_bind (wpAny_newList ?_ len)
  have hL : (s1.heap.push (seqObj "list" vs.toArray 0)).get? s1.heap.objs.size = some (seqObj "list" vs.toArray 0) := Heap.get?_push_size _ rfl
  have in1 : ∀ k ∈ L1.map (·.2), k ∈ L.map (·.2) := fun k z => (p1.map (·.2)).mem_iff.mp z
  have el0 : EachIs (fun v k => (v, k) ∈ L) vs (L1.map (·.2)) := by
    rw [e1]
    exact each_of fun p z => p1.mem_iff.mp z
  have er : EachIs (fun v k => ∃ as, Reads (s1.heap.push (seqObj "list" vs.toArray 0)) v (kP k) as ∧ s1.heap.objs.size ∉ as) vs (L1.map (·.2)) :=
    el0.mono fun v k x => ⟨[], El.read ((R.el _ x).grow fun b u e => Heap.get?_push_of_some _ (keep b u e)), by simp⟩
  have al1 : AllAlike ((L1.map (·.2)).map kP) := fun d m d' m' => by
    obtain ⟨k, z, rfl⟩ := List.mem_map.mp m
    obtain ⟨k', z', rfl⟩ := List.mem_map.mp m'
    exact al k (in1 k z) k' (in1 k' z')
  have so1 : Sortable ((L1.map (·.2)).map kP) := by
    have mm : ∀ d, d ∈ (L1.map (·.2)).map kP → d ∈ (L.map (·.2)).map kP := fun d m => ((p1.map (·.2)).map kP).mem_iff.mp m
    exact so.elim (fun z => .inl fun d m => z d (mm d m)) fun z => .inr fun d m => z d (mm d m)
  have room : ∀ k ∈ L1.map (·.2), A.in1.units + 1 + (kP k).depth < cLine := fun k _ => by
    have := kP_depth k
    show A.units + 1 + 1 + (kP k).depth < cLine
    omega
  have len1 : (L1.map (·.2)).length ≤ sizeLine := by rw [← el0.length]; exact len
  refine wpAny_bind (wpAny_holding (list_sort_data (s := { s1 with heap := s1.heap.push (seqObj "list" vs.toArray 0) }) hL el0 er al1 so1 len1 room fun out _ eo => ?_))
  obtain ⟨n, hn⟩ := sortedHeap_at (vs := vs) (out := out.toArray) hL
  refine wpAny_pure ⟨_, rfl, q _ s1.heap.objs.size n out (L1.map (·.2)) (fun b u e => ?_) g1 o1 big hn (p1.map (·.2)) eo⟩
  have e2 := keep b u e
  have lt := Heap.lt_size e2
  change (sortedHeap (s1.heap.push (seqObj "list" vs.toArray 0)) s1.heap.objs.size vs out.toArray).get? b = some u
  rw [sortedHeap_old (Nat.ne_of_lt lt) (by rw [size_push']; exact Nat.lt_succ_of_lt lt)]
  exact Heap.get?_push_of_some _ e2
end
end Zs

set_option Elab.async false
set_option linter.all false
set_option autoImplicit false
set_option maxRecDepth 100000
set_option maxHeartbeats 4000000
/-! S8: sets as tracked things. -/
namespace Zs
open PySem PySem.Spec PyProof.Rows L2 PySem.W

abbrev Tk := List (V × Kx)
/-- y, tracked, is the element k -/
def Ky (K : PySem.W.Frag) (H : Hp) (y : V) : Kx → Prop
  | .inl k => y = kV k
  | .inr ks => ∃ b, y = .ref b ∧ SqT K H b (ks.map kV)
/-- the raw rows are the tracked ones, in some order -/
def Like (S : Tk) (L : Rw) : Prop := ∃ L0 : Rw, L0.Perm L ∧ L0.map (·.2) = S.map (·.2) ∧ Vals (S.map (·.1)) (L0.map (·.1))
section
variable (P : Program) (w : World)
def St0 (h : Heap) (a : Addr) (L : Rw) : Prop :=
  ∃ es ep t, (∀ h', (∀ o, h.get? a = some o → h'.get? a = some o) → (∀ p ∈ L, El P w h' p.2 p.1) → St P w h' a L es ep t) ∧ ∃ o, h.get? a = some o
def SetP (a : Addr) (S : Tk) (h : Heap) : Prop := ∃ L, Like S L ∧ St0 P w h a L
/-- the set at a -/
def SetO (a : Addr) (S : Tk) : HO := .ext (SetP P w a S)
end

section
variable {P : Program} {w : World} {a : Addr} {L : Rw} {S : Tk} {es : Array (Int × Value)} {ep : Nat} {t : SetTable} {h h' : Heap} {H : Hp}
theorem St.st0 (R : St P w h a L es ep t) : St0 P w h a L := ⟨es, ep, t, fun h' q z => R.move q z, let ⟨o, e, _⟩ := R.ob; ⟨o, e⟩⟩
theorem St0.keep (R : St0 P w h a L) (q : ∀ o, h.get? a = some o → h'.get? a = some o) : St0 P w h' a L :=
  let ⟨es, ep, t, f, o, e⟩ := R
  ⟨es, ep, t, fun h2 q2 z => f h2 (fun o e => q2 o (q o e)) z, o, q o e⟩
theorem St0.st (R : St0 P w h a L) (z : ∀ p ∈ L, El P w h p.2 p.1) : ∃ es ep t, St P w h a L es ep t :=
  let ⟨es, ep, t, f, _⟩ := R
  ⟨es, ep, t, f h (fun _ e => e) z⟩
theorem setO_ok (l : Like S L) (R : St0 P w h a L) : ObjOk P w H h a (SetO P w a S) :=
  ⟨⟨L, l, R⟩, R.choose_spec.choose_spec.choose_spec.2, fun h1 h2 ⟨L1, l1, R1⟩ k => ⟨L1, l1, R1.keep k⟩⟩
theorem like_nil : Like [] [] := ⟨[], .refl _, rfl, .nil⟩
theorem vals_snoc : ∀ {xs : List V} {us : List Value} {y : V} {u : Value}, Vals xs us → RelV y u → Vals (xs ++ [y]) (us ++ [u])
  | _, _, _, _, .nil, r => .cons r .nil
  | _, _, _, _, .cons r t, q => .cons r (vals_snoc t q)
theorem Like.len (l : Like S L) : L.length = S.length := by
  obtain ⟨L0, p, e, _⟩ := l
  rw [← p.length_eq, ← List.length_map (f := fun x : Value × Kx => x.2), e, List.length_map]
theorem Like.keys (l : Like S L) : (L.map (·.2)).Perm (S.map (·.2)) := by
  obtain ⟨L0, p, e, _⟩ := l
  rw [← e]
  exact (p.map (·.2)).symm
theorem Like.more {L' : Rw} {y : V} {u : Value} {k : Kx} (l : Like S L) (r : RelV y u) (p : L'.Perm ((u, k) :: L)) : Like (S ++ [(y, k)]) L' := by
  obtain ⟨L0, p0, e, v⟩ := l
  refine ⟨L0 ++ [(u, k)], ((List.perm_append_singleton _ _).trans (p0.cons _)).trans p.symm, ?_, ?_⟩
  · rw [List.map_append, List.map_append, e]; rfl
  · rw [List.map_append, List.map_append]
    exact vals_snoc v r
end
def hasK (ks : List Kx) (k : Kx) : Bool := ks.any fun j => decide (j = k)
theorem hasK_iff {ks : List Kx} {k : Kx} : hasK ks k = true ↔ k ∈ ks := by
  unfold hasK
  rw [List.any_eq_true]
  exact ⟨fun ⟨j, m, e⟩ => of_decide_eq_true e ▸ m, fun m => ⟨k, m, decide_eq_true rfl⟩⟩
def insS (S : Tk) (y : V) (k : Kx) : Tk := if hasK (S.map (·.2)) k = true then S else S ++ [(y, k)]

section
variable {X : Cx} {pins : List (Addr × Obj)} {σ : L2.St} {H : Hp} {s : Shared} {S : Tk} {L : Rw} {D : Addr}
theorem keys_of : ∀ {ks : List Key} {us : List Value}, Vals (ks.map kV) us → ItemsAre (mixKind X.prog X.w) ks us
  | [], _, .nil => .nil
  | k :: r, u :: us, .cons x t => .cons (show keyIs k u = true by
      cases k with
      | inl i => obtain ⟨c, rfl⟩ := (show ∃ c, u = Value.int i c from x); exact keyIs_int i c
      | inr z => obtain ⟨c, rfl⟩ := (show ∃ c, u = Value.str z c from x); exact keyIs_str z c) (keys_of t)
theorem el_of (I : Inv X pins σ H s) {y : V} {u : Value} {k : Kx} (x : Ky X.K H y k) (r : RelV y u) : El X.prog X.w s.heap k u := by
  cases k with
  | inl k =>
    subst x
    have v : ItemsAre (mixKind X.prog X.w) [k] [u] := keys_of (.cons r .nil)
    cases v with
    | cons v _ => exact v
  | inr ks =>
    obtain ⟨b, rfl, x⟩ := x
    cases r
    obtain ⟨its, v, ⟨o, ho, hc, n, hd⟩, _⟩ := I.tuple x
    exact ⟨b, rfl, o, its.toArray, n, ho, hc, hd, by simpa using keys_of v⟩
theorem els_of (I : Inv X pins σ H s) (x : ∀ p ∈ S, Ky X.K H p.1 p.2) (l : Like S L) : ∀ p ∈ L, El X.prog X.w s.heap p.2 p.1 := by
  obtain ⟨L0, p0, e, v⟩ := l
  have go : ∀ {S : Tk} {L0 : Rw}, (∀ p ∈ S, Ky X.K H p.1 p.2) → L0.map (·.2) = S.map (·.2) → Vals (S.map (·.1)) (L0.map (·.1)) → ∀ p ∈ L0, El X.prog X.w s.heap p.2 p.1 := by
    intro S
    induction S with
    | nil =>
      intro L0 _ e _ p m
      cases L0 with
      | nil => exact nomatch m
      | cons _ _ => exact nomatch e
    | cons q S ih =>
      intro L0 x e v p m
      cases L0 with
      | nil => exact nomatch e
      | cons r L0 =>
        rw [List.map_cons, List.map_cons] at e v
        injection e with e1 e2
        cases v with
        | cons v1 v2 =>
          rcases List.mem_cons.mp m with rfl | m
          · rw [e1]
            exact el_of I (x q List.mem_cons_self) v1
          · exact ih (fun p z => x p (List.mem_cons_of_mem _ z)) e2 v2 p m
  exact fun p m => go x e v p (p0.mem_iff.mpr m)

/-- the set itself, in the heap -/
theorem set_at (I : Inv X pins σ H s) (hD : H D = some (SetO X.prog X.w D S)) (x : ∀ p ∈ S, Ky X.K H p.1 p.2) : ∃ L es ep t, Like S L ∧ St X.prog X.w s.heap D L es ep t := by
  obtain ⟨⟨L, l, R⟩, _⟩ := (I.hok D _ hD : ObjOk X.prog X.w H s.heap D (SetO X.prog X.w D S))
  obtain ⟨es, ep, t, R⟩ := R.st (els_of I x l)
  exact ⟨L, es, ep, t, l, R⟩
/-- set.add -/
theorem add_ok {E : Value → Shared → Prop} {y : V} {u : Value} {k : Kx} {Q : Value → Shared → Prop} (hu : X.A.units + 8 < cLine) (I : Inv X pins σ H s) (hD : H D = some (SetO X.prog X.w D S)) (x : ∀ p ∈ S, Ky X.K H p.1 p.2) (xy : Ky X.K H y k) (r : RelV y u)
    (al : ∀ p ∈ S, tupQ p.2 = tupQ k) (few : S.length + 1 < roomFor (tupQ k)) (q : ∀ s', Inv X pins σ (upd H D (SetO X.prog X.w D (insS S y k))) s' → Q .none s') : wpAny (model X.prog X.w) X.A (call (.builtin "set.add") [.ref D, u]) Q E s := by
  obtain ⟨L, es, ep, t, l, R⟩ := set_at I hD x
  have alL : ∀ p ∈ L, tupQ p.2 = tupQ k := fun p m => by
    obtain ⟨p', m', e⟩ := List.mem_map.mp (l.keys.mem_iff.mp (List.mem_map.mpr ⟨p, m, rfl⟩))
    rw [← e]
    exact al p' m'
  have hT : s.TypeIs (.ref D) "set" := let ⟨o, ho, hx, _⟩ := R.ob; ⟨o, ho, hx.1⟩
  refine wpAny_call_entry F.slot_set_add hT F.entry_set_add ?_ (F.args_set_add_2 _ _)
  unfold Builtin.«set.add» Builtin.Frozenset.oneOther
  simp only [List.isEmpty_nil, bind_assoc]
  unfold Builtin.Frozenset.addrOf
  refine wpAny_bind (wpAny_pure ?_)
  try dsimp only
  refine wpAny_bind (wpAny_pure ?_)
  try dsimp only
  refine wpAny_bind (put_el R alL (by show X.A.units + 1 < cLine; omega) (el_of I xy r) (by rw [l.len]; exact few) fun n b h' L' es' ep' t' sb R' c1 c2 => ?_)
  refine wpAny_pure ⟨_, rfl, q _ ?_⟩
  have hk : k ∈ L.map (·.2) ↔ k ∈ S.map (·.2) := l.keys.mem_iff
  have l' : Like (insS S y k) L' := by
    unfold insS
    split
    · rename_i z
      rw [c1 (hk.mpr (hasK_iff.mp z))]
      exact l
    · rename_i z
      exact l.more r (c2 fun y => z (hasK_iff.mpr (hk.mp y)))
  exact I.write (t' := s.toks + n) (by rw [hD]; trivial) (.inl rfl) (fun b o hb e => (sb.2 b hb).trans e) (let ⟨o, ho, _⟩ := R'.ob; ⟨o, ho⟩) (setO_ok l' R'.st0)
end
end Zs

set_option Elab.async false
set_option linter.all false
set_option autoImplicit false
set_option maxRecDepth 100000
set_option maxHeartbeats 4000000
/-! S9: set comprehensions. -/
namespace Zs
open PySem PySem.Spec PyProof.Rows L2 PySem.W

/-- what {elt for tg in iter if ..} asks: W by the turn and a measure, D the new set -/
def tSx (P : Program) (w : World) (K : PySem.W.Frag) (wi : TI) (g : TG) (tt : TT) (te : TE) (vs : List Nat) : TE := fun σ H Q => wi σ H fun J H1 => ∀ D, H1 D = none → ∃ W : Nat → Nat → Hp → Prop, (∃ m, W 0 m (upd H1 D (SetO P w D []))) ∧ ∀ i m H, W i m H →
  (J.stop i H ∧ Q (.ref D) H) ∨ (J.go i H ∧ ∃ Nx : Hp → Prop, (∀ H', Nx H' → ∃ m', m' < m ∧ W (i + 1) m' H') ∧ ∀ x H', J.yld i H x H' → g x (wipe σ vs) H' fun σ2 H2 => wipe σ2 vs = wipe σ vs ∧ tt σ2 H2 fun b H3 => if b = true then te σ2 H3 fun y H4 =>
    ∃ S k, H4 D = some (SetO P w D S) ∧ (∀ p ∈ S, Ky K H4 p.1 p.2) ∧ Ky K H4 y k ∧ (∀ p ∈ S, tupQ p.2 = tupQ k) ∧ S.length + 1 < roomFor (tupQ k) ∧ Nx (upd H4 D (SetO P w D (insS S y k))) else Nx H3)

section
variable {X : Cx}
theorem sx_core {pins : List (Addr × Obj)} {s : Shared} {σ : L2.St} {H : Hp} {Q : VK} {elt tg iter : Expr} {ifs : List Expr} {scope : Scope} {own : List (Str × Nat)} {pos pos' : Pos} {wi : TI} {g : TG} {tt : TT} {te : TE}
    (hu : X.A.units + 8 < cLine) (calm : X.calm = true) (names : X.N.Nodup) (I : Inv X pins σ H s) (hi : PI X tg iter wi) (ok : BlkOk X.N X.env.scope scope own)
    (hg : ∀ s H C cl fp, PG (X.blk s H scope (compEnvC scope cl C X.env) fp) tg g) (ht : ∀ s H C cl fp, PTs (X.blk s H scope (compEnvC scope cl C X.env) fp) ifs tt) (he : ∀ s H C cl fp, PE (X.blk s H scope (compEnvC scope cl C X.env) fp) elt te)
    (fold : ∀ x, foldedSetIterable iter X.env x = pure x) {use : Option (Value → Sem Unit)} {Qf : Value → Shared → Prop} (h : tSx X.prog X.w X.K wi g tt te (own.map (·.2)) σ H Q)
    (fin : ∀ D C s' m H', Inv X pins σ H' s' → Q (.ref D) H' → s'.heap.Ns C m → FpOk X pins H' C → compPost (model X.prog X.w) X.A X.xe use Qf (.ref D) C (.ok .next) s') :
    wpAny (model X.prog X.w) X.A (comprehension (.SetComp elt [⟨tg, iter, ifs, 0⟩] scope pos) scope X.env pos' (newSet (.type "set")) false (eval iter X.env) use) Qf X.xe s := by
  have free : ∀ y ∈ scope.names, y.2 = .free → ∃ c, X.env.cells.lookup y.1 = some c := fun y m e => (ok.free y m e).elim (fun k => I.ok.has _ (.inl k)) fun k => I.ok.has _ (.inr k)
  refine wpAny_comprehension_free (use := use) rfl fold (closure_ok free) ok.kind (fun y m e => by rw [ok.uniq y m, e]) (thn (hi.run pins s σ H _ I h) fun xv s1 hx => thn hx fun itv s2 h2 => ?_)
  obtain ⟨it, fp, tn, J, H2, rfl, I2, T, st2, f2, q⟩ := h2
  refine PpSet.newSet_ok (newEnv_comp ?_)
  obtain ⟨D, eD⟩ : ∃ D, D = s2.heap.objs.size := ⟨_, rfl⟩
  rw [← eD]
  have noD : H2 D = none := I2.hok.fresh (Nat.le_of_eq eD.symm)
  obtain ⟨W, ⟨m0, w0⟩, turn⟩ := q D noD
  obtain ⟨s3, e3⟩ : ∃ s3, s3 = withSet X.w s2 := ⟨_, rfl⟩
  have h3 : s3.heap = s2.heap.push (newSt X.w) := by rw [e3]
  obtain ⟨H3, eH⟩ : ∃ H3, H3 = upd H2 D (SetO X.prog X.w D []) := ⟨_, rfl⟩
  rw [← eH] at w0
  have I3 : Inv X pins σ H3 s3 := by
    rw [e3, eH]
    refine I2.laid (t' := s2.toks) (fun b o e => Heap.get?_push_of_some _ e) (Nat.le_of_eq eD.symm) (setO_ok like_nil (St.st0 (st_new (P := X.prog) ?_)))
    rw [eD]
    exact Heap.get?_push_size _ rfl
  have old : ∀ b ∈ fp, b < s2.heap.objs.size := fun b m => let ⟨o, e, _⟩ := T.obj _ _ st2 b m; Heap.lt_size e
  have f3 : ∀ b ∈ fp, FpOk X pins H3 b ∧ b < s3.heap.objs.size := fun b m => by
    refine ⟨⟨?_, (f2 b m).2⟩, by rw [h3, Heap.size_push]; exact Nat.lt_succ_of_lt (old b m)⟩
    rw [eH, upd_ne (by rw [eD]; exact Nat.ne_of_lt (old b m))]
    exact (f2 b m).1
  have st3 : tn 0 s3.heap := T.keep _ _ _ st2 fun b _ o e => by rw [h3]; exact Heap.get?_push_of_some _ e
  have I4 := block_start I3 ok names f3
  obtain ⟨cells, ec⟩ : ∃ cells, cells = cellsFrom (s3.heap.objs.size + 1) scope.names (cloFrom X.env.cells scope.names []) := ⟨_, rfl⟩
  rw [← ec] at I4
  have pg := hg s3 H3 s3.heap.objs.size cells fp
  have pt := ht s3 H3 s3.heap.objs.size cells fp
  have pe := he s3 H3 s3.heap.objs.size cells fp
  obtain ⟨ce, ece⟩ : ∃ ce, ce = compEnvC scope cells s3.heap.objs.size X.env := ⟨_, rfl⟩
  rw [← ece] at I4 pg pt pe
  have at_ : ce.locals = s3.heap.objs.size := by rw [ece]; rfl
  obtain ⟨s4, e4⟩ : ∃ s4, s4 = ({ s3 with heap := pushCells (s3.heap.push { cls := .type "dict", data := .dict #[] }) scope.names } : Shared) := ⟨_, rfl⟩
  rw [← e4] at I4
  have st4 : tn 0 s4.heap := T.keep _ _ _ st3 fun b _ o e => by rw [e4]; exact pushCells_keeps _ _ _ _ (Heap.get?_push_of_some _ e)
  have still : ∀ {σ' : L2.St} {H' : Hp} {s' : Shared}, Inv (X.blk s3 H3 scope ce fp) [] σ' H' s' → (∀ b ∈ fp, H' b = none) → ∀ b ∈ fp, FpOk (X.blk s3 H3 scope ce fp) [] H' b := fun I' no b m =>
    ⟨no b m, (I'.ok.exf b m).1, I'.ok.exfs b m, .inl m, (I'.ok.exf b m).2, fun p z => absurd (show p ∈ ([] : List (Addr × Obj)) ++ [] from z) (by simp)⟩
  have loop : codeAny (model X.prog X.w) X.A (.compLoop (.SetComp elt [⟨tg, iter, ifs, 0⟩] scope pos) 0 (.ref it) (.ref D) ce) (compPost (model X.prog X.w) X.A X.xe use Qf (.ref D) s3.heap.objs.size) s4 := by
    refine PpSet.compLoopS_any (fun n s' => ∃ i H', W i n H' ∧ tn i s'.heap ∧ (∀ b ∈ fp, H' b = none) ∧ Inv (X.blk s3 H3 scope ce fp) [] (wipe σ (own.map (·.2))) H' s') (fun n s5 ⟨i, H5, w5, st5, n5, I5⟩ => ?_) m0 ⟨0, H3, w0, st4, fun b m => (f3 b m).1.1, I4⟩
    rcases turn i n H5 w5 with ⟨stop, qq⟩ | ⟨go, Nx, next, step⟩
    · refine thnF (T.done (X.blk s3 H3 scope ce fp) rfl rfl rfl calm i [] s5 _ H5 (fun _ _ => False) I5 (still I5 n5) st5 stop) fun r s6 ⟨er, I6⟩ => ?_
      subst er
      have no : H5 s3.heap.objs.size = none := at_ ▸ (show H5 ce.locals = none from I6.free)
      obtain ⟨m, ns, _⟩ := I6.loc
      have ns : s6.heap.Ns s3.heap.objs.size m := at_ ▸ (show s6.heap.Ns ce.locals m from ns)
      exact fin D _ s6 m H5 (I3.call' (ch := fp) I6.os I6.base I6.hok I6.bare fun b m => let z := (f3 b m).1.2; ⟨z.2.2.1, z.1, z.2.2.2.1, z.2.2.2.2⟩) qq ns (I3.fpOk (Nat.le_refl _) no)
    · refine thnF (T.item (X.blk s3 H3 scope ce fp) rfl rfl rfl calm i [] s5 _ H5 (fun _ _ => False) I5 (still I5 n5) st5 go) fun r s6 ⟨u, er, h6⟩ => ?_
      subst er
      refine thnF h6 fun _ s7 ⟨x, H7, I7, r7, y7, st7, n7⟩ => ?_
      refine thnF (pg.run _ s7 _ H7 x u _ (I7.pinned (still I7 n7) (T.obj _ _ st7)) r7 (step x H7 y7)) fun _ s8 ⟨σ8, H8, I8, w8, q8⟩ => ?_
      refine thnF (pt.run _ s8 σ8 H8 _ I8 q8) fun b s9 ⟨H9, I9, q9⟩ => ?_
      have over : ∀ {s' : Shared} {H' : Hp}, Inv (X.blk s3 H3 scope ce fp) ([] ++ pinsAt fp s7.heap) σ8 H' s' → Nx H' → ∃ m, m < n ∧ ∃ i H', W i m H' ∧ tn i s'.heap ∧ (∀ b ∈ fp, H' b = none) ∧ Inv (X.blk s3 H3 scope ce fp) [] (wipe σ (own.map (·.2))) H' s' := fun {s' H'} I' nx => by
        obtain ⟨m', lt, w'⟩ := next H' nx
        have pin' : ∀ b ∈ fp, ∀ o, s7.heap.get? b = some o → s'.heap.get? b = some o ∧ H' b = none := fun b m o e =>
          let z := I'.pin (b, o) (List.mem_append_right _ (List.mem_append_right _ (mem_pinsAt m e)))
          ⟨z.1, z.2.1⟩
        refine ⟨m', lt, i + 1, H', w', T.keep _ _ _ st7 fun b m o e => (pin' b m o e).1, fun b m => ?_, (I'.unpinned (pins := [])).weak (by rw [← w8, wipe_length]) fun j v e => ?_⟩
        · obtain ⟨o, e, _⟩ := T.obj _ _ st7 b m
          exact (pin' b m o e).2
        · rw [← w8] at e
          exact (wipe_some e).1
      cases b with
      | false =>
        simp only [Bool.false_eq_true, if_false] at q9 ⊢
        exact over I9 q9
      | true =>
        simp only [if_true] at q9 ⊢
        refine thnF (pe.run _ s9 σ8 H9 _ I9 q9) fun z s10 ⟨yv, H10, I10, r10, S, k, hD, kS, ky, al, few, nx⟩ => ?_
        exact add_ok (X := X.blk s3 H3 scope ce fp) hu I10 hD kS ky r10 al few fun s11 I11 => over I11 nx
  rw [ec] at ece
  rw [ece, e4] at loop
  rw [e4] at st4
  rw [e3] at loop st4
  exact PpSet.codeAny_compStart_set loop (T.self X.A 0 _ _ _ st4 loop)
/-- as a value -/
theorem pe_sx {elt tg iter : Expr} {ifs : List Expr} {scope : Scope} {own : List (Str × Nat)} {pos : Pos} {wi : TI} {g : TG} {tt : TT} {te : TE} (hu : X.A.units + 8 < cLine) (calm : X.calm = true) (names : X.N.Nodup) (hi : PI X tg iter wi) (ok : BlkOk X.N X.env.scope scope own)
    (hg : ∀ s H C cl fp, PG (X.blk s H scope (compEnvC scope cl C X.env) fp) tg g) (ht : ∀ s H C cl fp, PTs (X.blk s H scope (compEnvC scope cl C X.env) fp) ifs tt) (he : ∀ s H C cl fp, PE (X.blk s H scope (compEnvC scope cl C X.env) fp) elt te)
    (fold : ∀ x, foldedSetIterable iter X.env x = pure x := by intro _; rfl) : PE X (.SetComp elt [⟨tg, iter, ifs, 0⟩] scope pos) (tSx X.prog X.w X.K wi g tt te (own.map (·.2))) := by
  refine ⟨fun pins s σ H Q I h => ?_⟩
  rw [PpSet.eval_SetComp]
  refine sx_core hu calm names I hi ok hg ht he fold h fun D C s' m H' I' q ns f => ⟨m, ns, fun h2 sb => ?_⟩
  obtain ⟨f0, f1, f2, f3, f4, f5⟩ := f
  exact ⟨.ref D, H', I'.turned (t' := s'.toks) (fun b o z e => (sb.2 b z).trans e) f0 f1 f3 f4 f5, rfl, q⟩
end
end Zs

set_option Elab.async false
set_option linter.all false
set_option autoImplicit false
set_option maxRecDepth 100000
set_option maxHeartbeats 4000000
/-! S10: the difference of two sets of texts and numbers. -/
namespace Zs
open PySem PySem.Spec PyProof.Rows L2 PySem.W

section
variable {P : Program} {w : World} {A : Around} {E : Value → Shared → Prop} {s : Shared}
variable {a b r : Addr} {L L' : Rw} {es es' : Array (Int × Value)} {ep ep' : Nat} {t t' : SetTable} {h h' : Heap}

/-- the walk of a set whose order nobody draws -/
theorem walk_st (R : St P w s.heap a L es ep t) (z : w.params.followText "set-order" = true ∨ t.plain = true ∨ es.size ≤ 1) {Q : Array (Int × Value) → Shared → Prop} (q : ∀ es', es'.toList.Perm es.toList → Q es' s) :
    wpAny (model P w) A (setWalk a) Q E s := by
  obtain ⟨o, ho, _, hd⟩ := R.ob
  unfold setWalk
  refine wpAny_bind (wpAny_setState_of ho hd R.fit ?_)
  dsimp only
  refine wpAny_bind (wpAny_byText ?_)
  cases e : w.params.followText "set-order" with
  | true =>
    refine wp_if_pos rfl ?_
    exact wpAny_bind (wpAny_askSetting (wpAny_pure (q _ (pick_perm _ _))))
  | false =>
    refine wp_if_neg Bool.false_ne_true ?_
    try refine wpAny_bind (wpAny_pure ?_)
    have hl : t.led = true := R.led.resolve_left (by rw [e]; exact Bool.false_ne_true)
    have no : (!t.plain && decide (es.size > 1)) = false := by
      rcases z with z | z | z
      · rw [e] at z; exact absurd z Bool.false_ne_true
      · rw [z]; rfl
      · rw [decide_eq_false (by omega)]; exact Bool.and_false _
    refine wp_if_neg (by show ¬ ((!t.plain && decide (es.size > 1)) = true); rw [no]; exact Bool.false_ne_true) ?_
    try refine wpAny_bind (wpAny_pure ?_)
    refine wpAny_bind (wpAny_of_eq (a := ()) ?_ (wpAny_pure (q es (.refl _))))
    show (if (!t.led && decide (es.size > 1)) = true then unsupported "set:maker-not-led" else pure ()) = pure ()
    rw [hl]
    rfl

/-- a set of texts and numbers is at c -/
def Flat (P : Program) (w : World) (h : Heap) (c : Addr) : Prop := ∃ L es ep t, St P w h c L es ep t ∧ ∀ p ∈ L, tupQ p.2 = false
theorem noRef {k : Kx} {v : Value} (x : El P w h k v) (z : tupQ k = false) : ∀ b, v ≠ .ref b := by
  cases k with
  | inr _ => exact nomatch z
  | inl k => rcases keyIs_shape x with ⟨_, _, _, rfl⟩ | ⟨_, _, _, rfl⟩ <;> exact fun _ e => nomatch e
/-- no == of theirs shows anything -/
theorem quiet_st {sets : List Addr} (F : ∀ c ∈ sets, Flat P w s.heap c) {Q : Bool → Shared → Prop} (q : Q true s) : wpAny (model P w) A (setsQuiet sets) Q E s := by
  unfold setsQuiet
  refine wpAny_bind ?_
  refine wpAny_forIn_list _ (fun rest r s' => s' = s ∧ r.1 = none ∧ ∀ c ∈ rest, Flat P w s.heap c) _ (fun c rest r s' z => ?_) (fun r s' z => ?_) _ _ ⟨rfl, rfl, F⟩
  · obtain ⟨rfl, e2, z⟩ := z
    obtain ⟨L, es, ep, t, R, al⟩ := z c List.mem_cons_self
    obtain ⟨o, ho, _, hd⟩ := R.ob
    have on : ∀ c ∈ rest, Flat P w s'.heap c := fun c m => z c (List.mem_cons_of_mem _ m)
    refine wpAny_bind (wpAny_setEntries_of ho hd R.fit ?_)
    refine wpAny_bind ?_
    rw [← Array.forIn_toList]
    have flat : ∀ e ∈ es.toList, ∀ b, e.2 ≠ .ref b := fun e m => by
      rw [R.rows] at m
      obtain ⟨p, mp, rfl⟩ := List.mem_map.mp m
      exact noRef (R.el p mp) (al p mp)
    refine wpAny_forIn_list _ (fun rest r s2 => s2 = s' ∧ r.1 = none ∧ ∀ e ∈ rest, ∀ b, e.2 ≠ .ref b) _ (fun e rest r s2 y => ?_) (fun r s2 y => ?_) _ _ ⟨rfl, rfl, flat⟩
    · obtain ⟨rfl, _, y⟩ := y
      have ye := y e List.mem_cons_self
      have on2 : ∀ e ∈ rest, ∀ b, e.2 ≠ .ref b := fun e m => y e (List.mem_cons_of_mem _ m)
      obtain ⟨g, v⟩ := e
      cases v with
      | ref b => exact absurd rfl (ye b)
      | _ => exact wpAny_pure ⟨rfl, rfl, on2⟩
    · obtain ⟨r1, r2⟩ := r
      obtain ⟨rfl, e3, _⟩ := y
      simp only at e3
      subst e3
      exact wpAny_pure ⟨rfl, rfl, on⟩
  · obtain ⟨r1, r2⟩ := r
    obtain ⟨rfl, e2, _⟩ := z
    simp only at e2
    subst e2
    exact wpAny_pure q
/-- a walk that nobody sees, to fill the new set r -/
theorem unseen_st {Lo : Rw} {eo : Array (Int × Value)} {po : Nat} {to : SetTable} {er : Array (Int × Value)} {pr : Nat} {tr : SetTable} (R : St P w s.heap a L es ep t) (al : ∀ p ∈ L, tupQ p.2 = false) (Ro : St P w s.heap b Lo eo po to) (ao : ∀ p ∈ Lo, tupQ p.2 = false)
    (Rr : St P w s.heap r [] er pr tr) {Q : Array (Int × Value) → Shared → Prop} (q : ∀ es' h' er' pr' tr', es'.toList.Perm es.toList → Heap.SameBut r s.heap h' → St P w h' r [] er' pr' tr' → Q es' { s with heap := h' }) :
    wpAny (model P w) A (setWalkUnseen a [b, r] (some r)) Q E s := by
  obtain ⟨o, ho, _, hd⟩ := R.ob
  obtain ⟨u, hu, ux, ud⟩ := Rr.ob
  unfold setWalkUnseen
  refine wpAny_bind (wpAny_setState_of ho hd R.fit ?_)
  dsimp only
  refine wpAny_bind (wpAny_byText ?_)
  by_cases c : (w.params.followText "set-order" || (t.led && t.plain) || decide (es.size ≤ 1)) = true
  · refine wp_if_pos c ?_
    refine walk_st R ?_ fun es' p => q es' s.heap er pr tr p (Heap.SameBut.refl r s.heap) Rr
    simp only [Bool.or_eq_true, Bool.and_eq_true, decide_eq_true_eq] at c
    rcases c with (c | c) | c
    · exact .inl c
    · exact .inr (.inl c.2)
    · exact .inr (.inr c)
  · refine wp_if_neg c ?_
    try refine wpAny_bind (wpAny_pure ?_)
    have F : ∀ c ∈ [a, b, r], Flat P w s.heap c := fun c m => by
      rcases List.mem_cons.mp m with rfl | m
      · exact ⟨L, es, ep, t, R, al⟩
      · rcases List.mem_cons.mp m with rfl | m
        · exact ⟨Lo, eo, po, to, Ro, ao⟩
        · rw [List.mem_singleton.mp m]
          exact ⟨[], er, pr, tr, Rr, fun p z => nomatch z⟩
    refine wpAny_bind (quiet_st F ?_)
    refine wp_if_neg (by decide) ?_
    try refine wpAny_bind (wpAny_pure ?_)
    refine wpAny_bind (wpAny_rule ?_)
    try dsimp only
    refine wpAny_bind (wpAny_setState_of hu ud Rr.fit ?_)
    try dsimp only
    have none : er.toList = [] := Rr.rows
    have sz : er.size = 0 := by rw [← Array.length_toList, none]; rfl
    split
    · refine wpAny_bind (wpAny_storeSet_of hu ud (wpAny_pure ?_) (by rw [sz]; exact Nat.zero_le _))
      have sb : Heap.SameBut r s.heap (s.heap.update r (Obj.putSet er { tr with led := tr.led && t.led, plain := tr.plain && t.plain })) := Heap.SameBut.update ..
      refine q es _ er (pr + 1) _ (.refl _) sb ⟨⟨_, store_at hu ud, ⟨ux.1, ux.2.1, ux.2.2⟩, rfl⟩, none, List.nodup_nil, (fun p z => nomatch z), Rr.ris, Rr.fit, ?_, by decide, .inr ⟨(fun p z => nomatch z), ?_⟩⟩
      · rcases Rr.led with z | z
        · exact .inl z
        · rcases R.led with y | y
          · exact .inl y
          · exact .inr (by show (tr.led && t.led) = true; rw [z, y]; rfl)
      · rcases Rr.kind with ⟨ne, _⟩ | ⟨_, T⟩
        · exact absurd rfl ne
        · exact ⟨⟨T.ok.ris, T.ok.dm, T.ok.sz, T.ok.mok, T.ok.bd, T.ok.reach⟩, T.room, T.few⟩
    · first
        | exact wpAny_pure (q es s.heap er pr tr (.refl _) (Heap.SameBut.refl r s.heap) Rr)
        | exact wpAny_bind (wpAny_pure (wpAny_pure (q es s.heap er pr tr (.refl _) (Heap.SameBut.refl r s.heap) Rr)))
end
end Zs

set_option Elab.async false
set_option linter.all false
set_option autoImplicit false
set_option maxRecDepth 100000
set_option maxHeartbeats 4000000
/-! S11: one set less another. -/
namespace Zs
open PySem PySem.Spec PyProof.Rows L2 PySem.W

theorem entry_sub : entryFor table "set.__sub__" = some Builtin.«frozenset.__sub__» :=
  entryFor_alias (id' := "frozenset.__sub__") (by kernel_rfl) rfl (by decide +kernel) (by kernel_rfl)

section
variable {P : Program} {w : World} {A : Around} {E : Value → Shared → Prop} {s : Shared}
variable {a b r : Addr} {L Lo : Rw} {es eo : Array (Int × Value)} {ep po : Nat} {t to : SetTable} {h h' : Heap}

theorem find_st {k : Key} {v : Value} (R : St P w s.heap a L es ep t) (al : ∀ p ∈ L, tupQ p.2 = false) (x : El P w s.heap (.inl k) v) {Q : Option Nat → Shared → Prop} (q : ∀ c : Option Nat, (c.isSome = true ↔ Sum.inl k ∈ L.map (·.2)) → Q c s) :
    wpAny (model P w) A (setFind a v (hsh P w (.inl k))) Q E s := by
  obtain ⟨o, ho, _, hd⟩ := R.ob
  have sc : v.scannable = true := x.scan
  have ok := scanned R.rows al R.el
  unfold setFind setFindIn
  refine wpAny_bind (wpAny_setState_of ho hd R.fit ?_)
  dsimp only
  refine wp_if_pos (byScan_of sc (by rw [R.size]; exact R.few) ok) ?_
  refine wpAny_bind (wpAny_rule (wpAny_bind (wpAny_setScan_of (knd := mixKind P w) (k := k) x ho hd R.fit ok ?_)))
  rcases met (k := k) (v := v) R.rows al R.el with ⟨e, no⟩ | ⟨⟨j, e⟩, yes⟩
  · rw [e]
    exact wpAny_pure (q none ⟨fun z => (nomatch z), fun z => absurd z no⟩)
  · rw [e]
    exact wpAny_pure (q (some (0 + j)) ⟨fun _ => yes, fun _ => rfl⟩)

/-- what is left of the keys ks -/
structure Left (P : Program) (w : World) (h0 : Heap) (ks : List Kx) (Lo Lr : Rw) : Prop where
  mem : ∀ k, k ∈ Lr.map (·.2) ↔ k ∈ ks ∧ k ∉ Lo.map (·.2)
  len : Lr.length ≤ ks.length
  el : ∀ p ∈ Lr, El P w h0 p.2 p.1
  flat : ∀ p ∈ Lr, tupQ p.2 = false

theorem any_set {c : Addr} {Q : Bool → Shared → Prop} (hT : s.TypeIs (.ref c) "set") (q : Q true s) : wpAny (model P w) A (Builtin.Frozenset.isAnySet (.ref c)) Q E s := by
  unfold Builtin.Frozenset.isAnySet
  refine wpAny_bind (wpAny_isInstance hT sub_set_self ?_)
  exact wpAny_pure q
theorem diff_st {id : String} (R : St P w s.heap a L es ep t) (al : ∀ p ∈ L, tupQ p.2 = false) (Ro : St P w s.heap b Lo eo po to) (ao : ∀ p ∈ Lo, tupQ p.2 = false) (sz : L.length / 4 ≤ Lo.length) {Q : Value → Shared → Prop}
    (q : ∀ h' Lr, (∀ c o, s.heap.get? c = some o → h'.get? c = some o) → (∃ er pr tr, St P w h' s.heap.objs.size Lr er pr tr) → Left P w s.heap (L.map (·.2)) Lo Lr → Q (.ref s.heap.objs.size) { s with heap := h' }) :
    wpAny (model P w) A (Builtin.Frozenset.difference id a (.ref b)) Q E s := by
  obtain ⟨o, ho, hx, hd⟩ := R.ob
  obtain ⟨u, hu, ux, ud⟩ := Ro.ob
  have Ta : s.TypeIs (.ref a) "set" := ⟨o, ho, hx.1⟩
  have Tb : s.TypeIs (.ref b) "set" := ⟨u, hu, ux.1⟩
  unfold Builtin.Frozenset.difference
  refine wpAny_bind (any_set Tb ?_)
  refine wp_if_neg (by decide) ?_
  try refine wpAny_bind (wpAny_pure ?_)
  unfold Builtin.Frozenset.addrOf
  try refine wpAny_bind (wpAny_pure ?_)
  refine wp_if_neg (by simp) ?_
  try refine wpAny_bind (wpAny_pure ?_)
  simp only [if_true]
  unfold Builtin.Frozenset.sizeOf
  refine wpAny_bind (wpAny_bind (wpAny_setEntries_of hu ud Ro.fit (wpAny_pure ?_)))
  refine wpAny_bind (wpAny_bind (wpAny_setEntries_of ho hd R.fit (wpAny_pure ?_)))
  refine wp_if_neg (by rw [R.size, Ro.size]; omega) ?_
  try refine wpAny_bind (wpAny_pure ?_)
  unfold Builtin.Frozenset.baseOf
  refine wpAny_bind (wpAny_bind (wpAny_isInstance Ta sub_set_self ?_))
  simp only [if_true]
  refine wpAny_pure ?_
  refine wpAny_bind (PpSet.newSet_ok ?_)
  dsimp only
  refine wpAny_bind (wpAny_pure ?_)
  have hS : (withSet w s).heap.get? s.heap.objs.size = some (newSt w) := Heap.get?_push_size _ rfl
  have base : ∀ c o, s.heap.get? c = some o → (withSet w s).heap.get? c = some o := fun c o e => Heap.get?_push_of_some _ e
  have ra : a ≠ s.heap.objs.size := Nat.ne_of_lt (Heap.lt_size ho)
  have rb : b ≠ s.heap.objs.size := Nat.ne_of_lt (Heap.lt_size hu)
  change wpAny _ _ _ _ _ (withSet w s)
  have R1 := R.grow base
  have Ro1 := Ro.grow base
  have Rr1 : St P w (withSet w s).heap s.heap.objs.size [] _ _ _ := st_new hS
  refine wpAny_bind (m := setEpoch a) (wpAny_setEpoch_of (base a o ho) hd R.fit ?_)
  refine wpAny_bind (wpAny_holding (wpAny_bind (unseen_st R1 al Ro1 ao Rr1 fun es' h1 er pr tr pm sb Rr => ?_)))
  obtain ⟨L1, e1, p1⟩ := perm_pre _ (R.rows ▸ pm) L rfl
  have l1 : L1.length = L.length := p1.length_eq
  have from1 : ∀ p ∈ L1, p ∈ L := fun p m => p1.mem_iff.mp m
  refine wpAny_bind ?_
  rw [← Array.forIn_toList, e1]
  refine wpAny_forIn_list _ (fun rest _ s' => ∃ (done todo : Rw) (h2 : Heap) (Lr : Rw), rest = ents P w todo ∧ done ++ todo = L1 ∧ s' = { s with heap := h2 } ∧ Heap.SameBut s.heap.objs.size (withSet w s).heap h2 ∧
    (∃ er pr tr, St P w h2 s.heap.objs.size Lr er pr tr) ∧ Left P w s.heap (done.map (·.2)) Lo Lr) _ (fun e rest _ s' z => ?_) (fun _ s' z => ?_) _ _ ⟨[], L1, h1, [], rfl, rfl, rfl, sb, ⟨er, pr, tr, Rr⟩, ⟨fun k => ?_, Nat.le_refl _, fun p m => (nomatch m), fun p m => (nomatch m)⟩⟩
  · obtain ⟨done, todo, h2, Lr, er', el, rfl, sb2, ⟨er2, pr2, tr2, D⟩, F⟩ := z
    cases todo with
    | nil => exact nomatch er'
    | cons p todo =>
      rw [ents, List.map_cons] at er'
      injection er' with e2 e3
      have keep : ∀ c o, s.heap.get? c = some o → h2.get? c = some o := fun c o e => (sb2.2 c (Nat.ne_of_lt (Heap.lt_size e))).trans (base c o e)
      have mp : p ∈ L := from1 p (by rw [← el]; exact List.mem_append_right _ List.mem_cons_self)
      have x0 := R.el p mp
      have fp := al p mp
      have lt : done.length < L.length := by
        rw [← l1, ← el, List.length_append, List.length_cons]
        omega
      obtain ⟨v, k⟩ := p
      cases k with
      | inr _ => exact nomatch fp
      | inl k =>
        subst e2
        have still : ∀ {h3 : Heap} {Φ : ForInStep PUnit → Shared → Prop}, Heap.SameBut s.heap.objs.size (withSet w s).heap h3 → Φ (.yield PUnit.unit) { s with heap := h3 } → wpAny (model P w) A (do
              Builtin.Frozenset.unchanged id a ep
              pure (ForInStep.yield PUnit.unit)) Φ E { s with heap := h3 } := fun {h3 Φ} sb3 z => by
          unfold Builtin.Frozenset.unchanged
          refine wpAny_bind (wpAny_bind (wpAny_setEpoch_of (s := { s with heap := h3 }) ((sb3.2 a ra).trans (base a o ho)) hd R.fit ?_))
          exact wp_if_neg (by simp) (wpAny_pure (wpAny_pure z))
        have into : (done ++ [(v, Sum.inl k)]) ++ todo = L1 := by rw [List.append_assoc]; exact el
        have keys : ((done ++ [(v, Sum.inl k)] : Rw).map (·.2)) = done.map (·.2) ++ [Sum.inl k] := by rw [List.map_append]; rfl
        refine wpAny_bind (wpAny_holding (wpAny_bind (find_st (s := { s with heap := h2 }) (Ro.grow keep) ao (x0.grow keep) fun c hc => wpAny_bind (wpAny_pure ?_))))
        cases ec : c.isSome with
        | true =>
          have yes := hc.mp ec
          refine wp_if_neg (by decide) (wpAny_pure ?_)
          refine still sb2 ⟨done ++ [(v, Sum.inl k)], todo, h2, Lr, e3, into, rfl, sb2, ⟨er2, pr2, tr2, D⟩, ⟨fun j => ?_, ?_, F.el, F.flat⟩⟩
          · rw [F.mem, keys, List.mem_append]
            refine ⟨fun z => ⟨.inl z.1, z.2⟩, fun z => ⟨z.1.resolve_right fun y => z.2 ?_, z.2⟩⟩
            rw [List.mem_singleton.mp y]
            exact yes
          · have := F.len
            rw [keys, List.length_append]
            omega
        | false =>
          have no : Sum.inl k ∉ Lo.map (·.2) := fun z => by
            have := hc.mpr z
            rw [ec] at this
            exact nomatch this
          refine wp_if_pos (by decide) (wpAny_bind (add_scan (s := { s with heap := h2 }) D F.flat (x0.grow keep) ?_ fun c h3 L' es3 ep3 t3 sb3 D3 c1 c2 => wpAny_pure ?_))
          · have := F.len
            have := R.few
            rw [List.length_map] at *
            omega
          · refine still (h3 := h3) (sb2.trans sb3) ⟨done ++ [(v, Sum.inl k)], todo, h3, L', e3, into, rfl, sb2.trans sb3, ⟨es3, ep3, t3, D3⟩, ?_⟩
            rcases Classical.em (Sum.inl k ∈ Lr.map (·.2)) with y | y
            · rw [c1 y]
              refine ⟨fun j => ?_, ?_, F.el, F.flat⟩
              · rw [F.mem, keys, List.mem_append]
                refine ⟨fun z => ⟨.inl z.1, z.2⟩, fun z => ⟨z.1.elim _root_.id fun e => ?_, z.2⟩⟩
                rw [List.mem_singleton.mp e]
                exact ((F.mem _).mp y).1
              · have := F.len
                rw [keys, List.length_append]
                omega
            · have pm3 := c2 y
              refine ⟨fun j => ?_, ?_, fun p m => ?_, fun p m => ?_⟩
              · rw [(pm3.map (·.2)).mem_iff, List.map_cons, List.mem_cons, F.mem, keys, List.mem_append]
                refine ⟨fun z => z.elim (fun e => ⟨.inr (List.mem_singleton.mpr e), e ▸ no⟩) fun z => ⟨.inl z.1, z.2⟩, fun z => z.1.elim (fun y => .inr ⟨y, z.2⟩) fun e => .inl (List.mem_singleton.mp e)⟩
              · have := F.len
                rw [pm3.length_eq, keys, List.length_append]
                exact Nat.succ_le_succ this
              · rcases List.mem_cons.mp (pm3.mem_iff.mp m) with e | m
                · rw [e]; exact x0
                · exact F.el p m
              · rcases List.mem_cons.mp (pm3.mem_iff.mp m) with e | m
                · rw [e]; rfl
                · exact F.flat p m
  · obtain ⟨done, todo, h2, Lr, er', el, rfl, sb2, D, F⟩ := z
    cases todo with
    | cons _ _ => exact nomatch er'
    | nil =>
      rw [List.append_nil] at el
      subst el
      refine wpAny_pure (wpAny_pure (q h2 Lr (fun c o e => (sb2.2 c (Nat.ne_of_lt (Heap.lt_size e))).trans (base c o e)) D ⟨fun k => ?_, ?_, F.el, F.flat⟩))
      · rw [F.mem, (p1.map (·.2)).mem_iff]
      · rw [List.length_map, ← l1]
        have := F.len
        rwa [List.length_map] at this
  · simp
/-- one set less another -/
theorem sub_st (R : St P w s.heap a L es ep t) (al : ∀ p ∈ L, tupQ p.2 = false) (Ro : St P w s.heap b Lo eo po to) (ao : ∀ p ∈ Lo, tupQ p.2 = false) (sz : L.length / 4 ≤ Lo.length) {Q : Value → Shared → Prop}
    (q : ∀ h' Lr, (∀ c o, s.heap.get? c = some o → h'.get? c = some o) → (∃ er pr tr, St P w h' s.heap.objs.size Lr er pr tr) → Left P w s.heap (L.map (·.2)) Lo Lr → Q (.ref s.heap.objs.size) { s with heap := h' }) :
    wpAny (model P w) A (binaryOp .Sub (.ref a) (.ref b)) Q E s := by
  have Ta : s.TypeIs (.ref a) "set" := let ⟨o, ho, hx, _⟩ := R.ob; ⟨o, ho, hx.1⟩
  have Tb : s.TypeIs (.ref b) "set" := let ⟨o, ho, hx, _⟩ := Ro.ob; ⟨o, ho, hx.1⟩
  refine wpAny_binaryOp_same Ta Tb F.fills_set_sub F.slot_set_sub (wpAny_call_entry F.slot_set_sub Ta entry_sub ?_ (F.args_set_sub_2 _ _))
  refine wpAny_bind (m := Builtin.Frozenset.slot1 "__sub__" ⟨[.ref a, .ref b], []⟩) ?_
  refine wpAny_bind (m := slotArgs "__sub__" 1 ⟨[.ref a, .ref b], []⟩) (wpAny_pure (wpAny_pure ?_))
  refine wpAny_bind (wpAny_bind (any_set Ta ?_))
  change wpAny _ _ (Builtin.Frozenset.isAnySet (.ref b)) _ _ s
  refine any_set Tb (wp_if_neg (by decide) ?_)
  first
    | refine wpAny_bind (m := Builtin.Frozenset.addrOf (.ref a)) (wpAny_pure ?_)
    | skip
  try dsimp only
  refine wpAny_bind (diff_st R al Ro ao sz fun h' Lr keep D F => ?_)
  exact wpAny_pure ⟨_, rfl, (fun e => nomatch e), q h' Lr keep D F⟩
end
end Zs

set_option Elab.async false
set_option linter.all false
set_option autoImplicit false
set_option maxRecDepth 100000
set_option maxHeartbeats 4000000
/-! S12: sets as rules of the layer. -/
namespace Zs
open PySem PySem.Spec PyProof.Rows L2 PySem.W

/-- raw rows, each of which stands for a tracked one -/
theorem rows_of {Z : V × Kx → Prop} : ∀ {L : Rw}, (∀ p ∈ L, ∃ y, Z (y, p.2) ∧ RelV y p.1) → ∃ S : Tk, S.map (·.2) = L.map (·.2) ∧ Vals (S.map (·.1)) (L.map (·.1)) ∧ ∀ q ∈ S, Z q
  | [], _ => ⟨[], rfl, .nil, fun q m => nomatch m⟩
  | p :: L, z => by
    obtain ⟨y, zy, r⟩ := z p List.mem_cons_self
    obtain ⟨S, e, v, a⟩ := rows_of fun q m => z q (List.mem_cons_of_mem _ m)
    refine ⟨(y, p.2) :: S, by rw [List.map_cons, List.map_cons, e], .cons r v, fun q m => ?_⟩
    rcases List.mem_cons.mp m with e | m
    · rw [e]; exact zy
    · exact a q m
/-- of tracked rows and raw ones, row by row -/
theorem row_in : ∀ {S : Tk} {L : Rw}, L.map (·.2) = S.map (·.2) → Vals (S.map (·.1)) (L.map (·.1)) → ∀ p ∈ L, ∃ y, (y, p.2) ∈ S ∧ RelV y p.1
  | [], [], _, _, p, m => nomatch m
  | [], _ :: _, e, _, _, _ => nomatch e
  | _ :: _, [], e, _, _, _ => nomatch e
  | q :: S, r :: L, e, v, p, m => by
    rw [List.map_cons, List.map_cons] at e
    injection e with e1 e2
    cases v with
    | cons v1 v2 =>
      rcases List.mem_cons.mp m with rfl | m
      · exact ⟨q.1, by rw [e1]; exact List.mem_cons_self, v1⟩
      · obtain ⟨y, m, r⟩ := row_in e2 v2 p m
        exact ⟨y, List.mem_cons_of_mem _ m, r⟩
theorem Like.inn {S : Tk} {L : Rw} (l : Like S L) : ∀ p ∈ L, ∃ y, (y, p.2) ∈ S ∧ RelV y p.1 := by
  obtain ⟨L0, p0, e, v⟩ := l
  exact fun p m => row_in e v p (p0.mem_iff.mpr m)
theorem vals_at {xs : List V} {us : List Value} (r : Vals xs us) : ∀ {i : Nat} {u : Value}, us[i]? = some u → ∃ x, xs[i]? = some x ∧ RelV x u := by
  induction r with
  | nil => intro i u e; exact nomatch e
  | cons r _ ih =>
    intro i u e
    cases i with
    | zero =>
      rw [List.getElem?_cons_zero, Option.some.injEq] at e
      subst e
      exact ⟨_, rfl, r⟩
    | succ i => exact ih (by simpa using e)

section
variable (P : Program) (w : World) (K : PySem.W.Frag)
/-- set(xs), xs a list -/
def rSetS : List V → Hp → VK → Prop := fun xs H Q => ∃ (l : Addr) (S0 : Tk) (c : Bool), xs = [V.ref l] ∧ SqL K H l (S0.map (·.1)) ∧ (∀ p ∈ S0, Ky K H p.1 p.2 ∧ tupQ p.2 = c) ∧ S0.length < roomFor c ∧
  ∀ a S, H a = none → (∀ p ∈ S, p ∈ S0) → (∀ k, k ∈ S.map (·.2) ↔ k ∈ S0.map (·.2)) → (S.map (·.2)).Nodup → Q (.ref a) (upd H a (SetO P w a S))
/-- sorted(a set) -/
def rSortedS : List V → Hp → VK → Prop := fun xs H Q => ∃ (a : Addr) (S : Tk), xs = [V.ref a] ∧ H a = some (SetO P w a S) ∧ (∀ p ∈ S, Ky K H p.1 p.2) ∧ (∀ k ∈ S.map (·.2), ∀ k' ∈ S.map (·.2), alike (kP k) (kP k') = true) ∧ Sortable ((S.map (·.2)).map kP) ∧
  ∀ p (S' : Tk) (ks : List Kx), H p = none → (∀ q ∈ S', q ∈ S) → ks.Perm (S.map (·.2)) → S'.map (·.2) = ks.mergeSort (dataLe false kP) → Q (.ref p) (upd H p (.lst (S'.map (·.1))))
/-- one set less another -/
def rSubS : V → V → Hp → VK → Prop := fun x y H Q => ∃ (a b : Addr) (S So : Tk), x = V.ref a ∧ y = V.ref b ∧ H a = some (SetO P w a S) ∧ H b = some (SetO P w b So) ∧ (∀ p ∈ S, Ky K H p.1 p.2 ∧ tupQ p.2 = false) ∧ (∀ p ∈ So, Ky K H p.1 p.2 ∧ tupQ p.2 = false) ∧
  S.length / 4 ≤ So.length ∧ ∀ r S', H r = none → (∀ p ∈ S', Ky K H p.1 p.2) → (∀ k, k ∈ S'.map (·.2) ↔ k ∈ S.map (·.2) ∧ k ∉ So.map (·.2)) → (S'.map (·.2)).Nodup → Q (.ref r) (upd H r (SetO P w r S'))
/-- len(a set) -/
def rLenS : List V → Hp → VK → Prop := fun xs H Q => ∃ (a : Addr) (S : Tk), xs = [V.ref a] ∧ H a = some (SetO P w a S) ∧ (∀ p ∈ S, Ky K H p.1 p.2) ∧ Q (.int S.length) H
end

section
variable {X : Cx}
theorem cr_setS (hc : X.calm = true) (hu : X.A.units + 64 < cLine) : CallR X (.type "set") (rSetS X.prog X.w X.K) := by
  intro pins s σ H xs us Q I r h
  obtain ⟨l, S0, c, rfl, hl, kc, few, q⟩ := h
  rw [Vals.ref1 r]
  obtain ⟨its, rv, pl, hz⟩ := I.list hl
  have len : its.length = S0.length := by rw [← rv.length, List.length_map]
  refine set_list (P := X.prog) (w := X.w) (Z := fun p => ∃ y, (y, p.2) ∈ S0 ∧ RelV y p.1) (ks := S0.map (·.2)) (c := c) (I.ok.hd hc) pl.isList (fun i v e => ?_) (by rw [List.size_toArray, List.length_map, len])
    (fun k m => ?_) (by rw [List.length_map]; exact few) (by omega) fun s' ⟨h', tk, L, es, ep, t, e, R, HL, keep⟩ => ?_
  · rw [List.getElem?_toArray] at e
    obtain ⟨y, ey, ry⟩ := vals_at rv e
    rw [List.getElem?_map] at ey
    obtain ⟨p, ep, rfl⟩ := Option.map_eq_some_iff.mp ey
    have mp := List.mem_of_getElem? ep
    exact ⟨p.2, by rw [List.getElem?_map, ep, Option.map_some], el_of I (kc p mp).1 ry, p.1, mp, ry⟩
  · obtain ⟨p, mp, rfl⟩ := List.mem_map.mp m
    exact (kc p mp).2
  · subst e
    obtain ⟨S, e1, v1, in1⟩ := rows_of (Z := fun q => q ∈ S0) fun p m => (HL.2 p m).2
    have none : H s.heap.objs.size = none := I.hok.fresh (Nat.le_refl _)
    refine ⟨.ref s.heap.objs.size, upd H s.heap.objs.size (SetO X.prog X.w s.heap.objs.size S), I.laid (t' := tk) keep (Nat.le_refl _) (setO_ok ⟨L, .refl _, e1.symm, v1⟩ R.st0), rfl, q _ S none in1 (fun k => ?_) (by rw [e1]; exact R.nd)⟩
    rw [e1]
    exact HL.1.mem k
theorem cr_sortedS (hc : X.calm = true) (hu : X.A.units + 64 < cLine) : CallR X (.builtin "sorted") (rSortedS X.prog X.w X.K) := by
  intro pins s σ H xs us Q I r h
  obtain ⟨a, S, rfl, ha, ky, al, so, q⟩ := h
  rw [Vals.ref1 r]
  obtain ⟨L, es, ep, t, l, R⟩ := set_at I ha ky
  have km : ∀ k, k ∈ L.map (·.2) → k ∈ S.map (·.2) := fun k m => l.keys.mem_iff.mp m
  refine sorted_st R (I.ok.hd hc) (fun k m k' m' => al k (km k m) k' (km k' m')) ?_ (by omega) fun s' p n out ks keep g o big hp pm eo => ?_
  · have mm : ∀ d, d ∈ (L.map (·.2)).map kP → d ∈ (S.map (·.2)).map kP := fun d m => (l.keys.map kP).mem_iff.mp m
    exact so.elim (fun z => .inl fun d m => z d (mm d m)) fun z => .inr fun d m => z d (mm d m)
  · have none : H p = none := I.hok.fresh big
    have rel : ∀ {us : List Value} {ks : List Kx}, EachIs (fun v k => (v, k) ∈ L) us ks → ∃ S' : Tk, S'.map (·.2) = ks ∧ Vals (S'.map (·.1)) us ∧ ∀ q ∈ S', q ∈ S := by
      intro us ks e
      induction e with
      | nil => exact ⟨[], rfl, .nil, fun q m => (nomatch m)⟩
      | cons z _ ih =>
        obtain ⟨S', e1, v1, in1⟩ := ih
        obtain ⟨y, my, ry⟩ := l.inn _ z
        refine ⟨(y, _) :: S', by rw [List.map_cons, e1], .cons ry v1, fun q m => ?_⟩
        rcases List.mem_cons.mp m with e | m
        · rw [e]; exact my
        · exact in1 q m
    obtain ⟨S', e1, v1, in1⟩ := rel eo
    have sz : (S'.map (·.1)).length ≤ sizeLine := by
      rw [List.length_map, ← List.length_map (f := fun x : V × Kx => x.2), e1, (List.mergeSort_perm _ _).length_eq, pm.length_eq, List.length_map]
      exact fits_of_scanBound R.few
    have J : Inv X pins σ (upd H p (.lst (S'.map (·.1)))) { s with heap := s'.heap, gens := s'.gens, drawn := s'.drawn, toks := s'.toks } :=
      I.call (ch := []) (Un.laid keep big none) (I.hok.laid keep big ⟨sz, out, n, v1, hp⟩) (by rw [g]; exact I.bare) fun _ z => nomatch z
    have e : s' = { s with heap := s'.heap, gens := s'.gens, drawn := s'.drawn, toks := s'.toks } := by
      cases s'; cases s; cases o; rfl
    rw [e]
    exact ⟨.ref p, _, J, rfl, q p S' ks none in1 (pm.trans l.keys) e1⟩
theorem or_subS : OpR X (binaryOp .Sub) (rSubS X.prog X.w X.K) := by
  intro pins s σ H x y v u Q I rx ry h
  obtain ⟨a, b, S, So, rfl, rfl, ha, hb, ks, ko, sz, q⟩ := h
  cases rx
  cases ry
  obtain ⟨L, es, ep, t, l, R⟩ := set_at I ha fun p m => (ks p m).1
  obtain ⟨Lo, eo, po, to, lo, Ro⟩ := set_at I hb fun p m => (ko p m).1
  have flat : ∀ {S : Tk} {L : Rw}, Like S L → (∀ p ∈ S, Ky X.K H p.1 p.2 ∧ tupQ p.2 = false) → ∀ p ∈ L, tupQ p.2 = false := fun l z p m => by
    obtain ⟨y, my, _⟩ := l.inn p m
    exact (z _ my).2
  refine sub_st R (flat l ks) Ro (flat lo ko) (by rw [l.len, lo.len]; exact sz) fun h' Lr keep ⟨er, pr, tr, D⟩ F => ?_
  have none : H s.heap.objs.size = none := I.hok.fresh (Nat.le_refl _)
  obtain ⟨S', e1, v1, in1⟩ := rows_of (Z := fun q => Ky X.K H q.1 q.2) (L := Lr) fun p m => by
    have x := F.el p m
    have f := F.flat p m
    obtain ⟨v, k⟩ := p
    cases k with
    | inr _ => exact nomatch f
    | inl k =>
      refine ⟨kV k, rfl, ?_⟩
      rcases keyIs_shape x with ⟨i, c, rfl, rfl⟩ | ⟨z, c, rfl, rfl⟩
      · exact ⟨c, rfl⟩
      · exact ⟨c, rfl⟩
  refine ⟨.ref s.heap.objs.size, upd H s.heap.objs.size (SetO X.prog X.w s.heap.objs.size S'), I.laid (t' := s.toks) keep (Nat.le_refl _) (setO_ok ⟨Lr, .refl _, e1.symm, v1⟩ D.st0), rfl, q _ S' none in1 (fun k => ?_) (by rw [e1]; exact D.nd)⟩
  rw [e1, F.mem, l.keys.mem_iff, lo.keys.mem_iff]
theorem cr_lenS : CallR X (.builtin "len") (rLenS X.prog X.w X.K) := by
  intro pins s σ H xs us Q I r h
  obtain ⟨a, S, rfl, ha, ky, q⟩ := h
  rw [Vals.ref1 r]
  obtain ⟨L, es, ep, t, l, R⟩ := set_at I ha ky
  obtain ⟨o, ho, hx, hd⟩ := R.ob
  have few := R.few
  have b : scanBound = 4096 := rfl
  have e : es.size = S.length := by rw [R.size, l.len]
  refine call_len_set ho hx hd R.fit (by rw [e]; have := l.len; omega) ⟨.int S.length, H, I.tok _, ⟨_, by rw [e]⟩, q⟩
end
end Zs

set_option Elab.async false
set_option linter.all false
set_option autoImplicit false
set_option maxRecDepth 100000
set_option maxHeartbeats 4000000
/-! S13: sorted(a list of data). -/
namespace Zs
open PySem PySem.Spec PyProof.Rows L2 PySem.W

abbrev Bs := List (V × PyData)
def ordB (bs : Bs) : Bs := bs.mergeSort (dataLe false fun b => b.2)
def rSortD (K : PySem.W.Frag) : List V → Hp → VK → Prop := fun xs H Q => ∃ (a : Addr) (bs : Bs), xs = [V.ref a] ∧ SqL K H a (bs.map (·.1)) ∧ (∀ b ∈ bs, Dp K H b.1 b.2) ∧ AllAlike (bs.map fun b => b.2) ∧ Sortable (bs.map fun b => b.2) ∧ (∀ b ∈ bs, b.2.depth ≤ 30) ∧
  ∀ p, H p = none → Q (.ref p) (upd H p (.lst ((ordB bs).map (·.1))))
theorem each_vals {R : V × PyData → Value → Prop} : ∀ {bs : Bs} {us : List Value}, Vals (bs.map (·.1)) us → (∀ b u, b ∈ bs → RelV b.1 u → R b u) → EachIs (fun u b => R b u) us bs
  | [], _, .nil, _ => .nil
  | b :: bs, _, .cons r t, z => .cons (z b _ List.mem_cons_self r) (each_vals t fun b u m => z b u (List.mem_cons_of_mem _ m))
theorem vals_each : ∀ {bs : Bs} {us : List Value}, EachIs (fun u (b : V × PyData) => RelV b.1 u) us bs → Vals (bs.map (·.1)) us
  | _, _, .nil => .nil
  | _, _, .cons r t => .cons r (vals_each t)
theorem cr_sortD {X : Cx} (hu : X.A.units + 64 < cLine) : CallR X (.builtin "sorted") (rSortD X.K) := by
  intro pins s σ H xs us Q I r h
  obtain ⟨a, bs, rfl, ha, dp, al, so, dd, q⟩ := h
  rw [Vals.ref1 r]
  obtain ⟨its, rv, pl, hz⟩ := I.list ha
  have e1 : EachIs (fun u (b : V × PyData) => RelV b.1 u) its bs := each_vals rv fun b u _ r => r
  have e2 : EachIs (fun u (b : V × PyData) => ∃ as, Reads s.heap u b.2 as) its bs := each_vals (R := fun b u => ∃ as, Reads s.heap u b.2 as) rv fun b u m r => Dp.reads I b.2 b.1 u (dp b m) r
  have len : bs.length ≤ sizeLine := by rw [List.length_map] at hz; exact hz
  refine sorted_data (enc := fun b : V × PyData => b.2) pl.isList e1 e2 al so len (fun b m => by have := dd b m; omega) fun out lo eo => ?_
  obtain ⟨n, hn⟩ := sortedAll_at s.heap its (List.toArray out)
  have none : H (s.heap.objs.size + 1) = none := I.hok.fresh (Nat.le_succ _)
  refine ⟨.ref (s.heap.objs.size + 1), upd H (s.heap.objs.size + 1) (.lst ((ordB bs).map (·.1))), I.laid (t' := s.toks) (fun _ _ => sortedAll_old) (Nat.le_succ _) ⟨?_, out, n, vals_each eo, hn⟩, rfl, q _ none⟩
  rw [List.length_map, ordB, (List.mergeSort_perm _ _).length_eq]
  exact len
end Zs

set_option Elab.async false
set_option linter.all false
set_option autoImplicit false
set_option maxRecDepth 100000
set_option maxHeartbeats 2000000
/-! S14: one plain sorting, equal to the machine's; there is just one sorted row of distinct keys. -/
namespace Zs
open PySem PySem.Spec PyProof.Rows L2 PySem.W

section
variable {α : Type} {le : α → α → Bool}
def insO (le : α → α → Bool) (x : α) : List α → List α
  | [] => [x]
  | y :: r => if le x y = true then x :: y :: r else y :: insO le x r
def isort (le : α → α → Bool) : List α → List α
  | [] => []
  | x :: r => insO le x (isort le r)
theorem insO_at {x : α} : ∀ {a b : List α}, (∀ y ∈ a, (!le x y) = true) → (∀ y ∈ b, le x y = true) → insO le x (a ++ b) = a ++ x :: b
  | [], [], _, _ => rfl
  | [], y :: b, _, h => by
    show (if le x y = true then x :: y :: b else _) = _
    rw [if_pos (h y List.mem_cons_self)]
    rfl
  | y :: a, b, h, g => by
    show (if le x y = true then _ else y :: insO le x (a ++ b)) = y :: (a ++ x :: b)
    have := h y List.mem_cons_self
    rw [if_neg (by simpa using this), insO_at (fun z m => h z (List.mem_cons_of_mem _ m)) g]
theorem msort_eq (tr : ∀ a b c, le a b = true → le b c = true → le a c = true) (to : ∀ a b, (le a b || le b a) = true) : ∀ l : List α, l.mergeSort le = isort le l
  | [] => by rw [List.mergeSort_nil]; rfl
  | x :: l => by
    obtain ⟨a, b, e1, e2, h⟩ := List.mergeSort_cons tr to x l
    have s : (a ++ x :: b).Pairwise (fun y z => le y z = true) := e1 ▸ List.pairwise_mergeSort tr to (x :: l)
    rw [e1, isort, ← msort_eq tr to l, e2, insO_at h fun y m => (List.pairwise_cons.mp (List.pairwise_append.mp s).2.1).1 y m]
/-- two sorted rows of the same things are one -/
theorem sorted_one : ∀ {l m : List α}, (∀ a ∈ l, ∀ b ∈ l, le a b = true → le b a = true → a = b) → l.Pairwise (fun y z => le y z = true) → m.Pairwise (fun y z => le y z = true) → l.Perm m → l = m
  | [], m, _, _, _, p => p.nil_eq
  | x :: l, [], _, _, _, p => nomatch p.length_eq
  | x :: l, y :: m, an, s, t, p => by
    have e : x = y := by
      rcases List.mem_cons.mp (p.mem_iff.mp List.mem_cons_self) with e | h1
      · exact e
      · rcases List.mem_cons.mp (p.mem_iff.mpr (List.mem_cons_self (a := y) (l := m))) with e | h2
        · exact e.symm
        · exact an x List.mem_cons_self y (List.mem_cons_of_mem _ h2) ((List.pairwise_cons.mp s).1 y h2) ((List.pairwise_cons.mp t).1 x h1)
    subst e
    rw [sorted_one (fun a ha b hb => an a (List.mem_cons_of_mem _ ha) b (List.mem_cons_of_mem _ hb)) (List.pairwise_cons.mp s).2 (List.pairwise_cons.mp t).2 p.cons_inv]
end

/-- x not above y -/
def leP (x y : PyData) : Bool := !dataLt y x
theorem leP_tr (x y z : PyData) (h : leP x y = true) (g : leP y z = true) : leP x z = true := by
  unfold leP at *
  rw [Bool.not_eq_true'] at *
  cases e : dataLt z x with
  | false => rfl
  | true =>
    rcases lex_negTrans (O := itemOrd) (keyToks z) (keyToks y) (keyToks x) e with k | k
    · rw [show dataLt z y = true from k] at g; exact nomatch g
    · rw [show dataLt y x = true from k] at h; exact nomatch h
theorem leP_to (x y : PyData) : (leP x y || leP y x) = true := by
  unfold leP
  cases e : dataLt y x with
  | false => rfl
  | true =>
    cases e' : dataLt x y with
    | false => rfl
    | true =>
      have := lex_trans (O := itemOrd) (keyToks y) (keyToks x) (keyToks y) e e'
      rw [lex_irrefl] at this
      exact nomatch this
theorem leP_an {x y : PyData} (h : leP x y = true) (g : leP y x = true) : keyToks x = keyToks y := by
  unfold leP at *
  rw [Bool.not_eq_true'] at *
  exact lex_total (O := itemOrd) (keyToks x) (keyToks y) g h
abbrev leK (enc : Kx → PyData) (a b : Kx) : Bool := leP (enc a) (enc b)
theorem leK_tr (enc : Kx → PyData) (a b c : Kx) (h : leK enc a b = true) (g : leK enc b c = true) : leK enc a c = true := leP_tr _ _ _ h g
theorem leK_to (enc : Kx → PyData) (a b : Kx) : (leK enc a b || leK enc b a) = true := leP_to _ _
theorem k1_toks {a b : Key} (h : keyToks (k1P a) = keyToks (k1P b)) : a = b := by
  cases a with
  | inl i => cases b with
    | inl j => simpa [k1P, keyToks] using h
    | inr y => simp [k1P, keyToks] at h
  | inr x => cases b with
    | inl j => simp [k1P, keyToks] at h
    | inr y =>
      simp only [k1P, keyToks, List.cons.injEq, Sum.inr.injEq, and_true] at h
      exact congrArg Sum.inr (str_of_cps h)
theorem k1_one (a : Key) : ∃ t, keyToks (k1P a) = [t] := by cases a <;> exact ⟨_, rfl⟩
theorem kAll_toks : ∀ {a b : List Key}, keyToksAll (a.map k1P) = keyToksAll (b.map k1P) → a = b
  | [], [], _ => rfl
  | [], y :: b, h => by
    rw [List.map_cons, toks_all_cons] at h
    simp [keyToksAll] at h
  | x :: a, [], h => by
    rw [List.map_cons, toks_all_cons] at h
    simp [keyToksAll] at h
  | x :: a, y :: b, h => by
    rw [List.map_cons, List.map_cons, toks_all_cons, toks_all_cons] at h
    obtain ⟨t, et⟩ := k1_one x
    obtain ⟨u, eu⟩ := k1_one y
    rw [et, eu] at h
    simp only [List.cons_append, List.nil_append, List.cons.injEq, true_and] at h
    rw [(k1_toks (by rw [et, eu, h.1]) : x = y), (kAll_toks h.2 : a = b)]
theorem kP_toks {a b : Kx} (al : alike (kP a) (kP b) = true) (h : keyToks (kP a) = keyToks (kP b)) : a = b := by
  cases a with
  | inl a => cases b with
    | inl b => exact congrArg Sum.inl (k1_toks h)
    | inr b => cases a <;> simp [kP, k1P, alike] at al
  | inr a => cases b with
    | inl b => cases b <;> simp [kP, k1P, alike] at al
    | inr b =>
      simp only [kP, keyToks] at h
      exact congrArg Sum.inr (kAll_toks h)
/-- the keys in their order -/
def sortK (ks : List Kx) : List Kx := isort (leK kP) ks
def sortableK (ks : List Kx) : Bool := (ks.all fun a => ks.all fun b => alike (kP a) (kP b)) && ((ks.all fun k => match k with | .inr (_ :: _) => true | _ => false) || ks.all fun k => !tupQ k)
theorem sortable_al {ks : List Kx} (h : sortableK ks = true) : ∀ a ∈ ks, ∀ b ∈ ks, alike (kP a) (kP b) = true := fun a ha b hb => by
  unfold sortableK at h
  rw [Bool.and_eq_true] at h
  exact List.all_eq_true.mp (List.all_eq_true.mp h.1 a ha) b hb
theorem sortable_so {ks : List Kx} (h : sortableK ks = true) : Sortable (ks.map kP) := by
  unfold sortableK at h
  rw [Bool.and_eq_true, Bool.or_eq_true] at h
  rcases h.2 with h | h
  · refine .inl fun d m => ?_
    obtain ⟨k, mk, rfl⟩ := List.mem_map.mp m
    have := List.all_eq_true.mp h k mk
    match k, this with
    | .inr (x :: r), _ => exact ⟨k1P x, r.map k1P, rfl⟩
  · refine .inr fun d m => ?_
    obtain ⟨k, mk, rfl⟩ := List.mem_map.mp m
    have := List.all_eq_true.mp h k mk
    match k, this with
    | .inl (.inl _), _ => exact ⟨fun e => (nomatch e), fun _ e => (nomatch e)⟩
    | .inl (.inr _), _ => exact ⟨fun e => (nomatch e), fun _ e => (nomatch e)⟩
theorem sortK_perm (ks : List Kx) : (sortK ks).Perm ks := by
  unfold sortK
  rw [← msort_eq (leK_tr kP) (leK_to kP)]
  exact List.mergeSort_perm _ _
/-- whatever the order in which they come -/
theorem sortK_eq {ks js : List Kx} (h : sortableK ks = true) (p : js.Perm ks) : js.mergeSort (dataLe false kP) = sortK ks := by
  have s1 : (js.mergeSort (leK kP)).Pairwise (fun y z => leK kP y z = true) := List.pairwise_mergeSort (leK_tr kP) (leK_to kP) js
  have s2 : (ks.mergeSort (leK kP)).Pairwise (fun y z => leK kP y z = true) := List.pairwise_mergeSort (leK_tr kP) (leK_to kP) ks
  rw [show dataLe false kP = leK kP from rfl, sortK, ← msort_eq (leK_tr kP) (leK_to kP)]
  refine sorted_one (le := leK kP) (fun a ha b hb h1 h2 => ?_) s1 s2 ((List.mergeSort_perm _ _).trans (p.trans (List.mergeSort_perm _ _).symm))
  have ia : a ∈ ks := p.mem_iff.mp ((List.mergeSort_perm _ _).mem_iff.mp ha)
  have ib : b ∈ ks := p.mem_iff.mp ((List.mergeSort_perm _ _).mem_iff.mp hb)
  exact kP_toks (sortable_al h a ia b ib) (leP_an h1 h2)
end Zs

set_option Elab.async false
set_option linter.all false
set_option autoImplicit false
set_option maxRecDepth 100000
set_option maxHeartbeats 2000000
/-! Z1: plain data with marks of ownership, what stands for them in the tracked heap, roots. -/
namespace Z
open PySem PySem.Spec PyProof.Rows L2

abbrev DK := Sum Key (List Key)

/-- data; a list or dict bears true where one root alone holds it -/
inductive D where
  | non | bl (b : Bool) | int (i : Int) | str (s : Str)
  | tup (xs : List D) | lck (xs : List D) | lst (o : Bool) (xs : List D) | dic (o : Bool) (kvs : List (DK × D)) | st (o : Bool) (ks : List DK)
  | ob (c : Str) | obf (c f : Str) (x : D)

mutual
  def frz : D → D
    | .tup xs => .tup (frzL xs)
    | .lck xs => .lck (frzL xs)
    | .lst _ xs => .lst false (frzL xs)
    | .dic _ kvs => .dic false (frzK kvs)
    | .non => .non
    | .bl b => .bl b
    | .int i => .int i
    | .str s => .str s
    | .st _ ks => .st false ks
    | .ob c => .ob c
    | .obf c f x => .obf c f (frz x)
  def frzL : List D → List D
    | [] => []
    | x :: r => frz x :: frzL r
  def frzK : List (DK × D) → List (DK × D)
    | [] => []
    | (k, x) :: r => (k, frz x) :: frzK r
end

/-- a dict's entries, as the layer tracks them: plain keys, or tuples of plain keys -/
inductive Ent : List (DK × V) → HO → Prop where
  | plain (kvs : List (Key × V)) : Ent (kvs.map fun p => (Sum.inl p.1, p.2)) (.dK kvs)
  | tuple (kvs : List (List Key × V)) : Ent (kvs.map fun p => (Sum.inr p.1, p.2)) (.dT kvs)

/-- the tables of code objects, which grow; the program and the world -/
class Tbs where
  tb : List Addr
  P : Program
  w : World
variable [Tbs]
/-- the class of that name -/
def Cls (K : PySem.W.Frag) (c : Str) (C : Addr) : Prop := PySem.W.nsIn K mainGlobals c = some (some (.ref C))
mutual
  /-- v stands for d, whose objects stand in Hk and stay -/
  inductive Sh (K : PySem.W.Frag) (Hk : Hp) : V → D → Prop where
    | non : Sh K Hk .non .non
    | bl (b) : Sh K Hk (.bl b) (.bl b)
    | int (i) : Sh K Hk (.int i) (.int i)
    | str (s) : Sh K Hk (.str s) (.str s)
    | tup {a vs ds} : SqT K Hk a vs → ShL K Hk vs ds → Sh K Hk (.ref a) (.tup ds)
    | lck {a vs ds} : SqL K Hk a vs → ShL K Hk vs ds → Sh K Hk (.ref a) (.lck ds)
    | lst {a vs ds} : Hk a = some (.lst vs) → ShL K Hk vs ds → Sh K Hk (.ref a) (.lst false ds)
    | dic {a o kvs ds} : Hk a = some o → Ent kvs o → ShK K Hk kvs ds → Sh K Hk (.ref a) (.dic false ds)
    | st {a S ks} : Hk a = some (Zs.SetO Tbs.P Tbs.w a S) → (∀ p ∈ S, Zs.Ky K Hk p.1 p.2) → (S.map (·.2)).Perm ks → (S.map (·.2)).Nodup → Sh K Hk (.ref a) (.st false ks)
    | ob {a C c} : Cls K c C → Hk a = some (exo a C none) → Sh K Hk (.ref a) (.ob c)
    | obf {a C dx c f v d} : Cls K c C → Hk a = some (exo a C (some dx)) → Hk dx = some (exd dx [(f, v)]) → Sh K Hk v d → Sh K Hk (.ref a) (.obf c f d)
  inductive ShL (K : PySem.W.Frag) (Hk : Hp) : List V → List D → Prop where
    | nil : ShL K Hk [] []
    | cons {v d vs ds} : Sh K Hk v d → ShL K Hk vs ds → ShL K Hk (v :: vs) (d :: ds)
  inductive ShK (K : PySem.W.Frag) (Hk : Hp) : List (DK × V) → List (DK × D) → Prop where
    | nil : ShK K Hk [] []
    | cons {k v d vs ds} : Sh K Hk v d → ShK K Hk vs ds → ShK K Hk ((k, v) :: vs) ((k, d) :: ds)
end

mutual
  /-- v stands for d in H; fp: the objects that are its own -/
  inductive Ow (K : PySem.W.Frag) (H Hk : Hp) : V → D → List Addr → Prop where
    | sh {v d} : Sh K Hk v d → Ow K H Hk v d []
    | lst {a vs ds fp} : H a = some (.lst vs) → OwL K H Hk vs ds fp → Ow K H Hk (.ref a) (.lst true ds) (a :: fp)
    | dic {a o kvs ds fp} : H a = some o → Ent kvs o → OwK K H Hk kvs ds fp → Ow K H Hk (.ref a) (.dic true ds) (a :: fp)
    | st {a S ks} : H a = some (Zs.SetO Tbs.P Tbs.w a S) → (∀ p ∈ S, Zs.Ky K Hk p.1 p.2) → (S.map (·.2)).Perm ks → (S.map (·.2)).Nodup → Ow K H Hk (.ref a) (.st true ks) [a]
  inductive OwL (K : PySem.W.Frag) (H Hk : Hp) : List V → List D → List Addr → Prop where
    | nil : OwL K H Hk [] [] []
    | cons {v d f vs ds g} : Ow K H Hk v d f → OwL K H Hk vs ds g → OwL K H Hk (v :: vs) (d :: ds) (f ++ g)
  inductive OwK (K : PySem.W.Frag) (H Hk : Hp) : List (DK × V) → List (DK × D) → List Addr → Prop where
    | nil : OwK K H Hk [] [] []
    | cons {k v d f vs ds g} : Ow K H Hk v d f → OwK K H Hk vs ds g → OwK K H Hk ((k, v) :: vs) ((k, d) :: ds) (f ++ g)
end

def Sub (H H' : Hp) : Prop := ∀ a o, H a = some o → H' a = some o
theorem Sub.rfl {H : Hp} : Sub H H := fun _ _ h => h
theorem Sub.tr {H H1 H2 : Hp} (p : Sub H H1) (q : Sub H1 H2) : Sub H H2 := fun a o h => q a o (p a o h)
theorem Sub.rd {H H' : Hp} {a : Addr} {o : HO} (p : Sub H H') (h : Rd H a o) : Rd H' a o :=
  h.elim (fun z => .inl (p a _ z)) fun ⟨u, z⟩ => .inr ⟨u, p a _ z⟩
theorem Sub.lst {K : PySem.W.Frag} {H H' : Hp} {a : Addr} {vs : List V} (p : Sub H H') (h : SqL K H a vs) : SqL K H' a vs :=
  h.elim (fun z => .inl (p.rd z)) .inr
theorem Sub.tup {K : PySem.W.Frag} {H H' : Hp} {a : Addr} {vs : List V} (p : Sub H H') (h : SqT K H a vs) : SqT K H' a vs :=
  h.elim (fun z => .inl (p.rd z)) .inr

theorem Zs_Ky_sub {K : PySem.W.Frag} {H H' : Hp} (p : Sub H H') {y : V} {k : Zs.Kx} (x : Zs.Ky K H y k) : Zs.Ky K H' y k := by
  cases k with
  | inl k => exact x
  | inr ks =>
    obtain ⟨b, e, t⟩ := x
    exact ⟨b, e, p.tup t⟩
section
variable {K : PySem.W.Frag} {H H' Hk Hk' : Hp}
mutual
  theorem Sh.sub (p : Sub Hk Hk') : ∀ {v d}, Sh K Hk v d → Sh K Hk' v d
    | _, _, .non => .non
    | _, _, .bl b => .bl b
    | _, _, .int i => .int i
    | _, _, .str s => .str s
    | _, _, .tup h r => .tup (p.tup h) (r.sub p)
    | _, _, .lck h r => .lck (p.lst h) (r.sub p)
    | _, _, .lst h r => .lst (p _ _ h) (r.sub p)
    | _, _, .dic h e r => .dic (p _ _ h) e (r.sub p)
    | _, _, .st h k q n => .st (p _ _ h) (fun r m => Zs_Ky_sub p (k r m)) q n
    | _, _, .ob c h => .ob c (p _ _ h)
    | _, _, .obf c h h2 r => .obf c (p _ _ h) (p _ _ h2) (r.sub p)
  theorem ShL.sub (p : Sub Hk Hk') : ∀ {v d}, ShL K Hk v d → ShL K Hk' v d
    | _, _, .nil => .nil
    | _, _, .cons h r => .cons (h.sub p) (r.sub p)
  theorem ShK.sub (p : Sub Hk Hk') : ∀ {v d}, ShK K Hk v d → ShK K Hk' v d
    | _, _, .nil => .nil
    | _, _, .cons h r => .cons (h.sub p) (r.sub p)
end
mutual
  theorem Ow.sub (p : Sub Hk Hk') : ∀ {v d fp}, (∀ a ∈ fp, H' a = H a) → Ow K H Hk v d fp → Ow K H' Hk' v d fp
    | _, _, _, _, .sh h => .sh (h.sub p)
    | _, _, _, q, .lst h r => .lst ((q _ List.mem_cons_self).trans h) (r.sub p fun b z => q b (List.mem_cons_of_mem _ z))
    | _, _, _, q, .dic h e r => .dic ((q _ List.mem_cons_self).trans h) e (r.sub p fun b z => q b (List.mem_cons_of_mem _ z))
    | _, _, _, q, .st h k m n => .st ((q _ List.mem_cons_self).trans h) (fun r z => Zs_Ky_sub p (k r z)) m n
  theorem OwL.sub (p : Sub Hk Hk') : ∀ {v d fp}, (∀ a ∈ fp, H' a = H a) → OwL K H Hk v d fp → OwL K H' Hk' v d fp
    | _, _, _, _, .nil => .nil
    | _, _, _, q, .cons h r => .cons (h.sub p fun b z => q b (List.mem_append_left _ z)) (r.sub p fun b z => q b (List.mem_append_right _ z))
  theorem OwK.sub (p : Sub Hk Hk') : ∀ {v d fp}, (∀ a ∈ fp, H' a = H a) → OwK K H Hk v d fp → OwK K H' Hk' v d fp
    | _, _, _, _, .nil => .nil
    | _, _, _, q, .cons h r => .cons (h.sub p fun b z => q b (List.mem_append_left _ z)) (r.sub p fun b z => q b (List.mem_append_right _ z))
end
/-! what is one's own stands in H -/
mutual
  theorem Ow.there : ∀ {v d fp}, Ow K H Hk v d fp → ∀ a ∈ fp, ∃ o, H a = some o
    | _, _, _, .sh _, _, z => nomatch z
    | _, _, _, .lst h r, b, z => (List.mem_cons.mp z).elim (fun e => e ▸ ⟨_, h⟩) (r.there b)
    | _, _, _, .dic h _ r, b, z => (List.mem_cons.mp z).elim (fun e => e ▸ ⟨_, h⟩) (r.there b)
    | _, _, _, .st h _ _ _, b, z => (List.mem_cons.mp z).elim (fun e => e ▸ ⟨_, h⟩) (fun z => nomatch z)
  theorem OwL.there : ∀ {v d fp}, OwL K H Hk v d fp → ∀ a ∈ fp, ∃ o, H a = some o
    | _, _, _, .nil, _, z => nomatch z
    | _, _, _, .cons h r, b, z => (List.mem_append.mp z).elim (h.there b) (r.there b)
  theorem OwK.there : ∀ {v d fp}, OwK K H Hk v d fp → ∀ a ∈ fp, ∃ o, H a = some o
    | _, _, _, .nil, _, z => nomatch z
    | _, _, _, .cons h r, b, z => (List.mem_append.mp z).elim (h.there b) (r.there b)
end
mutual
  theorem Sh.frz : ∀ {v d}, Sh K Hk v d → frz d = d
    | _, _, .non => rfl
    | _, _, .bl b => rfl
    | _, _, .int i => rfl
    | _, _, .str s => rfl
    | _, _, .tup _ r => congrArg D.tup r.frz
    | _, _, .lck _ r => congrArg D.lck r.frz
    | _, _, .lst _ r => congrArg (D.lst false) r.frz
    | _, _, .dic _ _ r => congrArg (D.dic false) r.frz
    | _, _, .st _ _ _ _ => rfl
    | _, _, .ob _ _ => rfl
    | _, _, .obf _ _ _ r => congrArg (D.obf _ _) r.frz
  theorem ShL.frz : ∀ {v d}, ShL K Hk v d → frzL d = d
    | _, _, .nil => rfl
    | _, _, .cons (ds := ds) h r => (show Z.frz _ :: frzL ds = _ by rw [h.frz, r.frz])
  theorem ShK.frz : ∀ {v d}, ShK K Hk v d → frzK d = d
    | _, _, .nil => rfl
    | _, _, .cons (k := k) (ds := ds) h r => (show (k, Z.frz _) :: frzK ds = _ by rw [h.frz, r.frz])
end
/-! frozen: its own objects go over to those that stay -/
mutual
  theorem Ow.froz (p : Sub Hk Hk') : ∀ {v d fp}, (∀ a ∈ fp, Hk' a = H a) → Ow K H Hk v d fp → Sh K Hk' v (frz d)
    | _, _, _, _, .sh h => by rw [h.frz]; exact h.sub p
    | _, _, _, q, .lst h r => .lst ((q _ List.mem_cons_self).trans h) (r.froz p fun b z => q b (List.mem_cons_of_mem _ z))
    | _, _, _, q, .dic h e r => .dic ((q _ List.mem_cons_self).trans h) e (r.froz p fun b z => q b (List.mem_cons_of_mem _ z))
    | _, _, _, q, .st h k m n => .st ((q _ List.mem_cons_self).trans h) (fun r z => Zs_Ky_sub p (k r z)) m n
  theorem OwL.froz (p : Sub Hk Hk') : ∀ {v d fp}, (∀ a ∈ fp, Hk' a = H a) → OwL K H Hk v d fp → ShL K Hk' v (frzL d)
    | _, _, _, _, .nil => .nil
    | _, _, _, q, .cons h r => .cons (h.froz p fun b z => q b (List.mem_append_left _ z)) (r.froz p fun b z => q b (List.mem_append_right _ z))
  theorem OwK.froz (p : Sub Hk Hk') : ∀ {v d fp}, (∀ a ∈ fp, Hk' a = H a) → OwK K H Hk v d fp → ShK K Hk' v (frzK d)
    | _, _, _, _, .nil => .nil
    | _, _, _, q, .cons h r => .cons (h.froz p fun b z => q b (List.mem_append_left _ z)) (r.froz p fun b z => q b (List.mem_append_right _ z))
end
end

/-! ### roots -/
abbrev Rt := List (V × D)
def Tabs (H : Hp) : Prop := ∀ P ∈ Tbs.tb, GxR.TabG H P
inductive OwR (K : PySem.W.Frag) (H Hk : Hp) : Rt → List Addr → Prop where
  | nil : Tabs H → OwR K H Hk [] Tbs.tb
  | cons {v d f rs g} : Ow K H Hk v d f → OwR K H Hk rs g → OwR K H Hk ((v, d) :: rs) (f ++ g)
/-- the roots stand, each apart from all others -/
def Rel (K : PySem.W.Frag) (H : Hp) (rs : Rt) : Prop := ∃ Hk fp, Sub Hk H ∧ OwR K H Hk rs fp ∧ fp.Nodup ∧ ∀ a ∈ fp, Hk a = none

section
variable {K : PySem.W.Frag} {H H' Hk Hk' : Hp} {rs rs' : Rt}
theorem Tabs.eq (t : Tabs H) (q : ∀ a ∈ Tbs.tb, H' a = H a) : Tabs H' := fun P hP => let ⟨ps, e, r⟩ := t P hP; ⟨ps, (q P hP).trans e, r⟩
theorem OwR.sub (p : Sub Hk Hk') : ∀ {rs : Rt} {fp}, (∀ a ∈ fp, H' a = H a) → OwR K H Hk rs fp → OwR K H' Hk' rs fp
  | _, _, q, .nil t => .nil (t.eq q)
  | _, _, q, .cons h r => .cons (h.sub p fun b z => q b (List.mem_append_left _ z)) (r.sub p fun b z => q b (List.mem_append_right _ z))
theorem OwR.there : ∀ {rs : Rt} {fp}, OwR K H Hk rs fp → ∀ a ∈ fp, ∃ o, H a = some o
  | _, _, .nil t, a, z => let ⟨_, e, _⟩ := t a z; ⟨_, e⟩
  | _, _, .cons h r, b, z => (List.mem_append.mp z).elim (h.there b) (r.there b)
theorem OwR.perm {rs rs' : Rt} (q : rs.Perm rs') : ∀ {fp}, OwR K H Hk rs fp → ∃ fp', fp.Perm fp' ∧ OwR K H Hk rs' fp' := by
  induction q with
  | nil => intro fp h; exact ⟨fp, .refl _, h⟩
  | cons x _ ih =>
    intro fp h
    cases h with
    | cons h r =>
      obtain ⟨g, pg, r'⟩ := ih r
      exact ⟨_, List.Perm.append_left _ pg, .cons h r'⟩
  | swap x y l =>
    intro fp h
    cases h with
    | cons h r =>
      cases r with
      | cons h2 r2 =>
        refine ⟨_, ?_, .cons h2 (.cons h r2)⟩
        rw [← List.append_assoc, ← List.append_assoc]
        exact List.Perm.append_right _ List.perm_append_comm
  | trans _ _ i1 i2 =>
    intro fp h
    obtain ⟨g, p1, r1⟩ := i1 h
    obtain ⟨g', p2, r2⟩ := i2 r1
    exact ⟨g', p1.trans p2, r2⟩
theorem Rel.perm (h : Rel K H rs) (q : rs.Perm rs') : Rel K H rs' := by
  obtain ⟨Hk, fp, s, o, n, k⟩ := h
  obtain ⟨fp', p, o'⟩ := o.perm q
  exact ⟨Hk, fp', s, o', p.nodup n, fun a z => k a (p.symm.subset z)⟩
theorem Rel.tail {x} (h : Rel K H (x :: rs)) : Rel K H rs := by
  obtain ⟨Hk, fp, s, o, n, k⟩ := h
  cases o with
  | cons h r => exact ⟨Hk, _, s, r, (List.nodup_append.mp n).2.1, fun a z => k a (List.mem_append_right _ z)⟩
/-- what is frozen is shared -/
theorem Ow.shared {v d f} (h : Ow K H Hk v d f) (e : frz d = d) : f = [] ∧ Sh K Hk v d := by
  cases h with
  | sh h => exact ⟨rfl, h⟩
  | lst h r => simp [frz] at e
  | dic h _ r => simp [frz] at e
  | st _ _ _ _ => simp [frz] at e
/-- the first root frozen -/
theorem Rel.froz {v d} (h : Rel K H ((v, d) :: rs)) : Rel K H ((v, frz d) :: rs) := by
  obtain ⟨Hk, fp, s, o, n, k⟩ := h
  cases o with
  | @cons _ _ f _ g h r =>
    have nd := List.nodup_append.mp n
    have nk : ∀ a o, Hk a = some o → a ∉ f := fun a o e z => by
      rw [k a (List.mem_append_left _ z)] at e
      cases e
    have up : Sub Hk fun a => if a ∈ f then H a else Hk a := fun a o e => (if_neg (nk a o e)).trans e
    refine ⟨fun a => if a ∈ f then H a else Hk a, g, fun a o e => ?_, .cons (f := []) (.sh (h.froz up fun a z => if_pos z)) (r.sub up fun _ _ => rfl), nd.2.1, fun a z => ?_⟩
    · replace e : (if a ∈ f then H a else Hk a) = some o := e
      by_cases z : a ∈ f
      · rw [if_pos z] at e
        exact e
      · rw [if_neg z] at e
        exact s a o e
    · exact (if_neg fun z' => nd.2.2 a z' a z rfl).trans (k a (List.mem_append_right _ z))
/-- a second name of a frozen root -/
theorem Rel.dup {v d} (h : Rel K H ((v, d) :: rs)) (e : frz d = d) : Rel K H ((v, d) :: (v, d) :: rs) := by
  obtain ⟨Hk, fp, s, o, n, k⟩ := h
  cases o with
  | cons h r =>
    obtain ⟨rfl, q⟩ := h.shared e
    exact ⟨Hk, _, s, .cons (.sh q) (.cons (.sh q) r), n, k⟩
/-- a new object that no root knows -/
theorem Rel.new {p : Addr} {o : HO} (h : Rel K H rs) (n : H p = none) : Rel K (upd H p o) rs := by
  obtain ⟨Hk, fp, s, r, nd, k⟩ := h
  refine ⟨Hk, fp, fun a u e => ?_, r.sub Sub.rfl fun a z => ?_, nd, k⟩
  · rw [upd_ne (ne_of_none (s a u e) n)]
    exact s a u e
  · obtain ⟨u, e⟩ := r.there a z
    exact upd_ne (ne_of_none e n)
/-! ### the tables -/
theorem OwR.tab {P : Addr} (hP : P ∈ Tbs.tb) : ∀ {rs : Rt} {fp}, OwR K H Hk rs fp → GxR.TabG H P ∧ P ∈ fp
  | _, _, .nil t => ⟨t P hP, hP⟩
  | _, _, .cons h r => let ⟨a, b⟩ := r.tab hP; ⟨a, List.mem_append_right _ b⟩
theorem OwR.retab {P : Addr} {H2 : Hp} (hP : P ∈ Tbs.tb) (t : GxR.Tabbed P H H2) : ∀ {rs : Rt} {fp}, fp.Nodup → OwR K H Hk rs fp → OwR K H2 Hk rs fp
  | _, _, _, .nil q => .nil fun P' hP' => by
    by_cases e : P' = P
    · rw [e]; exact t.1
    · obtain ⟨ps, e1, e2⟩ := q P' hP'
      exact ⟨ps, (t.2 P' e).trans e1, e2⟩
  | _, _, n, .cons h r => by
    obtain ⟨n1, n2, n3⟩ := List.nodup_append.mp n
    refine .cons (h.sub Sub.rfl fun a z => t.2 a fun e => ?_) (r.retab hP t n2)
    subst e
    exact n3 a z a (r.tab hP).2 rfl
theorem Rel.tab {P : Addr} (h : Rel K H rs) (hP : P ∈ Tbs.tb) : GxR.TabG H P := by
  obtain ⟨Hk, fp, s, o, n, k⟩ := h
  exact (o.tab hP).1
theorem Rel.retab {P : Addr} {H2 : Hp} (h : Rel K H rs) (hP : P ∈ Tbs.tb) (t : GxR.Tabbed P H H2) : Rel K H2 rs := by
  obtain ⟨Hk, fp, s, o, n, k⟩ := h
  refine ⟨Hk, fp, fun a u e => ?_, o.retab hP t n, n, k⟩
  have hne : a ≠ P := fun z => by
    rw [z, k P (o.tab hP).2] at e
    cases e
  rw [t.2 a hne]
  exact s a u e
end
end Z

set_option Elab.async false
set_option linter.all false
set_option autoImplicit false
set_option maxRecDepth 100000
set_option maxHeartbeats 2000000
/-! Z2: a small language, and what its texts give on plain data. -/
namespace Z
open PySem PySem.Spec PyProof.Rows L2

abbrev Ev := List (Option D)
/-- an exception: its class, its values -/
inductive X where | mk (c : Str) (xs : List D)
inductive R (α : Type) where | ok (a : α) (e : Ev) | ex (x : X) (e : Ev) | no
def R.bind {α β : Type} : R α → (α → Ev → R β) → R β
  | .ok a e, f => f a e
  | .ex x e, _ => .ex x e
  | .no, _ => .no

inductive Bi where
  | len | abs | int | bool | sum | min | max | sorted | list | tuple | all | any | set | sortset
  deriving DecidableEq, Repr
inductive Ty where | non | bool | int | str | list | tuple | dict
  deriving DecidableEq, Repr
inductive Gk where | all | any | sum | tuple
  deriving DecidableEq, Repr

mutual
  inductive E where
    | v (i : Nat)
    | mv (i : Nat)
    | c (d : D)
    | bin (o : Operator) (a b : E)
    | neg (a : E)
    | cmp (o : CmpOp) (a b : E)
    | chn (o o' : CmpOp) (a b c : E)
    | isN (n : Bool) (a : E)
    | and (a b : E) | or (a b : E) | tst (t : Te)
    | ite (t : Te) (a b : E)
    | tup (es : Es) | lst (es : Es)
    | sub (a i : E) | subv (i : Nat) (x : E)
    | slc (a : E) (lo hi : Oe) | rev (a : E)
    | fn (f : Nat) (as : Es)
    | fnk (f : Nat) (ix : List Nat) (as : Es)
    | mk (c : Str) (f : Option Str) (as : Es)
    | fld (a : E) (f : Str) (cs : List Str)
    | isx (a : E) (yes all : List Str)
    | bi (b : Bi) (as : Es)
    | lenv (i : Nat)
    | isi (a : E) (ts : List Ty) (one : Bool)
    | pop (i : Nat) (x : Oe)
    | lc (own : List Nat) (tg : Tg) (it : It) (cs : Tes) (e : E)
    | gen (g : Gk) (own : List Nat) (tg : Tg) (it : It) (cs : Tes) (e : E)
    | sc (own : List Nat) (tg : Tg) (it : It) (cs : Tes) (e : E)
  inductive Es where
    | nil
    | cons (e : E) (r : Es)
    | raw (e : E) (r : Es)
    | bw (i : Nat) (r : Es)
  inductive Te where | val (e : E) | and (a b : Te) | or (a b : Te) | not (a : Te)
  inductive Tes where | nil | cons (t : Te) (r : Tes)
  inductive Oe where | no | e (e : E)
  inductive It where
    | seq (e : E) | var (i : Nat) | rng (as : Es) | enm (e : E) | zip (as : Es)
  inductive Tg where | n (i : Nat) | t (ts : Tgs)
  inductive Tgs where | nil | cons (t : Tg) (r : Tgs)
end
mutual
  inductive S where
    | as (tg : Tg) (e : E)
    | par (is : List Nat) (es : Es)
    | aug (i : Nat) (o : Operator) (e : E)
    | sset (i : Nat) (x e : E)
    | ap (i : Nat) (e : E)
    | ex (e : E)
    | ret (e : E) | retN
    | ite (t : Te) (a b : Ss)
    | fr (tg : Tg) (it : It) (b : Ss)
    | wh (t : Te) (b : Ss)
    | brk | cnt | pass
  inductive Ss where | nil | cons (s : S) (r : Ss)
end

/-! ### data -/
mutual
  def isF : D → Bool
    | .tup xs => isFL xs
    | .lck xs => isFL xs
    | .lst o xs => !o && isFL xs
    | .dic o kvs => !o && isFK kvs
    | .st o _ => !o
    | .obf _ _ x => isF x
    | _ => true
  def isFL : List D → Bool
    | [] => true
    | x :: r => isF x && isFL r
  def isFK : List (DK × D) → Bool
    | [] => true
    | (_, x) :: r => isF x && isFK r
end
mutual
  theorem isF_frz : ∀ {d : D}, isF d = true → frz d = d
    | .tup xs, h => by rw [frz, isFL_frz (by simpa [isF] using h)]
    | .lck xs, h => by rw [frz, isFL_frz (by simpa [isF] using h)]
    | .lst o xs, h => by
      simp only [isF, Bool.and_eq_true, Bool.not_eq_true'] at h
      rw [frz, isFL_frz h.2, h.1]
    | .dic o kvs, h => by
      simp only [isF, Bool.and_eq_true, Bool.not_eq_true'] at h
      rw [frz, isFK_frz h.2, h.1]
    | .non, _ => rfl
    | .bl _, _ => rfl
    | .int _, _ => rfl
    | .str _, _ => rfl
    | .st o _, h => by
      simp only [isF, Bool.not_eq_true'] at h
      rw [frz, h]
    | .ob _, _ => rfl
    | .obf _ _ x, h => by rw [frz, isF_frz (by simpa [isF] using h)]
  theorem isFL_frz : ∀ {d : List D}, isFL d = true → frzL d = d
    | [], _ => rfl
    | x :: r, h => by
      simp only [isFL, Bool.and_eq_true] at h
      rw [frzL, isF_frz h.1, isFL_frz h.2]
  theorem isFK_frz : ∀ {d : List (DK × D)}, isFK d = true → frzK d = d
    | [], _ => rfl
    | (k, x) :: r, h => by
      simp only [isFK, Bool.and_eq_true] at h
      rw [frzK, isF_frz h.1, isFK_frz h.2]
end
mutual
  theorem frz_frz : ∀ d : D, frz (frz d) = frz d
    | .tup xs => by rw [frz, frz, frzL_frzL xs]
    | .lck xs => by rw [frz, frz, frzL_frzL xs]
    | .lst o xs => by rw [frz, frz, frzL_frzL xs]
    | .dic o kvs => by rw [frz, frz, frzK_frzK kvs]
    | .non => rfl
    | .bl _ => rfl
    | .int _ => rfl
    | .str _ => rfl
    | .st _ _ => rfl
    | .ob _ => rfl
    | .obf _ _ x => by rw [frz, frz, frz_frz x]
  theorem frzL_frzL : ∀ d : List D, frzL (frzL d) = frzL d
    | [] => rfl
    | x :: r => by rw [frzL, frzL, frz_frz x, frzL_frzL r]
  theorem frzK_frzK : ∀ d : List (DK × D), frzK (frzK d) = frzK d
    | [] => rfl
    | (k, x) :: r => by rw [frzK, frzK, frz_frz x, frzK_frzK r]
end
/-- frozen, as it is where nothing is to do -/
def fz (d : D) : D := if isF d = true then d else frz d
theorem fz_eq (d : D) : fz d = frz d := by
  unfold fz
  split
  · rename_i h
    exact (isF_frz h).symm
  · rfl

mutual
  def py : D → Option PyData
    | .non => some .none
    | .bl b => some (.bool b)
    | .int i => some (.int i)
    | .str s => some (.str s)
    | .tup xs => (pyL xs).map .tuple
    | .lst _ xs => (pyL xs).map .list
    | .dic _ _ => none
    | .lck _ => none
    | .st _ _ => none
    | .ob _ => none
    | .obf _ _ _ => none
  def pyL : List D → Option (List PyData)
    | [] => some []
    | x :: r => match py x, pyL r with
      | some a, some b => some (a :: b)
      | _, _ => none
end
/-- what == tells -/
def eqD (a b : D) : Option Bool := match py a, py b with
  | some x, some y => if SeqAt.shaped x = true ∧ SeqAt.shaped y = true then some (PyData.eqv x y) else none
  | _, _ => none
def inL (d : D) (xs : List D) : Option Bool := match py d, pyL xs with
  | some x, some ys => if SeqAt.shaped x = true ∧ SeqAt.shaped (.list ys) = true then some (ys.any fun z => PyData.eqv z x) else none
  | _, _ => none
def one (c : Nat) : D := .str ⟨#[c]⟩
def items : D → Option (List D)
  | .lck xs => some xs
  | .tup xs => some xs
  | .lst _ xs => some xs
  | .str s => some (s.cps.toList.map one)
  | _ => none
def big : Nat := 1000000
def truth : D → Option Bool
  | .non => some false
  | .bl b => some b
  | .int i => some (i != 0)
  | .str s => if s.length ≤ big then some (s.length != 0) else none
  | .tup xs => some (!xs.isEmpty)
  | .lck xs => some (!xs.isEmpty)
  | .lst _ xs => some (!xs.isEmpty)
  | .dic _ _ => none
  | .st _ _ => none
  | .ob _ => none
  | .obf _ _ _ => none
def mulOk (i j : Int) : Bool := decide (i.natAbs < 2 ^ 64) || decide (j.natAbs < 2 ^ 64)
def binD : Operator → D → D → Option D
  | .Add, .int i, .int j => some (.int (i + j))
  | .Add, .lst _ a, .lst _ b => if a.length + b.length ≤ big then some (.lst true (a ++ b)) else none
  | .Add, .tup a, .tup b => if a.length + b.length ≤ big then some (.tup (a ++ b)) else none
  | .Add, .str a, .str b => if a.length + b.length ≤ big then some (.str (a ++ b)) else none
  | .Sub, .int i, .int j => some (.int (i - j))
  | .Sub, .st _ a, .st _ b => if (a.all fun k => !Zs.tupQ k) = true ∧ (b.all fun k => !Zs.tupQ k) = true ∧ a.length / 4 ≤ b.length then some (.st true (a.filter fun k => !Zs.hasK b k)) else none
  | .Mult, .int i, .int j => if mulOk i j = true then some (.int (i * j)) else none
  | .Mult, .lst _ a, .int j => if isFL a = true ∧ -big ≤ j ∧ j ≤ big ∧ a.length * j.toNat ≤ big then some (.lst true (List.replicate j.toNat a).flatten) else none
  | .Mult, .tup a, .int j => if !a.isEmpty ∧ 2 ≤ j ∧ j ≤ 1000 ∧ a.length ≤ 1000 then some (.tup (List.replicate j.toNat a).flatten) else none
  | .FloorDiv, .int i, .int j => if 0 < j ∧ j < 1073741824 then some (.int (i / j)) else none
  | .Mod, .int i, .int j => if 0 < j then some (.int (i % j)) else none
  | .Pow, .int i, .int j => if 0 ≤ j ∧ j ≤ 1000 ∧ i.natAbs < 2 ^ 64 then some (.int (i ^ j.toNat)) else none
  | _, _, _ => none
def strLt (a b : Str) : Bool := decide (a.cps.toList < b.cps.toList)
def cmpD : CmpOp → D → D → Option Bool
  | .Eq, a, b => eqD a b
  | .NotEq, a, b => (eqD a b).map (!·)
  | .Lt, .int i, .int j => some (decide (i < j))
  | .Lt, .str i, .str j => some (strLt i j)
  | .LtE, .str i, .str j => some (!strLt j i)
  | .LtE, .int i, .int j => some (decide (i ≤ j))
  | .Gt, .int i, .int j => some (decide (j < i))
  | .GtE, .int i, .int j => some (decide (j ≤ i))
  | .In, d, .tup xs => inL d xs
  | .In, d, .lst _ xs => inL d xs
  | .NotIn, d, .tup xs => (inL d xs).map (!·)
  | .NotIn, d, .lst _ xs => (inL d xs).map (!·)
  | _, _, _ => none
def subD : D → D → Option D
  | .lst _ xs, .int i => atI xs i
  | .tup xs, .int i => atI xs i
  | .lck xs, .int i => atI xs i
  | .str s, .int i => if s.length ≤ big then (atI s.cps.toList i).map one else none
  | _, _ => none
def cut {α : Type} (xs : List α) (lo hi : Option Int) : List α := (xs.drop (HT.sIx xs.length 0 lo)).take (HT.sIx xs.length xs.length hi - HT.sIx xs.length 0 lo)
def slcD : D → Option Int → Option Int → Option D
  | .lst _ xs, lo, hi => some (.lst true (cut xs lo hi))
  | .lck xs, lo, hi => some (.lst true (cut xs lo hi))
  | .tup xs, lo, hi => some (.tup (cut xs lo hi))
  | _, _, _ => none
def sumD : List D → Int → Option Int
  | [], a => some a
  | .int i :: r, a => sumD r (a + i)
  | _ :: _, _ => none
def intsD : List D → Option (List Int)
  | [] => some []
  | .int i :: r => (intsD r).map (i :: ·)
  | _ :: _ => none
def blsD : List D → Option (List Bool)
  | [] => some []
  | .bl i :: r => (blsD r).map (i :: ·)
  | _ :: _ => none
def keyD1 : D → Option Key
  | .int i => some (.inl i)
  | .str s => some (.inr s)
  | _ => none
def keyDL : List D → Option (List Key)
  | [] => some []
  | x :: r => match keyD1 x, keyDL r with
    | some a, some b => some (a :: b)
    | _, _ => none
def keyD : D → Option DK
  | .tup xs => (keyDL xs).map .inr
  | d => (keyD1 d).map .inl
def keysD : List D → Option (List DK)
  | [] => some []
  | x :: r => match keyD x, keysD r with
    | some a, some b => some (a :: b)
    | _, _ => none
/-- each once -/
def ddK : List DK → List DK → List DK
  | acc, [] => acc
  | acc, k :: r => ddK (if Zs.hasK acc k = true then acc else acc ++ [k]) r
def headQ (ks : List DK) : Bool := (ks.head?.map Zs.tupQ).getD false
/-- what may be put in a set, put in -/
def stD (xs : List D) : Option D := match keysD xs with
  | some ks => if (ks.all fun k => Zs.tupQ k == headQ ks) = true ∧ ks.length < Zs.roomFor (headQ ks) then some (.st true (ddK [] ks)) else none
  | none => none
def kD1 : Key → D
  | .inl i => .int i
  | .inr s => .str s
def kD : DK → D
  | .inl k => kD1 k
  | .inr ks => .tup (ks.map kD1)
def tup1 : PyData → Bool
  | .tuple (_ :: _) => true
  | _ => false
def noTup : PyData → Bool
  | .none => false
  | .tuple _ => false
  | _ => true
def srtOk (ps : List PyData) : Bool := (ps.all fun a => ps.all fun b => PySem.W.alike a b) && (ps.all tup1 || ps.all noTup) && ps.all fun p => decide (p.depth ≤ 30)
/-- a list's items in their order -/
def srtL (xs : List D) : Option D := match pyL xs with
  | some ps => if srtOk ps = true ∧ isFL xs = true then some (.lst true ((Zs.isort (fun a b : D × PyData => Zs.leP a.2 b.2) (xs.zip ps)).map (·.1))) else none
  | none => none
def tyOf : D → Option Ty
  | .non => some .non
  | .bl _ => some .bool
  | .int _ => some .int
  | .str _ => some .str
  | .tup _ => some .tuple
  | .lst _ _ => some .list
  | _ => none
def tyB (s t : Ty) : Bool := s == t || (s == .bool && t == .int)
def tyD (d : D) (t : Ty) : Option Bool := (tyOf d).map fun s => tyB s t
def tyAny (d : D) (ts : List Ty) : Option Bool := (tyOf d).map fun s => ts.any fun t => tyB s t
/-- of sets, and sorted -/
def biD2 : Bi → List D → Option D
  | .len, [.st _ ks] => some (.int ks.length)
  | .tuple, [.str s] => if s.length ≤ big then some (.tup (s.cps.toList.map one)) else none
  | .list, [.str s] => if s.length ≤ big then some (.lst true (s.cps.toList.map one)) else none
  | .set, [.lst _ xs] => stD xs
  | .sorted, [.st _ ks] => if Zs.sortableK ks = true then some (.lst true ((Zs.sortK ks).map kD)) else none
  | .sorted, [.lst _ xs] => srtL xs
  | _, _ => none
def biD : Bi → List D → Option D
  | .len, [.lst _ xs] => some (.int xs.length)
  | .len, [.lck xs] => some (.int xs.length)
  | .len, [.tup xs] => some (.int xs.length)
  | .len, [.str s] => if s.length ≤ big then some (.int s.length) else none
  | .abs, [.int i] => some (.int (if i < 0 then -i else i))
  | .int, [.int i] => some (.int i)
  | .int, [.bl b] => some (.int (if b = true then 1 else 0))
  | .all, [.lst _ xs] => (blsD xs).map fun l => .bl (l.all id)
  | .any, [.lst _ xs] => (blsD xs).map fun l => .bl (l.any id)
  | .sum, [.lst _ xs] => (intsD xs).map fun l => .int l.sum
  | .min, [.int i, .int j] => some (.int (if j < i then j else i))
  | .max, [.int i, .int j] => some (.int (if i < j then j else i))
  | .list, [.lst _ xs] => some (.lst true xs)
  | .list, [.lck xs] => some (.lst true xs)
  | .list, [.tup xs] => some (.lst true xs)
  | .tuple, [.lst _ xs] => if isFL xs = true then some (.tup xs) else none
  | .tuple, [.tup xs] => some (.tup xs)
  | b, l => biD2 b l

def augD : Operator → D → D → Option D
  | .Add, .int i, .int j => some (.int (i + j))
  | .Sub, .int i, .int j => some (.int (i - j))
  | _, _, _ => none
/-- an own list -/
def isL : D → Bool
  | .lst true _ => true
  | _ => false
/-! ### environments -/
def rd (i : Nat) (e : Ev) : Option D := (e[i]?).join
mutual
  def setT : Tg → D → Ev → Option Ev
    | .n i, d, e => if i < e.length then some (e.set i (some d)) else none
    | .t ts, .tup xs, e => setTs ts xs e
    | .t _, _, _ => none
  def setTs : Tgs → List D → Ev → Option Ev
    | .nil, [], e => some e
    | .cons t r, d :: ds, e => match setT t d e with
      | some e' => setTs r ds e'
      | none => none
    | _, _, _ => none
end
def wipeE (e : Ev) : List Nat → Ev
  | [] => e
  | i :: r => (wipeE e r).set i none
/-- the slots at own as they were -/
def backE (e0 : Ev) : Ev → List Nat → Ev
  | e, [] => e
  | e, i :: r => (backE e0 e r).set i (e0[i]?).join

/-! ### what a text gives -/
inductive Fl where | nx | rt (d : D) | bk | ct
abbrev Tab := Nat → List D → R D
def ofO {α : Type} (o : Option α) (e : Ev) : R α := match o with
  | some a => .ok a e
  | none => .no
def frL (tg : Tg) (body : Ev → R Fl) : List D → Ev → R Fl
  | [], e => .ok .nx e
  | d :: ds, e => match setT tg d e with
    | none => .no
    | some e1 => match body e1 with
      | .ok .nx e2 => frL tg body ds e2
      | .ok .ct e2 => frL tg body ds e2
      | .ok .bk e2 => .ok .nx e2
      | .ok (.rt d) e2 => .ok (.rt d) e2
      | .ex x e2 => .ex x e2
      | .no => .no
def whL (t : Ev → R Bool) (body : Ev → R Fl) : Nat → Ev → R Fl
  | 0, _ => .no
  | n + 1, e => (t e).bind fun b e1 => match b with
    | false => .ok .nx e1
    | true => match body e1 with
      | .ok .nx e2 => whL t body n e2
      | .ok .ct e2 => whL t body n e2
      | .ok .bk e2 => .ok .nx e2
      | .ok (.rt d) e2 => .ok (.rt d) e2
      | .ex x e2 => .ex x e2
      | .no => .no
/-- a comprehension's turns: what was gathered so far -/
def lcL (own : List Nat) (tg : Tg) (cs : Ev → R Bool) (elt : Ev → R D) : List D → List D → Ev → R (List D)
  | [], acc, e => .ok acc e
  | d :: ds, acc, e => match setT tg d (wipeE e own) with
    | none => .no
    | some e1 => match cs e1 with
      | .ok false e2 => lcL own tg cs elt ds acc e2
      | .ok true e2 => match elt e2 with
        | .ok x e3 => lcL own tg cs elt ds (acc ++ [x]) e3
        | _ => .no
      | _ => .no
def args1 : List (Sum D Nat) → Option (List D)
  | [] => some []
  | .inl d :: r => (args1 r).map (d :: ·)
  | .inr _ :: _ => none
/-- the borrowed ones are taken out of their slots -/
def takeB : List (Sum D Nat) → Ev → Option (List D × Ev)
  | [], e => some ([], e)
  | .inl d :: r, e => (takeB r e).map fun p => (d :: p.1, p.2)
  | .inr i :: r, e => match rd i e with
    | some d => (takeB r (e.set i none)).map fun p => (d :: p.1, p.2)
    | none => none
/-- and put back -/
def putB : List (Sum D Nat) → Ev → Ev → Ev
  | .inr i :: r, p :: ps, e => (putB r ps e).set i p
  | .inl _ :: r, _ :: ps, e => putB r ps e
  | _, _, e => e

def rngD : Option (List D) → Option (List D)
  | some [.int n] => if -big < n ∧ n < big then some ((List.range n.toNat).map fun k => .int (Int.ofNat k)) else none
  | some [.int a, .int b] => if -big < a ∧ a < big ∧ -big < b ∧ b < big then some ((List.range (b - a).toNat).map fun k => .int (a + Int.ofNat k)) else none
  | _ => none
def enmD : D → Option (List D)
  | .lst _ xs => some (xs.mapIdx fun k d => .tup [.int (Int.ofNat k), d])
  | .lck xs => some (xs.mapIdx fun k d => .tup [.int (Int.ofNat k), d])
  | _ => none
def zipD : Option (List D) → Option (List D)
  | some [.lst _ a, .lst _ b] => some ((a.zip b).map fun z => .tup [z.1, z.2])
  | some [.tup a, .tup b] => some ((a.zip b).map fun z => .tup [z.1, z.2])
  | _ => none
/-- values by keyword, in the parameters' order -/
def reo {α : Type} (ix : List Nat) (ws : List α) : List α := ix.filterMap fun j => ws[j]?
def giveB : Option (Nat × D) → Ev → Ev
  | none, e => e
  | some (i, d), e => e.set i (some d)
section
variable (T : Tab)
mutual
  def dE : E → Ev → R D
    | .v i, e => match rd i e with
      | some d => if isF d = true then .ok d e else .ok (frz d) (e.set i (some (frz d)))
      | none => .no
    | .mv i, e => match rd i e with
      | some d => .ok d (e.set i none)
      | none => .no
    | .c d, e => .ok d e
    | .bin o a b, e => (dE a e).bind fun x e => (dE b e).bind fun y e => ofO (binD o x y) e
    | .neg a, e => (dE a e).bind fun x e => match x with
      | .int i => .ok (.int (-i)) e
      | _ => .no
    | .cmp o a b, e => (dE a e).bind fun x e => (dE b e).bind fun y e => ofO ((cmpD o (fz x) (fz y)).map .bl) e
    | .chn o o' a b c, e => (dE a e).bind fun x e => (dE b e).bind fun y e => match cmpD o (fz x) (fz y) with
      | some true => (dE c e).bind fun z e => ofO ((cmpD o' (fz y) (fz z)).map .bl) e
      | some false => .ok (.bl false) e
      | none => .no
    | .isN n a, e => (dE a e).bind fun x e => .ok (.bl ((match x with | .non => true | _ => false) != n)) e
    | .and a b, e => (dE a e).bind fun x e => match truth x with
      | some true => dE b e
      | some false => .ok x e
      | none => .no
    | .or a b, e => (dE a e).bind fun x e => match truth x with
      | some false => dE b e
      | some true => .ok x e
      | none => .no
    | .tst t, e => (dT t e).bind fun b e => .ok (.bl b) e
    | .ite t a b, e => (dT t e).bind fun k e => match k with
      | true => dE a e
      | false => dE b e
    | .tup es, e => (dEs es e).bind fun xs e => ofO ((args1 xs).bind fun l => if l.length ≤ big then some (.tup (l.map fz)) else none) e
    | .lst es, e => (dEs es e).bind fun xs e => ofO ((args1 xs).bind fun l => if l.length ≤ big then some (.lst true l) else none) e
    | .sub a i, e => (dE a e).bind fun x e => (dE i e).bind fun y e => ofO (subD (fz x) y) e
    | .subv i x, e => match rd i e with
      | none => .no
      | some _ => (dE x e).bind fun y e => match rd i e with
        | some d => match subD d y with
          | some z => if isF z = true then .ok z e else .no
          | none => .no
        | none => .no
    | .slc a lo hi, e => (dE a e).bind fun x e => (dO lo e).bind fun l e => (dO hi e).bind fun h e => ofO (slcD x l h) e
    | .rev a, e => (dE a e).bind fun x e => match x with
      | .lst _ xs => .ok (.lst true xs.reverse) e
      | .tup xs => .ok (.tup xs.reverse) e
      | _ => .no
    | .fn f as, e => (dEs as e).bind fun xs e => match takeB xs e with
      | none => .no
      | some (ds, e1) => match T f ds with
        | .ok d ps => .ok d (putB xs ps e1)
        | .ex x ps => .ex x (putB xs ps e1)
        | .no => .no
    | .fnk f ix as, e => (dEs as e).bind fun xs e => match args1 xs with
      | some l => match T f (reo ix (l.map fz)) with
        | .ok d _ => .ok d e
        | .ex x _ => .ex x e
        | .no => .no
      | none => .no
    | .mk c f as, e => (dEs as e).bind fun xs e => match f, args1 xs with
      | none, some [] => .ok (.ob c) e
      | some f, some [d] => .ok (.obf c f (fz d)) e
      | _, _ => .no
    | .fld a f cs, e => (dE a e).bind fun x e => match fz x with
      | .obf c g d => if f = g ∧ c ∈ cs then .ok d e else .no
      | _ => .no
    | .isx a yes all, e => (dE a e).bind fun x e => match x with
      | .ob c => if c ∈ all then .ok (.bl (decide (c ∈ yes))) e else .no
      | .obf c _ _ => if c ∈ all then .ok (.bl (decide (c ∈ yes))) e else .no
      | _ => .no
    | .bi b as, e => (dEs as e).bind fun xs e => ofO ((args1 xs).bind (biD b)) e
    | .lenv i, e => match rd i e with
      | some d => ofO (biD .len [d]) e
      | none => .no
    | .isi a ts _, e => (dE a e).bind fun x e => ofO ((tyAny x ts).map .bl) e
    | .pop i x, e => match (rd i e).map isL with
     | some true => (dO x e).bind fun j e => match rd i e with
      | some (.lst true xs) => match (if xs.length ≤ big then ixN xs.length (j.getD (-1)) else none) with
        | some k => match xs[k]? with
          | some d => .ok d (e.set i (some (.lst true (xs.eraseIdx k))))
          | none => .no
        | none => .no
      | _ => .no
     | _ => .no
    | .lc own tg it cs x, e => (dIc it e).bind fun p e => if p.1.length ≤ big then match lcL own tg (dTs cs) (dE x) p.1 [] e with
      | .ok xs e1 => .ok (.lst true xs) (giveB p.2 (backE e e1 own))
      | _ => .no
      else .no
    | .gen g own tg it cs x, e => (dI it e).bind fun l e => if l.length ≤ big then match g, lcL own tg (dTs cs) (fun e => (dE x e).bind fun d e => .ok (fz d) e) l [] e with
      | .tuple, .ok xs e1 => .ok (.tup xs) (backE e e1 own)
      | _, _ => .no
      else .no
    | .sc own tg it cs x, e => (dI it e).bind fun l e => if l.length ≤ big then match lcL own tg (dTs cs) (fun e => (dE x e).bind fun d e => .ok (fz d) e) l [] e with
      | .ok xs e1 => ofO (stD xs) (backE e e1 own)
      | _ => .no
      else .no
  def dT : Te → Ev → R Bool
    | .and a b, e => (dT a e).bind fun k e => match k with
      | true => dT b e
      | false => .ok false e
    | .or a b, e => (dT a e).bind fun k e => match k with
      | true => .ok true e
      | false => dT b e
    | .not a, e => (dT a e).bind fun k e => .ok (!k) e
    | .val x, e => (dE x e).bind fun d e => ofO (truth d) e
  def dEs : Es → Ev → R (List (Sum D Nat))
    | .nil, e => .ok [] e
    | .cons x r, e => (dE x e).bind fun d e => (dEs r e).bind fun ds e => .ok (.inl (fz d) :: ds) e
    | .raw x r, e => (dE x e).bind fun d e => (dEs r e).bind fun ds e => .ok (.inl d :: ds) e
    | .bw i r, e => match rd i e with
      | some _ => (dEs r e).bind fun ds e => .ok (.inr i :: ds) e
      | none => .no
  def dTs : Tes → Ev → R Bool
    | .nil, e => .ok true e
    | .cons x r, e => (dT x e).bind fun k e => match k with
      | true => dTs r e
      | false => .ok false e
  def dO : Oe → Ev → R (Option Int)
    | .no, e => .ok none e
    | .e x, e => (dE x e).bind fun d e => match d with
      | .int i => .ok (some i) e
      | _ => .no
  def dIc : It → Ev → R (List D × Option (Nat × D))
    | .var i, e => match rd i e with
      | some (.lst true xs) => if isFL xs = true then .ok (xs, some (i, .lst true xs)) (e.set i none) else .no
      | some d => if isF d = true then ofO ((items d).map fun l => (l, none)) e else .no
      | none => .no
    | .seq x, e => (dE x e).bind fun d e => ofO ((items (fz d)).map fun l => (l, none)) e
    | .rng as, e => (dEs as e).bind fun xs e => ofO ((rngD (args1 xs)).map fun l => (l, none)) e
    | .enm x, e => (dE x e).bind fun d e => ofO ((enmD (fz d)).map fun l => (l, none)) e
    | .zip as, e => (dEs as e).bind fun xs e => ofO ((zipD (args1 xs)).map fun l => (l, none)) e
  def dI : It → Ev → R (List D)
    | .seq x, e => (dE x e).bind fun d e => ofO (items (fz d)) e
    | .var i, e => match rd i e with
      | some d => if isF d = true then ofO (items d) e else .no
      | none => .no
    | .rng as, e => (dEs as e).bind fun xs e => ofO (rngD (args1 xs)) e
    | .enm x, e => (dE x e).bind fun d e => ofO (enmD (fz d)) e
    | .zip as, e => (dEs as e).bind fun xs e => ofO (zipD (args1 xs)) e
end
mutual
  def dS : S → Ev → R Fl
    | .as tg x, e => (dE T x e).bind fun d e => match setT tg d e with
      | some e1 => .ok .nx e1
      | none => .no
    | .par is xs, e => (dEs T xs e).bind fun ds e => match args1 ds with
      | some l => if l.length = is.length then .ok .nx ((is.zip l).foldl (fun e p => e.set p.1 (some p.2)) e) else .no
      | none => .no
    | .aug i o x, e => match rd i e with
      | some d => (dE T x e).bind fun y e => match augD o d y with
        | some z => .ok .nx (e.set i (some z))
        | none => .no
      | none => .no
    | .sset i x y, e => (dE T y e).bind fun d e => match rd i e with
      | none => .no
      | some _ => (dE T x e).bind fun k e => match rd i e, k with
        | some (.lst true xs), .int j => match ixN xs.length j with
          | some n => .ok .nx (e.set i (some (.lst true (xs.set n d))))
          | none => .no
        | _, _ => .no
    | .ap i x, e => match (rd i e).map isL with
     | some true => (dE T x e).bind fun d e => match rd i e with
      | some (.lst true xs) => if xs.length < big then .ok .nx (e.set i (some (.lst true (xs ++ [d])))) else .no
      | _ => .no
     | _ => .no
    | .ex x, e => (dE T x e).bind fun _ e => .ok .nx e
    | .ret x, e => (dE T x e).bind fun d e => .ok (.rt d) e
    | .retN, e => .ok (.rt .non) e
    | .ite t a b, e => (dT T t e).bind fun k e => match k with
      | true => dSs a e
      | false => dSs b e
    | .fr tg it b, e => (dI T it e).bind fun ds e => frL tg (dSs b) ds e
    | .wh t b, e => whL (dT T t) (dSs b) big e
    | .brk, e => .ok .bk e
    | .cnt, e => .ok .ct e
    | .pass, e => .ok .nx e
  def dSs : Ss → Ev → R Fl
    | .nil, e => .ok .nx e
    | .cons s r, e => match dS s e with
      | .ok .nx e1 => dSs r e1
      | o => o
end
end
/-- a def: how many parameters, how many slots, its body -/
structure Fd where
  ps : Nat
  ns : Nat
  pr : List Nat
  body : Ss
/-- the parameters that a caller gets back -/
def maskE (f : Fd) (e : Ev) : Ev := (List.range f.ps).map fun i => if f.pr.contains i = true then rd i e else none
def runF (T : Tab) (f : Fd) (as : List D) : R D :=
  if as.length = f.ps then
    match dSs T f.body (as.map some ++ List.replicate (f.ns - f.ps) none) with
    | .ok (.rt d) e => .ok d (maskE f e)
    | .ok .nx e => .ok .non (maskE f e)
    | .ex x e => .ex x (maskE f e)
    | _ => .no
  else .no
def tab (fs : List Fd) : Nat → Tab
  | 0, _, _ => .no
  | n + 1, f, as => match fs[f]? with
    | some d => runF (tab fs n) d as
    | none => .no
end Z

set_option Elab.async false
set_option linter.all false
set_option autoImplicit false
set_option maxRecDepth 100000
set_option maxHeartbeats 2000000
/-! Z3: slots as roots; what a text's reading is; names, operators. -/
namespace Z
open PySem PySem.Spec PyProof.Rows L2
variable [Tbs]

/-- the slots' roots -/
inductive Sl : L2.St → Ev → Rt → Prop where
  | nil : Sl [] [] []
  | skip {o σ e rs} : Sl σ e rs → Sl (o :: σ) (none :: e) rs
  | has {v d σ e rs} : Sl σ e rs → Sl (some v :: σ) (some d :: e) ((v, d) :: rs)
theorem Sl.len : ∀ {σ : L2.St} {e : Ev} {rs : Rt}, Sl σ e rs → σ.length = e.length
  | _, _, _, .nil => rfl
  | _, _, _, .skip h => congrArg (· + 1) h.len
  | _, _, _, .has h => congrArg (· + 1) h.len
theorem rd_zero {d : Option D} {e : Ev} : rd 0 (d :: e) = d := rfl
theorem rd_succ {d : Option D} {e : Ev} {i : Nat} : rd (i + 1) (d :: e) = rd i e := rfl
theorem Sl.get : ∀ {σ : L2.St} {e : Ev} {rs : Rt} {i : Nat} {d : D}, Sl σ e rs → rd i e = some d → ∃ v r0, σ[i]? = some (some v) ∧ rs.Perm ((v, d) :: r0) ∧
    (∀ d', ∃ r1, Sl σ (e.set i (some d')) r1 ∧ r1.Perm ((v, d') :: r0)) ∧ ∃ r2, Sl σ (e.set i none) r2 ∧ r2.Perm r0
  | _, _, _, i, _, .nil, h => by simp [rd] at h
  | _, _, _, 0, _, .skip _, h => by cases h
  | _, _, _, 0, d, .has (v := v) (rs := rs) s, h => by
    cases h
    exact ⟨v, rs, rfl, .refl _, fun d' => ⟨_, .has s, .refl _⟩, _, .skip s, .refl _⟩
  | _, _, _, i + 1, d, .skip s, h => by
    obtain ⟨v, r0, h1, h2, h3, r2, h4, h5⟩ := s.get (i := i) (show rd i _ = some d from h)
    refine ⟨v, r0, h1, h2, fun d' => ?_, r2, .skip h4, h5⟩
    obtain ⟨r1, s1, p1⟩ := h3 d'
    exact ⟨r1, .skip s1, p1⟩
  | _, _, _, i + 1, d, .has (v := w) (d := u) s, h => by
    obtain ⟨v, r0, h1, h2, h3, r2, h4, h5⟩ := s.get (i := i) (show rd i _ = some d from h)
    refine ⟨v, (w, u) :: r0, h1, (h2.cons _).trans (.swap _ _ _), fun d' => ?_, _, .has h4, h5.cons _⟩
    obtain ⟨r1, s1, p1⟩ := h3 d'
    exact ⟨_, .has s1, (p1.cons _).trans (.swap _ _ _)⟩
/-- a name is stored -/
theorem Sl.put : ∀ {σ : L2.St} {e : Ev} {rs : Rt} {i : Nat}, Sl σ e rs → i < e.length → ∀ (v : V) (d : D), ∃ dr r0 r1, rs.Perm (dr ++ r0) ∧ Sl (σ.set i (some v)) (e.set i (some d)) r1 ∧ r1.Perm ((v, d) :: r0)
  | _, _, _, _, .nil, h, _, _ => absurd h (Nat.not_lt_zero _)
  | _, _, _, 0, .skip (rs := rs) s, _, v, d => ⟨[], rs, _, .refl _, .has s, .refl _⟩
  | _, _, _, 0, .has (v := w) (d := u) (rs := rs) s, _, v, d => ⟨[(w, u)], rs, _, .refl _, .has s, .refl _⟩
  | _, _, _, i + 1, .skip s, h, v, d => by
    obtain ⟨dr, r0, r1, h1, h2, h3⟩ := s.put (Nat.lt_of_succ_lt_succ h) v d
    exact ⟨dr, r0, r1, h1, .skip h2, h3⟩
  | _, _, _, i + 1, .has (v := w) (d := u) s, h, v, d => by
    obtain ⟨dr, r0, r1, h1, h2, h3⟩ := s.put (Nat.lt_of_succ_lt_succ h) v d
    exact ⟨dr, (w, u) :: r0, _, (h1.cons _).trans List.perm_middle.symm, .has h2, (h3.cons _).trans (.swap _ _ _)⟩
/-- slots forgotten -/
theorem Sl.drop1 : ∀ {σ : L2.St} {e : Ev} {rs : Rt}, Sl σ e rs → ∀ i, ∃ dr r0, Sl (σ.set i none) (e.set i none) r0 ∧ rs.Perm (dr ++ r0)
  | _, _, _, .nil, _ => ⟨[], [], .nil, .refl _⟩
  | _, _, _, .skip s, 0 => ⟨[], _, .skip s, .refl _⟩
  | _, _, _, .has s, 0 => ⟨[_], _, .skip s, .refl _⟩
  | _, _, _, .skip s, i + 1 => by
    obtain ⟨dr, r0, h1, h2⟩ := s.drop1 i
    exact ⟨dr, r0, .skip h1, h2⟩
  | _, _, _, .has (v := w) (d := u) s, i + 1 => by
    obtain ⟨dr, r0, h1, h2⟩ := s.drop1 i
    exact ⟨dr, _, .has h1, (h2.cons _).trans List.perm_middle.symm⟩

section
variable {K : PySem.W.Frag} {H H' : Hp} {rs r1 r2 Fr : Rt}
theorem Rel.cut {a : Rt} (h : Rel K H (a ++ rs)) : Rel K H rs := by
  induction a with
  | nil => exact h
  | cons x a ih => exact ih h.tail
theorem Rel.left (h : Rel K H (r1 ++ rs)) (p : r1.Perm r2) : Rel K H (r2 ++ rs) := h.perm (p.append_right _)
/-- a root that is plain -/
theorem Rel.head {v d} (h : Rel K H ((v, d) :: rs)) : ∃ Hk f, Sub Hk H ∧ Ow K H Hk v d f := by
  obtain ⟨Hk, fp, s, o, _⟩ := h
  cases o with
  | cons h _ => exact ⟨Hk, _, s, h⟩
theorem Ow.int' {Hk v i f} (h : Ow K H Hk v (.int i) f) : v = .int i := by
  cases h with
  | sh h => cases h; rfl
theorem Ow.bl' {Hk v i f} (h : Ow K H Hk v (.bl i) f) : v = .bl i := by
  cases h with
  | sh h => cases h; rfl
theorem Ow.str' {Hk v i f} (h : Ow K H Hk v (.str i) f) : v = .str i := by
  cases h with
  | sh h => cases h; rfl
theorem Ow.non' {Hk v f} (h : Ow K H Hk v .non f) : v = .non := by
  cases h with
  | sh h => cases h; rfl
theorem Rel.int {v i} (h : Rel K H ((v, .int i) :: rs)) : v = .int i := by
  obtain ⟨_, _, _, o⟩ := h.head
  exact o.int'
theorem Rel.bl {v i} (h : Rel K H ((v, .bl i) :: rs)) : v = .bl i := by
  obtain ⟨_, _, _, o⟩ := h.head
  exact o.bl'
theorem Rel.str {v i} (h : Rel K H ((v, .str i) :: rs)) : v = .str i := by
  obtain ⟨_, _, _, o⟩ := h.head
  exact o.str'
theorem Rel.non {v} (h : Rel K H ((v, .non) :: rs)) : v = .non := by
  obtain ⟨_, _, _, o⟩ := h.head
  exact o.non'
theorem Rel.addSh {v d} (h : Rel K H rs) (q : ∀ Hk, Sh K Hk v d) : Rel K H ((v, d) :: rs) := by
  obtain ⟨Hk, fp, s, o, n, k⟩ := h
  exact ⟨Hk, _, s, .cons (.sh (q Hk)) o, n, k⟩
theorem Rel.addI {i} (h : Rel K H rs) : Rel K H ((.int i, .int i) :: rs) := h.addSh fun _ => .int i
theorem Rel.addB {i} (h : Rel K H rs) : Rel K H ((.bl i, .bl i) :: rs) := h.addSh fun _ => .bl i
theorem Rel.addS {i} (h : Rel K H rs) : Rel K H ((.str i, .str i) :: rs) := h.addSh fun _ => .str i
theorem Rel.addN (h : Rel K H rs) : Rel K H ((.non, .non) :: rs) := h.addSh fun _ => .non
theorem OwL.of_sh {Hk : Hp} : ∀ {vs ds}, ShL K Hk vs ds → OwL K H Hk vs ds []
  | _, _, .nil => .nil
  | _, _, .cons h r => .cons (f := []) (g := []) (.sh h) (OwL.of_sh r)
theorem OwK.of_sh {Hk : Hp} : ∀ {vs ds}, ShK K Hk vs ds → OwK K H Hk vs ds []
  | _, _, .nil => .nil
  | _, _, .cons h r => .cons (f := []) (g := []) (.sh h) (OwK.of_sh r)
theorem OwL.len {Hk : Hp} : ∀ {vs ds f}, OwL K H Hk vs ds f → vs.length = ds.length
  | _, _, _, .nil => rfl
  | _, _, _, .cons _ r => congrArg (· + 1) r.len
/-- a list: what stands at its address -/
theorem Ow.lst' {Hk v o ds f} (s : Sub Hk H) (h : Ow K H Hk v (.lst o ds) f) : ∃ a vs g, v = .ref a ∧ H a = some (.lst vs) ∧ OwL K H Hk vs ds g ∧ (f = g ∨ f = a :: g) := by
  cases h with
  | sh h =>
    cases h with
    | lst h r => exact ⟨_, _, [], rfl, s _ _ h, .of_sh r, .inl rfl⟩
  | lst h r => exact ⟨_, _, _, rfl, h, r, .inr rfl⟩
theorem Ow.tup' {Hk v ds f} (s : Sub Hk H) (h : Ow K H Hk v (.tup ds) f) : ∃ a vs, v = .ref a ∧ SqT K H a vs ∧ ShL K Hk vs ds ∧ f = [] := by
  cases h with
  | sh h =>
    cases h with
    | tup h r => exact ⟨_, _, rfl, s.tup h, r, rfl⟩
/-- a row of roots -/
theorem OwL.app {Hk : Hp} : ∀ {vs ds f rs g}, OwL K H Hk vs ds f → OwR K H Hk rs g → OwR K H Hk (vs.zip ds ++ rs) (f ++ g)
  | _, _, _, _, _, .nil, r => r
  | _, _, _, _, _, .cons (f := f) (g := g) h q, r => by
    rw [List.append_assoc]
    exact .cons h (q.app r)
theorem OwR.split {Hk : Hp} : ∀ {vs ds rs f}, vs.length = ds.length → OwR K H Hk (vs.zip ds ++ rs) f → ∃ f1 f2, f = f1 ++ f2 ∧ OwL K H Hk vs ds f1 ∧ OwR K H Hk rs f2
  | [], [], _, _, _, h => ⟨[], _, rfl, .nil, h⟩
  | v :: vs, d :: ds, _, _, l, .cons h r => by
    obtain ⟨f1, f2, e, h1, h2⟩ := OwR.split (vs := vs) (ds := ds) (Nat.succ.inj l) r
    exact ⟨_, f2, by rw [e, List.append_assoc], .cons h h1, h2⟩
/-- a list's items as roots -/
theorem Rel.open {v o ds} (h : Rel K H ((v, .lst o ds) :: rs)) : ∃ a vs, v = .ref a ∧ H a = some (.lst vs) ∧ vs.length = ds.length ∧ Rel K H (vs.zip ds ++ rs) := by
  obtain ⟨Hk, fp, s, q, n, k⟩ := h
  cases q with
  | cons h r =>
    obtain ⟨a, vs, g, e, h1, h2, h3⟩ := h.lst' s
    refine ⟨a, vs, e, h1, h2.len, Hk, g ++ _, s, h2.app r, ?_, fun b z => k b ?_⟩
    · rcases h3 with rfl | rfl
      · exact n
      · exact (List.nodup_cons.mp n).2
    · rcases h3 with rfl | rfl
      · exact z
      · exact List.mem_cons_of_mem _ z
theorem Rel.openT {v ds} (h : Rel K H ((v, .tup ds) :: rs)) : ∃ a vs, v = .ref a ∧ SqT K H a vs ∧ vs.length = ds.length ∧ Rel K H (vs.zip ds ++ rs) := by
  obtain ⟨Hk, fp, s, q, n, k⟩ := h
  cases q with
  | cons h r =>
    obtain ⟨a, vs, e, h1, h2, rfl⟩ := h.tup' s
    have o := OwL.of_sh (H := H) h2
    exact ⟨a, vs, e, h1, o.len, Hk, [] ++ _, s, o.app r, n, k⟩
/-- items laid into a new list -/
theorem Rel.newL {vs ds p} (h : Rel K H (vs.zip ds ++ rs)) (l : vs.length = ds.length) (n : H p = none) : Rel K (upd H p (.lst vs)) ((.ref p, .lst true ds) :: rs) := by
  obtain ⟨Hk, fp, s, q, nd, k⟩ := h
  obtain ⟨f1, f2, rfl, h1, h2⟩ := q.split l
  have np : ∀ a ∈ f1 ++ f2, a ≠ p := fun a z => by
    obtain ⟨o, e⟩ := q.there a z
    exact ne_of_none e n
  refine ⟨Hk, p :: (f1 ++ f2), fun a o e => ?_, .cons (f := p :: f1) (.lst upd_same (h1.sub Sub.rfl fun a z => upd_ne (np a (List.mem_append_left _ z)))) (h2.sub Sub.rfl fun a z => upd_ne (np a (List.mem_append_right _ z))),
    List.nodup_cons.mpr ⟨fun z => np p z rfl, nd⟩, fun a z => ?_⟩
  · rw [upd_ne (ne_of_none (s a o e) n)]
    exact s a o e
  · rcases List.mem_cons.mp z with rfl | z
    · cases e : Hk a with
      | none => rfl
      | some o =>
        rw [s a o e] at n
        cases n
    · exact k a z
theorem OwL.frzd {Hk : Hp} : ∀ {vs ds f}, OwL K H Hk vs ds f → frzL ds = ds → f = [] ∧ ShL K Hk vs ds
  | _, _, _, .nil, _ => ⟨rfl, .nil⟩
  | _, _, _, .cons h r, e => by
    rw [frzL] at e
    injection e with e1 e2
    obtain ⟨rfl, h1⟩ := h.shared e1
    obtain ⟨rfl, h2⟩ := r.frzd e2
    exact ⟨rfl, .cons h1 h2⟩
/-- frozen items laid into a new tuple -/
theorem Rel.newT {vs ds p} (h : Rel K H (vs.zip ds ++ rs)) (l : vs.length = ds.length) (e : frzL ds = ds) (n : H p = none) : Rel K (upd H p (.tup vs)) ((.ref p, .tup ds) :: rs) := by
  obtain ⟨Hk, fp, s, q, nd, k⟩ := h
  obtain ⟨f1, f2, rfl, h1, h2⟩ := q.split l
  obtain ⟨rfl, h3⟩ := h1.frzd e
  have np : ∀ a ∈ f2, a ≠ p := fun a z => by
    obtain ⟨o, e⟩ := h2.there a z
    exact ne_of_none e n
  have kp : ∀ a o, Hk a = some o → a ≠ p := fun a o e => ne_of_none (s a o e) n
  have up : Sub Hk (upd Hk p (.tup vs)) := fun a o e => (upd_ne (kp a o e)).trans e
  refine ⟨upd Hk p (.tup vs), f2, fun a o e => ?_, .cons (f := []) (.sh (.tup (.inl (.inl upd_same)) (h3.sub up))) (h2.sub up fun a z => upd_ne (np a z)), nd, fun a z => (upd_ne (np a z)).trans (k a z)⟩
  by_cases ea : a = p
  · subst ea
    rw [upd_same] at e ⊢
    exact e
  · rw [upd_ne ea] at e ⊢
    exact s a o e
end
end Z

set_option Elab.async false
set_option linter.all false
set_option autoImplicit false
set_option maxRecDepth 100000
set_option maxHeartbeats 2000000
/-! Z3s: sets among the roots. -/
namespace Z
open PySem PySem.Spec PyProof.Rows L2
variable [Tbs]
/-- the program and the world are the roots' own -/
def Pw (X : Cx) : Prop := X.prog = Tbs.P ∧ X.w = Tbs.w
section
variable {K : PySem.W.Frag} {H Hk : Hp} {rs : Rt}
/-- the set's object -/
abbrev SO (a : Addr) (S : Zs.Tk) : HO := Zs.SetO Tbs.P Tbs.w a S
theorem kD1_sh (k : Key) : Sh K Hk (kV k) (kD1 k) := by cases k; exact .int _; exact .str _
theorem kDs_sh : ∀ ks : List Key, ShL K Hk (ks.map kV) (ks.map kD1)
  | [] => .nil
  | k :: r => .cons (kD1_sh k) (kDs_sh r)
theorem ky_sh {y : V} {k : Zs.Kx} (x : Zs.Ky K Hk y k) : Sh K Hk y (kD k) := by
  cases k with
  | inl k => rw [show y = kV k from x]; exact kD1_sh k
  | inr ks =>
    obtain ⟨b, rfl, t⟩ := x
    exact .tup t (kDs_sh ks)
theorem sh_key1 {y : V} {d : D} {k : Key} (h : Sh K Hk y d) (e : keyD1 d = some k) : y = kV k := by
  cases h <;> cases e <;> rfl
theorem sh_keys : ∀ {ys : List V} {ds : List D} {ks : List Key}, ShL K Hk ys ds → keyDL ds = some ks → ys = ks.map kV
  | _, _, _, .nil, e => by cases e; rfl
  | _, _, _, .cons (d := d) (ds := ds) h r, e => by
    rw [keyDL] at e
    cases e1 : keyD1 d with
    | none => rw [e1] at e; cases e
    | some k =>
      cases e2 : keyDL ds with
      | none => rw [e1, e2] at e; cases e
      | some ks =>
        rw [e1, e2] at e
        cases e
        rw [sh_key1 h e1, sh_keys r e2]
        rfl
theorem sh_ky {y : V} {d : D} {k : DK} (h : Sh K Hk y d) (e : keyD d = some k) : Zs.Ky K Hk y k := by
  have plain : ∀ {d : D} {k : DK}, Sh K Hk y d → (keyD1 d).map Sum.inl = some k → Zs.Ky K Hk y k := fun {d k} h e => by
    cases e1 : keyD1 d with
    | none => rw [e1] at e; cases e
    | some j =>
      rw [e1] at e
      cases e
      exact sh_key1 h e1
  cases h with
  | @tup a vs ds t r =>
    rw [keyD] at e
    cases e2 : keyDL ds with
    | none => rw [e2] at e; cases e
    | some ks =>
      rw [e2] at e
      cases e
      exact ⟨a, rfl, by rw [← sh_keys r e2]; exact t⟩
  | int i => exact plain (.int i) e
  | str x => exact plain (.str x) e
  | _ => cases e
/-- a root that is a set -/
theorem Ow.st' {v : V} {o : Bool} {ks : List DK} {f : List Addr} (s : Sub Hk H) (h : Ow K H Hk v (.st o ks) f) : ∃ a S, v = .ref a ∧ H a = some (SO a S) ∧ (∀ p ∈ S, Zs.Ky K Hk p.1 p.2) ∧ (S.map (·.2)).Perm ks ∧ (S.map (·.2)).Nodup := by
  cases h with
  | sh h => cases h with
    | st h k p n => exact ⟨_, _, rfl, s _ _ h, k, p, n⟩
  | st h k p n => exact ⟨_, _, rfl, h, k, p, n⟩
theorem Rel.openS {v : V} {o : Bool} {ks : List DK} (h : Rel K H ((v, .st o ks) :: rs)) : ∃ a S, v = .ref a ∧ H a = some (SO a S) ∧ (∀ p ∈ S, Zs.Ky K H p.1 p.2) ∧ (S.map (·.2)).Perm ks ∧ (S.map (·.2)).Nodup ∧
    ∀ S' : Zs.Tk, (∀ p ∈ S', p ∈ S) → Rel K H ((S'.map (·.1)).zip (S'.map fun p => kD p.2) ++ rs) := by
  obtain ⟨Hk, fp, s, q, n, k⟩ := h
  cases q with
  | @cons _ _ f _ g h r =>
    obtain ⟨a, S, e, ha, ky, pm, nd⟩ := h.st' s
    refine ⟨a, S, e, ha, fun p m => Zs_Ky_sub s (ky p m), pm, nd, fun S' i => ?_⟩
    have go : ∀ S' : Zs.Tk, (∀ p ∈ S', p ∈ S) → OwR K H Hk ((S'.map (·.1)).zip (S'.map fun p => kD p.2) ++ rs) g := by
      intro S'
      induction S' with
      | nil => exact fun _ => r
      | cons p S' ih => exact fun i => .cons (f := []) (.sh (ky_sh (ky p (i p List.mem_cons_self)))) (ih fun q m => i q (List.mem_cons_of_mem _ m))
    exact ⟨Hk, g, s, go S' i, (List.nodup_append.mp n).2.1, fun b z => k b (List.mem_append_right _ z)⟩
/-- plain elements, as roots -/
theorem Rel.addK (h : Rel K H rs) : ∀ S : Zs.Tk, (∀ p ∈ S, Zs.Ky K H p.1 p.2 ∧ Zs.tupQ p.2 = false) → Rel K H ((S.map (·.1)).zip (S.map fun p => kD p.2) ++ rs)
  | [], _ => h
  | p :: S, z => by
    obtain ⟨Hk, g, s, r, n, k⟩ := h.addK S fun q m => z q (List.mem_cons_of_mem _ m)
    obtain ⟨x, f⟩ := z p List.mem_cons_self
    obtain ⟨y, j⟩ := p
    cases j with
    | inr _ => exact nomatch f
    | inl j => exact ⟨Hk, g, s, .cons (f := []) (.sh (ky_sh (k := .inl j) (show y = kV j from x))) r, n, k⟩
theorem keysD_len : ∀ {ds : List D} {ks : List DK}, keysD ds = some ks → ds.length = ks.length
  | [], _, e => by cases e; rfl
  | d :: ds, ks, e => by
    rw [keysD] at e
    cases e1 : keyD d with
    | none => rw [e1] at e; cases e
    | some k =>
      cases e2 : keysD ds with
      | none => rw [e1, e2] at e; cases e
      | some js =>
        rw [e1, e2] at e
        cases e
        rw [List.length_cons, List.length_cons, keysD_len e2]
theorem shL_ky : ∀ {vs : List V} {ds : List D} {ks : List DK}, ShL K Hk vs ds → keysD ds = some ks → ∀ p ∈ vs.zip ks, Zs.Ky K Hk p.1 p.2
  | _, _, _, .nil, e, p, m => by cases e; exact nomatch m
  | _, _, _, .cons (v := v) (d := d) (ds := ds) h r, e, p, m => by
    rw [keysD] at e
    cases e1 : keyD d with
    | none => rw [e1] at e; cases e
    | some k =>
      cases e2 : keysD ds with
      | none => rw [e1, e2] at e; cases e
      | some js =>
        rw [e1, e2] at e
        cases e
        rw [List.zip_cons_cons] at m
        rcases List.mem_cons.mp m with rfl | m
        · exact sh_ky h e1
        · exact shL_ky r e2 p m
/-- what is read of the items of a frozen list, and a new set of them -/
theorem Rel.newS {vs : List V} {ds : List D} {ks ks' : List DK} (h : Rel K H (vs.zip ds ++ rs)) (l : vs.length = ds.length) (f : frzL ds = ds) (e : keysD ds = some ks) :
    (∀ p ∈ vs.zip ks, Zs.Ky K H p.1 p.2) ∧ ∀ a S, H a = none → (∀ p ∈ S, p ∈ vs.zip ks) → (S.map (·.2)).Perm ks' → (S.map (·.2)).Nodup → Rel K (upd H a (SO a S)) ((.ref a, .st true ks') :: rs) := by
  obtain ⟨Hk, fp, s, q, nd, k⟩ := h
  obtain ⟨f1, f2, rfl, h1, h2⟩ := q.split l
  obtain ⟨rfl, h3⟩ := h1.frzd f
  have ky := shL_ky h3 e
  refine ⟨fun p m => Zs_Ky_sub s (ky p m), fun a S n i pm sn => ?_⟩
  have np : ∀ b ∈ f2, b ≠ a := fun b z => by
    obtain ⟨o, e⟩ := h2.there b z
    exact ne_of_none e n
  refine ⟨Hk, a :: f2, fun b o e => ?_, .cons (f := [a]) (.st upd_same (fun p m => ky p (i p m)) pm sn) (h2.sub Sub.rfl fun b z => upd_ne (np b z)), List.nodup_cons.mpr ⟨fun z => np a z rfl, nd⟩, fun b z => ?_⟩
  · rw [upd_ne (ne_of_none (s b o e) n)]
    exact s b o e
  · rcases List.mem_cons.mp z with rfl | z
    · cases e : Hk b with
      | none => rfl
      | some o =>
        rw [s b o e] at n
        cases n
    · exact k b z
/-- an element more in one's own set -/
theorem Rel.pushS {y : V} {d : D} {k : DK} {a : Addr} {ks : List DK} (h : Rel K H ((y, d) :: (.ref a, .st true ks) :: rs)) (f : frz d = d) (e : keyD d = some k) :
    ∃ S, H a = some (SO a S) ∧ (∀ p ∈ S, Zs.Ky K H p.1 p.2) ∧ Zs.Ky K H y k ∧ (S.map (·.2)).Perm ks ∧ Rel K (upd H a (SO a (Zs.insS S y k))) ((.ref a, .st true (if Zs.hasK ks k = true then ks else ks ++ [k])) :: rs) := by
  obtain ⟨Hk, fp, s, q, n, kk⟩ := h
  cases q with
  | @cons _ _ f0 _ _ h1 q =>
    obtain ⟨rfl, x⟩ := h1.shared f
    have xk := sh_ky x e
    cases q with
    | @cons _ _ f1 _ g h2 q =>
      cases h2 with
      | sh h2 => cases h2
      | @st _ S _ ha ky pm nd =>
        refine ⟨S, ha, fun p m => Zs_Ky_sub s (ky p m), Zs_Ky_sub s xk, pm, Hk, a :: g, fun b o e => ?_, .cons (f := [a]) (.st upd_same (fun p m => ?_) ?_ ?_) (q.sub Sub.rfl fun b z => upd_ne ?_), n, kk⟩
        · have hb : b ≠ a := by
            rintro rfl
            rw [kk b (by simp)] at e
            cases e
          rw [upd_ne hb]
          exact s b o e
        · unfold Zs.insS at m
          split at m
          · exact ky p m
          · rcases List.mem_append.mp m with m | m
            · exact ky p m
            · rw [List.mem_singleton.mp m]
              exact xk
        · have same : Zs.hasK (S.map (·.2)) k = Zs.hasK ks k := Bool.eq_iff_iff.mpr (by rw [Zs.hasK_iff, Zs.hasK_iff, pm.mem_iff])
          unfold Zs.insS
          rw [same]
          split
          · exact pm
          · rw [List.map_append]
            exact pm.append_right _
        · unfold Zs.insS
          split
          · exact nd
          · rename_i z
            rw [List.map_append]
            refine List.nodup_append.mpr ⟨nd, List.pairwise_singleton _ _, fun u m w m' e => ?_⟩
            rw [List.mem_singleton.mp m'] at e
            exact z (Zs.hasK_iff.mpr (by rw [show u = k from e] at m; exact m))
        · rintro rfl
          exact (List.nodup_cons.mp (show (b :: g).Nodup from n)).1 z
theorem keyDL_kD : ∀ ks : List Key, keyDL (ks.map kD1) = some ks
  | [] => rfl
  | k :: r => by
    rw [List.map_cons, keyDL, keyDL_kD r]
    cases k <;> rfl
theorem keyD_kD (k : DK) : keyD (kD k) = some k := by
  cases k with
  | inl k => cases k <;> rfl
  | inr ks =>
    show (keyDL (ks.map kD1)).map Sum.inr = _
    rw [keyDL_kD]
    rfl
theorem keysD_kD : ∀ ks : List DK, keysD (ks.map kD) = some ks
  | [] => rfl
  | k :: r => by rw [List.map_cons, keysD, keyD_kD, keysD_kD r]
theorem frz_kD1 : ∀ ks : List Key, frzL (ks.map kD1) = ks.map kD1
  | [] => rfl
  | k :: r => by
    rw [List.map_cons, frzL, frz_kD1 r]
    cases k <;> rfl
theorem frz_kD (k : DK) : frz (kD k) = kD k := by
  cases k with
  | inl k => cases k <;> rfl
  | inr ks => exact congrArg D.tup (frz_kD1 ks)
theorem frzL_kD : ∀ ks : List DK, frzL (ks.map kD) = ks.map kD
  | [] => rfl
  | k :: r => by rw [List.map_cons, frzL, frz_kD, frzL_kD r]
/-- a new set, empty -/
theorem Rel.newS0 {a : Addr} (h : Rel K H rs) (n : H a = none) : Rel K (upd H a (SO a [])) ((.ref a, .st true []) :: rs) :=
  (Rel.newS (vs := []) (ds := []) (ks := []) (ks' := []) h rfl rfl rfl).2 a [] n (fun p m => nomatch m) (.refl _) List.nodup_nil
end
theorem Pw.so {X : Cx} (p : Pw X) (a : Addr) (S : Zs.Tk) : Zs.SetO X.prog X.w a S = SO a S := by
  show Zs.SetO X.prog X.w a S = Zs.SetO Tbs.P Tbs.w a S
  rw [p.1, p.2]
theorem perm_of {α : Type} {a b : List α} (na : a.Nodup) (nb : b.Nodup) (h : ∀ k, k ∈ a ↔ k ∈ b) : a.Perm b := (List.perm_ext_iff_of_nodup na nb).mpr h
end Z

set_option Elab.async false
set_option linter.all false
set_option autoImplicit false
set_option maxRecDepth 100000
set_option maxHeartbeats 2000000
/-! Z4: readings; names, constants, operators. -/
namespace Z
open PySem PySem.Spec PyProof.Rows L2
variable [Tbs]

section
variable (K : PySem.W.Frag) (T : Tab)
def Wp (σ : L2.St) (Fr : Rt) (r : R D) (Q : VK) : Prop := match r with
  | .ok d e => ∀ v H rs, Sl σ e rs → Rel K H ((v, d) :: (rs ++ Fr)) → Q v H
  | _ => False
def WpB (σ : L2.St) (Fr : Rt) (r : R Bool) (Q : Bool → Hp → Prop) : Prop := match r with
  | .ok b e => ∀ H rs, Sl σ e rs → Rel K H (rs ++ Fr) → Q b H
  | _ => False
/-- what an expression's, a test's text gives -/
def tE (x : E) : TE := fun σ H Q => ∃ e rs Fr, Sl σ e rs ∧ Rel K H (rs ++ Fr) ∧ Wp K σ Fr (dE T x e) Q
def tT (x : Te) : TT := fun σ H Q => ∃ e rs Fr, Sl σ e rs ∧ Rel K H (rs ++ Fr) ∧ WpB K σ Fr (dT T x e) Q
end
theorem imp {X : Cx} {e : Expr} {t t' : TE} (h : PE X e t) (i : ∀ σ H Q, t' σ H Q → t σ H Q) : PE X e t' :=
  ⟨fun a b c d q j w => h.run a b c d q j (i _ _ _ w)⟩
theorem impT {X : Cx} {e : Expr} {t t' : TT} (h : PT X e t) (i : ∀ σ H Q, t' σ H Q → t σ H Q) : PT X e t' :=
  ⟨fun a b c d q j w => h.run a b c d q j (i _ _ _ w)⟩
theorem impW {X : Cx} {e : Expr} {t t' : TT} (h : PW X e t) (i : ∀ σ H Q, t' σ H Q → t σ H Q) : PW X e t' :=
  ⟨fun g a b c d q j w => h.run g a b c d q j (i _ _ _ w)⟩

section
variable {K : PySem.W.Frag} {T : Tab} {H : Hp} {σ : L2.St} {e : Ev} {rs a b Fr : Rt} {x : V × D} {Q : VK}
theorem Rel.mid (h : Rel K H (x :: (a ++ b))) : Rel K H (a ++ x :: b) := h.perm List.perm_middle.symm
theorem Rel.dim (h : Rel K H (a ++ x :: b)) : Rel K H (x :: (a ++ b)) := h.perm List.perm_middle
/-- what stands for no end -/
structure Wd {β : Type} (W : R β → Prop) : Prop where
  no : ¬ W .no
  ex : ∀ x e, ¬ W (.ex x e)
theorem wd_p {Q : VK} : Wd fun r => Wp K σ Fr r Q := ⟨id, fun _ _ => id⟩
theorem wd_b {Q : Bool → Hp → Prop} : Wd fun r => WpB K σ Fr r Q := ⟨id, fun _ _ => id⟩
theorem use {β : Type} {W : R β → Prop} {f : D → Ev → R β} {y : E} (n : Wd W) (w : W ((dE T y e).bind f)) (s : Sl σ e rs) (h : Rel K H (rs ++ Fr))
    (k : ∀ d e' v H' rs', dE T y e = .ok d e' → W (f d e') → Sl σ e' rs' → Rel K H' ((v, d) :: (rs' ++ Fr)) → Q v H') : tE K T y σ H Q := by
  refine ⟨e, rs, Fr, s, h, ?_⟩
  cases hr : dE T y e with
  | ok d e' =>
    rw [hr] at w
    intro v H' rs' s' h'
    exact k d e' v H' rs' hr w s' h'
  | ex x e' =>
    rw [hr] at w
    exact (n.ex _ _ w).elim
  | no =>
    rw [hr] at w
    exact (n.no w).elim
theorem useT {β : Type} {W : R β → Prop} {f : Bool → Ev → R β} {y : Te} {Q : Bool → Hp → Prop} (n : Wd W) (w : W ((dT T y e).bind f)) (s : Sl σ e rs) (h : Rel K H (rs ++ Fr))
    (k : ∀ d e' H' rs', dT T y e = .ok d e' → W (f d e') → Sl σ e' rs' → Rel K H' (rs' ++ Fr) → Q d H') : tT K T y σ H Q := by
  refine ⟨e, rs, Fr, s, h, ?_⟩
  cases hr : dT T y e with
  | ok d e' =>
    rw [hr] at w
    intro H' rs' s' h'
    exact k d e' H' rs' hr w s' h'
  | ex x e' =>
    rw [hr] at w
    exact (n.ex _ _ w).elim
  | no =>
    rw [hr] at w
    exact (n.no w).elim
theorem ofO_ok {r : Option D} (w : Wp K σ Fr (ofO r e) Q) : ∃ d, r = some d ∧ Wp K σ Fr (.ok d e) Q := by
  cases r with
  | none => exact w.elim
  | some d => exact ⟨d, rfl, w⟩
end

section
variable {X : Cx} {T : Tab} {pos : Pos}
theorem z_var {i : Nat} {x : Str} (hN : X.N[i]? = some x) (hv : Vis X.env.scope x) (h1 : (x == ("__debug__" : Str)) = false) (h2 : (x == ("__classdict__" : Str)) = false) :
    PE X (.Name x pos) (tE X.K T (.v i)) := by
  refine imp (pe_var hN hv h1 h2) fun σ H Q ⟨e, rs, Fr, s, h, w⟩ => ?_
  rw [dE] at w
  cases hr : rd i e with
  | none =>
    rw [hr] at w
    exact w.elim
  | some d =>
    rw [hr] at w
    dsimp only at w
    obtain ⟨v, r0, g, p, p1, _⟩ := s.get hr
    refine ⟨v, g, ?_⟩
    by_cases hf : isF d = true
    · rw [if_pos hf] at w
      refine w v H rs s ?_
      exact ((h.left p).dup (isF_frz hf)).perm (.cons _ (p.symm.append_right Fr))
    · rw [if_neg hf] at w
      obtain ⟨r1, s1, q1⟩ := p1 (frz d)
      refine w v H r1 s1 ?_
      exact ((h.left p).froz.dup (frz_frz d)).perm (.cons _ (q1.symm.append_right Fr))
theorem z_mv {i : Nat} {x : Str} (hN : X.N[i]? = some x) (hv : Vis X.env.scope x) (h1 : (x == ("__debug__" : Str)) = false) (h2 : (x == ("__classdict__" : Str)) = false) :
    PE X (.Name x pos) (tE X.K T (.mv i)) := by
  refine imp (pe_var hN hv h1 h2) fun σ H Q ⟨e, rs, Fr, s, h, w⟩ => ?_
  rw [dE] at w
  cases hr : rd i e with
  | none =>
    rw [hr] at w
    exact w.elim
  | some d =>
    rw [hr] at w
    obtain ⟨v, r0, g, p, _, r2, s2, q2⟩ := s.get hr
    exact ⟨v, g, w v H r2 s2 ((h.left p).perm (.cons _ (q2.symm.append_right Fr)))⟩
/-- a constant's text and value -/
def cnst : Const → Option D
  | .none => some .non
  | .bool b => some (.bl b)
  | .int i => some (.int i)
  | .str s => some (.str s)
  | _ => none
theorem z_c {c : Const} {k : Nat} {d : D} (hc : cnst c = some d) : PE X (.Constant c k pos) (tE X.K T (.c d)) := by
  cases c with
  | none =>
    cases hc
    exact imp pe_non fun σ H Q ⟨e, rs, Fr, s, h, w⟩ => w _ _ rs s h.addN
  | bool b =>
    cases hc
    exact imp pe_bl fun σ H Q ⟨e, rs, Fr, s, h, w⟩ => w _ _ rs s h.addB
  | int i =>
    cases hc
    exact imp pe_int fun σ H Q ⟨e, rs, Fr, s, h, w⟩ => w _ _ rs s h.addI
  | str b =>
    cases hc
    exact imp pe_str fun σ H Q ⟨e, rs, Fr, s, h, w⟩ => w _ _ rs s h.addS
  | _ => cases hc

/-! ### operators -/
def rBin (K : PySem.W.Frag) (o : Operator) : R2 := fun x y H Q => ∃ a b rs d, Rel K H ((x, a) :: (y, b) :: rs) ∧ binD o a b = some d ∧ ∀ v H', Rel K H' ((v, d) :: rs) → Q v H'
theorem sz {n : Nat} (h : n ≤ big) : n ≤ sizeLine := Nat.le_trans h (by decide)
theorem z_op {o : Operator} (f : OpR X (binaryOp o) (rBin X.K o)) {ea eb : Expr} {a b : E} (ha : PE X ea (tE X.K T a)) (hb : PE X eb (tE X.K T b)) : PE X (.BinOp ea o eb pos) (tE X.K T (.bin o a b)) := by
  refine imp (pe_op f ha hb) fun σ H Q ⟨e, rs, Fr, s, h, w⟩ => ?_
  rw [dE] at w
  refine use wd_p w s h fun da e1 v H1 rs1 _ w1 s1 h1 => ?_
  refine use wd_p w1 s1 h1.mid fun db e2 u H2 rs2 _ w2 s2 h2 => ?_
  obtain ⟨d, hd, w3⟩ := ofO_ok w2
  exact ⟨da, db, rs2 ++ Fr, d, (h2.perm (.cons _ List.perm_middle)).perm (.swap _ _ _), hd, fun v H' h' => w3 v H' rs2 s2 h'⟩
end
section
variable {X : Cx} {K : PySem.W.Frag}
theorem two {H : Hp} {v u : V} {a b : D} {rs : Rt} (h : Rel K H ((v, a) :: (u, b) :: rs)) : Rel K H ((u, b) :: (v, a) :: rs) := h.perm (.swap _ _ _)
theorem ii {H : Hp} {v u : V} {i j : Int} {rs : Rt} (h : Rel K H ((v, .int i) :: (u, .int j) :: rs)) : v = .int i ∧ u = .int j ∧ Rel K H rs := ⟨h.int, h.tail.int, h.tail.tail⟩

theorem shL_of {H : Hp} {Hk : Hp} {vs ds f} (h : OwL K H Hk vs ds f) (e : frzL ds = ds) : ShL K Hk vs ds := (h.frzd e).2
theorem frzL_app (a b : List D) : frzL (a ++ b) = frzL a ++ frzL b := by
  induction a with
  | nil => rfl
  | cons x r ih =>
    rw [List.cons_append, frzL, ih]
    rfl
theorem Rel.shL {H : Hp} {v ds rs} (h : Rel K H ((v, .tup ds) :: rs)) : frzL ds = ds := by
  obtain ⟨Hk, fp, s, q, _⟩ := h
  cases q with
  | cons h _ =>
    cases h with
    | sh h =>
      cases h with
      | tup _ r => exact r.frz
theorem o_add : OpR X (binaryOp .Add) (rBin X.K .Add) := by
  intro pins s σ H x y v u Q I rx ry ⟨a, b, rs, d, h, e, q⟩
  cases a <;> cases b <;> simp only [binD, reduceCtorEq] at e
  case int.int i j =>
    cases e
    obtain ⟨rfl, rfl, h2⟩ := ii h
    exact op_add pins s σ H _ _ v u Q I rx ry ⟨i, j, rfl, rfl, q _ _ h2.addI⟩
  case str.str i j =>
    split at e
    · rename_i hz
      cases e
      obtain rfl := h.str
      obtain rfl := h.tail.str
      exact op_add_str pins s σ H _ _ v u Q I rx ry ⟨i, j, rfl, rfl, sz hz, q _ _ h.tail.tail.addS⟩
    · cases e
  case lst.lst o xs o' ys =>
    split at e
    · rename_i hz
      cases e
      obtain ⟨pa, vs, rfl, h1, l1, h2⟩ := h.open
      obtain ⟨pb, us, rfl, h3, l2, h4⟩ := (h2.dim).open
      refine op_cat pins s σ H _ _ v u Q I rx ry ⟨pa, pb, vs, us, rfl, rfl, h1, h3, by rw [l1, l2]; exact sz hz, fun p hp => q _ _ (Rel.newL ?_ (by simp [l1, l2]) hp)⟩
      rw [List.zip_append l1, List.append_assoc]
      refine h4.perm ?_
      rw [← List.append_assoc, ← List.append_assoc]
      exact List.Perm.append_right _ List.perm_append_comm
    · cases e
  case tup.tup xs ys =>
    split at e
    · rename_i hz
      cases e
      have f1 := h.shL
      have f2 := h.tail.shL
      obtain ⟨pa, vs, rfl, h1, l1, h2⟩ := h.openT
      obtain ⟨pb, us, rfl, h3, l2, h4⟩ := (h2.dim).openT
      refine op_catA pins s σ H _ _ v u Q I rx ry ⟨pa, pb, vs, us, rfl, rfl, h1, h3, by rw [l1, l2]; exact sz hz, fun z => q _ _ ?_, fun _ z => q _ _ ?_, fun _ _ p hp => q _ _ (Rel.newT ?_ (by simp [l1, l2]) ?_ hp)⟩
      · subst z
        cases xs with
        | nil => exact h.tail
        | cons _ _ => cases l1
      · subst z
        cases ys with
        | nil =>
          rw [List.append_nil]
          exact (two h).tail
        | cons _ _ => cases l2
      · rw [List.zip_append l1, List.append_assoc]
        refine h4.perm ?_
        rw [← List.append_assoc, ← List.append_assoc]
        exact List.Perm.append_right _ List.perm_append_comm
      · rw [frzL_app, f1, f2]
    · cases e
theorem o_sub (pw : Pw X) : OpR X (binaryOp .Sub) (rBin X.K .Sub) := by
  intro pins s σ H x y v u Q I rx ry ⟨a, b, rs, d, h, e, q⟩
  cases a <;> cases b <;> simp only [binD, reduceCtorEq] at e
  case int.int i j =>
    cases e
    obtain ⟨rfl, rfl, h2⟩ := ii h
    exact op_sub pins s σ H _ _ v u Q I rx ry ⟨i, j, rfl, rfl, q _ _ h2.addI⟩
  case st.st o ka o' kb =>
    split at e
    · rename_i c
      obtain ⟨c1, c2, c3⟩ := c
      cases e
      have h2 := h.tail
      obtain ⟨p, S, rfl, hp, ky, pm, nd, _⟩ := h.openS
      obtain ⟨p', So, rfl, hp', ky', pm', _, _⟩ := h2.openS
      have flat : ∀ {S : Zs.Tk} {ks : List DK}, (S.map (·.2)).Perm ks → (ks.all fun k => !Zs.tupQ k) = true → ∀ p ∈ S, Zs.tupQ p.2 = false := fun {S ks} pm c p m => by
        have := List.all_eq_true.mp c p.2 (pm.mem_iff.mp (List.mem_map.mpr ⟨p, m, rfl⟩))
        simpa using this
      have l1 : S.length = ka.length := by rw [← pm.length_eq, List.length_map]
      have l2 : So.length = kb.length := by rw [← pm'.length_eq, List.length_map]
      refine Zs.or_subS pins s σ H _ _ v u Q I rx ry ⟨p, p', S, So, rfl, rfl, by rw [pw.so]; exact hp, by rw [pw.so]; exact hp', fun r m => ⟨ky r m, flat pm c1 r m⟩, fun r m => ⟨ky' r m, flat pm' c2 r m⟩, by rw [l1, l2]; exact c3, fun r S' n k' m' nd' => ?_⟩
      rw [pw.so]
      have plain : ∀ q ∈ S', Zs.tupQ q.2 = false := fun q m => by
        have := (m' q.2).mp (List.mem_map.mpr ⟨q, m, rfl⟩)
        obtain ⟨r, mr, er⟩ := List.mem_map.mp this.1
        rw [← er]
        exact flat pm c1 r mr
      have h3 := h2.tail.addK S' fun q m => ⟨k' q m, plain q m⟩
      have em : (S'.map fun p => kD p.2) = (S'.map (·.2)).map kD := by rw [List.map_map]; rfl
      rw [em] at h3
      have zz : ∀ S' : Zs.Tk, (S'.map (·.1)).zip (S'.map (·.2)) = S' := fun S' => by
        induction S' with
        | nil => rfl
        | cons q S' ih => rw [List.map_cons, List.map_cons, List.zip_cons_cons, ih]
      refine q _ _ ((Rel.newS (ks := S'.map (·.2)) h3 (by rw [List.length_map, List.length_map, List.length_map]) (frzL_kD _) (keysD_kD _)).2 r S' n (fun q m => ?_) (perm_of nd' ?_ fun k => ?_) nd')
      · rw [zz]; exact m
      · exact (pm.nodup_iff.mp nd).filter _
      · rw [m', pm.mem_iff, pm'.mem_iff, List.mem_filter]
        cases e : Zs.hasK kb k with
        | true => exact ⟨fun z => absurd (Zs.hasK_iff.mp e) z.2, fun z => by simp at z⟩
        | false => exact ⟨fun z => ⟨z.1, rfl⟩, fun z => ⟨z.1, fun y => by rw [Zs.hasK_iff.mpr y] at e; cases e⟩⟩
    · cases e
theorem o_fdiv : OpR X (binaryOp .FloorDiv) (rBin X.K .FloorDiv) := by
  intro pins s σ H x y v u Q I rx ry ⟨a, b, rs, d, h, e, q⟩
  cases a <;> cases b <;> simp only [binD, reduceCtorEq] at e
  case int.int i j =>
    split at e
    · rename_i hz
      cases e
      obtain ⟨rfl, rfl, h2⟩ := ii h
      exact op_fdiv pins s σ H _ _ v u Q I rx ry ⟨i, j, rfl, rfl, hz, q _ _ h2.addI⟩
    · cases e
theorem o_mod : OpR X (binaryOp .Mod) (rBin X.K .Mod) := by
  intro pins s σ H x y v u Q I rx ry ⟨a, b, rs, d, h, e, q⟩
  cases a <;> cases b <;> simp only [binD, reduceCtorEq] at e
  case int.int i j =>
    split at e
    · rename_i hz
      cases e
      obtain ⟨rfl, rfl, h2⟩ := ii h
      exact op_mod pins s σ H _ _ v u Q I rx ry ⟨i, j, rfl, rfl, hz, q _ _ h2.addI⟩
    · cases e
theorem o_pow : OpR X (binaryOp .Pow) (rBin X.K .Pow) := by
  intro pins s σ H x y v u Q I rx ry ⟨a, b, rs, d, h, e, q⟩
  cases a <;> cases b <;> simp only [binD, reduceCtorEq] at e
  case int.int i j =>
    split at e
    · rename_i hz
      cases e
      obtain ⟨rfl, rfl, h2⟩ := ii h
      exact op_pow pins s σ H _ _ v u Q I rx ry ⟨i, j, rfl, rfl, ⟨hz.1, by omega, hz.2.2⟩, q _ _ h2.addI⟩
    · cases e
theorem mul_ok {i j : Int} (h : mulOk i j = true) : CMul i j := by
  unfold mulOk at h
  simp only [Bool.or_eq_true, decide_eq_true_eq] at h
  unfold CMul
  omega
theorem frzL_rep (a : List D) (e : frzL a = a) (n : Nat) : frzL (List.replicate n a).flatten = (List.replicate n a).flatten := by
  induction n with
  | zero => rfl
  | succ n ih => rw [List.replicate_succ, List.flatten_cons, frzL_app, e, ih]
theorem Rel.fold {H : Hp} {vs ds rs} (l : vs.length = ds.length) (f : frzL ds = ds) (h : Rel K H (vs.zip ds ++ rs)) : ∀ n, Rel K H ((List.replicate n vs).flatten.zip (List.replicate n ds).flatten ++ rs)
  | 0 => by simpa using h.cut
  | n + 1 => by
    have ih := Rel.fold l f h n
    rw [List.replicate_succ, List.replicate_succ, List.flatten_cons, List.flatten_cons, List.zip_append l, List.append_assoc]
    obtain ⟨Hk, fp, s, q, nd, k⟩ := h
    obtain ⟨f1, f2, rfl, h1, h2⟩ := q.split l
    obtain ⟨rfl, h3⟩ := h1.frzd f
    have rep : ∀ n, ShL K Hk (List.replicate n vs).flatten (List.replicate n ds).flatten := by
      intro n
      induction n with
      | zero => exact .nil
      | succ n ih =>
        rw [List.replicate_succ, List.replicate_succ, List.flatten_cons, List.flatten_cons]
        have app : ∀ {a b c d}, ShL K Hk a b → ShL K Hk c d → ShL K Hk (a ++ c) (b ++ d) := by
          intro a b c d p q
          induction a generalizing b with
          | nil => cases p; exact q
          | cons x r ih =>
            cases p with
            | cons p1 p2 => exact .cons p1 (ih p2)
        exact app h3 ih
    refine ⟨Hk, [] ++ ([] ++ f2), s, (OwL.of_sh h3).app ((OwL.of_sh (rep n)).app h2), nd, k⟩
theorem o_mul : OpR X (binaryOp .Mult) (rBin X.K .Mult) := by
  intro pins s σ H x y v u Q I rx ry ⟨a, b, rs, d, h, e, q⟩
  cases a <;> cases b <;> simp only [binD, reduceCtorEq] at e
  case int.int i j =>
    split at e
    · rename_i hz
      cases e
      obtain ⟨rfl, rfl, h2⟩ := ii h
      exact op_mul pins s σ H _ _ v u Q I rx ry ⟨i, j, rfl, rfl, mul_ok hz, q _ _ h2.addI⟩
    · cases e
  case lst.int o xs j =>
    split at e
    · rename_i hz
      cases e
      obtain ⟨f, z1, z2, z3⟩ := hz
      have f := isFL_frz f
      obtain rfl := h.tail.int
      obtain ⟨pa, vs, rfl, h1, l1, h2⟩ := h.open
      have hb : (big : Int) = 1000000 := rfl
      refine op_rep pins s σ H _ _ v u Q I rx ry ⟨pa, j, vs, rfl, rfl, h1, by omega, by omega, by rw [l1]; exact sz z3, fun p hp => q _ _ (Rel.newL ?_ ?_ hp)⟩
      · exact ((Rel.fold l1 f h2 j.toNat).perm List.perm_middle).tail
      · simp [List.length_flatten, l1]
    · cases e
  case tup.int xs j =>
    split at e
    · rename_i hz
      cases e
      obtain ⟨z1, z2, z3, z4⟩ := hz
      have f := h.shL
      obtain rfl := h.tail.int
      obtain ⟨pa, vs, rfl, h1, l1, h2⟩ := h.openT
      refine op_repT pins s σ H _ _ v u Q I rx ry ⟨pa, j, vs, rfl, rfl, h1, ?_, z2, z3, by omega, fun p hp => q _ _ (Rel.newT ?_ ?_ (frzL_rep _ f _) hp)⟩
      · rintro rfl
        cases xs with
        | nil => simp at z1
        | cons _ _ => cases l1
      · exact ((Rel.fold l1 f h2 j.toNat).perm List.perm_middle).tail
      · simp [List.length_flatten, l1]
    · cases e
theorem o_any (pw : Pw X) (o : Operator) : (∀ a b, binD o a b = none) ∨ OpR X (binaryOp o) (rBin X.K o) := by
  cases o
  case Add => exact .inr o_add
  case Sub => exact .inr (o_sub pw)
  case Mult => exact .inr o_mul
  case FloorDiv => exact .inr o_fdiv
  case Mod => exact .inr o_mod
  case Pow => exact .inr o_pow
  all_goals exact .inl fun a b => by cases a <;> cases b <;> rfl
theorem o_all (pw : Pw X) (o : Operator) (hx : OpR X (binaryOp o) (fun _ _ _ _ => False)) : OpR X (binaryOp o) (rBin X.K o) := by
  rcases o_any (X := X) pw o with h | h
  · intro pins s σ H x y v u Q I rx ry ⟨a, b, rs, d, _, e, _⟩
    rw [h] at e
    cases e
  · exact h
end
end Z

set_option Elab.async false
set_option linter.all false
set_option autoImplicit false
set_option maxRecDepth 100000
set_option maxHeartbeats 2000000
/-! Z5: comparisons, truth, tests. -/
namespace Z
open PySem PySem.Spec PyProof.Rows L2
variable [Tbs]

section
variable {K : PySem.W.Frag} {H Hk : Hp}
mutual
  theorem Sh.dp (s : Sub Hk H) : ∀ {v d p}, Sh K Hk v d → py d = some p → Dp K H v p
    | _, _, _, .non, e => by cases e; exact .non
    | _, _, _, .bl b, e => by cases e; exact .bl b
    | _, _, _, .int i, e => by cases e; exact .int i
    | _, _, _, .str x, e => by cases e; exact .str x
    | _, _, _, .tup (ds := ds) h r, e => by
      rw [py] at e
      cases hp : pyL ds with
      | none => rw [hp] at e; cases e
      | some ps =>
        rw [hp] at e
        cases e
        exact .tup (s.tup h) (r.dp s hp)
    | _, _, _, .lck h r, e => by cases e
    | _, _, _, .lst (ds := ds) h r, e => by
      rw [py] at e
      cases hp : pyL ds with
      | none => rw [hp] at e; cases e
      | some ps =>
        rw [hp] at e
        cases e
        exact .lst (.inl (.inl (s _ _ h))) (r.dp s hp)
    | _, _, _, .dic h _ r, e => by cases e
    | _, _, _, .st _ _ _ _, e => by cases e
    | _, _, _, .ob _ _, e => by cases e
    | _, _, _, .obf _ _ _ _, e => by cases e
  theorem ShL.dp (s : Sub Hk H) : ∀ {v d p}, ShL K Hk v d → pyL d = some p → DpAll K H v p
    | _, _, _, .nil, e => by cases e; exact .nil
    | _, _, _, .cons (d := d) (ds := ds) h r, e => by
      rw [pyL] at e
      cases hp : py d with
      | none => rw [hp] at e; cases e
      | some a =>
        cases hq : pyL ds with
        | none => rw [hp, hq] at e; cases e
        | some b =>
          rw [hp, hq] at e
          cases e
          exact .cons (h.dp s hp) (r.dp s hq)
end
theorem Rel.dp {rs : Rt} {v d p} (h : Rel K H ((v, d) :: rs)) (f : frz d = d) (e : py d = some p) : Dp K H v p := by
  obtain ⟨Hk, fp, s, q, _⟩ := h
  cases q with
  | cons h _ => exact (h.shared f).2.dp s e
theorem Rel.tru {rs : Rt} {v d k} (h : Rel K H ((v, d) :: rs)) (e : truth d = some k) : TruV K v H k := by
  have em : ∀ {vs : List V} {ds : List D}, vs.length = ds.length → (!ds.isEmpty) = !vs.isEmpty := by
    intro vs ds l
    cases vs <;> cases ds <;> first | rfl | cases l
  cases d with
  | non => cases e; obtain rfl := h.non; rfl
  | bl b => cases e; obtain rfl := h.bl; rfl
  | int i => cases e; obtain rfl := h.int; rfl
  | str x =>
    rw [truth] at e
    split at e
    · rename_i hz
      cases e
      obtain rfl := h.str
      refine ⟨sz hz, ?_⟩
      cases hx : x.length <;> rfl
    · cases e
  | tup xs =>
    cases e
    obtain ⟨p, vs, rfl, h1, l, _⟩ := h.openT
    exact .inr (.inl ⟨vs, h1, em l⟩)
  | lck xs =>
    cases e
    obtain ⟨Hk, fp, s, q, _⟩ := h
    cases q with
    | cons h _ =>
      cases h with
      | sh h =>
        cases h with
        | lck h r => exact .inl ⟨_, s.lst h, em (OwL.of_sh (H := H) r).len⟩
  | lst o xs =>
    cases e
    obtain ⟨p, vs, rfl, h1, l, _⟩ := h.open
    exact .inl ⟨vs, .inl (.inl h1), em l⟩
  | dic o kvs => cases e
  | st ks => cases e
  | ob c => cases e
  | obf c f x => cases e
end

section
variable {X : Cx} {T : Tab} {pos : Pos}
/-- a comparison's rule on plain data -/
def rCmp (K : PySem.W.Frag) (o : CmpOp) : R2 := fun x y H Q => ∃ a b rs k, Rel K H ((x, a) :: (y, b) :: rs) ∧ frz a = a ∧ frz b = b ∧ cmpD o a b = some k ∧ Q (.bl k) H
theorem eqD_ok {a b : D} {k : Bool} (h : eqD a b = some k) : ∃ p q, py a = some p ∧ py b = some q ∧ SeqAt.shaped p = true ∧ SeqAt.shaped q = true ∧ PyData.eqv p q = k := by
  unfold eqD at h
  cases ha : py a with
  | none => rw [ha] at h; cases h
  | some p =>
    cases hb : py b with
    | none => rw [ha, hb] at h; cases h
    | some q =>
      rw [ha, hb] at h
      dsimp only at h
      split at h
      · rename_i z
        exact ⟨p, q, rfl, rfl, z.1, z.2, Option.some.inj h⟩
      · cases h
theorem inL_ok {a : D} {b : List D} {k : Bool} (h : inL a b = some k) : ∃ p q, py a = some p ∧ pyL b = some q ∧ SeqAt.shaped p = true ∧ SeqAt.shaped (.list q) = true ∧ (q.any fun z => PyData.eqv z p) = k := by
  unfold inL at h
  cases ha : py a with
  | none => rw [ha] at h; cases h
  | some p =>
    cases hb : pyL b with
    | none => rw [ha, hb] at h; cases h
    | some q =>
      rw [ha, hb] at h
      dsimp only at h
      split at h
      · rename_i z
        exact ⟨p, q, rfl, rfl, z.1, z.2, Option.some.inj h⟩
      · cases h
theorem c_eq (hu : X.A.units + 65 < cLine) : OpR X (compareOp .Eq) (rCmp X.K .Eq) := by
  intro pins s σ H x y v u Q I rx ry ⟨a, b, rs, k, h, fa, fb, e, q⟩
  have e : eqD a b = some k := by cases a <;> exact e
  obtain ⟨p1, p2, e1, e2, s1, s2, rfl⟩ := eqD_ok e
  exact op_eqD (by omega) pins s σ H _ _ v u Q I rx ry ⟨p1, p2, h.dp fa e1, h.tail.dp fb e2, s1, s2, q⟩
theorem c_ne (hu : X.A.units + 65 < cLine) : OpR X (compareOp .NotEq) (rCmp X.K .NotEq) := by
  intro pins s σ H x y v u Q I rx ry ⟨a, b, rs, k, h, fa, fb, e, q⟩
  have e : (eqD a b).map (!·) = some k := by cases a <;> exact e
  cases ez : eqD a b with
  | none => rw [ez] at e; cases e
  | some k' =>
    rw [ez] at e
    cases e
    obtain ⟨p1, p2, e1, e2, s1, s2, rfl⟩ := eqD_ok ez
    exact op_neD (by omega) pins s σ H _ _ v u Q I rx ry ⟨p1, p2, h.dp fa e1, h.tail.dp fb e2, s1, s2, q⟩
theorem Rel.dpL {K : PySem.W.Frag} {H : Hp} {rs : Rt} {v ds p o} (h : Rel K H ((v, .lst o ds) :: rs)) (f : frz (.lst o ds) = .lst o ds) (e : pyL ds = some p) : Dp K H v (.list p) :=
  h.dp f (by rw [py, e]; rfl)
theorem Rel.dpT {K : PySem.W.Frag} {H : Hp} {rs : Rt} {v ds p} (h : Rel K H ((v, .tup ds) :: rs)) (f : frz (.tup ds) = .tup ds) (e : pyL ds = some p) : Dp K H v (.tuple p) :=
  h.dp f (by rw [py, e]; rfl)
/-- among the items of a list, of a tuple -/
theorem in_go (hu : X.A.units + 65 < cLine) {neg : Bool} {pins : List (Addr × Obj)} {s : Shared} {σ : L2.St} {H : Hp} {x y : V} {v u : Value} {Q : VK} (I : Inv X pins σ H s) (rx : RelV x v) (ry : RelV y u) {p : PyData} {q : List PyData}
    (h1 : Dp X.K H x p) (h2 : Dp X.K H y (.list q) ∨ Dp X.K H y (.tuple q)) (s1 : SeqAt.shaped p = true) (s2 : SeqAt.shaped (.list q) = true)
    (w : Q (.bl (if neg = true then !(q.any fun z => PyData.eqv z p) else (q.any fun z => PyData.eqv z p))) H) : wpAny (model X.prog X.w) X.A (compareOp (if neg = true then .NotIn else .In) v u) (EP X pins σ Q) X.xe s := by
  obtain ⟨as, r1⟩ := Dp.reads I p x v h1 rx
  rcases h2 with h2 | h2
  all_goals
    obtain ⟨bs, r2⟩ := Dp.reads I _ y u h2 ry
    cases neg with
    | true => first
      | exact SeqAt.notIn_list_reads r2 r1 (SeqAt.canLay_of_shaped s2) (SeqAt.canLay_of_shaped s1) (room_in_shaped s1 hu) ⟨.bl _, H, I, rfl, w⟩
      | exact SeqAt.notIn_tuple_reads r2 r1 (SeqAt.canLay_of_shaped s2) (SeqAt.canLay_of_shaped s1) (room_in_shaped s1 hu) ⟨.bl _, H, I, rfl, w⟩
    | false => first
      | exact SeqAt.in_list_reads r2 r1 (SeqAt.canLay_of_shaped s2) (SeqAt.canLay_of_shaped s1) (room_in_shaped s1 hu) ⟨.bl _, H, I, rfl, w⟩
      | exact SeqAt.in_tuple_reads r2 r1 (SeqAt.canLay_of_shaped s2) (SeqAt.canLay_of_shaped s1) (room_in_shaped s1 hu) ⟨.bl _, H, I, rfl, w⟩
theorem c_in (hu : X.A.units + 65 < cLine) : OpR X (compareOp .In) (rCmp X.K .In) := by
  intro pins s σ H x y v u Q I rx ry ⟨a, b, rs, k, h, fa, fb, e, q⟩
  cases b with
  | tup ds =>
    have e : inL a ds = some k := by cases a <;> exact e
    obtain ⟨p1, p2, e1, e2, s1, s2, rfl⟩ := inL_ok e
    exact in_go (neg := false) hu I rx ry (h.dp fa e1) (.inr (h.tail.dpT fb e2)) s1 s2 q
  | lst o ds =>
    have e : inL a ds = some k := by cases a <;> exact e
    obtain ⟨p1, p2, e1, e2, s1, s2, rfl⟩ := inL_ok e
    exact in_go (neg := false) hu I rx ry (h.dp fa e1) (.inl (h.tail.dpL fb e2)) s1 s2 q
  | _ => cases a <;> cases e
theorem c_notin (hu : X.A.units + 65 < cLine) : OpR X (compareOp .NotIn) (rCmp X.K .NotIn) := by
  intro pins s σ H x y v u Q I rx ry ⟨a, b, rs, k, h, fa, fb, e, q⟩
  cases b with
  | tup ds =>
    have e : (inL a ds).map (!·) = some k := by cases a <;> exact e
    cases ez : inL a ds with
    | none => rw [ez] at e; cases e
    | some k' =>
      rw [ez] at e
      cases e
      obtain ⟨p1, p2, e1, e2, s1, s2, rfl⟩ := inL_ok ez
      exact in_go (neg := true) hu I rx ry (h.dp fa e1) (.inr (h.tail.dpT fb e2)) s1 s2 q
  | lst o ds =>
    have e : (inL a ds).map (!·) = some k := by cases a <;> exact e
    cases ez : inL a ds with
    | none => rw [ez] at e; cases e
    | some k' =>
      rw [ez] at e
      cases e
      obtain ⟨p1, p2, e1, e2, s1, s2, rfl⟩ := inL_ok ez
      exact in_go (neg := true) hu I rx ry (h.dp fa e1) (.inl (h.tail.dpL fb e2)) s1 s2 q
  | _ => cases a <;> cases e
theorem c_lt : OpR X (compareOp .Lt) (rCmp X.K .Lt) := by
  intro pins s σ H x y v u Q I rx ry ⟨a, b, rs, k, h, fa, fb, e, q⟩
  cases a <;> cases b <;> first | cases e | skip
  case int.int.refl i j =>
    obtain ⟨rfl, rfl, _⟩ := ii h
    exact op_lt pins s σ H _ _ v u Q I rx ry ⟨i, j, rfl, rfl, q⟩
  case str.str.refl i j =>
    obtain rfl := h.str
    obtain rfl := h.tail.str
    exact op_lt_str pins s σ H _ _ v u Q I rx ry ⟨i, j, rfl, rfl, q⟩
theorem c_le : OpR X (compareOp .LtE) (rCmp X.K .LtE) := by
  intro pins s σ H x y v u Q I rx ry ⟨a, b, rs, k, h, fa, fb, e, q⟩
  cases a <;> cases b <;> first | cases e | skip
  case int.int.refl i j =>
    obtain ⟨rfl, rfl, _⟩ := ii h
    exact op_le pins s σ H _ _ v u Q I rx ry ⟨i, j, rfl, rfl, q⟩
  case str.str.refl i j =>
    obtain rfl := h.str
    obtain rfl := h.tail.str
    obtain ⟨t, rfl⟩ := rx
    obtain ⟨t', rfl⟩ := ry
    exact PySem.P.le_str ⟨.bl _, H, I, rfl, q⟩
theorem c_gt : OpR X (compareOp .Gt) (rCmp X.K .Gt) := by
  intro pins s σ H x y v u Q I rx ry ⟨a, b, rs, k, h, fa, fb, e, q⟩
  cases a <;> cases b <;> first | cases e | skip
  case int.int.refl i j =>
    obtain ⟨rfl, rfl, _⟩ := ii h
    exact op_gt pins s σ H _ _ v u Q I rx ry ⟨i, j, rfl, rfl, q⟩
theorem c_ge : OpR X (compareOp .GtE) (rCmp X.K .GtE) := by
  intro pins s σ H x y v u Q I rx ry ⟨a, b, rs, k, h, fa, fb, e, q⟩
  cases a <;> cases b <;> first | cases e | skip
  case int.int.refl i j =>
    obtain ⟨rfl, rfl, _⟩ := ii h
    exact op_ge pins s σ H _ _ v u Q I rx ry ⟨i, j, rfl, rfl, q⟩
/-- the comparisons that are carried -/
def okCmp : CmpOp → Bool
  | .Eq | .NotEq | .Lt | .LtE | .Gt | .GtE | .In | .NotIn => true
  | _ => false
theorem c_all (hu : X.A.units + 65 < cLine) {o : CmpOp} (h : okCmp o = true) : OpR X (compareOp o) (rCmp X.K o) := by
  cases o <;> first | exact c_eq hu | exact c_ne hu | exact c_lt | exact c_le | exact c_gt | exact c_ge | exact c_in hu | exact c_notin hu | cases h

theorem froz2 {K : PySem.W.Frag} {H : Hp} {v u : V} {a b : D} {rs : Rt} (h : Rel K H ((v, a) :: (u, b) :: rs)) : Rel K H ((v, fz a) :: (u, fz b) :: rs) := by
  rw [fz_eq, fz_eq]
  exact (two (two h.froz).froz)
theorem fz_frz (a : D) : frz (fz a) = fz a := by
  rw [fz_eq, frz_frz]
variable {ea eb ec : Expr} {a b c : E}
theorem map_ok {α β : Type} {o : Option α} {f : α → β} {d : β} (h : o.map f = some d) : ∃ k, o = some k ∧ f k = d := by
  cases o with
  | none => cases h
  | some k => exact ⟨k, rfl, Option.some.inj h⟩
theorem cmp_i {o : CmpOp} {σ : L2.St} {H : Hp} {Q : VK} (g : tE X.K T (.cmp o a b) σ H Q) : tOp (rCmp X.K o) (tE X.K T a) (tE X.K T b) σ H Q := by
  obtain ⟨e, rs, Fr, s, h, w⟩ := g
  rw [dE] at w
  refine use wd_p w s h fun da e1 v H1 rs1 _ w1 s1 h1 => ?_
  refine use wd_p w1 s1 h1.mid fun db e2 u H2 rs2 _ w2 s2 h2 => ?_
  obtain ⟨d, hd, w3⟩ := ofO_ok w2
  obtain ⟨k, hk, rfl⟩ := map_ok hd
  refine ⟨fz da, fz db, rs2 ++ Fr, k, froz2 ((h2.perm (.cons _ List.perm_middle)).perm (.swap _ _ _)), fz_frz _, fz_frz _, hk, ?_⟩
  exact w3 _ H2 rs2 s2 ((h2.perm (.cons _ List.perm_middle)).tail.tail.addB)
theorem z_cmp (hu : X.A.units + 65 < cLine) {o : CmpOp} (ho : okCmp o = true) (hm : behindInMarks o eb = false) (ha : PE X ea (tE X.K T a)) (hb : PE X eb (tE X.K T b)) : PE X (.Compare ea [o] [eb] pos) (tE X.K T (.cmp o a b)) := by
  exact imp (pe_cmpR (c_all hu ho) ha hb hm) fun σ H Q => cmp_i
theorem chn_i {o o' : CmpOp} {σ : L2.St} {H : Hp} {Q : VK} (g : tE X.K T (.chn o o' a b c) σ H Q) : tChain (rCmp X.K o) (rCmp X.K o') (tE X.K T a) (tE X.K T b) (tE X.K T c) σ H Q := by
  obtain ⟨e, rs, Fr, s, h, w⟩ := g
  rw [dE] at w
  refine use wd_p w s h fun da e1 v H1 rs1 _ w1 s1 h1 => ?_
  refine use wd_p w1 s1 h1.mid fun db e2 u H2 rs2 _ w2 s2 h2 => ?_
  have r2 := froz2 ((h2.perm (.cons _ List.perm_middle)).perm (.swap _ _ _))
  cases hk : cmpD o (fz da) (fz db) with
  | none =>
    rw [hk] at w2
    exact w2.elim
  | some k =>
    rw [hk] at w2
    refine ⟨fz da, fz db, rs2 ++ Fr, k, r2, fz_frz _, fz_frz _, hk, k, rfl, ?_⟩
    cases k with
    | false => exact w2 _ H2 rs2 s2 r2.tail.tail.addB
    | true =>
      rw [if_pos rfl]
      refine use wd_p w2 s2 r2.tail.mid fun dc e3 t H3 rs3 _ w3 s3 h3 => ?_
      obtain ⟨d, hd, w4⟩ := ofO_ok w3
      obtain ⟨k, hk', rfl⟩ := map_ok hd
      have r3 := h3.perm (.cons _ List.perm_middle)
      refine ⟨fz db, fz dc, rs3 ++ Fr, k, ?_, fz_frz _, fz_frz _, hk', w4 _ H3 rs3 s3 r3.tail.tail.addB⟩
      rw [fz_eq dc]
      exact two r3.froz
theorem z_chn (hu : X.A.units + 65 < cLine) {o o' : CmpOp} (ho : okCmp o = true) (ho' : okCmp o' = true) (hm : lastMarks [o, o'] [eb, ec] = false) (ha : PE X ea (tE X.K T a)) (hb : PE X eb (tE X.K T b)) (hc : PE X ec (tE X.K T c)) :
    PE X (.Compare ea [o, o'] [eb, ec] pos) (tE X.K T (.chn o o' a b c)) := by
  exact imp (pe_chain (c_all hu ho) (c_all hu ho') ha hb hc hm) fun σ H Q => chn_i
theorem isN_d {H : Hp} {v : V} {d : D} {rs : Rt} (h : Rel X.K H ((v, d) :: rs)) : decide (v = .non) = (match d with | .non => true | _ => false) := by
  obtain ⟨Hk, f, s, o⟩ := h.head
  cases o with
  | sh h => cases h <;> simp
  | lst _ _ => simp
  | dic _ _ _ => simp
  | st _ _ _ _ => simp
def rNon (n : Bool) : R2 := fun x y H Q => y = .non ∧ Q (.bl (if n = true then !decide (x = .non) else decide (x = .non))) H
theorem op_non (n : Bool) : OpR X (compareOp (if n = true then .IsNot else .Is)) (rNon n) := by
  cases n with
  | true => exact op_notN
  | false => exact op_isN
theorem isN_i {n : Bool} {σ : L2.St} {H : Hp} {Q : VK} (g : tE X.K T (.isN n a) σ H Q) : tOp (rNon n) (tE X.K T a) (tC .non) σ H Q := by
  obtain ⟨e, rs, Fr, s, h, w⟩ := g
  rw [dE] at w
  refine use wd_p w s h fun da e1 v H1 rs1 _ w1 s1 h1 => ⟨rfl, ?_⟩
  rw [isN_d h1]
  refine w1 _ H1 rs1 s1 ?_
  cases n <;> cases da <;> exact h1.tail.addB
theorem mark_non (n : Bool) {j : Nat} {p2 : Pos} : behindInMarks (if n = true then .IsNot else .Is) (.Constant .none j p2) = false := by cases n <;> rfl
theorem z_isN (n : Bool) {j : Nat} {p2 : Pos} (ha : PE X ea (tE X.K T a)) : PE X (.Compare ea [if n = true then .IsNot else .Is] [.Constant .none j p2] pos) (tE X.K T (.isN n a)) :=
  imp (pe_cmpR (op_non n) ha pe_non (mark_non n)) fun σ H Q => isN_i

/-! ### and, or, not, by truth -/
variable {rest : List Expr}
theorem z_one {op : BoolOp} (ha : PE X ea (tE X.K T a)) : PE X (.BoolOp op [ea] pos) (tE X.K T a) := pe_one ha
theorem z_and (ha : PE X ea (tE X.K T a)) (hb : PE X (.BoolOp .And (eb :: rest) pos) (tE X.K T b)) : PE X (.BoolOp .And (ea :: eb :: rest) pos) (tE X.K T (.and a b)) := by
  refine imp (pe_andT ha hb) fun σ H Q ⟨e, rs, Fr, s, h, w⟩ => ?_
  rw [dE] at w
  refine use wd_p w s h fun da e1 v H1 rs1 _ w1 s1 h1 => ?_
  cases hk : truth da with
  | none =>
    rw [hk] at w1
    exact w1.elim
  | some k =>
    rw [hk] at w1
    refine ⟨k, h1.tru hk, ?_⟩
    cases k with
    | true => exact ⟨e1, rs1, Fr, s1, h1.tail, w1⟩
    | false => exact w1 v H1 rs1 s1 h1
theorem z_or (ha : PE X ea (tE X.K T a)) (hb : PE X (.BoolOp .Or (eb :: rest) pos) (tE X.K T b)) : PE X (.BoolOp .Or (ea :: eb :: rest) pos) (tE X.K T (.or a b)) := by
  refine imp (pe_orT ha hb) fun σ H Q ⟨e, rs, Fr, s, h, w⟩ => ?_
  rw [dE] at w
  refine use wd_p w s h fun da e1 v H1 rs1 _ w1 s1 h1 => ?_
  cases hk : truth da with
  | none =>
    rw [hk] at w1
    exact w1.elim
  | some k =>
    rw [hk] at w1
    refine ⟨k, h1.tru hk, ?_⟩
    cases k with
    | true => exact w1 v H1 rs1 s1 h1
    | false => exact ⟨e1, rs1, Fr, s1, h1.tail, w1⟩
theorem z_not (ha : PE X ea (tE X.K T a)) : PE X (.UnaryOp .Not ea pos) (tE X.K T (.tst (.not (.val a)))) := by
  refine imp (pe_notT ha) fun σ H Q ⟨e, rs, Fr, s, h, w⟩ => ?_
  rw [dE, dT, dT] at w
  have w' : Wp X.K σ Fr ((dE T a e).bind fun d e => (ofO (truth d) e).bind fun k e => .ok (.bl (!k)) e) Q := by
    cases hr : dE T a e <;> rw [hr] at w
    · revert w
      simp only [R.bind]
      cases truth _ <;> exact id
    · exact w.elim
    · exact w.elim
  refine use wd_p w' s h fun da e1 v H1 rs1 _ w1 s1 h1 => ?_
  cases hk : truth da with
  | none =>
    rw [hk] at w1
    exact w1.elim
  | some k =>
    rw [hk] at w1
    exact ⟨k, h1.tru hk, w1 _ H1 rs1 s1 h1.tail.addB⟩
/-! tests -/
theorem zt_val (ha : PE X ea (tE X.K T a)) (he : ∀ whole, isTrue ea X.env whole = (do let v ← whole; standAt ea.pos; holding [v] (truthy v))) : PT X ea (tT X.K T (.val a)) := by
  refine impT (pt_truth ha he) fun σ H Q ⟨e, rs, Fr, s, h, w⟩ => ?_
  rw [dT] at w
  refine use wd_b w s h fun da e1 v H1 rs1 _ w1 s1 h1 => ?_
  cases hk : truth da with
  | none =>
    rw [hk] at w1
    exact w1.elim
  | some k =>
    rw [hk] at w1
    exact ⟨k, h1.tru hk, w1 H1 rs1 s1 h1.tail⟩
/-- where an expression gives a bool -/
theorem val_bl {y : E} (hb : ∀ e d e', dE T y e = .ok d e' → ∃ k, d = .bl k) {σ : L2.St} {H : Hp} {Q : Bool → Hp → Prop} (g : tT X.K T (.val y) σ H Q) : tE X.K T y σ H fun x H1 => ∃ k, x = .bl k ∧ Q k H1 := by
  obtain ⟨e, rs, Fr, s, h, w⟩ := g
  rw [dT] at w
  refine use wd_b w s h fun d e1 v H1 rs1 hd w1 s1 h1 => ?_
  obtain ⟨k, rfl⟩ := hb _ _ _ hd
  obtain rfl := h1.bl
  exact ⟨k, rfl, w1 H1 rs1 s1 h1.tail⟩
theorem bind_ok {α β : Type} {r : R α} {f : α → Ev → R β} {b : β} {e : Ev} (h : r.bind f = .ok b e) : ∃ a e1, r = .ok a e1 ∧ f a e1 = .ok b e := by
  cases r with
  | ok a e1 => exact ⟨a, e1, rfl, h⟩
  | ex _ _ => cases h
  | no => cases h
theorem ofO_eq {α : Type} {o : Option α} {e e' : Ev} {a : α} (h : ofO o e = .ok a e') : o = some a ∧ e = e' := by
  cases o with
  | none => cases h
  | some b =>
    injection h with h1 h2
    exact ⟨congrArg some h1, h2⟩
theorem bl_cmp {o : CmpOp} (e : Ev) (d : D) (e' : Ev) (h : dE T (.cmp o a b) e = .ok d e') : ∃ k, d = .bl k := by
  rw [dE] at h
  obtain ⟨_, _, _, h⟩ := bind_ok h
  obtain ⟨_, _, _, h⟩ := bind_ok h
  obtain ⟨k, _, rfl⟩ := map_ok (ofO_eq h).1
  exact ⟨k, rfl⟩
theorem bl_isN {n : Bool} (e : Ev) (d : D) (e' : Ev) (h : dE T (.isN n a) e = .ok d e') : ∃ k, d = .bl k := by
  rw [dE] at h
  obtain ⟨x, _, _, h⟩ := bind_ok h
  injection h with h _
  exact ⟨_, h.symm⟩
theorem bl_chn {o o' : CmpOp} (e : Ev) (d : D) (e' : Ev) (h : dE T (.chn o o' a b c) e = .ok d e') : ∃ k, d = .bl k := by
  rw [dE] at h
  obtain ⟨x, _, _, h⟩ := bind_ok h
  obtain ⟨y, _, _, h⟩ := bind_ok h
  cases hk : cmpD o (fz x) (fz y) with
  | none => rw [hk] at h; cases h
  | some k =>
    rw [hk] at h
    cases k with
    | false =>
      injection h with h _
      exact ⟨_, h.symm⟩
    | true =>
      obtain ⟨_, _, _, h⟩ := bind_ok h
      obtain ⟨k, _, rfl⟩ := map_ok (ofO_eq h).1
      exact ⟨k, rfl⟩
theorem zt_cmp (hu : X.A.units + 65 < cLine) {o : CmpOp} (ho : okCmp o = true) (hm : behindInMarks o eb = false) (ha : PE X ea (tE X.K T a)) (hb : PE X eb (tE X.K T b)) : PT X (.Compare ea [o] [eb] pos) (tT X.K T (.val (.cmp o a b))) :=
  impT (pt_cmpR (c_all hu ho) ha hb hm) fun σ H Q g => cmp_i (val_bl bl_cmp g)
theorem zt_chn (hu : X.A.units + 65 < cLine) {o o' : CmpOp} (ho : okCmp o = true) (ho' : okCmp o' = true) (hm : lastMarks [o, o'] [eb, ec] = false) (ha : PE X ea (tE X.K T a)) (hb : PE X eb (tE X.K T b)) (hc : PE X ec (tE X.K T c)) :
    PT X (.Compare ea [o, o'] [eb, ec] pos) (tT X.K T (.val (.chn o o' a b c))) :=
  impT (pt_chain (c_all hu ho) (c_all hu ho') ha hb hc hm) fun σ H Q g => chn_i (val_bl bl_chn g)
theorem zt_isN (n : Bool) {j : Nat} {p2 : Pos} (ha : PE X ea (tE X.K T a)) : PT X (.Compare ea [if n = true then .IsNot else .Is] [.Constant .none j p2] pos) (tT X.K T (.val (.isN n a))) :=
  impT (pt_cmpR (op_non n) ha pe_non (mark_non n)) fun σ H Q g => isN_i (val_bl bl_isN g)
variable {ta tb : Te}
theorem zw_one {op : BoolOp} (ho : op = .And ∨ op = .Or) (ha : PT X ea (tT X.K T ta)) : PW X (.BoolOp op [ea] pos) (tT X.K T ta) := by
  rcases ho with rfl | rfl
  · exact pw_and1 ha
  · exact pw_or1 ha
theorem zw_and (ha : PT X ea (tT X.K T ta)) (hb : PW X (.BoolOp .And (eb :: rest) pos) (tT X.K T tb)) : PW X (.BoolOp .And (ea :: eb :: rest) pos) (tT X.K T (.and ta tb)) := by
  refine impW (pw_and ha hb) fun σ H Q ⟨e, rs, Fr, s, h, w⟩ => ?_
  rw [dT] at w
  refine useT wd_b w s h fun k e1 H1 rs1 _ w1 s1 h1 => ?_
  cases k with
  | true => exact ⟨e1, rs1, Fr, s1, h1, w1⟩
  | false => exact w1 H1 rs1 s1 h1
theorem zw_or (ha : PT X ea (tT X.K T ta)) (hb : PW X (.BoolOp .Or (eb :: rest) pos) (tT X.K T tb)) : PW X (.BoolOp .Or (ea :: eb :: rest) pos) (tT X.K T (.or ta tb)) := by
  refine impW (pw_or ha hb) fun σ H Q ⟨e, rs, Fr, s, h, w⟩ => ?_
  rw [dT] at w
  refine useT wd_b w s h fun k e1 H1 rs1 _ w1 s1 h1 => ?_
  cases k with
  | true => exact w1 H1 rs1 s1 h1
  | false => exact ⟨e1, rs1, Fr, s1, h1, w1⟩
theorem zt_not (ha : PT X ea (tT X.K T ta)) : PT X (.UnaryOp .Not ea pos) (tT X.K T (.not ta)) := by
  refine impT (pt_not ha) fun σ H Q ⟨e, rs, Fr, s, h, w⟩ => ?_
  rw [dT] at w
  exact useT wd_b w s h fun k e1 H1 rs1 _ w1 s1 h1 => w1 H1 rs1 s1 h1
theorem z_ite {ec : Expr} (hc : PT X ec (tT X.K T ta)) (ha : PE X ea (tE X.K T a)) (hb : PE X eb (tE X.K T b)) : PE X (.IfExp ec ea eb pos) (tE X.K T (.ite ta a b)) := by
  refine imp (pe_ifExp hc ha hb) fun σ H Q ⟨e, rs, Fr, s, h, w⟩ => ?_
  rw [dE] at w
  refine useT wd_p w s h fun k e1 H1 rs1 _ w1 s1 h1 => ?_
  cases k with
  | true => exact ⟨e1, rs1, Fr, s1, h1, w1⟩
  | false => exact ⟨e1, rs1, Fr, s1, h1, w1⟩
theorem z_neg (ha : PE X ea (tE X.K T a)) : PE X (.UnaryOp .USub ea pos) (tE X.K T (.neg a)) := by
  refine imp (pe_un un_neg ha) fun σ H Q ⟨e, rs, Fr, s, h, w⟩ => ?_
  rw [dE] at w
  refine use wd_p w s h fun d e1 v H1 rs1 _ w1 s1 h1 => ?_
  cases d with
  | int i =>
    obtain rfl := h1.int
    exact ⟨i, rfl, w1 _ H1 rs1 s1 h1.tail.addI⟩
  | _ => exact w1.elim
end
end Z

set_option Elab.async false
set_option linter.all false
set_option autoImplicit false
set_option maxRecDepth 100000
set_option maxHeartbeats 2000000
/-! Z6: rows of expressions, displays, items, slices, built-in calls. -/
namespace Z
open PySem PySem.Spec PyProof.Rows L2
variable [Tbs]

/-! ### rows of expressions -/
/-- no starred one -/
def plainE : Expr → Bool
  | .Starred _ _ => false
  | _ => true
theorem star_cons {e : Expr} {es : List Expr} {env : Env} (h : plainE e = true) : starEach (e :: es) env = (false, eval e env) :: starEach es env := by
  cases e <;> first | rfl | cases h
theorem star_none {env : Env} {pos : Pos} : ∀ {es : List Expr}, es.all plainE = true → (backTo pos (starEach es env)).any (·.1) = false
  | [], _ => rfl
  | e :: es, h => by
    simp only [List.all_cons, Bool.and_eq_true] at h
    rw [star_cons h.1]
    simpa [backTo] using star_none (pos := pos) h.2
/-- the roots of arguments: the borrowed ones stand in their slots -/
inductive Ar (σ : L2.St) : List V → List (Sum D Nat) → Rt → Prop where
  | nil : Ar σ [] [] []
  | own {v d vs xs rs} : Ar σ vs xs rs → Ar σ (v :: vs) (.inl d :: xs) ((v, d) :: rs)
  | bor {v i vs xs rs} : σ[i]? = some (some v) → Ar σ vs xs rs → Ar σ (v :: vs) (.inr i :: xs) rs
theorem Ar.all {σ : L2.St} : ∀ {vs xs rs l}, Ar σ vs xs rs → args1 xs = some l → vs.length = l.length ∧ rs = vs.zip l
  | _, _, _, _, .nil, h => by cases h; exact ⟨rfl, rfl⟩
  | _, _, _, l, .own (xs := xs) r, h => by
    rw [args1] at h
    cases hr : args1 xs with
    | none => rw [hr] at h; cases h
    | some l' =>
      rw [hr] at h
      cases h
      obtain ⟨h1, rfl⟩ := r.all hr
      exact ⟨congrArg (· + 1) h1, rfl⟩
  | _, _, _, _, .bor _ _, h => by cases h
section
variable (K : PySem.W.Frag) (T : Tab)
def WpA (σ : L2.St) (Fr : Rt) (r : R (List (Sum D Nat))) (Q : List V → Hp → Prop) : Prop := match r with
  | .ok xs e => ∀ vs H rs as, Sl σ e rs → Ar σ vs xs as → Rel K H (as ++ (rs ++ Fr)) → Q vs H
  | _ => False
def tA (xs : Es) : TA := fun σ H Q => ∃ e rs Fr, Sl σ e rs ∧ Rel K H (rs ++ Fr) ∧ WpA K σ Fr (dEs T xs e) Q
end
theorem impA {X : Cx} {es : List Expr} {t t' : TA} (h : PA X es t) (i : ∀ σ H Q, t' σ H Q → t σ H Q) : PA X es t' :=
  ⟨fun p a b c d q j w => h.run p a b c d q j (i _ _ _ w)⟩
section
variable {K : PySem.W.Frag} {T : Tab} {H : Hp} {σ : L2.St} {e : Ev} {rs a b Fr : Rt} {x : V × D} {Q : VK}
theorem Rel.mid2 {c : Rt} (h : Rel K H (a ++ (b ++ x :: c))) : Rel K H (x :: (a ++ (b ++ c))) := by
  rw [← List.append_assoc] at h ⊢
  exact h.dim
theorem wd_a {Q : List V → Hp → Prop} : Wd fun r => WpA K σ Fr r Q := ⟨id, fun _ _ => id⟩
theorem useA {β : Type} {W : R β → Prop} {f : List (Sum D Nat) → Ev → R β} {y : Es} {Q : List V → Hp → Prop} (n : Wd W) (w : W ((dEs T y e).bind f)) (s : Sl σ e rs) (h : Rel K H (rs ++ Fr))
    (k : ∀ xs e' vs H' rs' as, dEs T y e = .ok xs e' → W (f xs e') → Sl σ e' rs' → Ar σ vs xs as → Rel K H' (as ++ (rs' ++ Fr)) → Q vs H') : tA K T y σ H Q := by
  refine ⟨e, rs, Fr, s, h, ?_⟩
  cases hr : dEs T y e with
  | ok d e' =>
    rw [hr] at w
    intro vs H' rs' as s' g h'
    exact k d e' vs H' rs' as hr w s' g h'
  | ex x e' =>
    rw [hr] at w
    exact (n.ex _ _ w).elim
  | no =>
    rw [hr] at w
    exact (n.no w).elim
end
section
variable {X : Cx} {T : Tab} {pos : Pos} {ea eb : Expr} {es : List Expr} {a b : E} {r : Es}
theorem za_nil : PA X [] (tA X.K T .nil) := by
  refine impA pa_nil fun σ H Q ⟨e, rs, Fr, s, h, w⟩ => ?_
  exact w [] H rs [] s .nil h
theorem za_cons (hp : plainE ea = true) (ha : PE X ea (tE X.K T a)) (hr : PA X es (tA X.K T r)) : PA X (ea :: es) (tA X.K T (.cons a r)) := by
  refine impA (pa_cons ha hr (star_cons hp)) fun σ H Q ⟨e, rs, Fr, s, h, w⟩ => ?_
  rw [dEs] at w
  refine use wd_a w s h fun d e1 v H1 rs1 _ w1 s1 h1 => ?_
  refine useA wd_a w1 s1 h1.mid fun xs e2 vs H2 rs2 as _ w2 s2 g h2 => ?_
  refine w2 _ H2 rs2 _ s2 (.own g) ?_
  rw [fz_eq]
  exact h2.mid2.froz
theorem za_raw (hp : plainE ea = true) (ha : PE X ea (tE X.K T a)) (hr : PA X es (tA X.K T r)) : PA X (ea :: es) (tA X.K T (.raw a r)) := by
  refine impA (pa_cons ha hr (star_cons hp)) fun σ H Q ⟨e, rs, Fr, s, h, w⟩ => ?_
  rw [dEs] at w
  refine use wd_a w s h fun d e1 v H1 rs1 _ w1 s1 h1 => ?_
  refine useA wd_a w1 s1 h1.mid fun xs e2 vs H2 rs2 as _ w2 s2 g h2 => ?_
  refine w2 _ H2 rs2 _ s2 (.own g) ?_
  exact h2.mid2
theorem za_bw {i : Nat} {x : Str} (hN : X.N[i]? = some x) (hv : Vis X.env.scope x) (h1 : (x == ("__debug__" : Str)) = false) (h2 : (x == ("__classdict__" : Str)) = false) (hr : PA X es (tA X.K T r)) :
    PA X (.Name x pos :: es) (tA X.K T (.bw i r)) := by
  refine impA (pa_cons (pe_var hN hv h1 h2) hr rfl) fun σ H Q ⟨e, rs, Fr, s, h, w⟩ => ?_
  rw [dEs] at w
  cases hd : rd i e with
  | none =>
    rw [hd] at w
    exact w.elim
  | some d =>
    rw [hd] at w
    obtain ⟨v, r0, g, _⟩ := s.get hd
    refine ⟨v, g, ?_⟩
    exact useA wd_a w s h fun xs e2 vs H2 rs2 as _ w2 s2 g2 h2 => w2 _ H2 rs2 _ s2 (.bor g g2) h2
/-! ### displays -/
theorem frzL_map (l : List D) : frzL (l.map fz) = l.map fz := by
  induction l with
  | nil => rfl
  | cons x r ih => rw [List.map_cons, frzL, ih, fz_frz]
theorem Rel.frozL {K : PySem.W.Frag} {H : Hp} {rs : Rt} : ∀ {vs : List V} {l : List D}, vs.length = l.length → Rel K H (vs.zip l ++ rs) → Rel K H (vs.zip (l.map fz) ++ rs)
  | [], [], _, h => h
  | v :: vs, d :: l, e, h => by
    rw [List.map_cons, List.zip_cons_cons, List.cons_append, fz_eq]
    refine Rel.dim (a := []) (Rel.froz ?_)
    exact (Rel.frozL (rs := (v, d) :: rs) (Nat.succ.inj e) (Rel.mid h)).dim
theorem z_tup {k : Nat} (ha : PA X es (tA X.K T r)) : PE X (.Tuple es k pos) (tE X.K T (.tup r)) := by
  refine imp (pe_tup ha) fun σ H Q ⟨e, rs, Fr, s, h, w⟩ => ?_
  rw [dE] at w
  refine useA wd_p w s h fun xs e1 vs H1 rs1 as _ w1 s1 g h1 => ?_
  obtain ⟨d, hd, w2⟩ := ofO_ok w1
  cases ha1 : args1 xs with
  | none => rw [ha1] at hd; cases hd
  | some l =>
    rw [ha1] at hd
    obtain ⟨l1, rfl⟩ := g.all ha1
    simp only [Option.bind_some] at hd
    split at hd
    · rename_i hz
      cases hd
      refine ⟨by rw [l1]; exact sz hz, fun p hp => w2 _ _ rs1 s1 (Rel.newT (Rel.frozL l1 h1) (by simp [l1]) (frzL_map l) hp)⟩
    · cases hd
theorem z_lst (ha : PA X es (tA X.K T r)) : PE X (.List es pos) (tE X.K T (.lst r)) := by
  refine imp (pe_lst ha) fun σ H Q ⟨e, rs, Fr, s, h, w⟩ => ?_
  rw [dE] at w
  refine useA wd_p w s h fun xs e1 vs H1 rs1 as _ w1 s1 g h1 => ?_
  obtain ⟨d, hd, w2⟩ := ofO_ok w1
  cases ha1 : args1 xs with
  | none => rw [ha1] at hd; cases hd
  | some l =>
    rw [ha1] at hd
    obtain ⟨l1, rfl⟩ := g.all ha1
    simp only [Option.bind_some] at hd
    split at hd
    · rename_i hz
      cases hd
      exact ⟨by rw [l1]; exact sz hz, fun p hp => w2 _ _ rs1 s1 (Rel.newL h1 l1 hp)⟩
    · cases hd
/-! ### items -/
theorem OwL.at' {K : PySem.W.Frag} {H Hk : Hp} : ∀ {vs : List V} {ds : List D} {f : List Addr} {n : Nat} {d : D}, OwL K H Hk vs ds f → ds[n]? = some d → frz d = d → ∃ v, vs[n]? = some v ∧ Sh K Hk v d
  | _, _, _, _, _, .nil, h, _ => by simp at h
  | _, _, _, 0, _, .cons (v := v) h _, e, f => by
    cases e
    exact ⟨v, rfl, (h.shared f).2⟩
  | _, _, _, n + 1, _, .cons h r, e, f => by
    obtain ⟨v, h1, h2⟩ := r.at' (n := n) (by simpa using e) f
    exact ⟨v, by simpa using h1, h2⟩
theorem OwL.atI {K : PySem.W.Frag} {H Hk : Hp} {vs : List V} {ds : List D} {f : List Addr} {i : Int} {d : D} (h : OwL K H Hk vs ds f) (e : L2.atI ds i = some d) (g : frz d = d) : ∃ v, L2.atI vs i = some v ∧ Sh K Hk v d := by
  unfold L2.atI at e ⊢
  rw [h.len]
  cases hx : ixN ds.length i with
  | none => rw [hx] at e; cases e
  | some n =>
    rw [hx] at e
    exact h.at' e g
/-- an item of the first root, beside it -/
theorem rIx_any {K : PySem.W.Frag} {H : Hp} {rs : Rt} {x : V} {a d : D} {i : Int} {Q : VK} (h : Rel K H ((x, a) :: rs)) (f : frz d = d) (e : subD a (.int i) = some d) (w : ∀ v, Rel K H ((v, d) :: (x, a) :: rs) → Q v H) :
    rIxL K x (.int i) H Q ∨ rIxT K x (.int i) H Q ∨ rIxS x (.int i) H Q := by
  have h0 := h
  obtain ⟨Hk, fp, s, o, n, k⟩ := h
  have add : ∀ v, Sh K Hk v d → Rel K H ((v, d) :: (x, a) :: rs) := fun v q => ⟨Hk, [] ++ fp, s, .cons (.sh q) o, n, k⟩
  cases o with
  | cons g _ =>
    cases a with
    | lst o ds =>
      obtain ⟨p, vs, gg, rfl, h1, h2, _⟩ := g.lst' s
      obtain ⟨v, hv, q⟩ := h2.atI e f
      exact .inl ⟨p, vs, i, v, rfl, rfl, .inl (.inl h1), hv, w v (add v q)⟩
    | tup ds =>
      obtain ⟨p, vs, rfl, h1, h2, _⟩ := g.tup' s
      obtain ⟨v, hv, q⟩ := (OwL.of_sh (H := H) h2).atI e f
      exact .inr (.inl ⟨p, vs, i, v, rfl, rfl, h1, hv, w v (add v q)⟩)
    | lck ds =>
      cases g with
      | sh g =>
        cases g with
        | lck g1 g2 =>
          obtain ⟨v, hv, q⟩ := (OwL.of_sh (H := H) g2).atI e f
          exact .inl ⟨_, _, i, v, rfl, rfl, s.lst g1, hv, w v (add v q)⟩
    | str z =>
      rw [subD] at e
      split at e
      · rename_i hz
        obtain ⟨c, hc, rfl⟩ := map_ok e
        obtain rfl := h0.str
        exact .inr (.inr ⟨z, i, c, rfl, rfl, sz hz, hc, w _ (add _ (.str _))⟩)
      · cases e
    | _ => cases e
/-- the items of what is frozen are frozen -/
theorem subD_fz {a d : D} {i : D} (f : frz a = a) (e : subD a i = some d) : frz d = d := by
  have fr : ∀ {ds : List D} {n : Nat} {d : D}, frzL ds = ds → ds[n]? = some d → frz d = d := by
    intro ds
    induction ds with
    | nil => intro n d _ h; cases h
    | cons y r ih =>
      intro n d f h
      rw [frzL] at f
      injection f with f1 f2
      cases n with
      | zero => cases h; exact f1
      | succ n => exact ih f2 h
  have fa : ∀ {ds : List D} {d : D} {i : Int}, frzL ds = ds → L2.atI ds i = some d → frz d = d := by
    intro ds d i f h
    unfold L2.atI at h
    cases hx : ixN ds.length i with
    | none => rw [hx] at h; cases h
    | some n => rw [hx] at h; exact fr f h
  cases a with
  | lst o ds =>
    cases i with
    | int i =>
      rw [frz] at f
      injection f with _ f
      exact fa f e
    | _ => cases e
  | tup ds =>
    cases i with
    | int i =>
      rw [frz] at f
      injection f with f
      exact fa f e
    | _ => cases e
  | lck ds =>
    cases i with
    | int i =>
      rw [frz] at f
      injection f with f
      exact fa f e
    | _ => cases e
  | str z =>
    cases i with
    | int i =>
      rw [subD] at e
      split at e
      · obtain ⟨c, hc, rfl⟩ := map_ok e
        rfl
      · cases e
    | _ => cases e
  | _ => cases i <;> cases e
theorem subD_int {a i d : D} (e : subD a i = some d) : ∃ j, i = .int j := by
  cases i <;> first | exact ⟨_, rfl⟩ | (cases a <;> cases e)
theorem ix_all : IxR X (fun x y H Q => rIxL X.K x y H Q ∨ rIxT X.K x y H Q ∨ rIxS x y H Q) := ix_list.or (ix_tup.or ix_str)
theorem z_sub (hp : PlainIx eb) (ha : PE X ea (tE X.K T a)) (hb : PE X eb (tE X.K T b)) : PE X (.Subscript ea eb pos) (tE X.K T (.sub a b)) := by
  refine imp (pe_ix ix_all ha hb hp) fun σ H Q ⟨e, rs, Fr, s, h, w⟩ => ?_
  rw [dE] at w
  refine use wd_p w s h fun da e1 v H1 rs1 _ w1 s1 h1 => ?_
  refine use wd_p w1 s1 h1.mid fun db e2 u H2 rs2 _ w2 s2 h2 => ?_
  obtain ⟨d, hd, w3⟩ := ofO_ok w2
  have h3 := two (h2.perm (.cons _ List.perm_middle))
  obtain ⟨i, rfl⟩ := subD_int hd
  obtain rfl := (two h3).int
  have h4 := (two h3).tail.froz
  rw [← fz_eq] at h4
  exact rIx_any h4 (subD_fz (fz_frz da) hd) hd fun v h' => w3 v H2 rs2 s2 (two h').tail
theorem z_subv {i : Nat} {x : Str} {p : Pos} (hN : X.N[i]? = some x) (hv : Vis X.env.scope x) (h1 : (x == ("__debug__" : Str)) = false) (h2 : (x == ("__classdict__" : Str)) = false) (hp : PlainIx eb) (hb : PE X eb (tE X.K T b)) :
    PE X (.Subscript (.Name x p) eb pos) (tE X.K T (.subv i b)) := by
  refine imp (pe_ix ix_all (pe_var hN hv h1 h2) hb hp) fun σ H Q ⟨e, rs, Fr, s, h, w⟩ => ?_
  rw [dE] at w
  cases hd : rd i e with
  | none =>
    rw [hd] at w
    exact w.elim
  | some d0 =>
    rw [hd] at w
    obtain ⟨v, _, g, _⟩ := s.get hd
    refine ⟨v, g, ?_⟩
    refine use wd_p w s h fun db e2 u H2 rs2 _ w2 s2 h2 => ?_
    cases hr : rd i e2 with
    | none => rw [hr] at w2; exact w2.elim
    | some d =>
      rw [hr] at w2
      dsimp only at w2
      cases hz : subD d db with
      | none => rw [hz] at w2; exact w2.elim
      | some z =>
        rw [hz] at w2
        dsimp only at w2
        split at w2
        · rename_i hf
          obtain ⟨v', r0, g', pm, _⟩ := s2.get hr
          rw [g] at g'
          cases g'
          obtain ⟨j, rfl⟩ := subD_int hz
          obtain rfl := h2.int
          have h4 : Rel X.K H2 ((v, d) :: (r0 ++ Fr)) := h2.tail.left pm
          exact rIx_any h4 (isF_frz hf) hz fun u' h' => w2 u' H2 rs2 s2 (h'.perm (.cons _ (pm.symm.append_right Fr)))
        · exact w2.elim
end
end Z

set_option Elab.async false
set_option linter.all false
set_option autoImplicit false
set_option maxRecDepth 100000
set_option maxHeartbeats 2000000
/-! Z7: slices, built-in calls, isinstance, pop. -/
namespace Z
open PySem PySem.Spec PyProof.Rows L2
variable [Tbs]

section
variable (K : PySem.W.Frag) (T : Tab)
def WpO (σ : L2.St) (Fr : Rt) (r : R (Option Int)) (Q : Option Int → Hp → Prop) : Prop := match r with
  | .ok i e => ∀ H rs, Sl σ e rs → Rel K H (rs ++ Fr) → Q i H
  | _ => False
def tO (x : Oe) : TO := fun σ H Q => ∃ e rs Fr, Sl σ e rs ∧ Rel K H (rs ++ Fr) ∧ WpO K σ Fr (dO T x e) Q
end
theorem impO {X : Cx} {e : Option Expr} {t t' : TO} (h : PO X e t) (i : ∀ σ H Q, t' σ H Q → t σ H Q) : PO X e t' :=
  ⟨fun a b c d q j w => h.run a b c d q j (i _ _ _ w)⟩
section
variable {K : PySem.W.Frag} {T : Tab} {H : Hp} {σ : L2.St} {e : Ev} {rs a b Fr : Rt}
theorem wd_o {Q : Option Int → Hp → Prop} : Wd fun r => WpO K σ Fr r Q := ⟨id, fun _ _ => id⟩
theorem useO {β : Type} {W : R β → Prop} {f : Option Int → Ev → R β} {y : Oe} {Q : Option Int → Hp → Prop} (n : Wd W) (w : W ((dO T y e).bind f)) (s : Sl σ e rs) (h : Rel K H (rs ++ Fr))
    (k : ∀ d e' H' rs', dO T y e = .ok d e' → W (f d e') → Sl σ e' rs' → Rel K H' (rs' ++ Fr) → Q d H') : tO K T y σ H Q := by
  refine ⟨e, rs, Fr, s, h, ?_⟩
  cases hr : dO T y e with
  | ok d e' =>
    rw [hr] at w
    intro H' rs' s' h'
    exact k d e' H' rs' hr w s' h'
  | ex x e' =>
    rw [hr] at w
    exact (n.ex _ _ w).elim
  | no =>
    rw [hr] at w
    exact (n.no w).elim
theorem zip_drop {α β : Type} : ∀ (n : Nat) (a : List α) (b : List β), (a.drop n).zip (b.drop n) = (a.zip b).drop n
  | 0, _, _ => rfl
  | n + 1, [], _ => by simp
  | n + 1, _ :: _, [] => by simp
  | n + 1, _ :: a, _ :: b => by simpa using zip_drop n a b
theorem zip_take {α β : Type} : ∀ (n : Nat) (a : List α) (b : List β), (a.take n).zip (b.take n) = (a.zip b).take n
  | 0, _, _ => by simp
  | n + 1, [], _ => by simp
  | n + 1, _ :: _, [] => by simp
  | n + 1, _ :: a, _ :: b => by simpa using zip_take n a b
theorem Rel.dropR {n : Nat} (h : Rel K H (a ++ rs)) : Rel K H (a.drop n ++ rs) := by
  rw [← List.take_append_drop n a, List.append_assoc] at h
  exact h.cut
theorem Rel.takeR {n : Nat} (h : Rel K H (a ++ rs)) : Rel K H (a.take n ++ rs) := by
  rw [← List.take_append_drop n a] at h
  have h2 : Rel K H (a.drop n ++ (a.take n ++ rs)) := by
    refine h.perm ?_
    rw [← List.append_assoc]
    exact List.Perm.append_right _ List.perm_append_comm
  exact h2.cut
theorem Rel.cutR {vs : List V} {ds : List D} {lo hi : Option Int} (l : vs.length = ds.length) (h : Rel K H (vs.zip ds ++ rs)) : Rel K H ((cutV vs lo hi).zip (Z.cut ds lo hi) ++ rs) := by
  unfold cutV Z.cut
  rw [l, zip_take, zip_drop]
  exact h.dropR.takeR
theorem cut_len {vs : List V} {ds : List D} {lo hi : Option Int} (l : vs.length = ds.length) : (cutV vs lo hi).length = (cut ds lo hi).length := by
  unfold cutV cut
  simp [l]
theorem frzL_drop (ds : List D) (e : frzL ds = ds) (n : Nat) : frzL (ds.drop n) = ds.drop n := by
  induction n generalizing ds with
  | zero => exact e
  | succ n ih =>
    cases ds with
    | nil => rfl
    | cons x r =>
      rw [frzL] at e
      injection e with _ e
      exact ih r e
theorem frzL_take (ds : List D) (e : frzL ds = ds) (n : Nat) : frzL (ds.take n) = ds.take n := by
  induction n generalizing ds with
  | zero => rfl
  | succ n ih =>
    cases ds with
    | nil => rfl
    | cons x r =>
      rw [frzL] at e
      injection e with e1 e
      show Z.frz x :: frzL (r.take n) = x :: r.take n
      rw [e1, ih r e]
theorem frzL_cut (ds : List D) (e : frzL ds = ds) (lo hi : Option Int) : frzL (cut ds lo hi) = cut ds lo hi := by
  unfold cut
  exact frzL_take _ (frzL_drop _ e _) _
end
section
variable {X : Cx} {T : Tab} {pos : Pos} {ea eb : Expr} {es : List Expr} {a b : E} {r : Es} {lo hi : Option Expr} {l h : Oe}
theorem zo_none : PO X none (tO X.K T .no) := by
  refine impO po_none fun σ H Q ⟨e, rs, Fr, s, h, w⟩ => ?_
  exact w H rs s h
theorem zo_some (ha : PE X ea (tE X.K T a)) : PO X (some ea) (tO X.K T (.e a)) := by
  refine impO (po_some ha) fun σ H Q ⟨e, rs, Fr, s, h, w⟩ => ?_
  rw [dO] at w
  refine use wd_o w s h fun d e1 v H1 rs1 _ w1 s1 h1 => ?_
  cases d with
  | int i =>
    obtain rfl := h1.int
    exact ⟨i, rfl, w1 H1 rs1 s1 h1.tail⟩
  | _ => exact w1.elim
theorem z_slc {p2 : Pos} (ha : PE X ea (tE X.K T a)) (hl : PO X lo (tO X.K T l)) (hh : PO X hi (tO X.K T h)) : PE X (.Subscript ea (.Slice lo hi none p2) pos) (tE X.K T (.slc a l h)) := by
  refine imp (pe_slice (sl_list.or sl_tupA) ha hl hh) fun σ H Q ⟨e, rs, Fr, s, h, w⟩ => ?_
  rw [dE] at w
  refine use wd_p w s h fun da e1 v H1 rs1 _ w1 s1 h1 => ?_
  refine useO wd_p w1 s1 h1.mid fun i e2 H2 rs2 _ w2 s2 h2 => ?_
  refine useO wd_p w2 s2 h2 fun j e3 H3 rs3 _ w3 s3 h3 => ?_
  obtain ⟨d, hd, w4⟩ := ofO_ok w3
  have h4 := h3.dim
  cases da with
  | lst o ds =>
    cases hd
    obtain ⟨p, vs, rfl, g1, g2, g3⟩ := h4.open
    exact .inl ⟨p, vs, rfl, .inl (.inl g1), fun q hq => w4 _ _ rs3 s3 (Rel.newL (Rel.cutR g2 g3) (cut_len g2) hq)⟩
  | tup ds =>
    cases hd
    have f := h4.shL
    obtain ⟨p, vs, rfl, g1, g2, g3⟩ := h4.openT
    refine .inr ⟨p, vs, rfl, g1, fun z => w4 _ _ rs3 s3 ?_, fun _ q hq => w4 _ _ rs3 s3 (Rel.newT (Rel.cutR g2 g3) (cut_len g2) (frzL_cut _ f _ _) hq)⟩
    have e : cut ds i j = ds := by
      unfold cut
      rw [← g2, z.1, z.2, List.drop_zero, Nat.sub_zero, g2, List.take_length]
    rw [e]
    exact h4
  | lck ds =>
    cases hd
    obtain ⟨Hk, fp, s', o, n, k⟩ := h4
    cases o with
    | cons g r =>
      cases g with
      | sh g =>
        cases g with
        | lck g1 g2 =>
          have o := OwL.of_sh (H := H3) g2
          exact .inl ⟨_, _, rfl, s'.lst g1, fun q hq => w4 _ _ rs3 s3 (Rel.newL (Rel.cutR o.len ⟨Hk, [] ++ _, s', o.app r, n, k⟩) (cut_len o.len) hq)⟩
  | _ => cases hd
theorem zip_rev {α β : Type} : ∀ {a : List α} {b : List β}, a.length = b.length → a.reverse.zip b.reverse = (a.zip b).reverse
  | [], [], _ => rfl
  | x :: a, y :: b, h => by
    rw [List.zip_cons_cons, List.reverse_cons, List.reverse_cons, List.reverse_cons, List.zip_append (by simpa using h), zip_rev (Nat.succ.inj h)]
    rfl

/-! ### built-in calls -/
def rBi (K : PySem.W.Frag) (b : Bi) : List V → Hp → VK → Prop := fun vs H Q => ∃ l rs d, vs.length = l.length ∧ Rel K H (vs.zip l ++ rs) ∧ biD b l = some d ∧ ∀ v H', Rel K H' ((v, d) :: rs) → Q v H'
def biV : Bi → Value
  | .len => .builtin "len" | .abs => .builtin "abs" | .int => .type "int" | .bool => .type "bool" | .sum => .builtin "sum" | .min => .builtin "min" | .max => .builtin "max"
  | .sorted => .builtin "sorted" | .list => .type "list" | .tuple => .type "tuple" | .all => .builtin "all" | .any => .builtin "any" | .set => .type "set" | .sortset => .builtin "sorted"
theorem l1 {vs : List V} {d : D} (h : vs.length = [d].length) : ∃ v, vs = [v] := by
  match vs, h with
  | [v], _ => exact ⟨v, rfl⟩
theorem l2 {vs : List V} {d d' : D} (h : vs.length = [d, d'].length) : ∃ v u, vs = [v, u] := by
  match vs, h with
  | [v, u], _ => exact ⟨v, u, rfl⟩
theorem bi_len (pw : Pw X) : CallR X (.builtin "len") (rBi X.K .len) := by
  intro pins s σ H vs us Q I r ⟨l, rs, d, hl, h, e, q⟩
  match l, hl, h, e with
  | [.lst o ds], hl, h, e =>
    obtain ⟨v, rfl⟩ := l1 hl
    cases e
    have h : Rel X.K H ((v, .lst o ds) :: rs) := h
    have h9 := h
    obtain ⟨p, vs, rfl, g1, g2, g3⟩ := h.open
    refine call_len_seq pins s σ H _ us Q I r ⟨p, vs, rfl, .inl (.inl (.inl g1)), ?_⟩
    rw [g2]
    exact q _ _ h9.tail.addI
  | [.tup ds], hl, h, e =>
    obtain ⟨v, rfl⟩ := l1 hl
    cases e
    have h : Rel X.K H ((v, .tup ds) :: rs) := h
    have h9 := h
    obtain ⟨p, vs, rfl, g1, g2, g3⟩ := h.openT
    refine call_len_seq pins s σ H _ us Q I r ⟨p, vs, rfl, .inr g1, ?_⟩
    rw [g2]
    exact q _ _ h9.tail.addI
  | [.lck ds], hl, h, e =>
    obtain ⟨v, rfl⟩ := l1 hl
    cases e
    have h : Rel X.K H ((v, .lck ds) :: rs) := h
    have h9 := h
    obtain ⟨Hk, fp, s', o, n, k⟩ := h
    cases o with
    | cons g r' =>
      cases g with
      | sh g =>
        cases g with
        | lck g1 g2 =>
          refine call_len_seq pins s σ H _ us Q I r ⟨_, _, rfl, .inl (s'.lst g1), ?_⟩
          rw [(OwL.of_sh (H := H) g2).len]
          exact q _ _ h9.tail.addI
  | [.st o ks], hl, h, e =>
    obtain ⟨v, rfl⟩ := l1 hl
    cases e
    have h : Rel X.K H ((v, .st o ks) :: rs) := h
    obtain ⟨a, S, rfl, ha, ky, pm, _, _⟩ := h.openS
    refine Zs.cr_lenS pins s σ H _ us Q I r ⟨a, S, rfl, by rw [pw.so]; exact ha, ky, ?_⟩
    have := q _ _ h.tail.addI
    rwa [show ks.length = S.length by rw [← pm.length_eq, List.length_map]] at this
  | [.str z], hl, h, e =>
    obtain ⟨v, rfl⟩ := l1 hl
    rw [biD] at e
    split at e
    · rename_i hz
      cases e
      have h : Rel X.K H ((v, .str z) :: rs) := h
      obtain rfl := h.str
      exact call_len_str pins s σ H _ us Q I r ⟨z, rfl, sz hz, q _ _ h.tail.addI⟩
    · cases e
theorem bi_abs : CallR X (.builtin "abs") (rBi X.K .abs) := by
  intro pins s σ H vs us Q I r ⟨l, rs, d, hl, h, e, q⟩
  match l, hl, h, e with
  | [.int i], hl, h, e =>
    obtain ⟨v, rfl⟩ := l1 hl
    cases e
    have h : Rel X.K H ((v, .int i) :: rs) := h
    obtain rfl := h.int
    exact call_abs pins s σ H _ us Q I r ⟨i, rfl, q _ _ h.tail.addI⟩
theorem bi_int : CallR X (.type "int") (rBi X.K .int) := by
  intro pins s σ H vs us Q I r ⟨l, rs, d, hl, h, e, q⟩
  match l, hl, h, e with
  | [.int i], hl, h, e =>
    obtain ⟨v, rfl⟩ := l1 hl
    cases e
    have h : Rel X.K H ((v, .int i) :: rs) := h
    obtain rfl := h.int
    exact call_int1 pins s σ H _ us Q I r (.inl ⟨i, rfl, q _ _ h.tail.addI⟩)
  | [.bl i], hl, h, e =>
    obtain ⟨v, rfl⟩ := l1 hl
    cases e
    have h : Rel X.K H ((v, .bl i) :: rs) := h
    obtain rfl := h.bl
    exact call_int1 pins s σ H _ us Q I r (.inr ⟨i, rfl, q _ _ h.tail.addI⟩)
theorem OwL.ints {K : PySem.W.Frag} {H Hk : Hp} : ∀ {vs ds f ns}, OwL K H Hk vs ds f → intsD ds = some ns → vs = ns.map V.int
  | _, _, _, _, .nil, e => by cases e; rfl
  | _, _, _, _, .cons (d := d) (ds := ds) h r, e => by
    cases d with
    | int i =>
      rw [intsD] at e
      obtain ⟨ns, hn, rfl⟩ := map_ok e
      obtain rfl := h.int'
      rw [r.ints hn]
      rfl
    | _ => cases e
theorem OwL.bls {K : PySem.W.Frag} {H Hk : Hp} : ∀ {vs ds f ns}, OwL K H Hk vs ds f → blsD ds = some ns → vs = ns.map V.bl
  | _, _, _, _, .nil, e => by cases e; rfl
  | _, _, _, _, .cons (d := d) (ds := ds) h r, e => by
    cases d with
    | bl i =>
      rw [blsD] at e
      obtain ⟨ns, hn, rfl⟩ := map_ok e
      obtain rfl := h.bl'
      rw [r.bls hn]
      rfl
    | _ => cases e
theorem Rel.bls {K : PySem.W.Frag} {H : Hp} {rs : Rt} {v o ds ns} (h : Rel K H ((v, .lst o ds) :: rs)) (e : blsD ds = some ns) : ∃ a, v = .ref a ∧ SqL K H a (ns.map V.bl) := by
  obtain ⟨Hk, fp, s, q, n, k⟩ := h
  cases q with
  | cons h r =>
    obtain ⟨a, vs, g, rfl, h1, h2, h3⟩ := h.lst' s
    rw [h2.bls e] at h1
    exact ⟨a, rfl, .inl (.inl h1)⟩
theorem Rel.ints {K : PySem.W.Frag} {H : Hp} {rs : Rt} {v o ds ns} (h : Rel K H ((v, .lst o ds) :: rs)) (e : intsD ds = some ns) : ∃ a, v = .ref a ∧ SqL K H a (ns.map V.int) := by
  obtain ⟨Hk, fp, s, q, n, k⟩ := h
  cases q with
  | cons h r =>
    obtain ⟨a, vs, g, rfl, h1, h2, h3⟩ := h.lst' s
    rw [h2.ints e] at h1
    exact ⟨a, rfl, .inl (.inl h1)⟩
theorem bi_all (hc : X.calm = true) : CallR X (.builtin "all") (rBi X.K .all) := by
  intro pins s σ H vs us Q I r ⟨l, rs, d, hl, h, e, q⟩
  match l, hl, h, e with
  | [.lst o ds], hl, h, e =>
    obtain ⟨v, rfl⟩ := l1 hl
    obtain ⟨bs, hb, rfl⟩ := map_ok e
    have h : Rel X.K H ((v, .lst o ds) :: rs) := h
    obtain ⟨a, rfl, g⟩ := h.bls hb
    exact cr_all hc pins s σ H _ us Q I r ⟨a, bs, rfl, g, q _ _ h.tail.addB⟩
theorem bi_any (hc : X.calm = true) : CallR X (.builtin "any") (rBi X.K .any) := by
  intro pins s σ H vs us Q I r ⟨l, rs, d, hl, h, e, q⟩
  match l, hl, h, e with
  | [.lst o ds], hl, h, e =>
    obtain ⟨v, rfl⟩ := l1 hl
    obtain ⟨bs, hb, rfl⟩ := map_ok e
    have h : Rel X.K H ((v, .lst o ds) :: rs) := h
    obtain ⟨a, rfl, g⟩ := h.bls hb
    exact cr_any hc pins s σ H _ us Q I r ⟨a, bs, rfl, g, q _ _ h.tail.addB⟩
theorem bi_sum (hc : X.calm = true) : CallR X (.builtin "sum") (rBi X.K .sum) := by
  intro pins s σ H vs us Q I r ⟨l, rs, d, hl, h, e, q⟩
  match l, hl, h, e with
  | [.lst o ds], hl, h, e =>
    obtain ⟨v, rfl⟩ := l1 hl
    obtain ⟨ns, hb, rfl⟩ := map_ok e
    have h : Rel X.K H ((v, .lst o ds) :: rs) := h
    obtain ⟨a, rfl, g⟩ := h.ints hb
    exact cr_sum hc pins s σ H _ us Q I r ⟨a, ns, rfl, g, q _ _ h.tail.addI⟩
theorem bi_min (hc : X.calm = true) : CallR X (.builtin "min") (rBi X.K .min) := by
  intro pins s σ H vs us Q I r ⟨l, rs, d, hl, h, e, q⟩
  match l, hl, h, e with
  | [.int i, .int j], hl, h, e =>
    obtain ⟨v, u, rfl⟩ := l2 hl
    cases e
    obtain ⟨rfl, rfl, h2⟩ := ii (show Rel X.K H ((v, .int i) :: (u, .int j) :: rs) from h)
    exact call_min2 hc pins s σ H _ us Q I r ⟨i, j, rfl, q _ _ h2.addI⟩
theorem bi_max (hc : X.calm = true) : CallR X (.builtin "max") (rBi X.K .max) := by
  intro pins s σ H vs us Q I r ⟨l, rs, d, hl, h, e, q⟩
  match l, hl, h, e with
  | [.int i, .int j], hl, h, e =>
    obtain ⟨v, u, rfl⟩ := l2 hl
    cases e
    obtain ⟨rfl, rfl, h2⟩ := ii (show Rel X.K H ((v, .int i) :: (u, .int j) :: rs) from h)
    exact call_max2 hc pins s σ H _ us Q I r ⟨i, j, rfl, q _ _ h2.addI⟩
/-- a text's signs -/
def sgn (s : Str) : Zs.Tk := s.cps.toList.map fun c => (.str ⟨#[c]⟩, .inl (.inr ⟨#[c]⟩))
theorem sgn_snd (s : Str) : ((sgn s).map fun p => kD p.2) = s.cps.toList.map one := by
  unfold sgn
  rw [List.map_map]
  rfl
theorem sgn_vals {s : Str} {acc : Array Value} (h : ItemsOf (SignAt s) acc s.cps.size) : Vals ((sgn s).map (·.1)) acc.toList := by
  have key : ∀ (cs : List Nat) (us : List Value), us.length = cs.length → (∀ (i : Nat) (u : Value), us[i]? = some u → ∃ (c : Nat) (t : Tok), cs[i]? = some c ∧ u = Value.str ⟨#[c]⟩ t) → Vals (cs.map fun c => V.str ⟨#[c]⟩) us := by
    intro cs
    induction cs with
    | nil =>
      intro us l _
      cases us with
      | nil => exact .nil
      | cons _ _ => cases l
    | cons c cs ih =>
      intro us l z
      cases us with
      | nil => cases l
      | cons u us =>
        obtain ⟨c', t, e1, e2⟩ := z 0 u rfl
        rw [List.getElem?_cons_zero, Option.some.injEq] at e1
        subst e1
        exact .cons ⟨t, e2⟩ (ih us (Nat.succ.inj l) fun i u e => by simpa using z (i + 1) u (by simpa using e))
  unfold sgn
  rw [List.map_map]
  refine key s.cps.toList acc.toList (by rw [Array.length_toList, Array.length_toList]; exact h.1) fun i u e => ?_
  rw [Array.getElem?_toList] at e
  obtain ⟨c, t, e1, e2⟩ := h.2 i u e
  exact ⟨c, t, by rw [Array.getElem?_toList]; exact e1, e2⟩
theorem Rel.signs {K : PySem.W.Frag} {H : Hp} {rs : Rt} (h : Rel K H rs) (s : Str) : Rel K H (((sgn s).map (·.1)).zip (s.cps.toList.map one) ++ rs) := by
  rw [← sgn_snd]
  refine h.addK (sgn s) fun p m => ?_
  obtain ⟨c, _, rfl⟩ := List.mem_map.mp m
  exact ⟨rfl, rfl⟩
theorem frzL_one : ∀ l : List Nat, frzL (l.map one) = l.map one
  | [] => rfl
  | c :: l => by rw [List.map_cons, frzL, frzL_one l]; rfl
theorem sgn_len (s : Str) : ((sgn s).map (·.1)).length = (s.cps.toList.map one).length := by
  unfold sgn
  rw [List.length_map, List.length_map, List.length_map]
theorem bi_list (hc : X.calm = true) : CallR X (.type "list") (rBi X.K .list) := by
  intro pins s σ H vs us Q I r ⟨l, rs, d, hl, h, e, q⟩
  match l, hl, h, e with
  | [.str z], hl, h, e =>
    obtain ⟨v, rfl⟩ := l1 hl
    have h : Rel X.K H ((v, .str z) :: rs) := h
    have e : (if z.length ≤ big then some (D.lst true (z.cps.toList.map one)) else none) = some d := e
    split at e
    · rename_i hz
      cases e
      obtain rfl := h.str
      obtain ⟨t, eu⟩ : ∃ t, us = [Value.str z t] := by
        cases r with
        | cons r r2 =>
          cases r2
          obtain ⟨t, e⟩ := r
          exact ⟨t, by rw [e]⟩
      subst eu
      refine call_list_str (I.ok.hd hc) z t (fun h' tk acc n keep ha items => ?_) (sz hz)
      have v1 := sgn_vals items
      have no : H s.heap.objs.size = none := I.hok.fresh (Nat.le_refl _)
      have szl : ((sgn z).map (·.1)).length ≤ sizeLine := by
        rw [v1.length, Array.length_toList, items.1]
        exact sz hz
      refine ⟨.ref s.heap.objs.size, upd H s.heap.objs.size (.lst ((sgn z).map (·.1))), I.laid (t' := tk) keep (Nat.le_refl _) (show ObjOk X.prog X.w _ _ _ (.lst _) from ⟨szl, acc.toList, n, v1, by simpa using ha⟩), rfl, ?_⟩
      exact q _ _ (Rel.newL (h.tail.signs z) (sgn_len z) no)
    · cases e
  | [.lst o ds], hl, h, e =>
    obtain ⟨v, rfl⟩ := l1 hl
    cases e
    have h : Rel X.K H ((v, .lst o ds) :: rs) := h
    obtain ⟨p, vs, rfl, g1, g2, g3⟩ := h.open
    exact call_list_of pins s σ H _ us Q I r ⟨p, vs, rfl, .inl (.inl (.inl g1)), fun a ha => q _ _ (Rel.newL g3 g2 ha)⟩
  | [.tup ds], hl, h, e =>
    obtain ⟨v, rfl⟩ := l1 hl
    cases e
    have h : Rel X.K H ((v, .tup ds) :: rs) := h
    obtain ⟨p, vs, rfl, g1, g2, g3⟩ := h.openT
    exact call_list_of pins s σ H _ us Q I r ⟨p, vs, rfl, .inr g1, fun a ha => q _ _ (Rel.newL g3 g2 ha)⟩
  | [.lck ds], hl, h, e =>
    obtain ⟨v, rfl⟩ := l1 hl
    cases e
    have h : Rel X.K H ((v, .lck ds) :: rs) := h
    obtain ⟨Hk, fp, s', o, n, k⟩ := h
    cases o with
    | cons g r' =>
      cases g with
      | sh g =>
        cases g with
        | lck g1 g2 =>
          have o := OwL.of_sh (H := H) g2
          exact call_list_of pins s σ H _ us Q I r ⟨_, _, rfl, .inl (s'.lst g1), fun a ha => q _ _ (Rel.newL (⟨Hk, [] ++ _, s', o.app r', n, k⟩ : Rel X.K H _) o.len ha)⟩
theorem bi_tuple (hc : X.calm = true) : CallR X (.type "tuple") (rBi X.K .tuple) := by
  intro pins s σ H vs us Q I r ⟨l, rs, d, hl, h, e, q⟩
  match l, hl, h, e with
  | [.str z], hl, h, e =>
    obtain ⟨v, rfl⟩ := l1 hl
    have h : Rel X.K H ((v, .str z) :: rs) := h
    have e : (if z.length ≤ big then some (D.tup (z.cps.toList.map one)) else none) = some d := e
    split at e
    · rename_i hz
      cases e
      obtain rfl := h.str
      obtain ⟨t, eu⟩ : ∃ t, us = [Value.str z t] := by
        cases r with
        | cons r r2 =>
          cases r2
          obtain ⟨t, e⟩ := r
          exact ⟨t, by rw [e]⟩
      subst eu
      refine call_tuple_str (I.ok.hd hc) z t (fun h' tk acc keep items => ?_) (sz hz)
      have J : Inv X pins σ H { s with heap := h', toks := tk } := I.kept keep
      have v1 := sgn_vals items
      have n : H h'.objs.size = none := J.hok.fresh (Nat.le_refl _)
      have szl : ((sgn z).map (·.1)).length ≤ sizeLine := by
        rw [v1.length, Array.length_toList, items.1]
        exact sz hz
      refine ⟨.ref h'.objs.size, upd H h'.objs.size (.tup ((sgn z).map (·.1))), J.laid (t' := tk) (fun b o e => Heap.get?_push_of_some _ e) (Nat.le_refl _) (show ObjOk X.prog X.w _ _ _ (.tup _) from ⟨szl, acc.toList, v1, ⟨_, Heap.get?_push_size _ rfl, rfl, _, rfl⟩⟩), rfl, ?_⟩
      exact q _ _ (Rel.newT (h.tail.signs z) (sgn_len z) (frzL_one _) n)
    · cases e
  | [.lst o ds], hl, h, e =>
    obtain ⟨v, rfl⟩ := l1 hl
    have h : Rel X.K H ((v, .lst o ds) :: rs) := h
    rw [biD] at e
    split at e
    · rename_i hf
      cases e
      obtain ⟨p, vs, rfl, g1, g2, g3⟩ := h.open
      exact call_tuple_of pins s σ H _ us Q I r ⟨p, vs, rfl, .inl ⟨.inl (.inl g1), fun a ha => q _ _ (Rel.newT g3 g2 (isFL_frz hf) ha)⟩⟩
    · cases e
  | [.tup ds], hl, h, e =>
    obtain ⟨v, rfl⟩ := l1 hl
    cases e
    have h : Rel X.K H ((v, .tup ds) :: rs) := h
    have h9 := h
    obtain ⟨p, vs, rfl, g1, g2, g3⟩ := h.openT
    exact call_tuple_of pins s σ H _ us Q I r ⟨p, vs, rfl, .inr ⟨g1, q _ _ h9⟩⟩
theorem zip_snd {vs : List V} {ks : List DK} (l : vs.length = ks.length) : (vs.zip ks).map (·.2) = ks := List.map_snd_zip (by omega)
theorem zip_fst {vs : List V} {ks : List DK} (l : vs.length = ks.length) : (vs.zip ks).map (·.1) = vs := List.map_fst_zip (by omega)
omit [Tbs] in
theorem ddK_mem : ∀ (ks acc : List DK) (k : DK), k ∈ ddK acc ks ↔ k ∈ acc ∨ k ∈ ks
  | [], acc, k => by simp [ddK]
  | j :: ks, acc, k => by
    rw [ddK, ddK_mem ks]
    by_cases h : Zs.hasK acc j = true
    · rw [if_pos h, List.mem_cons]
      have := Zs.hasK_iff.mp h
      exact ⟨fun z => z.elim .inl fun y => .inr (.inr y), fun z => z.elim .inl fun y => y.elim (fun e => .inl (e ▸ this)) .inr⟩
    · rw [if_neg h, List.mem_append, List.mem_singleton, List.mem_cons, or_assoc]
omit [Tbs] in
theorem ddK_nodup : ∀ (ks acc : List DK), acc.Nodup → (ddK acc ks).Nodup
  | [], acc, h => h
  | j :: ks, acc, h => by
    rw [ddK]
    refine ddK_nodup ks _ ?_
    split
    · exact h
    · rename_i z
      refine List.nodup_append.mpr ⟨h, List.pairwise_singleton _ _, fun u m w m' e => ?_⟩
      rw [List.mem_singleton.mp m'] at e
      exact z (Zs.hasK_iff.mpr (by rw [← e]; exact m))
theorem keyDL_frz : ∀ {ds : List D} {ks : List Key}, keyDL ds = some ks → frzL ds = ds
  | [], _, _ => rfl
  | d :: ds, ks, e => by
    rw [keyDL] at e
    cases e1 : keyD1 d with
    | none => rw [e1] at e; cases e
    | some k =>
      cases e2 : keyDL ds with
      | none => rw [e1, e2] at e; cases e
      | some js =>
        rw [frzL, keyDL_frz e2]
        cases d <;> first | rfl | cases e1
theorem keyD_frz {d : D} {k : DK} (e : keyD d = some k) : frz d = d := by
  cases d with
  | tup xs =>
    rw [keyD] at e
    cases e2 : keyDL xs with
    | none => rw [e2] at e; cases e
    | some js => exact congrArg D.tup (keyDL_frz e2)
  | int _ => rfl
  | str _ => rfl
  | _ => cases e
theorem keysD_frz : ∀ {ds : List D} {ks : List DK}, keysD ds = some ks → frzL ds = ds
  | [], _, _ => rfl
  | d :: ds, ks, e => by
    rw [keysD] at e
    cases e1 : keyD d with
    | none => rw [e1] at e; cases e
    | some k =>
      cases e2 : keysD ds with
      | none => rw [e1, e2] at e; cases e
      | some js => rw [frzL, keyD_frz e1, keysD_frz e2]
theorem bi_set (hc : X.calm = true) (hu : X.A.units + 65 < cLine) (pw : Pw X) : CallR X (.type "set") (rBi X.K .set) := by
  intro pins s σ H vs us Q I r ⟨l, rs, d, hl, h, e, q⟩
  match l, hl, h, e with
  | [.lst o ds], hl, h, e =>
    obtain ⟨v, rfl⟩ := l1 hl
    have h : Rel X.K H ((v, .lst o ds) :: rs) := h
    have e : stD ds = some d := e
    unfold stD at e
    cases ek : keysD ds with
    | none => rw [ek] at e; cases e
    | some ks =>
      rw [ek] at e
      dsimp only at e
      split at e
      · rename_i c
        cases e
        obtain ⟨p, vs, rfl, g1, g2, g3⟩ := h.open
        have lk : vs.length = ks.length := g2.trans (keysD_len ek)
        have fz : frzL ds = ds := keysD_frz ek
        obtain ⟨ky, mk⟩ := Rel.newS (ks' := ddK [] ks) g3 g2 fz ek
        refine Zs.cr_setS hc (by omega) pins s σ H _ us Q I r ⟨p, vs.zip ks, headQ ks, rfl, by rw [zip_fst lk]; exact .inl (.inl g1), fun x m => ⟨ky x m, ?_⟩, ?_, fun a S n i mm nd => ?_⟩
        · have := List.all_eq_true.mp c.1 x.2 (List.of_mem_zip m).2
          simpa using this
        · rw [List.length_zip]
          omega
        · rw [pw.so]
          refine q _ _ (mk a S n i (perm_of nd (ddK_nodup ks [] List.nodup_nil) fun k => ?_) nd)
          rw [mm, zip_snd lk, ddK_mem]
          simp
      · cases e
theorem insO_map {α β : Type} {le : α → α → Bool} {le' : β → β → Bool} (f : α → β) (h : ∀ a b, le a b = le' (f a) (f b)) (x : α) : ∀ l, Zs.insO le' (f x) (l.map f) = (Zs.insO le x l).map f
  | [] => rfl
  | y :: l => by
    show (if le' (f x) (f y) = true then f x :: f y :: l.map f else f y :: Zs.insO le' (f x) (l.map f)) = (if le x y = true then x :: y :: l else y :: Zs.insO le x l).map f
    rw [← h, insO_map f h x l]
    split <;> rfl
theorem isort_map {α β : Type} {le : α → α → Bool} {le' : β → β → Bool} (f : α → β) (h : ∀ a b, le a b = le' (f a) (f b)) : ∀ l, Zs.isort le' (l.map f) = (Zs.isort le l).map f
  | [] => rfl
  | x :: l => by
    show Zs.insO le' (f x) (Zs.isort le' (l.map f)) = (Zs.insO le x (Zs.isort le l)).map f
    rw [isort_map f h l, insO_map f h]
theorem insO_perm {α : Type} {le : α → α → Bool} (x : α) : ∀ l, (Zs.insO le x l).Perm (x :: l)
  | [] => .refl _
  | y :: l => by
    show (if le x y = true then x :: y :: l else y :: Zs.insO le x l).Perm _
    split
    · exact .refl _
    · exact ((insO_perm x l).cons y).trans (.swap x y l)
theorem isort_perm {α : Type} {le : α → α → Bool} : ∀ l, (Zs.isort le l).Perm l
  | [] => .refl _
  | x :: l => (insO_perm x _).trans ((isort_perm l).cons x)
theorem zip3_vp : ∀ {vs : List V} {ds : List D} {ps : List PyData}, vs.length = ds.length → ds.length = ps.length → (vs.zip (ds.zip ps)).map (fun t => (t.1, t.2.2)) = vs.zip ps ∧ (vs.zip (ds.zip ps)).map (fun t => t.2) = ds.zip ps ∧ (vs.zip (ds.zip ps)).map (fun t => (t.1, t.2.1)) = vs.zip ds
  | [], [], [], _, _ => ⟨rfl, rfl, rfl⟩
  | v :: vs, d :: ds, p :: ps, h, g => by
    obtain ⟨a, b, c⟩ := zip3_vp (vs := vs) (ds := ds) (ps := ps) (Nat.succ.inj h) (Nat.succ.inj g)
    simp only [List.zip_cons_cons, List.map_cons, a, b, c]
    exact ⟨trivial, trivial, trivial⟩
theorem zip3_re : ∀ ts : List (V × (D × PyData)), (ts.map fun t => (t.1, t.2.1)) = (ts.map ((fun x => x.1) ∘ fun t => (t.1, t.2.2))).zip (ts.map ((fun x => x.1) ∘ fun t => t.2))
  | [] => rfl
  | t :: ts => by
    rw [List.map_cons, List.map_cons, List.map_cons, List.zip_cons_cons, zip3_re ts]
    rfl
theorem pyL_len : ∀ {ds : List D} {ps : List PyData}, pyL ds = some ps → ds.length = ps.length
  | [], _, e => by cases e; rfl
  | d :: ds, ps, e => by
    rw [pyL] at e
    cases e1 : py d with
    | none => rw [e1] at e; cases e
    | some k =>
      cases e2 : pyL ds with
      | none => rw [e1, e2] at e; cases e
      | some js =>
        rw [e1, e2] at e
        cases e
        rw [List.length_cons, List.length_cons, pyL_len e2]
theorem dp_zip {K : PySem.W.Frag} {H : Hp} : ∀ {vs : List V} {ps : List PyData}, DpAll K H vs ps → ∀ b ∈ vs.zip ps, Dp K H b.1 b.2
  | _, _, .nil, b, m => nomatch m
  | _, _, .cons h r, b, m => by
    rw [List.zip_cons_cons] at m
    rcases List.mem_cons.mp m with rfl | m
    · exact h
    · exact dp_zip r b m
theorem Rel.dps {K : PySem.W.Frag} {H : Hp} {rs : Rt} {vs : List V} {ds : List D} {ps : List PyData} (h : Rel K H (vs.zip ds ++ rs)) (l : vs.length = ds.length) (f : frzL ds = ds) (e : pyL ds = some ps) : DpAll K H vs ps := by
  obtain ⟨Hk, fp, s, q, nd, k⟩ := h
  obtain ⟨f1, f2, rfl, h1, h2⟩ := q.split l
  obtain ⟨rfl, h3⟩ := h1.frzd f
  exact h3.dp s e
theorem srt_al {ps : List PyData} (h : srtOk ps = true) : PySem.W.AllAlike ps ∧ PySem.W.Sortable ps ∧ ∀ p ∈ ps, p.depth ≤ 30 := by
  unfold srtOk at h
  rw [Bool.and_eq_true, Bool.and_eq_true, Bool.or_eq_true] at h
  refine ⟨fun a ha b hb => List.all_eq_true.mp (List.all_eq_true.mp h.1.1 a ha) b hb, ?_, fun p m => by simpa using List.all_eq_true.mp h.2 p m⟩
  rcases h.1.2 with z | z
  · refine .inl fun p m => ?_
    have := List.all_eq_true.mp z p m
    match p, this with
    | .tuple (x :: r), _ => exact ⟨x, r, rfl⟩
  · refine .inr fun p m => ?_
    have := List.all_eq_true.mp z p m
    cases p with
    | none => cases this
    | tuple _ => cases this
    | _ => exact ⟨fun e => (nomatch e), fun _ e => (nomatch e)⟩
theorem bi_sorted (hc : X.calm = true) (hu : X.A.units + 65 < cLine) (pw : Pw X) : CallR X (.builtin "sorted") (rBi X.K .sorted) := by
  intro pins s σ H vs us Q I r ⟨l, rs, d, hl, h, e, q⟩
  match l, hl, h, e with
  | [.st o ks], hl, h, e =>
    obtain ⟨v, rfl⟩ := l1 hl
    have h : Rel X.K H ((v, .st o ks) :: rs) := h
    have e : (if Zs.sortableK ks = true then some (D.lst true ((Zs.sortK ks).map kD)) else none) = some d := e
    split at e
    · rename_i c
      cases e
      obtain ⟨a, S, rfl, ha, ky, pm, nd, all⟩ := h.openS
      have inn : ∀ k, k ∈ S.map (·.2) → k ∈ ks := fun k m => pm.mem_iff.mp m
      have so : PySem.W.Sortable ((S.map (·.2)).map Zs.kP) := by
        have mm : ∀ d, d ∈ (S.map (·.2)).map Zs.kP → d ∈ ks.map Zs.kP := fun d m => (pm.map Zs.kP).mem_iff.mp m
        exact (Zs.sortable_so c).elim (fun z => .inl fun d m => z d (mm d m)) fun z => .inr fun d m => z d (mm d m)
      refine Zs.cr_sortedS hc (by omega) pins s σ H _ us Q I r ⟨a, S, rfl, by rw [pw.so]; exact ha, ky, fun k m k' m' => Zs.sortable_al c k (inn k m) k' (inn k' m'), so, fun p S' js n i pj es => ?_⟩
      rw [Zs.sortK_eq c (pj.trans pm)] at es
      have em : (S'.map fun p => kD p.2) = (Zs.sortK ks).map kD := by rw [← es, List.map_map]; rfl
      have h3 := all S' i
      rw [em] at h3
      exact q _ _ (Rel.newL h3 (by rw [← em, List.length_map, List.length_map]) n)
    · cases e
  | [.lst o ds], hl, h, e =>
    obtain ⟨v, rfl⟩ := l1 hl
    have h : Rel X.K H ((v, .lst o ds) :: rs) := h
    have e : srtL ds = some d := e
    unfold srtL at e
    cases ep : pyL ds with
    | none => rw [ep] at e; cases e
    | some ps =>
      rw [ep] at e
      dsimp only at e
      split at e
      · rename_i c
        cases e
        obtain ⟨a, vs, rfl, g1, g2, g3⟩ := h.open
        obtain ⟨al, so, dd⟩ := srt_al c.1
        have lp := pyL_len ep
        have dp := dp_zip (g3.dps g2 (isFL_frz c.2) ep)
        have e1 : (vs.zip ps).map (·.1) = vs := List.map_fst_zip (by omega)
        have e2 : (vs.zip ps).map (fun b => b.2) = ps := List.map_snd_zip (by omega)
        obtain ⟨t1, t2, t3⟩ := zip3_vp g2 lp
        refine Zs.cr_sortD (by omega) pins s σ H _ us Q I r ⟨a, vs.zip ps, rfl, by rw [e1]; exact .inl (.inl g1), dp, by rw [e2]; exact al, by rw [e2]; exact so, fun b m => dd _ (List.of_mem_zip m).2, fun p n => ?_⟩
        have eo : Zs.ordB (vs.zip ps) = Zs.isort (fun a b : V × PyData => Zs.leP a.2 b.2) (vs.zip ps) :=
          Zs.msort_eq (le := fun a b : V × PyData => Zs.leP a.2 b.2) (fun _ _ _ => Zs.leP_tr _ _ _) (fun _ _ => Zs.leP_to _ _) _
        have eV := isort_map (le := fun a b : V × (D × PyData) => Zs.leP a.2.2 b.2.2) (le' := fun a b : V × PyData => Zs.leP a.2 b.2) (fun t => (t.1, t.2.2)) (fun _ _ => rfl) (vs.zip (ds.zip ps))
        have eD := isort_map (le := fun a b : V × (D × PyData) => Zs.leP a.2.2 b.2.2) (le' := fun a b : D × PyData => Zs.leP a.2 b.2) (fun t => t.2) (fun _ _ => rfl) (vs.zip (ds.zip ps))
        rw [t1] at eV
        rw [t2] at eD
        have pm : ((Zs.isort (fun a b : V × (D × PyData) => Zs.leP a.2.2 b.2.2) (vs.zip (ds.zip ps))).map fun t => (t.1, t.2.1)).Perm (vs.zip ds) := by
          rw [← t3]
          exact (isort_perm _).map _
        have h3 := g3.perm (pm.symm.append_right rs)
        rw [eo, eV, List.map_map]
        refine q _ _ ?_
        rw [eD, List.map_map]
        rw [zip3_re] at h3
        exact Rel.newL h3 (by rw [List.length_map, List.length_map]) n
      · cases e
end
end Z


set_option Elab.async false
set_option linter.all false
set_option autoImplicit false
set_option maxRecDepth 100000
set_option maxHeartbeats 4000000
/-! Y1: own exceptions as values: the first field stored. -/
namespace Y
open PySem PySem.Spec PySem.W PySem.Calls PyProof.Rows PySem.HandSPX
section
open Builtin Builtin.ObjectAttr
variable {prog : Program} {w : World} {A : Around} {R : Result → Shared → Prop} {hp : Heap} {g : Array GenState} {dr : Drawn} {tt : Nat} {os : OsState}
theorem first_set {K : W.Frag} {fld : Str} {ft : Tok} {val : Value} {me C : Addr} {fv : Array Value} {cd : ClassData} {B : String} {tl : List Value} (SF : StoreFacts B tl "object.__setattr__" "object") (X : K.In hp) (hme : hp.get? me = some { cls := .ref C, data := .fields fv })
    (hc : W.clsIn K C = some cd) (hm : cd.mro = .ref C :: tl) (hd : cd.hasDict = true) (nof : W.findIn K (.ref C) fld = some none)
    (out : ∀ h2 t2 dx, (∀ b o, b ≠ me → hp.get? b = some o → h2.get? b = some o) → hp.objs.size ≤ dx → dx ≠ me → h2.get? me = some { cls := .ref C, dict := some dx, data := .fields fv } →
      h2.Ns1 dx (fun y => if y = fld then some val else none) → R (.ok (.ret .none)) ⟨h2, g, dr, t2, os⟩) :
    codeAny (model prog w) A (.call (.builtin "object.__setattr__") ⟨[.ref me, .str fld ft, val], []⟩) R ⟨hp, g, dr, tt, os⟩ := by
  have at_ : W.InstAt hp me { cls := .ref C, data := .fields fv } C none := ⟨hme, rfl, rfl, trivial⟩
  have SO := F.store_object
  have nid : me ≠ hp.objs.size := Nat.ne_of_lt (Heap.lt_size hme)
  have isO : W.mroIn K C (.type "object") = some true := by
    unfold W.mroIn
    rw [hc, Option.bind_some, hm, if_neg (by simp), List.contains_cons, SF.hasOwner, Bool.or_true]
  have lkO : W.Looks (model prog w) hp (isInstance (.ref me) (.type "object")) true := at_.type.andThen (W.looks_mroIn X isO)
  have lkM : W.Looks (model prog w) hp (mroOf (.ref C)) cd.mro := (W.looks_clsIn X hc).andThen .now
  have lkC : W.Looks (model prog w) hp (classData C) cd := W.looks_clsIn X hc
  have lkT : W.Looks (model prog w) hp (storeTaker? none) none := .now
  refine codeAny_call_builtin SO.slot.plain SO.entry (W.check_slot (s := ⟨hp, g, dr, tt, os⟩) SO.kind SO.split lkO (SO.args (.ref me) (.str fld ft) val) ?_)
  rw [W.osa_eq, refuse_eq]
  refine wpAny_bind (wpAny_bind (at_.type.at (wpAny_bind (lkM.at ?_))))
  rw [hm, refuseLoop_ref, SF.passes]
  refine wpAny_pure (wpAny_bind (at_.type.at (wpAny_bind ((W.looks_findIn X nof).at (wpAny_bind (lkT.at ?_))))))
  show wpAny _ _ (storeInOwnDict (.ref me) (.ref C) (.str fld ft) fld val false) _ _ _
  obtain ⟨c1, c2, c3, c4, c5, c6, c7, c8, c9, c10, c11⟩ := cd
  dsimp only at hd
  subst hd
  unfold storeInOwnDict ownDictForStores
  repeat (first | with_reducible refine store_in_new ?_ ?_ | with_reducible refine wpAny_loadPart_at hme ?_ | with_reducible refine lkC.at ?_ | wp_step)
  · exact ⟨_, #[], _, (Heap.get?_update_ne _ _ _ _ nid.symm).trans (Heap.get?_push_at rfl rfl), rfl, fun e he => absurd he (by simp), fun _ => rfl⟩
  · intro h2 t2 ns sb
    have m1 : (hp.push { cls := .type "dict", data := .dict #[] }).get? me = some { cls := .ref C, data := .fields fv } := Heap.get?_push_of_some _ hme
    have keep : ∀ b o, b ≠ me → hp.get? b = some o → h2.get? b = some o := fun b o nb hb => by
      rw [sb.2 b (Nat.ne_of_lt (Heap.lt_size hb)), Heap.get?_update_ne _ _ _ _ nb]
      exact Heap.get?_push_of_some _ hb
    have mine : h2.get? me = some { cls := .ref C, dict := some hp.objs.size, data := .fields fv } := by
      rw [sb.2 me nid]
      exact Heap.get?_update_self _ m1 rfl
    exact out h2 t2 hp.objs.size keep (Nat.le_refl _) nid.symm mine ns
end
end Y

set_option Elab.async false
set_option linter.all false
set_option autoImplicit false
set_option maxRecDepth 100000
set_option maxHeartbeats 4000000
/-! Y2: own exceptions as values: the class, its __init__. -/
namespace Y
open PySem PySem.Spec PyProof.Rows L2 Z
/-- the built-in class it stands over -/
structure Bs (K : PySem.W.Frag) (B newId initId : String) (tl : List Value) : Prop where
  f : ExcBaseFacts B newId initId tl
  s : PySem.StoreFacts B tl "object.__setattr__" "object"
  b : bootBuiltins (Str.ofString B) = some (.type B)
  t : typeOf (.type B) = pure (.type "type")
  st : Manifest.isStub B = false
  i : PySem.W.findCls K (.type B) (.type "type") "__init__" = some (.val (.builtin initId))
  hd : PySem.W.handedIn (.builtin initId) = true
  nm : (Str.ofString B == ("__name__" : Str)) = false
  db : (Str.ofString B == ("__debug__" : Str)) = false
/-- an own class straight over it -/
structure Xc (K : PySem.W.Frag) (C : Addr) (newId : String) (tl : List Value) : Prop where
  cls : ∃ nm q N bs sn sub ab col dd k0 k1 k2 k3 k5, K.lookup C = some (excClassObj nm q C N bs tl true sn sub ab col dd k0 k1 k2 k3 k5 newId)
  sa : PySem.W.findIn K (.ref C) "__setattr__" = some (some (.builtin "object.__setattr__"))
  kp : PySem.W.keepIn K (.ref C) = true
section
variable {X : Cx} {pins : List (Addr × Obj)} {σ : L2.St} {H : Hp} {s : Shared} {a C : Addr} {f : Str} {y : V} {u : Value} {E : Value → Shared → Prop} {A : Around} {B newId initId : String} {tl : List Value}
/-- the first field -/
theorem st_first {Q : Unit → Shared → Prop} (b : Bs X.K B newId initId tl) (T : Xc X.K C newId tl) (I : Inv X pins σ H s) (e : H a = some (exo a C none)) (nof : PySem.W.findIn X.K (.ref C) f = some none) (ry : RelV y u)
    (h : ∀ dx s', H dx = none → dx ≠ a → Inv X pins σ (upd (upd H dx (exd dx [(f, y)])) a (exo a C (some dx))) s' → Q () s') : wpAny (model X.prog X.w) A (setAttr (.ref a) f u) Q E s := by
  obtain ⟨c1, c2, c3, c4, c5, c6, c7, c8, c9, k0, k1, k2, k3, k5, hC⟩ := T.cls
  obtain ⟨t1, ho⟩ := exo_at I.hok e
  have hcl : PySem.W.clsIn X.K C = some { name := c1, bases := c4, mro := .ref C :: tl, ns := c3, qualname := c2, hasDict := true, slotNames := c5, subclasses := c6, abstract := c7, collection := c8, hasDel := false } := by
    unfold PySem.W.clsIn
    rw [hC] <;> rfl
  obtain ⟨hp, g, d, t, os⟩ := s
  refine PySem.W.set_plain I.kIn (od := none) ⟨ho, rfl, rfl, trivial⟩ T.sa (first_set b.s I.kIn ho hcl rfl rfl nof fun h2 t2 dx keep hd ne mine ns => ?_)
  have fr : H dx = none := I.hok.fresh hd
  let old : Obj := { cls := .ref C, dict := none, data := .fields #[.ref t1, .none, .none, .none, .bool false, .none] }
  let h1 : Heap := h2.update a fun _ => old
  have at1 : h1.get? a = some old := Heap.get?_update_self _ mine rfl
  have off1 : ∀ b, b ≠ a → h1.get? b = h2.get? b := fun b nb => Heap.get?_update_ne _ _ _ _ nb
  have k1 : ∀ b o, hp.get? b = some o → h1.get? b = some o := fun b o q => by
    by_cases hb : b = a
    · subst hb
      rw [at1, ← q, ho]
    · rw [off1 b hb]
      exact keep b o hb q
  have n1 : h1.Ns1 dx (fun y => if y = f then some u else none) := ns.at fun o q => (off1 dx ne).trans q
  have I1 := I.laid (t' := t2) (a := dx) (h' := h1) k1 hd (exd_ok n1 (relO_put (fs := []) ry fun _ => True.intro))
  have e1 : (upd H dx (exd dx [(f, y)])) a = some (exo a C none) := by rw [upd_ne (Ne.symm ne)]; exact e
  have I2 := I1.write (t' := t2) (x := a) (e := a) (o := exo a C (some dx)) (h' := h2) (by rw [e1]; exact True.intro) (.inl rfl) (fun b o nb q => (off1 b nb).symm.trans q) ⟨_, mine⟩ (exo_ok mine)
  exact h dx _ fr ne I2
/-- B.__init__(self, ..) -/
theorem base_init {us : List Value} {Q : Value → Shared → Prop} (b : Bs X.K B newId initId tl) (T : Xc X.K C newId tl) (I : Inv X pins σ H s) (e : H a = some (exo a C none)) (hl : us.length ≤ sizeLine) (h : ∀ s', Inv X pins σ H s' → Q .none s') :
    wpAny (model X.prog X.w) A (call (.builtin initId) (.ref a :: us)) Q E s := by
  obtain ⟨c1, c2, c3, c4, c5, c6, c7, c8, c9, k0, k1, k2, k3, k5, hC⟩ := T.cls
  obtain ⟨t1, ho⟩ := exo_at I.hok e
  obtain ⟨hp, g, d, t, os⟩ := s
  refine wpAny_call (PySem.HandSPX.init_base b.f (fun _ => rfl) (I.kIn _ _ hC) ho hl fun h2 t2 keep mine => ?_)
  have I1 := I.write (t' := t) (x := a) (e := a) (o := exo a C none) (h' := h2) (by rw [e]; exact True.intro) (.inl rfl) keep ⟨_, mine⟩ (exo_ok mine)
  have same : upd H a (exo a C none) = H := funext fun z => by
    by_cases hz : z = a
    · subst hz
      rw [upd_same, e]
    · exact upd_ne hz
  exact h _ (same ▸ I1)
end
/-! ### the text of such an __init__ -/
def rBase (K : PySem.W.Frag) (newId : String) (tl : List Value) : List V → Hp → VK → Prop := fun vs H Q => ∃ (a C : Addr) (ws : List V), vs = .ref a :: ws ∧ ws.length ≤ 1000 ∧ Xc K C newId tl ∧ H a = some (exo a C none) ∧ Q .non H
section
variable {X : Cx} {e o : Expr} {es : List Expr} {ta : TA} {to te : TE} {p p1 p2 pos : Pos} {B newId initId : String} {tl : List Value} {f : Str}
theorem pe_base {pl : Sem Bool} (b : Bs X.K B newId initId tl) (hg : Gl X (Str.ofString B)) (hm : X.mg (Str.ofString B) = none) (ha : PA X (e :: es) ta)
    (hc : eval (.Call (.Attribute (.Name (Str.ofString B) p1) "__init__" p2) (e :: es) [] pos) X.env = (do
      let ov ← eval (.Name (Str.ofString B) p1) X.env
      standAt p2.atName
      let (f, first) ← holding [ov] (getMethod ov "__init__" pl)
      callWith pos f first (backTo pos (starEach (e :: es) X.env)) (backToKw pos (keywordEach [] X.env))))
    (he : starEach (e :: es) X.env = (false, eval e X.env) :: starEach es X.env) (hpl : (backTo pos (starEach es X.env)).any (·.1) = false) :
    PE X (.Call (.Attribute (.Name (Str.ofString B) p1) "__init__" p2) (e :: es) [] pos) (tCB (rBase X.K newId tl) ta) := by
  refine ⟨fun pins s σ H Q I h => ?_⟩
  refine PySem.W.methodCall_KW (ld_blt I hg hm b.b ?_ (fun z => absurd b.nm (by rw [z]; decide)) b.db) hc
  obtain ⟨m, fr⟩ := I.fr
  refine PySem.W.method_type fr I.ok.mod.kin b.t b.st b.i b.hd ?_
  show wpAny _ _ (callWith pos (Value.builtin initId) [] (backTo pos (starEach (e :: es) X.env)) []) _ _ _
  refine PyProof.Rows.callWith_method1 (thn (ha.run pos pins _ σ H _ (I.tok _) h) fun us s1 ⟨vs, H1, I1, r1, a, C, ws, ev, hl, T, ea, q⟩ => ?_) he hpl
  subst ev
  cases r1 with
  | @cons _ u0 _ ur ra rw' =>
    obtain rfl : u0 = Value.ref a := ra
    exact base_init b T I1 ea (by rw [← Paired.length rw', sizeLine_eq]; omega) fun s' J => ⟨.non, H1, J, rfl, q⟩
/-- self.f = e, the first field -/
def tFirst (K : PySem.W.Frag) (newId : String) (tl : List Value) (f : Str) (to te : TE) : TS := fun D σ H => te σ H fun y H1 => to σ H1 fun x H2 => ∃ a C : Addr, x = .ref a ∧ Xc K C newId tl ∧ PySem.W.findIn K (.ref C) f = some none ∧ H2 a = some (exo a C none) ∧
  ∀ dx, H2 dx = none → dx ≠ a → D.nx σ (upd (upd H2 dx (exd dx [(f, y)])) a (exo a C (some dx)))
theorem ps_first {p' : Pos} (b : Bs X.K B newId initId tl) (ho : PE X o to) (he : PE X e te) (hs : swapsWith e (some (.Attribute o f p')) pos.line X.env = pure false) : PS X (.Assign [.Attribute o f p'] e pos) (tFirst X.K newId tl f to te) := by
  refine ⟨fun pins s σ H D I h => ?_⟩
  refine plainObj_wpAny_Assign_Attribute (thn (he.run pins s σ H _ I h) fun v s1 ⟨y, H1, I1, r1, q1⟩ => thn (ho.run pins s1 σ H1 _ I1 q1) fun u s2 ⟨x, H2, I2, r2, a, C, ex, T, nof, ea, q⟩ => ?_) hs
  subst ex
  obtain rfl : u = Value.ref a := r2
  exact st_first b T I2 ea nof r1 fun dx s' n ne J => ⟨σ, _, J, q dx n ne⟩
end
end Y

set_option Elab.async false
set_option linter.all false
set_option autoImplicit false
set_option maxRecDepth 100000
set_option maxHeartbeats 4000000
namespace Y
open PySem PySem.Spec PySem.W PySem.Calls PyProof.Rows PySem.HandSPX
section
variable {M : Model} {prog : Program} {w : World} {A : Around} {E : Value → Shared → Prop} {R : Result → Shared → Prop} {h : Heap} {g : Array GenState} {d : Drawn} {t : Nat} {os : OsState}
variable {nm q : Str} {C N : Addr} {bs tl : List Value} {sn : List Str} {sub : List Value} {ab : Bool} {col : Option Bool} {dd : Option Addr} {k0 k1 k2 k3 k5 : Option Value} {B newId initId : String} {kw : List (Str × Value)}
theorem kw_check (F : ExcBaseFacts B newId initId tl) (hC : h.get? C = some (excClassObj nm q C N bs tl true sn sub ab col dd k0 k1 k2 k3 k5 newId)) {Q : Unit → Shared → Prop} (hq : Q () ⟨h, g, d, t, os⟩) : wpAny M A (checkBuiltinCall newId ⟨[.ref C], kw⟩) Q E ⟨h, g, d, t, os⟩ := by
  have isB : (Value.ref C :: tl).contains (.type B) = true := by rw [List.contains_cons, F.hasB, Bool.or_true]
  have ns := F.noStar
  simp only [checkBuiltinCall, F.newKind, F.newSplit, F.newRow]
  repeat (first | refine wpAny_loadPart_at hC ?_ | (refine wpAny_isSubtype_exc hC ?_; rw [isB]) | refine wpAny_staticBase_exc hC ?_ | refine wpAny_madeBy_exc hC ?_ | simp only [bne_self_eq_false, Bool.false_eq_true, if_false] | wp_step)
  exact hq
theorem kw_new (F : ExcBaseFacts B newId initId tl) (hC : h.get? C = some (excClassObj nm q C N bs tl true sn sub ab col dd k0 k1 k2 k3 k5 newId))
    (hq : R (.ok (.ret (.ref (h.objs.size + 1)))) ⟨(h.push { cls := .type "tuple", data := .seq ([] : List Value).toArray }).push (excO C h.objs.size), g, d, t, os⟩) :
    codeAny (model prog w) A (.builtin newId ⟨[.ref C], kw⟩) R ⟨h, g, d, t, os⟩ := by
  have fe := F.ends
  have isB : (Value.ref C :: tl).contains (.type B) = true := by rw [List.contains_cons, F.hasB, Bool.or_true]
  have noA : (Value.ref C :: tl).contains (.type "AttributeError") = false := by rw [List.contains_cons, F.noAttr]; rfl
  have noN : (Value.ref C :: tl).contains (.type "NameError") = false := by rw [List.contains_cons, F.noName]; rfl
  have few : ([] : List Value).length ≤ sizeLine := Nat.zero_le _
  refine PySem.codeAny_builtinAt F.entry ?_
  unfold Builtin.«BaseException.__new__»
  refine PySem.wpAt_bind ?_
  show PySem.wpAt _ _ _ (stack >>= _) _ _ _
  refine PySem.wpAt_bind (PySem.wpAt_stack fun p below => PySem.wpAt_of_wpAny ?_)
  wp_walk
  refine PySem.wpAt_of_wpAny ?_
  rw [F.owner]
  repeat (first | with_reducible refine wpAny_madeHere_exc F.canon hC ?_ | with_reducible refine wpAny_loadPart_at hC ?_ | (with_reducible refine wpAny_isSubtype_exc hC ?_; first | rw [isB] | rw [noA] | rw [noN]) | wp_step)
  show R _ _
  rw [Heap.size_push]
  exact hq
theorem kw_type (F : ExcBaseFacts B newId initId tl) {fI : Addr} {Q : Fin → Shared → Prop} (hC : h.get? C = some (excClassObj nm q C N bs tl true sn sub ab col dd k0 k1 k2 k3 k5 newId))
    (hi : W.Looks (model prog w) h (typeLookup (.ref C) "__init__") (some (.ref fI))) (hb : ∀ self, W.Looks (model prog w) h (bindSpecial (.ref fI) self) (.ref fI, [self]))
    (hq : codeAny (model prog w) A (.call (.ref fI) ⟨[.ref (h.objs.size + 1)], kw⟩)
      (fun r s' => match r with | .ok (.ret v) => v = .none ∧ Q (.done (.ret (.ref (h.objs.size + 1)))) s' | .ok _ => False | .error e => E e s')
      ⟨(h.push (W.kdv_tup [])).push (excO C h.objs.size), g, d, t, os⟩) :
    wpAny (model prog w) A (Builtin.«type.__call__» ⟨[.ref C], kw⟩) Q E ⟨h, g, d, t, os⟩ := by
  repeat (first | with_reducible refine wpAny_loadPart_at hC ?_ | with_reducible refine wpAny_madeBy_exc hC ?_ | wp_step)
  refine codeAny_call_builtin_code (Code.quiet_builtin _ F.quiet) (kw_check F hC ?_)
  refine kw_new F hC ?_
  show wpAny _ _ _ _ _ _
  have kp : ∀ b o, h.get? b = some o → ((h.push (W.kdv_tup [])).push (excO C h.objs.size)).get? b = some o := fun b o e => Heap.get?_push_of_some _ (Heap.get?_push_of_some _ e)
  have c1 := kp _ _ hC
  have mine : ((h.push (W.kdv_tup [])).push (excO C h.objs.size)).get? (h.objs.size + 1) = some (excO C h.objs.size) := by heap_get
  have isC : (Value.ref C :: tl).contains (.ref C) = true := by simp
  have i1 := hi.keeps kp
  have b1 := (hb (.ref (h.objs.size + 1))).keeps kp
  unfold isInstance
  repeat (first | with_reducible refine wpAny_loadPart_at mine ?_ | (with_reducible refine wpAny_isSubtype_exc c1 ?_; rw [isC]) | wp_step)
  show wpAny _ _ (typeLookup (.ref C) _) _ _ _
  refine i1.at ?_
  refine wpAny_holding (wpAny_bind (b1.at ?_))
  refine wpAny_bind (wpAny_call (codeAny_mono hq fun r s' z => ?_))
  rcases r with e | (v | _ | _ | _) <;> first | exact z | exact z.elim | skip
  obtain ⟨rfl, z⟩ := z
  first
    | exact wpAny_pure (wpAny_pure z)
    | (wp_walk; exact z)
theorem kw_tc (hC : h.get? C = some (excClassObj nm q C N bs tl true sn sub ab col dd k0 k1 k2 k3 k5 newId)) {Q : Unit → Shared → Prop} (hq : Q () ⟨h, g, d, t, os⟩) : wpAny M A (checkBuiltinCall "type.__call__" ⟨[.ref C], kw⟩) Q E ⟨h, g, d, t, os⟩ := by
  have fs := tc_sub
  have isT : (⟨h, g, d, t, os⟩ : Shared).TypeIs (.ref C) "type" := ⟨_, hC, rfl⟩
  simp only [checkBuiltinCall, tc_kind, tc_split]
  repeat (any_goals (first | assumption | with_reducible refine wpAny_loadPart_at hC ?_ | with_reducible refine wpAny_onRaise ?_ | with_reducible refine wpAny_map ?_ | wp_step))
theorem kw_call (F : ExcBaseFacts B newId initId tl) {fI : Addr} (hC : h.get? C = some (excClassObj nm q C N bs tl true sn sub ab col dd k0 k1 k2 k3 k5 newId))
    (hi : W.Looks (model prog w) h (typeLookup (.ref C) "__init__") (some (.ref fI))) (hb : ∀ self, W.Looks (model prog w) h (bindSpecial (.ref fI) self) (.ref fI, [self]))
    (hq : codeAny (model prog w) (A.under (.builtin "type.__call__" ⟨[.ref C], kw⟩)) (.call (.ref fI) ⟨[.ref (h.objs.size + 1)], kw⟩) (W.InitBack (h.objs.size + 1) R)
      ⟨(h.push (W.kdv_tup [])).push (excO C h.objs.size), g, d, t, os⟩) : codeAny (model prog w) A (.call (.ref C) ⟨[], kw⟩) R ⟨h, g, d, t, os⟩ := by
  have l1 := tc_lookup
  have l2 := tc_bind (.ref C)
  have isT : (⟨h, g, d, t, os⟩ : Shared).TypeIs (.ref C) "type" := ⟨_, hC, rfl⟩
  refine codeAny_of_tree ?_
  show wpAny _ _ (callAny (.ref C) _) _ _ _
  repeat (any_goals (first | assumption | with_reducible refine wpAny_loadPart_at hC ?_ | wp_step))
  refine ⟨rfl, ?_⟩
  refine codeAny_call_builtin_at (Code.quiet_builtin _ (by decide +kernel)) entry_typeCall (kw_tc hC (kw_type F hC hi hb ?_))
  refine codeAny_mono hq fun r s' z => ?_
  rcases r with e | (v | _ | _ | _) <;> exact z
end
end Y

set_option Elab.async false
set_option linter.all false
set_option autoImplicit false
set_option maxRecDepth 100000
set_option maxHeartbeats 4000000
/-! Y3: own exceptions as values: __init__ keeps its promise; one is made. -/
namespace Y
open PySem PySem.Spec PyProof.Rows L2 Z
def spI1 (K : PySem.W.Frag) (newId : String) (tl : List Value) (f : Str) : Sp := fun vs H Q _ => ∃ (a C : Addr) (v : V), vs = [.ref a, v] ∧ Xc K C newId tl ∧ PySem.W.findIn K (.ref C) f = some none ∧ H a = some (exo a C none) ∧
  ∀ dx, H dx = none → dx ≠ a → Q .non (upd (upd H dx (exd dx [(f, v)])) a (exo a C (some dx)))
def spI0 (K : PySem.W.Frag) (newId : String) (tl : List Value) : Sp := fun vs H Q _ => ∃ (a C : Addr), vs = [.ref a] ∧ Xc K C newId tl ∧ H a = some (exo a C none) ∧ Q .non H
section
variable {P : Program} {w : World} {K : PySem.W.Frag} {mg : Str → Option Value} {base : Heap} {B newId initId : String} {tl : List Value} {f prm qual : Str} {st : Stmt} {fI : Addr} {fd : FuncData} {k : Nat} {p1 p2 p3 p4 p5 p6 q1 q2 q3 q4 : Pos}
theorem init1 (b : Bs K B newId initId tl) (F : Fun K "__init__" qual st fI fd) (hm : mg (Str.ofString B) = none) (S : FnScope ["self", prm] ["self", prm] (defScope st)) (hg : (defScope st).names.lookup (Str.ofString B) = some .globalImplicit) (h1 : (prm == ("__debug__" : Str)) = false) (h2 : (prm == ("__classdict__" : Str)) = false)
    (hb : defBody st = [.Expr (.Call (.Attribute (.Name (Str.ofString B) p1) "__init__" p2) [.Name "self" p3, .Name prm p4] [] p5) p6, .Assign [.Attribute (.Name "self" q1) f q2] (.Name prm q3) q4])
    (hc : ∀ env : Env, ∃ pl : Sem Bool, eval (.Call (.Attribute (.Name (Str.ofString B) p1) "__init__" p2) [.Name "self" p3, .Name prm p4] [] p5) env = (do
      let ov ← eval (.Name (Str.ofString B) p1) env
      standAt p2.atName
      let (f, first) ← holding [ov] (getMethod ov "__init__" pl)
      callWith p5 f first (backTo p5 (starEach [.Name "self" p3, .Name prm p4] env)) (backToKw p5 (keywordEach [] env)))) : FnOk P w K mg base CX0 (k + 1) fI fd ["self", prm] (spI1 K newId tl f) := by
  refine F.ok S (fun vs H Q E ⟨a, C, v, e, _⟩ => by rw [e]; rfl) fun cdv A outer s H vs Q E hr ⟨a, C, v, e, T, nof, ea, q⟩ => ?_
  subst e
  rw [hb]
  have vis : ∀ {x : Str}, x ∈ (["self", prm] : List Str) → Vis (cxOf CX0 P w K mg base ["self", prm] qual (defScope st) fI cdv A outer s H E).nox.env.scope x := fun {x} hx => (S.par x hx).elim .inl fun z => .inr (.inl z)
  have ps : ∀ {pos : Pos}, PE (cxOf CX0 P w K mg base ["self", prm] qual (defScope st) fI cdv A outer s H E).nox (.Name "self" pos) (tVar 0) := fun {pos} => pe_var (i := 0) rfl (vis (.head _)) (by decide) (by decide)
  have pv : ∀ {pos : Pos}, PE (cxOf CX0 P w K mg base ["self", prm] qual (defScope st) fI cdv A outer s H E).nox (.Name prm pos) (tVar 1) := fun {pos} => pe_var (i := 1) rfl (vis (.tail _ (.head _))) h1 h2
  obtain ⟨pl, hc⟩ := hc (cxOf CX0 P w K mg base ["self", prm] qual (defScope st) fI cdv A outer s H E).nox.env
  refine ⟨_, pss_cons (ps_expr (pe_base b hg hm (pa_cons ps (pa_cons pv pa_nil rfl) rfl) hc rfl rfl) rfl) (pss_one (ps_first (f := f) b ps pv rfl)), ?_⟩
  exact ⟨.ref a, rfl, v, rfl, a, C, [v], rfl, by simp, T, ea, v, rfl, .ref a, rfl, a, C, rfl, T, nof, ea, q⟩
theorem init0 (b : Bs K B newId initId tl) (F : Fun K "__init__" qual st fI fd) (hm : mg (Str.ofString B) = none) (S : FnScope ["self"] ["self"] (defScope st)) (hg : (defScope st).names.lookup (Str.ofString B) = some .globalImplicit)
    (hb : defBody st = [.Expr (.Call (.Attribute (.Name (Str.ofString B) p1) "__init__" p2) [.Name "self" p3] [] p5) p6])
    (hc : ∀ env : Env, ∃ pl : Sem Bool, eval (.Call (.Attribute (.Name (Str.ofString B) p1) "__init__" p2) [.Name "self" p3] [] p5) env = (do
      let ov ← eval (.Name (Str.ofString B) p1) env
      standAt p2.atName
      let (f, first) ← holding [ov] (getMethod ov "__init__" pl)
      callWith p5 f first (backTo p5 (starEach [.Name "self" p3] env)) (backToKw p5 (keywordEach [] env)))) : FnOk P w K mg base CX0 (k + 1) fI fd ["self"] (spI0 K newId tl) := by
  refine F.ok S (fun vs H Q E ⟨a, C, e, _⟩ => by rw [e]; rfl) fun cdv A outer s H vs Q E hr ⟨a, C, e, T, ea, q⟩ => ?_
  subst e
  rw [hb]
  have vis : ∀ {x : Str}, x ∈ (["self"] : List Str) → Vis (cxOf CX0 P w K mg base ["self"] qual (defScope st) fI cdv A outer s H E).nox.env.scope x := fun {x} hx => (S.par x hx).elim .inl fun z => .inr (.inl z)
  have ps : ∀ {pos : Pos}, PE (cxOf CX0 P w K mg base ["self"] qual (defScope st) fI cdv A outer s H E).nox (.Name "self" pos) (tVar 0) := fun {pos} => pe_var (i := 0) rfl (vis (.head _)) (by decide) (by decide)
  obtain ⟨pl, hc⟩ := hc (cxOf CX0 P w K mg base ["self"] qual (defScope st) fI cdv A outer s H E).nox.env
  refine ⟨_, pss_one (ps_expr (pe_base b hg hm (pa_cons ps pa_nil rfl) hc rfl rfl) rfl), ?_⟩
  exact ⟨.ref a, rfl, a, C, [], rfl, by simp, T, ea, q⟩
end
/-! ### C(e, ..), kept as a value -/
section
variable {X : Cx} {pins : List (Addr × Obj)} {σ : L2.St} {H : Hp} {s : Shared} {B newId initId : String} {tl : List Value} {C fI : Addr} {fd : FuncData} {ps ks : List Str} {sp : Sp} {k : Nat} {us : List Value} {vs : List V} {Q : VK} {E : XK}
theorem make_ok (b : Bs X.K B newId initId tl) (T : Xc X.K C newId tl) (iC : PySem.W.findIn X.K (.ref C) "__init__" = some (some (.ref fI))) (tI : PySem.W.typeIn X.K (.ref fI) = some (.type "function")) (F : FnOk X.prog X.w X.K X.mg X.base CX0 k fI fd ps sp) (hr : Room (k + 1) X.A)
    (hb : Binds X.K fd ps []) (I : Inv X pins σ H s) (r : Vals vs us) (hl : vs.length ≤ 1000) (h : ∀ a, H a = none → sp (.ref a :: vs) (upd H a (exo a C none)) (fun v H2 => v = .non ∧ Q (.ref a) H2) E0) :
    wpAny (model X.prog X.w) X.A (call (.ref C) us) (EP X pins σ Q) X.xe s := by
  obtain ⟨c1, c2, c3, c4, c5, c6, c7, c8, c9, k0, k1, k2, k3, k5, hC⟩ := T.cls
  obtain ⟨hp, g, dr, tk, os⟩ := s
  have up : hp.objs.size ≤ hp.objs.size + 1 := Nat.le_succ _
  have hq := h (hp.objs.size + 1) (I.hok.fresh up)
  let h2 : Heap := (hp.push (PySem.W.kdv_tup us)).push (PySem.HandSPX.excO C hp.objs.size)
  have kk : ∀ b o, hp.get? b = some o → h2.get? b = some o := fun b o e => Heap.get?_push_of_some _ (Heap.get?_push_of_some _ e)
  have new : h2.get? (hp.objs.size + 1) = some (PySem.HandSPX.excO C hp.objs.size) := by
    show ((hp.push (PySem.W.kdv_tup us)).push (PySem.HandSPX.excO C hp.objs.size)).get? (hp.objs.size + 1) = some (PySem.HandSPX.excO C hp.objs.size)
    heap_get
  have I2 : Inv X pins σ (upd H (hp.objs.size + 1) (exo (hp.objs.size + 1) C none)) ⟨h2, g, dr, tk, os⟩ := I.laid (t' := tk) (h' := h2) kk up (exo_ok new)
  have r2 : Vals (V.ref (hp.objs.size + 1) :: vs) (Value.ref (hp.objs.size + 1) :: us) := .cons rfl r
  have len : (Value.ref (hp.objs.size + 1) :: us ++ []).length = ps.length := by
    rw [List.append_nil, ← F.len _ _ _ _ hq, ← r2.length]
  have few : us.length ≤ sizeLine := by rw [← Paired.length r, sizeLine_eq]; omega
  have bt := hb _ (Value.ref (hp.objs.size + 1) :: us) I2.kIn len
  rw [List.append_nil] at bt
  refine wpAny_call (PySem.HandSPX.call_own b.f (fun _ => rfl) (I.kIn _ _ hC) (PySem.W.looks_findIn I.kIn iC) (fun self => PySem.W.bind_fn I.kIn self tI) few
    (codeAny_mono (F.run _ X.stack _ _ ⟨Value.ref (hp.objs.size + 1) :: us, []⟩ (Value.ref (hp.objs.size + 1) :: us) _ _ E0 (hr.make C us []) (I2.env0.make C us []) bt r2 hq) fun r s' hq' => ?_))
  cases r with
  | error er => exact hq'.elim
  | ok fl =>
    cases fl with
    | ret u =>
      obtain ⟨v, H', I3, rv, ev, q3⟩ := I2.after hq'
      subst ev
      exact ⟨rv, V.ref (hp.objs.size + 1), H', I3, rfl, q3⟩
    | next => exact False.elim hq'
    | brk => exact False.elim hq'
    | cont => exact False.elim hq'
end
section
variable {X : Cx} {pins : List (Addr × Obj)} {σ : L2.St} {H : Hp} {s : Shared} {B newId initId : String} {tl : List Value} {C fI : Addr} {fd : FuncData} {prm : Str} {sp : Sp} {k : Nat} {u : Value} {v : V} {Q : VK}
theorem make_kw (b : Bs X.K B newId initId tl) (T : Xc X.K C newId tl) (iC : PySem.W.findIn X.K (.ref C) "__init__" = some (some (.ref fI))) (tI : PySem.W.typeIn X.K (.ref fI) = some (.type "function")) (F : FnOk X.prog X.w X.K X.mg X.base CX0 k fI fd ["self", prm] sp) (hr : Room (k + 1) X.A)
    (hb : ∀ z : Value, bindArgs fd ⟨[z], [(prm, u)]⟩ = pure [(("self" : Str), z), (prm, u)]) (I : Inv X pins σ H s) (r : RelV v u) (h : ∀ a, H a = none → sp [.ref a, v] (upd H a (exo a C none)) (fun v H2 => v = .non ∧ Q (.ref a) H2) E0) :
    wpAny (model X.prog X.w) X.A (call (.ref C) [] [(prm, u)]) (EP X pins σ Q) X.xe s := by
  obtain ⟨c1, c2, c3, c4, c5, c6, c7, c8, c9, k0, k1, k2, k3, k5, hC⟩ := T.cls
  obtain ⟨hp, g, dr, tk, os⟩ := s
  have up : hp.objs.size ≤ hp.objs.size + 1 := Nat.le_succ _
  have hq := h (hp.objs.size + 1) (I.hok.fresh up)
  let h2 : Heap := (hp.push (PySem.W.kdv_tup [])).push (PySem.HandSPX.excO C hp.objs.size)
  have kk : ∀ b o, hp.get? b = some o → h2.get? b = some o := fun b o e => Heap.get?_push_of_some _ (Heap.get?_push_of_some _ e)
  have new : h2.get? (hp.objs.size + 1) = some (PySem.HandSPX.excO C hp.objs.size) := by
    show ((hp.push (PySem.W.kdv_tup [])).push (PySem.HandSPX.excO C hp.objs.size)).get? (hp.objs.size + 1) = some (PySem.HandSPX.excO C hp.objs.size)
    heap_get
  have I2 : Inv X pins σ (upd H (hp.objs.size + 1) (exo (hp.objs.size + 1) C none)) ⟨h2, g, dr, tk, os⟩ := I.laid (t' := tk) (h' := h2) kk up (exo_ok new)
  have r2 : Vals [V.ref (hp.objs.size + 1), v] [Value.ref (hp.objs.size + 1), u] := .cons rfl (.cons r .nil)
  refine wpAny_call (kw_call b.f (I.kIn _ _ hC) (PySem.W.looks_findIn I.kIn iC) (fun self => PySem.W.bind_fn I.kIn self tI)
    (codeAny_mono (F.run _ X.stack _ _ ⟨[Value.ref (hp.objs.size + 1)], [(prm, u)]⟩ [Value.ref (hp.objs.size + 1), u] _ _ E0 (hr.make C [] [(prm, u)]) (I2.env0.make C [] [(prm, u)]) (.of_eq (hb _)) r2 hq) fun r s' hq' => ?_))
  cases r with
  | error er => exact hq'.elim
  | ok fl =>
    cases fl with
    | ret u =>
      obtain ⟨v, H', I3, rv, ev, q3⟩ := I2.after hq'
      subst ev
      exact ⟨rv, V.ref (hp.objs.size + 1), H', I3, rfl, q3⟩
    | next => exact False.elim hq'
    | brk => exact False.elim hq'
    | cont => exact False.elim hq'
end
/-! ### what is known of a class -/
structure Xn where
  c : Str
  f : Option Str
  prm : Str
  up : List String
def excNames : List String := ["LookupError", "ValueError", "KeyError", "IndexError"]
structure XOk (P : Program) (w : World) (K : PySem.W.Frag) (mg : Str → Option Value) (base : Heap) (all : List Xn) (x : Xn) : Prop where
  ex : ∃ (C fI : Addr) (B newId initId : String) (tl : List Value) (fd : FuncData), Cls K x.c C ∧ mg x.c = some (.ref C) ∧ Bs K B newId initId tl ∧ Xc K C newId tl ∧ PySem.W.findIn K (.ref C) "__init__" = some (some (.ref fI)) ∧ PySem.W.typeIn K (.ref fI) = some (.type "function") ∧
    L2.ExcC K C ∧ (∀ y ∈ all, ∀ D, Cls K y.c D → PySem.W.kitOne K (.ref C) (.ref D) = some (decide (y.c = x.c))) ∧ (∀ b ∈ excNames, PySem.W.kitOne K (.ref C) (.type b) = some (decide (b ∈ x.up))) ∧
    match x.f with
    | none => FnOk P w K mg base CX0 1 fI fd ["self"] (spI0 K newId tl) ∧ Binds K fd ["self"] []
    | some f => PySem.W.findIn K (.ref C) f = some none ∧ FnOk P w K mg base CX0 1 fI fd ["self", x.prm] (spI1 K newId tl f) ∧ Binds K fd ["self", x.prm] [] ∧ ∀ z u : Value, bindArgs fd ⟨[z], [(x.prm, u)]⟩ = pure [(("self" : Str), z), (x.prm, u)]
end Y

set_option Elab.async false
set_option linter.all false
set_option autoImplicit false
set_option maxRecDepth 100000
set_option maxHeartbeats 2000000
/-! Z8: what stands ready in a def; calls. -/
namespace Z
open PySem PySem.Spec PyProof.Rows L2
variable [Tbs]

/-- the built-in names that the texts use -/
def bNames : List Str := ["len", "abs", "int", "bool", "sum", "min", "max", "sorted", "list", "tuple", "all", "any", "set", "str", "isinstance", "range", "enumerate", "zip", "dict", "reversed", "LookupError", "ValueError", "KeyError", "IndexError"]
/-- a def's promise: what its text gives -/
def spD (K : PySem.W.Frag) (F : List D → R D) : Sp := fun vs H Q _ => ∃ as Fr, vs.length = as.length ∧ Rel K H (vs.zip as ++ Fr) ∧
  match F as with
  | .ok d ps => ∀ v H' rs, Sl (vs.map some) ps rs → Rel K H' ((v, d) :: (rs ++ Fr)) → Q v H'
  | _ => False
/-- the defs at the names nm keep their promises -/
structure Nx where
  x : Str
  n : Nat
  ps : List Str
  ks : List (List Str)
structure Nm where
  fn : List Nx
  xs : List Y.Xn
def ixOf (ks ps : List Str) : List Nat := ps.map fun p => ks.idxOf p
/-- no positional value, all by keyword -/
def kg {α : Type} (ix : List Nat) (n : Nat) (us ws : List α) : List α := if us.isEmpty && ws.length == n then reo ix ws else []
def FnT (P : Program) (w : World) (K : PySem.W.Frag) (mg : Str → Option Value) (base : Heap) (k : Nat) (T : Tab) (nm : Nm) : Prop :=
  ∀ i x n ps kk, nm.fn[i]? = some ⟨x, n, ps, kk⟩ → ∃ f fd, ps.length = n ∧ (∀ ks ∈ kk, KBinds K fd ps ks (kg (ixOf ks ps) ks.length) (kg (ixOf ks ps) ks.length)) ∧ mg x = some (.ref f) ∧ PySem.W.keepIn K (.ref f) = true ∧ Binds K fd ps [] ∧
    FnOk P w K mg base CX0 (8 * k + 2) f fd ps (fun vs H Q E => vs.length = n ∧ spD K (T i) vs H Q E)
structure Gd (X : Cx) (T : Tab) (nm : Nm) (k : Nat) : Prop where
  calm : X.calm = true
  pw : Pw X
  nd : X.N.Nodup
  hu : X.A.units + 65 < cLine
  room : Room (8 * k + 2) X.A
  bt : ∀ x ∈ bNames, X.mg x = none
  fn : FnT X.prog X.w X.K X.mg X.base k T nm
  xc : ∀ x ∈ nm.xs, Y.XOk X.prog X.w X.K X.mg X.base nm.xs x
section
variable {K : PySem.W.Frag} {H : Hp} {σ : L2.St}
theorem Sl.put' {e : Ev} {rs : Rt} {i : Nat} {v : V} (s : Sl σ e rs) (g : σ[i]? = some (some v)) (d : D) : ∃ dr r0 r1, rs.Perm (dr ++ r0) ∧ Sl σ (e.set i (some d)) r1 ∧ r1.Perm ((v, d) :: r0) := by
  have hi : i < σ.length := (List.getElem?_eq_some_iff.mp g).1
  obtain ⟨dr, r0, r1, h1, h2, h3⟩ := s.put (by rw [← s.len]; exact hi) v d
  have e1 : σ.set i (some v) = σ := by
    obtain ⟨_, h⟩ := List.getElem?_eq_some_iff.mp g
    rw [← h, List.set_getElem_self]
  rw [e1] at h2
  exact ⟨dr, r0, r1, h1, h2, h3⟩
theorem Sl.none' : ∀ {σ : L2.St} {e : Ev} {rs : Rt}, Sl σ e rs → ∀ i, ∃ dr r0, Sl σ (e.set i none) r0 ∧ rs.Perm (dr ++ r0)
  | _, _, _, .nil, _ => ⟨[], [], .nil, .refl _⟩
  | _, _, _, .skip s, 0 => ⟨[], _, .skip s, .refl _⟩
  | _, _, _, .has s, 0 => ⟨[_], _, .skip s, .refl _⟩
  | _, _, _, .skip s, i + 1 => by
    obtain ⟨dr, r0, h1, h2⟩ := s.none' i
    exact ⟨dr, r0, .skip h1, h2⟩
  | _, _, _, .has s, i + 1 => by
    obtain ⟨dr, r0, h1, h2⟩ := s.none' i
    exact ⟨dr, _, .has h1, (h2.cons _).trans List.perm_middle.symm⟩
theorem take_ok : ∀ {vs : List V} {xs : List (Sum D Nat)} {as : Rt} {e : Ev} {rs Fr : Rt} {ds : List D} {e1 : Ev}, Ar σ vs xs as → Sl σ e rs → Rel K H (as ++ (rs ++ Fr)) → takeB xs e = some (ds, e1) →
    vs.length = ds.length ∧ ∃ r1, Sl σ e1 r1 ∧ Rel K H (vs.zip ds ++ (r1 ++ Fr))
  | _, _, _, _, _, _, _, _, .nil, s, h, t => by
    cases t
    exact ⟨rfl, _, s, h⟩
  | _, _, _, e, rs, Fr, ds, e1, .own (v := v) (d := d) (xs := xs) (rs := as) g, s, h, t => by
    rw [takeB] at t
    obtain ⟨⟨l, e2⟩, ht, he⟩ := map_ok t
    injection he with h1 h2
    subst h1
    subst h2
    have h3 : Rel K H (as ++ (rs ++ (v, d) :: Fr)) := by
      have : Rel K H ((v, d) :: (as ++ rs ++ Fr)) := by rw [List.append_assoc]; exact h
      rw [← List.append_assoc]
      exact this.mid
    obtain ⟨l1, r1, s1, q⟩ := take_ok g s h3 ht
    exact ⟨congrArg (· + 1) l1, r1, s1, q.mid2⟩
  | _, _, _, e, rs, Fr, ds, e1, .bor (v := v) (i := i) (xs := xs) (rs := as) gi g, s, h, t => by
    rw [takeB] at t
    cases hd : rd i e with
    | none => rw [hd] at t; cases t
    | some d =>
      rw [hd] at t
      obtain ⟨⟨l, e2⟩, ht, he⟩ := map_ok t
      injection he with h1 h2
      subst h1
      subst h2
      obtain ⟨v', r0, g', pm, _, r2, s2, q2⟩ := s.get hd
      rw [gi] at g'
      cases g'
      have h3 : Rel K H (as ++ (r2 ++ (v, d) :: Fr)) := by
        refine h.perm (List.Perm.append_left as ?_)
        refine (pm.append_right Fr).trans ?_
        refine List.Perm.trans ?_ List.perm_middle.symm
        exact (q2.symm.append_right Fr).cons _
      obtain ⟨l1, r1, s1, q⟩ := take_ok g s2 h3 ht
      exact ⟨congrArg (· + 1) l1, r1, s1, q.mid2⟩
theorem put_ok : ∀ {vs : List V} {xs : List (Sum D Nat)} {as : Rt} {ps e : Ev} {rp rs Fr : Rt}, Ar σ vs xs as → Sl (vs.map some) ps rp → Sl σ e rs → Rel K H (rp ++ (rs ++ Fr)) →
    ∃ r2, Sl σ (putB xs ps e) r2 ∧ Rel K H (r2 ++ Fr)
  | _, _, _, _, _, _, _, _, .nil, .nil, s, h => ⟨_, s, h⟩
  | _, _, _, _, _, _, _, _, .own g, .skip p, s, h => by
    rw [putB]
    exact put_ok g p s h
  | _, _, _, _, _, _, _, _, .own g, .has p, s, h => by
    rw [putB]
    exact put_ok g p s h.tail
  | _, _, _, _, _, _, _, _, .bor (i := i) gi g, .skip p, s, h => by
    rw [putB]
    obtain ⟨r2, s2, h2⟩ := put_ok g p s h
    obtain ⟨dr, r0, s3, q⟩ := s2.none' i
    refine ⟨r0, s3, ?_⟩
    have h3 := h2.left q
    rw [List.append_assoc] at h3
    exact h3.cut
  | _, _, _, _, _, _, rs, Fr, .bor (v := v) (i := i) gi g, .has (d := d) (rs := rp) p, s, h => by
    rw [putB]
    have h1 : Rel K H (rp ++ (rs ++ (v, d) :: Fr)) := by
      have h0 : Rel K H ((v, d) :: (rp ++ rs ++ Fr)) := by rw [List.append_assoc]; exact h
      rw [← List.append_assoc]
      exact h0.mid
    obtain ⟨r2, s2, h2⟩ := put_ok g p s h1
    obtain ⟨dr, r0, r1, q1, s3, q2⟩ := s2.put' gi d
    refine ⟨r1, s3, ?_⟩
    have h3 := h2.left q1
    rw [List.append_assoc] at h3
    exact (h3.cut).dim.perm (q2.symm.append_right Fr)
end
section
variable {X : Cx} {T : Tab} {nm : Nm} {k : Nat} {pos p : Pos} {ea eb : Expr} {es : List Expr} {a b : E} {r : Es}
theorem fn_i {i : Nat} {n : Nat} {sp : Sp} (hsp : sp = fun vs H Q E => vs.length = n ∧ spD X.K (T i) vs H Q E) (hl : ∀ e xs e1 ds e2, dEs T r e = .ok xs e1 → takeB xs e1 = some (ds, e2) → ds.length = n) {σ : L2.St} {H : Hp} {Q : VK}
    (g : tE X.K T (.fn i r) σ H Q) : tCall sp [] E0 (tA X.K T r) σ H Q := by
  obtain ⟨e, rs, Fr, s, h, w⟩ := g
  rw [dE] at w
  refine useA wd_p w s h fun xs e1 vs H1 rs1 as he w1 s1 g h1 => ?_
  cases ht : takeB xs e1 with
  | none => rw [ht] at w1; exact w1.elim
  | some pr =>
    obtain ⟨ds, e2⟩ := pr
    rw [ht] at w1
    dsimp only at w1
    obtain ⟨l1, r1, s2, h2⟩ := take_ok g s1 h1 ht
    rw [List.append_nil, hsp]
    refine ⟨by rw [l1]; exact hl _ _ _ _ _ he ht, ds, r1 ++ Fr, l1, h2, ?_⟩
    cases hT : T i ds with
    | ok d ps =>
      rw [hT] at w1
      intro v H' rp sp' hp
      have hp2 : Rel X.K H' (rp ++ (r1 ++ (v, d) :: Fr)) := by
        have h0 : Rel X.K H' ((v, d) :: (rp ++ r1 ++ Fr)) := by rw [List.append_assoc]; exact hp
        rw [← List.append_assoc]
        exact h0.mid
      obtain ⟨r2, s3, h3⟩ := put_ok g sp' s2 hp2
      exact w1 v H' r2 s3 h3.dim
    | ex x ps => rw [hT] at w1; exact w1.elim
    | no => rw [hT] at w1; exact w1.elim
/-- how many arguments a text has -/
def Es.len : Es → Nat
  | .nil => 0
  | .cons _ r => r.len + 1
  | .raw _ r => r.len + 1
  | .bw _ r => r.len + 1
theorem dEs_len : ∀ {r : Es} {e : Ev} {xs e1}, dEs T r e = .ok xs e1 → xs.length = r.len
  | .nil, e, xs, e1, h => by
    rw [dEs] at h
    injection h with h _
    rw [← h]
    rfl
  | .cons a r, e, xs, e1, h => by
    rw [dEs] at h
    obtain ⟨_, _, _, h⟩ := bind_ok h
    obtain ⟨ds, _, h1, h⟩ := bind_ok h
    injection h with h _
    rw [← h, List.length_cons, dEs_len h1]
    rfl
  | .raw a r, e, xs, e1, h => by
    rw [dEs] at h
    obtain ⟨_, _, _, h⟩ := bind_ok h
    obtain ⟨ds, _, h1, h⟩ := bind_ok h
    injection h with h _
    rw [← h, List.length_cons, dEs_len h1]
    rfl
  | .bw i r, e, xs, e1, h => by
    rw [dEs] at h
    cases hd : rd i e with
    | none => rw [hd] at h; cases h
    | some d =>
      rw [hd] at h
      obtain ⟨ds, _, h1, h⟩ := bind_ok h
      injection h with h _
      rw [← h, List.length_cons, dEs_len h1]
      rfl
theorem take_len : ∀ {xs : List (Sum D Nat)} {e : Ev} {ds e1}, takeB xs e = some (ds, e1) → ds.length = xs.length
  | [], e, ds, e1, h => by cases h; rfl
  | .inl d :: r, e, ds, e1, h => by
    rw [takeB] at h
    obtain ⟨⟨l, e2⟩, ht, he⟩ := map_ok h
    injection he with h1 h2
    rw [← h1, List.length_cons, List.length_cons, take_len ht]
  | .inr i :: r, e, ds, e1, h => by
    rw [takeB] at h
    cases hd : rd i e with
    | none => rw [hd] at h; cases h
    | some d =>
      rw [hd] at h
      obtain ⟨⟨l, e2⟩, ht, he⟩ := map_ok h
      injection he with h1 h2
      rw [← h1, List.length_cons, List.length_cons, take_len ht]
theorem z_fn (G : Gd X T nm k) {i : Nat} {x : Str} {n : Nat} {ps : List Str} {kk : List (List Str)} (hi : nm.fn[i]? = some ⟨x, n, ps, kk⟩) (hn : r.len = n) (hg : Gl X x) (hd : (x == ("__debug__" : Str)) = false) (hp : (ea :: es).all plainE = true) (ha : PA X (ea :: es) (tA X.K T r)) :
    PE X (.Call (.Name x p) (ea :: es) [] pos) (tE X.K T (.fn i r)) := by
  obtain ⟨f, fd, hl, _, hm, hk, hb, F⟩ := G.fn i x n ps kk hi
  simp only [List.all_cons, Bool.and_eq_true] at hp
  refine imp (pe_call F G.room hg hm hk hb .nil pass0 ha hd (star_cons hp.1) (star_none hp.2)) fun σ H Q g => ?_
  exact fn_i rfl (fun e xs e1 ds e2 h1 h2 => by rw [take_len h2, dEs_len h1, hn]) g
theorem z_fn0 (G : Gd X T nm k) {i : Nat} {x : Str} {ps : List Str} {kk : List (List Str)} (hi : nm.fn[i]? = some ⟨x, 0, ps, kk⟩) (hg : Gl X x) (hd : (x == ("__debug__" : Str)) = false) :
    PE X (.Call (.Name x p) [] [] pos) (tE X.K T (.fn i .nil)) := by
  obtain ⟨f, fd, hl, _, hm, hk, hb, F⟩ := G.fn i x 0 ps kk hi
  refine imp (pe_call0 F G.room hg hm hk hb .nil pass0 hd) fun σ H Q g => ?_
  have g2 := fn_i (r := .nil) (T := T) rfl (fun e xs e1 ds e2 h1 h2 => by rw [take_len h2, dEs_len h1, Es.len]) g
  obtain ⟨e, rs, Fr, s, h, w⟩ := g2
  exact w [] H rs [] s .nil h
/-! ### built-in calls by name -/
def biN : Bi → Str
  | .len => "len" | .abs => "abs" | .int => "int" | .bool => "bool" | .sum => "sum" | .min => "min" | .max => "max"
  | .sorted => "sorted" | .list => "list" | .tuple => "tuple" | .all => "all" | .any => "any" | .set => "set" | .sortset => "sorted"
def biOk : Bi → Bool
  | .len | .abs | .int | .sum | .min | .max | .list | .tuple | .all | .any | .set | .sorted => true
  | _ => false
theorem bi_i {c : Bi} {σ : L2.St} {H : Hp} {Q : VK} (g : tE X.K T (.bi c r) σ H Q) : tCB (rBi X.K c) (tA X.K T r) σ H Q := by
  obtain ⟨e, rs, Fr, s, h, w⟩ := g
  rw [dE] at w
  refine useA wd_p w s h fun xs e1 vs H1 rs1 as _ w1 s1 g h1 => ?_
  obtain ⟨d, hd, w2⟩ := ofO_ok w1
  cases ha1 : args1 xs with
  | none => rw [ha1] at hd; cases hd
  | some l =>
    rw [ha1] at hd
    obtain ⟨l1, rfl⟩ := g.all ha1
    exact ⟨l, rs1 ++ Fr, d, l1, h1, hd, fun v H' h' => w2 v H' rs1 s1 h'⟩
theorem z_bi (G : Gd X T nm k) {c : Bi} {x : Str} (hx : x = biN c) (ho : biOk c = true) (hg : Gl X x) (hp : (ea :: es).all plainE = true) (ha : PA X (ea :: es) (tA X.K T r)) : PE X (.Call (.Name x p) (ea :: es) [] pos) (tE X.K T (.bi c r)) := by
  subst hx
  simp only [List.all_cons, Bool.and_eq_true] at hp
  cases c with
  | len => exact imp (pe_callB (bi_len G.pw) hg (G.bt _ (by decide)) (by decide +kernel) ha (by decide) (by decide) (star_cons hp.1) (star_none hp.2)) fun σ H Q => bi_i
  | abs => exact imp (pe_callB bi_abs hg (G.bt _ (by decide)) (by decide +kernel) ha (by decide) (by decide) (star_cons hp.1) (star_none hp.2)) fun σ H Q => bi_i
  | int => exact imp (pe_callTy bi_int hg (G.bt _ (by decide)) (by decide +kernel) ha (by decide) (by decide) (star_cons hp.1) (star_none hp.2)) fun σ H Q => bi_i
  | sum => exact imp (pe_callB (bi_sum G.calm) hg (G.bt _ (by decide)) (by decide +kernel) ha (by decide) (by decide) (star_cons hp.1) (star_none hp.2)) fun σ H Q => bi_i
  | min => exact imp (pe_callB (bi_min G.calm) hg (G.bt _ (by decide)) (by decide +kernel) ha (by decide) (by decide) (star_cons hp.1) (star_none hp.2)) fun σ H Q => bi_i
  | max => exact imp (pe_callB (bi_max G.calm) hg (G.bt _ (by decide)) (by decide +kernel) ha (by decide) (by decide) (star_cons hp.1) (star_none hp.2)) fun σ H Q => bi_i
  | sorted => exact imp (pe_callB (bi_sorted G.calm G.hu G.pw) hg (G.bt _ (by decide)) (by decide +kernel) ha (by decide) (by decide) (star_cons hp.1) (star_none hp.2)) fun σ H Q => bi_i
  | set => exact imp (pe_callTy (bi_set G.calm G.hu G.pw) hg (G.bt _ (by decide)) (by decide +kernel) ha (by decide) (by decide) (star_cons hp.1) (star_none hp.2)) fun σ H Q => bi_i
  | list => exact imp (pe_callTy (bi_list G.calm) hg (G.bt _ (by decide)) (by decide +kernel) ha (by decide) (by decide) (star_cons hp.1) (star_none hp.2)) fun σ H Q => bi_i
  | tuple => exact imp (pe_callTy (bi_tuple G.calm) hg (G.bt _ (by decide)) (by decide +kernel) ha (by decide) (by decide) (star_cons hp.1) (star_none hp.2)) fun σ H Q => bi_i
  | all => exact imp (pe_callB (bi_all G.calm) hg (G.bt _ (by decide)) (by decide +kernel) ha (by decide) (by decide) (star_cons hp.1) (star_none hp.2)) fun σ H Q => bi_i
  | any => exact imp (pe_callB (bi_any G.calm) hg (G.bt _ (by decide)) (by decide +kernel) ha (by decide) (by decide) (star_cons hp.1) (star_none hp.2)) fun σ H Q => bi_i
  | _ => cases ho
/-- len of a name, left as it is -/
def rLn (K : PySem.W.Frag) : List V → Hp → VK → Prop := fun xs H Q => (∃ p ys, xs = [.ref p] ∧ (SqL K H p ys ∨ SqT K H p ys) ∧ Q (.int ys.length) H) ∨ (∃ z, xs = [.str z] ∧ z.length ≤ sizeLine ∧ Q (.int z.length) H) ∨
  ∃ a S, xs = [.ref a] ∧ H a = some (SO a S) ∧ (∀ p ∈ S, Zs.Ky K H p.1 p.2) ∧ Q (.int S.length) H
theorem cr_ln (pw : Pw X) : CallR X (.builtin "len") (rLn X.K) := by
  intro pins s σ H vs us Q I r h
  rcases h with h | h | ⟨a, S, e, ha, ky, q⟩
  · exact call_len_seq pins s σ H vs us Q I r h
  · exact call_len_str pins s σ H vs us Q I r h
  · exact Zs.cr_lenS pins s σ H vs us Q I r ⟨a, S, e, by rw [pw.so]; exact ha, ky, q⟩
theorem ln_i {K : PySem.W.Frag} {H : Hp} {rs : Rt} {v : V} {d z : D} {Q : VK} (h : Rel K H ((v, d) :: rs)) (e : biD .len [d] = some z) (q : ∀ n, z = .int n → Q (.int n) H) : rLn K [v] H Q := by
  cases d with
  | lst o ds =>
    obtain ⟨p, vs, rfl, g1, g2, g3⟩ := h.open
    refine .inl ⟨p, vs, rfl, .inl (.inl (.inl g1)), ?_⟩
    rw [g2]
    exact q _ (Option.some.inj e).symm
  | tup ds =>
    obtain ⟨p, vs, rfl, g1, g2, g3⟩ := h.openT
    refine .inl ⟨p, vs, rfl, .inr g1, ?_⟩
    rw [g2]
    exact q _ (Option.some.inj e).symm
  | lck ds =>
    obtain ⟨Hk, fp, s', o, n, k⟩ := h
    cases o with
    | cons g r' =>
      cases g with
      | sh g =>
        cases g with
        | lck g1 g2 =>
          refine .inl ⟨_, _, rfl, .inl (s'.lst g1), ?_⟩
          rw [(OwL.of_sh (H := H) g2).len]
          exact q _ (Option.some.inj e).symm
  | str t =>
    rw [biD] at e
    split at e
    · rename_i hz
      obtain rfl := h.str
      exact .inr (.inl ⟨t, rfl, sz hz, q _ (Option.some.inj e).symm⟩)
    · cases e
  | st o ks =>
    obtain ⟨a, S, rfl, ha, ky, pm, _, _⟩ := h.openS
    refine .inr (.inr ⟨a, S, rfl, ha, ky, q _ ?_⟩)
    rw [← Option.some.inj (show some (D.int ks.length) = some z from e), ← pm.length_eq, List.length_map]
  | _ => cases e
theorem z_lenv (G : Gd X T nm k) {i : Nat} {x y : Str} {p2 : Pos} (hx : x = "len") (hN : X.N[i]? = some y) (hv : Vis X.env.scope y) (h1 : (y == ("__debug__" : Str)) = false) (h2 : (y == ("__classdict__" : Str)) = false) (hg : Gl X x) :
    PE X (.Call (.Name x p) [.Name y p2] [] pos) (tE X.K T (.lenv i)) := by
  subst hx
  refine imp (pe_callB (cr_ln G.pw) hg (G.bt _ (by decide)) (by decide +kernel) (pa_cons (pe_var hN hv h1 h2) pa_nil rfl) (by decide) (by decide) rfl rfl) fun σ H Q ⟨e, rs, Fr, s, h, w⟩ => ?_
  rw [dE] at w
  cases hd : rd i e with
  | none => rw [hd] at w; exact w.elim
  | some d =>
    rw [hd] at w
    obtain ⟨z, hz, w2⟩ := ofO_ok w
    obtain ⟨v, r0, g, pm, _⟩ := s.get hd
    refine ⟨v, g, ln_i (h.left pm) hz fun n hn => ?_⟩
    subst hn
    exact w2 _ H rs s h.addI

/-! ### isinstance -/
def tyN : Ty → String
  | .non => "NoneType" | .bool => "bool" | .int => "int" | .str => "str" | .list => "list" | .tuple => "tuple" | .dict => "dict"
/-- the types that are written by a name -/
def tyOk : Ty → Bool
  | .non => false
  | _ => true
theorem kit_b : ∀ s t : Ty, tyOk t = true → kitB (tyN s) (tyN t) = some (tyB s t) := by
  intro s t h
  cases s <;> cases t <;> first | decide +kernel | exact absurd h (by decide)
theorem ty_d {K : PySem.W.Frag} {H : Hp} {rs : Rt} {v : V} {d : D} {s : Ty} (h : Rel K H ((v, d) :: rs)) (e : tyOf d = some s) : TyX K H v (.type (tyN s)) := by
  cases d with
  | non =>
    obtain rfl := h.non
    cases e
    exact .base .non
  | bl x =>
    obtain rfl := h.bl
    cases e
    exact .base (.bl _)
  | int x =>
    obtain rfl := h.int
    cases e
    exact .base (.int _)
  | str x =>
    obtain rfl := h.str
    cases e
    exact .base (.str _)
  | tup x =>
    obtain ⟨p, vs, rfl, g1, g2, g3⟩ := h.openT
    cases e
    rcases g1 with (g | ⟨o, g⟩) | ⟨o, _, _, g, c, _⟩
    · exact .base (.tup g)
    · exact .fTuple g
    · exact .kTuple g c
  | lst o x =>
    obtain ⟨p, vs, rfl, g1, g2, g3⟩ := h.open
    cases e
    exact .base (.lst g1)
  | _ => cases e
theorem isi_i {σ : L2.St} {H : Hp} {Q : VK} {t : Ty} (ht : tyOk t = true) {o : Bool} (g : tE X.K T (.isi a [t] o) σ H Q) : tCB (rIsi X.K) (tCons (tE X.K T a) (tCons (tC (.ty (tyN t))) tNil)) σ H Q := by
  obtain ⟨e, rs, Fr, s, h, w⟩ := g
  rw [dE] at w
  refine use wd_p w s h fun da e1 v H1 rs1 _ w1 s1 h1 => ?_
  obtain ⟨d, hd, w2⟩ := ofO_ok w1
  obtain ⟨b, hb, rfl⟩ := map_ok hd
  obtain ⟨y, hy, rfl⟩ := map_ok hb
  refine ⟨v, _, _, _, _, rfl, .ty _, ty_d h1 hy, kit_ty (kit_b y t ht), ?_⟩
  have q := w2 _ H1 rs1 s1 h1.tail.addB
  simpa using q
theorem kit_any {K : PySem.W.Frag} (s : Ty) : ∀ ts : List Ty, ts.all tyOk = true → ts ≠ [] → PySem.W.kitAny K (.type (tyN s)) (ts.map fun t => Value.type (tyN t)) = some (ts.any fun t => tyB s t)
  | [t], h, _ => by
    simp only [List.all_cons, List.all_nil, Bool.and_true] at h
    refine kitAny_cons (kit_ty (kit_b s t h)) (fun z => ?_) fun z => ?_
    · simp [z, PySem.W.kitAny]
    · simp [z]
  | t :: t' :: ts, h, _ => by
    simp only [List.all_cons, Bool.and_eq_true] at h
    refine kitAny_cons (kit_ty (kit_b s t h.1)) (fun z => ?_) fun z => ?_
    · rw [List.any_cons, z, Bool.false_or]
      exact kit_any s (t' :: ts) (by simp [h.2]) (by simp)
    · simp [z]
def tTys : List Ty → TA
  | [] => tNil
  | t :: r => tCons (tC (.ty (tyN t))) (tTys r)
theorem tys_i : ∀ {ts : List Ty} {σ : L2.St} {H : Hp} {Q : List V → Hp → Prop}, Q (ts.map fun t => V.ty (tyN t)) H → tTys ts σ H Q
  | [], _, _, _, q => q
  | t :: r, _, _, _, q => tys_i (ts := r) q
theorem cls_all : ∀ ts : List Ty, Paired ClsV (ts.map fun t => V.ty (tyN t)) (ts.map fun t => Value.type (tyN t))
  | [] => .nil
  | t :: r => .cons (.ty _) (cls_all r)
theorem isiT_i {σ : L2.St} {H : Hp} {Q : VK} {ts : List Ty} (ht : ts.all tyOk = true) (hn : ts ≠ []) (hz : ts.length ≤ big) {o : Bool} (g : tE X.K T (.isi a ts o) σ H Q) : tCB (rIsiT X.K) (tCons (tE X.K T a) (tCons (tTup (tTys ts)) tNil)) σ H Q := by
  obtain ⟨e, rs, Fr, s, h, w⟩ := g
  rw [dE] at w
  refine use wd_p w s h fun da e1 v H1 rs1 _ w1 s1 h1 => ?_
  obtain ⟨d, hd, w2⟩ := ofO_ok w1
  obtain ⟨b, hb, rfl⟩ := map_ok hd
  obtain ⟨y, hy, rfl⟩ := map_ok hb
  refine tys_i ⟨by rw [List.length_map]; exact sz hz, fun p hp => ?_⟩
  exact ⟨v, p, _, _, _, _, rfl, upd_same, cls_all ts, ty_d (h1.new hp) hy, kit_any y ts ht hn, w2 _ _ rs1 s1 (h1.tail.new hp).addB⟩
/-- a type's name, written -/
theorem z_ty (G : Gd X T nm k) {t : Ty} {x : Str} (hx : x = tyN t) (ht : tyOk t = true) (hg : Gl X x) : PE X (.Name x pos) (tC (.ty (tyN t))) := by
  subst hx
  cases t with
  | non => cases ht
  | bool => exact pe_bltn hg (G.bt _ (by decide)) boot_bool rfl (by decide) (by decide)
  | int => exact pe_bltn hg (G.bt _ (by decide)) boot_int rfl (by decide) (by decide)
  | str => exact pe_bltn hg (G.bt _ (by decide)) boot_str rfl (by decide) (by decide)
  | list => exact pe_bltn hg (G.bt _ (by decide)) boot_list rfl (by decide) (by decide)
  | tuple => exact pe_bltn hg (G.bt _ (by decide)) boot_tuple rfl (by decide) (by decide)
  | dict => exact pe_bltn hg (G.bt _ (by decide)) boot_dict rfl (by decide) (by decide)
theorem z_isi (G : Gd X T nm k) {x y : Str} {p2 : Pos} {t : Ty} (hx : x = "isinstance") (hg : Gl X x) (hp : plainE ea = true) (ha : PE X ea (tE X.K T a)) (hy : y = tyN t) (ht : tyOk t = true) (hgy : Gl X y) :
    PE X (.Call (.Name x p) [ea, .Name y p2] [] pos) (tE X.K T (.isi a [t] true)) := by
  subst hx
  exact imp (pe_callB call_isi hg (G.bt _ (by decide)) (by decide +kernel) (pa_cons ha (pa_cons (z_ty G hy ht hgy) pa_nil rfl) (star_cons hp)) (by decide) (by decide) (star_cons hp) (star_none (by simp [hp, plainE]))) fun σ H Q => isi_i ht
theorem z_isiT (G : Gd X T nm k) {x : Str} {kk : Nat} {p2 : Pos} {ts : List Ty} (hx : x = "isinstance") (hg : Gl X x) (hp : plainE ea = true) (ha : PE X ea (tE X.K T a)) (hts : PA X es (tTys ts)) (ht : ts.all tyOk = true) (hn : ts ≠ []) (hz : ts.length ≤ big) :
    PE X (.Call (.Name x p) [ea, .Tuple es kk p2] [] pos) (tE X.K T (.isi a ts false)) := by
  subst hx
  exact imp (pe_callB call_isiT hg (G.bt _ (by decide)) (by decide +kernel) (pa_cons ha (pa_cons (pe_tup hts) pa_nil rfl) (star_cons hp)) (by decide) (by decide) (star_cons hp) (star_none (by simp [hp, plainE]))) fun σ H Q => isiT_i ht hn hz
end
end Z

set_option Elab.async false
set_option linter.all false
set_option autoImplicit false
set_option maxRecDepth 100000
set_option maxHeartbeats 2000000
/-! Z9: targets; what is walked; list comprehensions. -/
namespace Z
open PySem PySem.Spec PyProof.Rows L2
variable [Tbs]

/-! ### targets -/
mutual
  def Tg.slots : Tg → List Nat
    | .n i => [i]
    | .t ts => ts.slots
  def Tgs.slots : Tgs → List Nat
    | .nil => []
    | .cons t r => t.slots ++ r.slots
end
/-- the slots outside of ss are as they were -/
def Eqx (ss : List Nat) (σ σ' : L2.St) : Prop := σ'.length = σ.length ∧ ∀ j : Nat, j ∉ ss → σ'[j]? = σ[j]?
theorem Eqx.rfl {ss : List Nat} {σ : L2.St} : Eqx ss σ σ := ⟨_root_.rfl, fun _ _ => _root_.rfl⟩
theorem Eqx.tr {s1 s2 : List Nat} {σ σ' σ'' : L2.St} (a : Eqx s1 σ σ') (b : Eqx s2 σ' σ'') : Eqx (s1 ++ s2) σ σ'' :=
  ⟨b.1.trans a.1, fun j hj => (b.2 j fun z => hj (List.mem_append_right _ z)).trans (a.2 j fun z => hj (List.mem_append_left _ z))⟩
theorem Eqx.set {σ : L2.St} {i : Nat} {v : Option V} : Eqx [i] σ (σ.set i v) :=
  ⟨List.length_set, fun j hj => List.getElem?_set_ne (fun z => hj (by simp [z]))⟩
section
variable (K : PySem.W.Frag)
def tG (t : Tg) : TG := fun v σ H Q => ∃ e rs Fr d e', Sl σ e rs ∧ Rel K H ((v, d) :: (rs ++ Fr)) ∧ setT t d e = some e' ∧ ∀ σ' H' rs', Eqx t.slots σ σ' → Sl σ' e' rs' → Rel K H' (rs' ++ Fr) → Q σ' H'
def tGs (t : Tgs) : TGs := fun vs σ H Q => ∃ e rs Fr ds e', vs.length = ds.length ∧ Sl σ e rs ∧ Rel K H (vs.zip ds ++ (rs ++ Fr)) ∧ setTs t ds e = some e' ∧ ∀ σ' H' rs', Eqx t.slots σ σ' → Sl σ' e' rs' → Rel K H' (rs' ++ Fr) → Q σ' H'
end
theorem impG {X : Cx} {e : Expr} {t t' : TG} (h : PG X e t) (i : ∀ v σ H Q, t' v σ H Q → t v σ H Q) : PG X e t' :=
  ⟨fun a b c d v u q j r w => h.run a b c d v u q j r (i _ _ _ _ w)⟩
theorem impGs {X : Cx} {e : List Expr} {t t' : TGs} (h : PGs X e t) (i : ∀ v σ H Q, t' v σ H Q → t v σ H Q) : PGs X e t' :=
  ⟨fun a b c d v u q j r w => h.run a b c d v u q j r (i _ _ _ _ w)⟩
theorem swap3 {α : Type} {a b c : List α} : (a ++ (b ++ c)).Perm (b ++ (a ++ c)) := by
  rw [← List.append_assoc, ← List.append_assoc]
  exact List.Perm.append_right _ List.perm_append_comm
section
variable {X : Cx} {pos : Pos} {eg : Expr} {es : List Expr} {t : Tg} {ts : Tgs}
/-- a root beside the slots is stored in one -/
theorem Rel.store {K : PySem.W.Frag} {H : Hp} {σ : L2.St} {e : Ev} {rs Fr : Rt} {v : V} {d : D} {i : Nat} (s : Sl σ e rs) (h : Rel K H ((v, d) :: (rs ++ Fr))) (hi : i < e.length) :
    ∃ r1, Sl (σ.set i (some v)) (e.set i (some d)) r1 ∧ Rel K H (r1 ++ Fr) := by
  obtain ⟨dr, r0, r1, p, s1, q⟩ := s.put hi v d
  refine ⟨r1, s1, ?_⟩
  have h2 : Rel K H (dr ++ ((v, d) :: (r0 ++ Fr))) := by
    refine Rel.mid (h.perm (.cons _ ?_))
    rw [← List.append_assoc]
    exact p.append_right Fr
  exact h2.cut.perm (q.symm.append_right Fr)
theorem zg_n {i : Nat} {x : Str} (hN : X.N.Nodup) (hi : X.N[i]? = some x) (hx : Loc X.env.scope x) (hf : X.fn x = true ∨ X.env.scope.names.lookup x = some .local) : PG X (.Name x pos) (tG X.K (.n i)) := by
  refine impG (pg_name hN hi hx hf) fun v σ H Q ⟨e, rs, Fr, d, e', s, h, w, q⟩ => ?_
  rw [setT] at w
  split at w
  · rename_i hl
    cases w
    obtain ⟨r1, s1, h1⟩ := Rel.store s h hl
    exact q _ H r1 (by rw [Tg.slots]; exact .set) s1 h1
  · cases w
theorem zgs_nil : PGs X [] (tGs X.K .nil) := by
  refine impGs pgs_nil fun vs σ H Q ⟨e, rs, Fr, ds, e', l, s, h, w, q⟩ => ?_
  cases ds with
  | nil =>
    cases vs with
    | nil =>
      cases w
      exact ⟨rfl, q σ H rs .rfl s h⟩
    | cons _ _ => cases l
  | cons _ _ => cases w
theorem assign_cons {e : Expr} {es : List Expr} {env : Env} (h : plainE e = true) : (assignEach (e :: es) env).map (·.2) = assign e env :: (assignEach es env).map (·.2) := by
  cases e <;> first | rfl | cases h
theorem zgs_cons (hp : plainE eg = true) (h1 : PG X eg (tG X.K t)) (h2 : PGs X es (tGs X.K ts)) : PGs X (eg :: es) (tGs X.K (.cons t ts)) := by
  refine impGs (pgs_cons h1 h2 (assign_cons hp)) fun vs σ H Q ⟨e, rs, Fr, ds, e', l, s, h, w, q⟩ => ?_
  cases ds with
  | nil => cases w
  | cons d ds =>
    cases vs with
    | nil => cases l
    | cons v vs =>
      rw [setTs] at w
      cases hd : setT t d e with
      | none => rw [hd] at w; cases w
      | some e1 =>
        rw [hd] at w
        refine ⟨v, vs, rfl, e, rs, vs.zip ds ++ Fr, d, e1, s, ?_, hd, fun σ1 H1 r1 x1 s1 g1 => ?_⟩
        · have h0 : Rel X.K H ((v, d) :: (vs.zip ds ++ (rs ++ Fr))) := h
          exact h0.perm (.cons _ swap3)
        · exact ⟨e1, r1, Fr, ds, e', Nat.succ.inj l, s1, g1.perm swap3, w, fun σ2 H2 r2 x2 => q σ2 H2 r2 (by rw [Tgs.slots]; exact x1.tr x2)⟩
theorem assign_len {env : Env} : ∀ {es : List Expr}, es.all plainE = true → (assignEach es env).length = es.length ∧ (assignEach es env).findIdx? (·.1) = none
  | [], _ => ⟨rfl, rfl⟩
  | e :: es, h => by
    simp only [List.all_cons, Bool.and_eq_true] at h
    obtain ⟨h1, h2⟩ := assign_len (env := env) h.2
    have e1 : ∃ z, assignEach (e :: es) env = (false, z) :: assignEach es env := by
      have hp := h.1
      cases e <;> first | exact ⟨_, rfl⟩ | cases hp
    obtain ⟨z, e1⟩ := e1
    rw [e1]
    exact ⟨congrArg (· + 1) h1, by simp [List.findIdx?_cons, h2]⟩
def Tgs.len : Tgs → Nat
  | .nil => 0
  | .cons _ r => r.len + 1
theorem setTs_len : ∀ {ts : Tgs} {ds : List D} {e e' : Ev}, setTs ts ds e = some e' → ds.length = ts.len
  | .nil, [], _, _, _ => rfl
  | .nil, _ :: _, _, _, h => by cases h
  | .cons _ _, [], _, _, h => by cases h
  | .cons t r, d :: ds, e, e', h => by
    rw [setTs] at h
    cases hd : setT t d e with
    | none => rw [hd] at h; cases h
    | some e1 =>
      rw [hd] at h
      rw [List.length_cons, setTs_len h]
      rfl
theorem zg_t {k : Nat} (hc : X.calm = true) (hp : es.all plainE = true) (hl : es.length = ts.len) (h : PGs X es (tGs X.K ts)) : PG X (.Tuple es k pos) (tG X.K (.t ts)) := by
  refine impG (pg_tup hc h (assign_len hp).1 (assign_len hp).2) fun v σ H Q ⟨e, rs, Fr, d, e', s, h, w, q⟩ => ?_
  cases d with
  | tup ds =>
    rw [setT] at w
    obtain ⟨a, vs, rfl, g1, g2, g3⟩ := h.openT
    exact ⟨a, vs, rfl, g1, by rw [g2, setTs_len w, hl], e, rs, Fr, ds, e', g2, s, g3, w, fun σ2 H2 r2 x2 => q σ2 H2 r2 (by rw [Tg.slots]; exact x2)⟩
  | _ => cases w
end

/-! ### what is walked -/
/-- an iterator that gives the items ds while the roots src stand -/
structure Wk (K : PySem.W.Frag) (J : L2.It) (ds : List D) (src : Rt) : Prop where
  goes : ∀ i H rs, i < ds.length → Rel K H (src ++ rs) → J.go i H
  stops : ∀ H rs, Rel K H (src ++ rs) → J.stop ds.length H
  yields : ∀ i H x H' rs, Rel K H (src ++ rs) → J.yld i H x H' → ∀ d, ds[i]? = some d → Rel K H' ((x, d) :: (src ++ rs))
theorem isFL_at : ∀ {ds : List D} {n : Nat} {d : D}, isFL ds = true → ds[n]? = some d → frz d = d
  | [], _, _, _, h => by simp at h
  | z :: r, 0, d, f, h => by
    cases h
    simp only [isFL, Bool.and_eq_true] at f
    exact isF_frz f.1
  | z :: r, n + 1, d, f, h => by
    simp only [isFL, Bool.and_eq_true] at f
    exact isFL_at f.2 (by simpa using h)
section
variable {K : PySem.W.Frag}
/-- one more name for an item that is shared -/
theorem Rel.of_sh {H Hk : Hp} {rs : Rt} {fp : List Addr} {v : V} {d : D} (s : Sub Hk H) (q : OwR K H Hk rs fp) (n : fp.Nodup) (k : ∀ a ∈ fp, Hk a = none) (sh : Sh K Hk v d) : Rel K H ((v, d) :: rs) :=
  ⟨Hk, [] ++ fp, s, .cons (.sh sh) q, n, k⟩
theorem wk_list {a : Addr} {o : Bool} {ds : List D} (f : isFL ds = true) : Wk K (Itl K a) ds [(.ref a, .lst o ds)] where
  goes := fun i H rs hi h => by
    obtain ⟨p, vs, e, g1, g2, _⟩ := Rel.open h
    cases e
    exact ⟨vs, vs[i]'(by omega), .inl (.inl g1), List.getElem?_eq_getElem _⟩
  stops := fun H rs h => by
    obtain ⟨p, vs, e, g1, g2, _⟩ := Rel.open h
    cases e
    exact ⟨vs, .inl (.inl g1), by omega⟩
  yields := fun i H x H' rs h y d hd => by
    obtain ⟨rfl, y⟩ := y
    obtain ⟨Hk, fp, s, q, n, k⟩ := h
    have q0 := q
    cases q with
    | cons g r =>
      obtain ⟨p, vs, gg, e, h1, h2, _⟩ := g.lst' s
      cases e
      obtain ⟨v, hv, sh⟩ := h2.at' hd (isFL_at f hd)
      have e := y vs (.inl (.inl h1))
      rw [hv] at e
      cases e
      exact Rel.of_sh s q0 n k sh
theorem wk_tup {a : Addr} {ds : List D} (f : isFL ds = true) : Wk K (Itt K a) ds [(.ref a, .tup ds)] where
  goes := fun i H rs hi h => by
    obtain ⟨p, vs, e, g1, g2, _⟩ := Rel.openT h
    cases e
    exact ⟨vs, vs[i]'(by omega), g1, List.getElem?_eq_getElem _⟩
  stops := fun H rs h => by
    obtain ⟨p, vs, e, g1, g2, _⟩ := Rel.openT h
    cases e
    exact ⟨vs, g1, by omega⟩
  yields := fun i H x H' rs h y d hd => by
    obtain ⟨rfl, y⟩ := y
    obtain ⟨Hk, fp, s, q, n, k⟩ := h
    have q0 := q
    cases q with
    | cons g r =>
      obtain ⟨p, vs, e, h1, h2, _⟩ := g.tup' s
      cases e
      obtain ⟨v, hv, sh⟩ := (OwL.of_sh (H := H') h2).at' hd (isFL_at f hd)
      have e := y vs h1
      rw [hv] at e
      cases e
      exact Rel.of_sh s q0 n k sh
theorem Rel.lck {H : Hp} {v : V} {ds : List D} {rs : Rt} (h : Rel K H ((v, .lck ds) :: rs)) : ∃ a vs Hk fp, v = .ref a ∧ SqL K H a vs ∧ Sub Hk H ∧ ShL K Hk vs ds ∧ OwR K H Hk ((v, .lck ds) :: rs) fp ∧ fp.Nodup ∧ ∀ a ∈ fp, Hk a = none := by
  obtain ⟨Hk, fp, s, q, n, k⟩ := h
  have q0 := q
  cases q with
  | cons g r =>
    cases g with
    | sh g =>
      cases g with
      | lck g1 g2 => exact ⟨_, _, Hk, _, rfl, s.lst g1, s, g2, q0, n, k⟩
theorem wk_lck {a : Addr} {ds : List D} (f : isFL ds = true) : Wk K (Itl K a) ds [(.ref a, .lck ds)] where
  goes := fun i H rs hi h => by
    obtain ⟨p, vs, Hk, fp, e, g1, s, g2, _⟩ := Rel.lck h
    cases e
    have l := (OwL.of_sh (H := H) g2).len
    exact ⟨vs, vs[i]'(by omega), g1, List.getElem?_eq_getElem _⟩
  stops := fun H rs h => by
    obtain ⟨p, vs, Hk, fp, e, g1, s, g2, _⟩ := Rel.lck h
    cases e
    have l := (OwL.of_sh (H := H) g2).len
    exact ⟨vs, g1, by omega⟩
  yields := fun i H x H' rs h y d hd => by
    obtain ⟨rfl, y⟩ := y
    obtain ⟨p, vs, Hk, fp, e, g1, s, g2, q, n, k⟩ := Rel.lck h
    cases e
    obtain ⟨v, hv, sh⟩ := (OwL.of_sh (H := H') g2).at' hd (isFL_at f hd)
    have e := y vs g1
    rw [hv] at e
    cases e
    exact Rel.of_sh s q n k sh
theorem wk_str {z : Str} : Wk K (Its z) (z.cps.toList.map one) [] where
  goes := fun i H rs hi h => by
    rw [List.length_map, Array.length_toList] at hi
    exact hi
  stops := fun H rs h => by
    rw [List.length_map, Array.length_toList]
    exact Nat.le_refl _
  yields := fun i H x H' rs h y d hd => by
    obtain ⟨rfl, c, hc, rfl⟩ := y
    rw [List.getElem?_map, Array.getElem?_toList, hc] at hd
    cases hd
    exact Rel.addS h
theorem wk_rng {lo : Int} {n : Nat} : Wk K (Itr lo n) ((List.range n).map fun k => D.int (lo + Int.ofNat k)) [] where
  goes := fun i H rs hi h => by
    rw [List.length_map, List.length_range] at hi
    exact hi
  stops := fun H rs h => by
    rw [List.length_map, List.length_range]
    exact Nat.le_refl _
  yields := fun i H x H' rs h y d hd => by
    obtain ⟨rfl, rfl⟩ := y
    rw [List.getElem?_map] at hd
    cases hr : (List.range n)[i]? with
    | none => rw [hr] at hd; cases hd
    | some j =>
      rw [hr] at hd
      obtain ⟨_, e⟩ := List.getElem?_eq_some_iff.mp hr
      rw [List.getElem_range] at e
      subst e
      cases hd
      exact Rel.addI h
theorem Rel.pair {H : Hp} {x y : V} {a b : D} {T : Addr} {rs : Rt} (h : Rel K H ((x, a) :: (y, b) :: rs)) (fa : frz a = a) (fb : frz b = b) (n : H T = none) : Rel K (upd H T (.tup [x, y])) ((.ref T, .tup [a, b]) :: rs) :=
  Rel.newT (vs := [x, y]) (ds := [a, b]) h rfl (by rw [frzL, frzL, frzL, fa, fb]) n
theorem wk_enm {a : Addr} {o : Bool} {ds : List D} (f : isFL ds = true) : Wk K (Ite K a) (ds.mapIdx fun k d => .tup [.int (Int.ofNat k), d]) [(.ref a, .lst o ds)] where
  goes := fun i H rs hi h => by
    rw [List.length_mapIdx] at hi
    obtain ⟨p, vs, e, g1, g2, _⟩ := Rel.open h
    cases e
    exact ⟨vs, vs[i]'(by omega), .inl (.inl g1), List.getElem?_eq_getElem _⟩
  stops := fun H rs h => by
    obtain ⟨p, vs, e, g1, g2, _⟩ := Rel.open h
    cases e
    exact ⟨vs, .inl (.inl g1), by rw [List.length_mapIdx]; omega⟩
  yields := fun i H x H' rs h y d hd => by
    obtain ⟨T, u, rfl, hT, rfl, y⟩ := y
    obtain ⟨Hk, fp, s, q, n, k⟩ := h
    have q0 := q
    rw [List.getElem?_mapIdx] at hd
    obtain ⟨d', hd', rfl⟩ := map_ok hd
    cases q with
    | cons g r =>
      obtain ⟨p, vs, gg, e, h1, h2, _⟩ := g.lst' s
      cases e
      obtain ⟨v, hv, sh⟩ := h2.at' hd' (isFL_at f hd')
      have e := y vs (.inl (.inl h1))
      rw [hv] at e
      cases e
      exact Rel.pair (Rel.of_sh s q0 n k sh).addI rfl (isFL_at f hd') hT
theorem wk_enmK {a : Addr} {ds : List D} (f : isFL ds = true) : Wk K (Ite K a) (ds.mapIdx fun k d => .tup [.int (Int.ofNat k), d]) [(.ref a, .lck ds)] where
  goes := fun i H rs hi h => by
    rw [List.length_mapIdx] at hi
    obtain ⟨p, vs, Hk, fp, e, g1, s, g2, _⟩ := Rel.lck h
    cases e
    have l := (OwL.of_sh (H := H) g2).len
    exact ⟨vs, vs[i]'(by omega), g1, List.getElem?_eq_getElem _⟩
  stops := fun H rs h => by
    obtain ⟨p, vs, Hk, fp, e, g1, s, g2, _⟩ := Rel.lck h
    cases e
    have l := (OwL.of_sh (H := H) g2).len
    exact ⟨vs, g1, by rw [List.length_mapIdx]; omega⟩
  yields := fun i H x H' rs h y d hd => by
    obtain ⟨T, u, rfl, hT, rfl, y⟩ := y
    obtain ⟨p, vs, Hk, fp, e, g1, s, g2, q, n, k⟩ := Rel.lck h
    cases e
    rw [List.getElem?_mapIdx] at hd
    obtain ⟨d', hd', rfl⟩ := map_ok hd
    obtain ⟨v, hv, sh⟩ := (OwL.of_sh (H := H) g2).at' hd' (isFL_at f hd')
    have e := y vs g1
    rw [hv] at e
    cases e
    exact Rel.pair (Rel.of_sh s q n k sh).addI rfl (isFL_at f hd') hT
end
end Z

set_option Elab.async false
set_option linter.all false
set_option autoImplicit false
set_option maxRecDepth 100000
set_option maxHeartbeats 2000000
/-! Z10: iterators of texts; list comprehensions. -/
namespace Z
open PySem PySem.Spec PyProof.Rows L2 RZ
variable [Tbs]
section
variable {K : PySem.W.Frag}
theorem opn {H : Hp} {a : Addr} {o : Bool} {ds : List D} {rs : Rt} (h : Rel K H ((.ref a, .lst o ds) :: rs)) : ∃ vs, H a = some (.lst vs) ∧ vs.length = ds.length := by
  obtain ⟨p, vs, e, g1, g2, _⟩ := Rel.open h
  cases e
  exact ⟨vs, g1, g2⟩
theorem opnT {H : Hp} {a : Addr} {ds : List D} {rs : Rt} (h : Rel K H ((.ref a, .tup ds) :: rs)) : ∃ vs, SqT K H a vs ∧ vs.length = ds.length := by
  obtain ⟨p, vs, e, g1, g2, _⟩ := Rel.openT h
  cases e
  exact ⟨vs, g1, g2⟩
/-- an item of a list that is a root, as a root of its own -/
theorem itemL {H : Hp} {a : Addr} {o : Bool} {ds : List D} {rs : Rt} {i : Nat} {d : D} {x : V} (h : Rel K H ((.ref a, .lst o ds) :: rs)) (hd : ds[i]? = some d) (f : frz d = d) (y : ∀ xs, SqL K H a xs → xs[i]? = some x) : Rel K H ((x, d) :: (.ref a, .lst o ds) :: rs) := by
  obtain ⟨Hk, fp, s, q, n, k⟩ := h
  have q0 := q
  cases q with
  | cons g r =>
    obtain ⟨p, vs, gg, e, h1, h2, _⟩ := g.lst' s
    cases e
    obtain ⟨v, hv, sh⟩ := h2.at' hd f
    have e := y vs (.inl (.inl h1))
    rw [hv] at e
    cases e
    exact Rel.of_sh s q0 n k sh
theorem itemT {H : Hp} {a : Addr} {ds : List D} {rs : Rt} {i : Nat} {d : D} {x : V} (h : Rel K H ((.ref a, .tup ds) :: rs)) (hd : ds[i]? = some d) (f : frz d = d) (y : ∀ xs, SqT K H a xs → xs[i]? = some x) : Rel K H ((x, d) :: (.ref a, .tup ds) :: rs) := by
  obtain ⟨Hk, fp, s, q, n, k⟩ := h
  have q0 := q
  cases q with
  | cons g r =>
    obtain ⟨p, vs, e, h1, h2, _⟩ := g.tup' s
    cases e
    obtain ⟨v, hv, sh⟩ := (OwL.of_sh (H := H) h2).at' hd f
    have e := y vs h1
    rw [hv] at e
    cases e
    exact Rel.of_sh s q0 n k sh
theorem wk_zip {a b : Addr} {o o' : Bool} {ds es : List D} (f : isFL ds = true) (g : isFL es = true) : Wk K (Itz K a b) ((ds.zip es).map fun z => D.tup [z.1, z.2]) [(.ref a, .lst o ds), (.ref b, .lst o' es)] where
  goes := fun i H rs hi h => by
    rw [List.length_map, List.length_zip] at hi
    obtain ⟨vs, g1, l1⟩ := opn h
    obtain ⟨us, g2, l2⟩ := opn (Rel.tail h)
    exact ⟨vs, us, vs[i]'(by omega), us[i]'(by omega), .inl (.inl g1), .inl (.inl g2), List.getElem?_eq_getElem _, List.getElem?_eq_getElem _⟩
  stops := fun H rs h => by
    obtain ⟨vs, g1, l1⟩ := opn h
    obtain ⟨us, g2, l2⟩ := opn (Rel.tail h)
    exact ⟨vs, us, .inl (.inl g1), .inl (.inl g2), by rw [List.length_map, List.length_zip]; omega⟩
  yields := fun i H x H' rs h y d hd => by
    obtain ⟨T, u, w, rfl, hT, rfl, y1, y2⟩ := y
    rw [List.getElem?_map] at hd
    obtain ⟨z, hz, rfl⟩ := map_ok hd
    obtain ⟨z1, z2⟩ := List.getElem?_zip_eq_some.mp hz
    have h1 := itemL (Rel.perm h (.swap _ _ _)) z2 (isFL_at g z2) y2
    have h2 := itemL (h1.perm (List.Perm.trans (.cons _ (.swap _ _ _)) (.swap _ _ _))) z1 (isFL_at f z1) y1
    refine Rel.pair (h2.perm (.cons _ ?_)) (isFL_at f z1) (isFL_at g z2) hT
    exact .swap _ _ _
theorem wk_zipT {a b : Addr} {ds es : List D} (f : isFL ds = true) (g : isFL es = true) : Wk K (ItzT K a b) ((ds.zip es).map fun z => D.tup [z.1, z.2]) [(.ref a, .tup ds), (.ref b, .tup es)] where
  goes := fun i H rs hi h => by
    rw [List.length_map, List.length_zip] at hi
    obtain ⟨vs, g1, l1⟩ := opnT h
    obtain ⟨us, g2, l2⟩ := opnT (Rel.tail h)
    exact ⟨vs, us, vs[i]'(by omega), us[i]'(by omega), g1, g2, List.getElem?_eq_getElem _, List.getElem?_eq_getElem _⟩
  stops := fun H rs h => by
    obtain ⟨vs, g1, l1⟩ := opnT h
    obtain ⟨us, g2, l2⟩ := opnT (Rel.tail h)
    exact ⟨vs, us, g1, g2, by rw [List.length_map, List.length_zip]; omega⟩
  yields := fun i H x H' rs h y d hd => by
    obtain ⟨T, u, w, rfl, hT, rfl, y1, y2⟩ := y
    rw [List.getElem?_map] at hd
    obtain ⟨z, hz, rfl⟩ := map_ok hd
    obtain ⟨z1, z2⟩ := List.getElem?_zip_eq_some.mp hz
    have h1 := itemT (Rel.perm h (.swap _ _ _)) z2 (isFL_at g z2) y2
    have h2 := itemT (h1.perm (List.Perm.trans (.cons _ (.swap _ _ _)) (.swap _ _ _))) z1 (isFL_at f z1) y1
    refine Rel.pair (h2.perm (.cons _ ?_)) (isFL_at f z1) (isFL_at g z2) hT
    exact .swap _ _ _
end
section
variable {X : Cx} {tg : Expr} {pins : List (Addr × Obj)} {σ : L2.St} {H : Hp} {s : Shared} {R : L2.It → Hp → Prop} {a : Addr} {vs : List V}
theorem it_list (I : Inv X pins σ H s) (h : SqL X.K H a vs) (q : R (Itl X.K a) H) : wpAny (model X.prog X.w) X.A (pyIter (.ref a)) (PIE X pins σ tg R) X.xe s := by
  obtain ⟨_, _, p, _⟩ := I.list h
  exact wpAny_pyIter_list p.isList (pi_one (tk := s.toks) I _ (turn_list a _) ⟨_, Heap.get?_push_size _ rfl, rfl, rfl⟩ q)
theorem it_tup (I : Inv X pins σ H s) (h : SqT X.K H a vs) (q : R (Itt X.K a) H) : wpAny (model X.prog X.w) X.A (pyIter (.ref a)) (PIE X pins σ tg R) X.xe s := by
  obtain ⟨_, _, p, _⟩ := I.tuple h
  exact wpAny_pyIter_tuple (show s.heap.IsTuple a _ from p) (pi_one (tk := s.toks) I _ (turn_tuple a _) ⟨_, Heap.get?_push_size _ rfl, rfl, rfl⟩ q)
theorem it_str {x : Str} {t : Tok} (I : Inv X pins σ H s) (q : R (Its x) H) : wpAny (model X.prog X.w) X.A (pyIter (.str x t)) (PIE X pins σ tg R) X.xe s := by
  cases ha : x.cps.all (· < 128)
  · exact wpAny_pyIter_wide ha (pi_one (tk := s.toks) I _ (turn_str _ x t _ (.inr rfl)) ⟨_, Heap.get?_push_size _ rfl, rfl, rfl⟩ q)
  · exact wpAny_pyIter_ascii ha (pi_one (tk := s.toks) I _ (turn_str _ x t _ (.inl rfl)) ⟨_, Heap.get?_push_size _ rfl, rfl, rfl⟩ q)
/-- a root with items, walked -/
theorem it_seq {v : V} {u : Value} {d : D} {ds : List D} {rs : Rt} (I : Inv X pins σ H s) (rv : L2.RelV v u) (h : Rel X.K H ((v, d) :: rs)) (e : items d = some ds) (f : isFL ds = true)
    (q : ∀ J src, Wk X.K J ds src → (src = [(v, d)] ∨ src = []) → R J H) : wpAny (model X.prog X.w) X.A (pyIter u) (PIE X pins σ tg R) X.xe s := by
  cases d with
  | tup xs =>
    cases e
    obtain ⟨p, vs, rfl, g1, g2, _⟩ := h.openT
    cases rv
    exact it_tup I g1 (q _ _ (wk_tup f) (.inl rfl))
  | lst o xs =>
    cases e
    obtain ⟨p, vs, rfl, g1, g2, _⟩ := h.open
    cases rv
    exact it_list I (.inl (.inl g1)) (q _ _ (wk_list f) (.inl rfl))
  | lck xs =>
    cases e
    obtain ⟨p, vs, _, _, rfl, g1, _⟩ := h.lck
    cases rv
    exact it_list I g1 (q _ _ (wk_lck f) (.inl rfl))
  | str z =>
    cases e
    obtain rfl := h.str
    obtain ⟨t, rfl⟩ := rv
    exact it_str I (q _ _ wk_str (.inr rfl))
  | _ => cases e
end
mutual
  theorem isF_of : ∀ d : D, isF (frz d) = true
    | .tup xs => by rw [frz, isF, isFL_of xs]
    | .lck xs => by rw [frz, isF, isFL_of xs]
    | .lst o xs => by rw [frz, isF, isFL_of xs]; rfl
    | .dic o kvs => by rw [frz, isF, isFK_of kvs]; rfl
    | .non => rfl
    | .bl _ => rfl
    | .int _ => rfl
    | .str _ => rfl
    | .st _ _ => rfl
    | .ob _ => rfl
    | .obf _ _ x => by rw [frz, isF, isF_of x]
  theorem isFL_of : ∀ d : List D, isFL (frzL d) = true
    | [] => rfl
    | x :: r => by rw [frzL, isFL, isF_of x, isFL_of r]; rfl
  theorem isFK_of : ∀ d : List (DK × D), isFK (frzK d) = true
    | [] => rfl
    | (k, x) :: r => by rw [frzK, isFK, isF_of x, isFK_of r]; rfl
end
theorem isF_fz (d : D) : isF (fz d) = true := by rw [fz_eq, isF_of]
theorem isFL_one (l : List Nat) : isFL (l.map one) = true := by
  induction l with
  | nil => rfl
  | cons x r ih => rw [List.map_cons, isFL, ih]; rfl
theorem items_F {d : D} {ds : List D} (f : isF d = true) (e : items d = some ds) : isFL ds = true := by
  cases d with
  | tup xs => cases e; exact f
  | lck xs => cases e; exact f
  | lst o xs =>
    cases e
    simp only [isF, Bool.and_eq_true] at f
    exact f.2
  | str z => cases e; exact isFL_one _
  | _ => cases e
section
variable (K : PySem.W.Frag) (T : Tab)
def WpI (σ : L2.St) (Fr : Rt) (r : R (List D)) (Q : L2.It → Hp → Prop) : Prop := match r with
  | .ok ds e => ∀ J H rs src, Sl σ e rs → Rel K H (src ++ (rs ++ Fr)) → Wk K J ds src → Q J H
  | _ => False
def tI (x : It) : TI := fun σ H Q => ∃ e rs Fr, Sl σ e rs ∧ Rel K H (rs ++ Fr) ∧ WpI K σ Fr (dI T x e) Q
def WpC (σ : L2.St) (Fr : Rt) (r : R (List D × Option (Nat × D))) (Q : L2.It → Hp → Prop) : Prop := match r with
  | .ok p e => ∀ J H rs src, Sl σ e rs → Rel K H (src ++ (rs ++ Fr)) → Wk K J p.1 src → (∀ i d, p.2 = some (i, d) → ∃ v src', σ[i]? = some (some v) ∧ src.Perm ((v, d) :: src')) → Q J H
  | _ => False
def tIc (x : It) : TI := fun σ H Q => ∃ e rs Fr, Sl σ e rs ∧ Rel K H (rs ++ Fr) ∧ WpC K σ Fr (dIc T x e) Q
end
theorem impI {X : Cx} {tg e : Expr} {t t' : TI} (h : PI X tg e t) (i : ∀ σ H Q, t' σ H Q → t σ H Q) : PI X tg e t' :=
  ⟨fun a b c d q j w => h.run a b c d q j (i _ _ _ w)⟩
/-- dIc is dI where nothing is lent -/
theorem ofO_map {α β : Type} {o : Option α} {f : α → β} {e : Ev} : ofO (o.map f) e = (ofO o e).bind fun a e => .ok (f a) e := by cases o <;> rfl
section
variable {X : Cx} {T : Tab} {nm : Nm} {k : Nat} {tg ea : Expr} {es : List Expr} {a : E} {r : Es} {pos p : Pos}
theorem wd_i {K : PySem.W.Frag} {σ : L2.St} {Fr : Rt} {Q : L2.It → Hp → Prop} : Wd fun r => WpI K σ Fr r Q := ⟨id, fun _ _ => id⟩
theorem wd_c {K : PySem.W.Frag} {σ : L2.St} {Fr : Rt} {Q : L2.It → Hp → Prop} : Wd fun r => WpC K σ Fr r Q := ⟨id, fun _ _ => id⟩
/-- without loan -/
theorem zc_of {x : It} (hx : ∀ e, dIc T x e = (dI T x e).bind fun l e => .ok (l, none) e) (h : PI X tg ea (tI X.K T x)) : PI X tg ea (tIc X.K T x) := by
  refine impI h fun σ H Q ⟨e, rs, Fr, s, g, w⟩ => ⟨e, rs, Fr, s, g, ?_⟩
  rw [hx] at w
  cases hr : dI T x e with
  | ok ds e' =>
    rw [hr] at w
    exact fun J H' rs' src s' h' wk => w J H' rs' src s' h' wk fun _ _ z => nomatch z
  | ex x e' => rw [hr] at w; exact w.elim
  | no => rw [hr] at w; exact w.elim
theorem zi_seq (ha : PE X ea (tE X.K T a)) : PI X tg ea (tI X.K T (.seq a)) := by
  refine ⟨fun pins s σ H R I ⟨e, rs, Fr, sl, h, w⟩ => ?_⟩
  rw [dI] at w
  refine thn (ha.run pins s σ H (fun v H' => ∃ d e' rs', WpI X.K σ Fr (ofO (items (fz d)) e') R ∧ Sl σ e' rs' ∧ Rel X.K H' ((v, d) :: (rs' ++ Fr))) I (use wd_i w sl h fun d e' v H' rs' _ w' s' h' => ⟨d, e', rs', w', s', h'⟩)) fun u s1 ⟨v, H1, I1, rv, d, e', rs', w1, s', h'⟩ => ?_
  cases hi : items (fz d) with
  | none => rw [hi] at w1; exact w1.elim
  | some ds =>
    rw [hi] at w1
    have f := items_F (isF_fz d) hi
    have h2 := h'.froz
    rw [← fz_eq] at h2
    refine it_seq I1 rv h2 hi f fun J src wk hs => w1 J H1 rs' src s' ?_ wk
    rcases hs with rfl | rfl
    · exact h2
    · exact h2.tail
theorem zc_seq (ha : PE X ea (tE X.K T a)) : PI X tg ea (tIc X.K T (.seq a)) := zc_of (fun e => by
  rw [dIc, dI]
  cases dE T a e with
  | ok d e' => exact ofO_map
  | _ => rfl) (zi_seq ha)
theorem rng_i {l : Option (List D)} {ds : List D} (h : rngD l = some ds) : (∃ n : Int, l = some [.int n] ∧ -big < n ∧ n < big ∧ ds = (List.range n.toNat).map fun k => D.int (Int.ofNat k)) ∨
    ∃ a b : Int, l = some [.int a, .int b] ∧ -big < a ∧ a < big ∧ -big < b ∧ b < big ∧ ds = (List.range (b - a).toNat).map fun k => D.int (a + Int.ofNat k) := by
  unfold rngD at h
  split at h
  · split at h
    · rename_i n hn
      exact .inl ⟨n, rfl, hn.1, hn.2, (Option.some.inj h).symm⟩
    · cases h
  · split at h
    · rename_i a b hn
      exact .inr ⟨a, b, rfl, hn.1, hn.2.1, hn.2.2.1, hn.2.2.2, (Option.some.inj h).symm⟩
    · cases h
  · cases h
theorem args_len : ∀ {xs : List (Sum D Nat)} {l : List D}, args1 xs = some l → l.length = xs.length
  | [], l, h => by cases h; rfl
  | .inl d :: r, l, h => by
    rw [args1] at h
    obtain ⟨l', h1, rfl⟩ := map_ok h
    rw [List.length_cons, List.length_cons, args_len h1]
  | .inr _ :: _, _, h => by cases h
theorem zi_rng1 (G : Gd X T nm k) {x : Str} (hx : x = "range") (hg : Gl X x) (hp : plainE ea = true) (ha : PA X [ea] (tA X.K T r)) (hl : r.len = 1) : PI X tg (.Call (.Name x p) [ea] [] pos) (tI X.K T (.rng r)) := by
  subst hx
  refine impI (pi_range1 hg (G.bt _ (by decide)) ha (star_cons hp)) fun σ H Q ⟨e, rs, Fr, s, h, w⟩ => ?_
  rw [dI] at w
  refine useA wd_i w s h fun xs e1 vs H1 rs1 as he w1 s1 g h1 => ?_
  cases hr : rngD (args1 xs) with
  | none => rw [hr] at w1; exact w1.elim
  | some ds =>
    rw [hr] at w1
    have hb : (big : Int) = 1000000 := rfl
    rcases rng_i hr with ⟨n, hn, hy, hz, rfl⟩ | ⟨n, m, hn, _⟩
    · obtain ⟨l1, rfl⟩ := g.all hn
      obtain ⟨v, rfl⟩ := Z.l1 l1
      have h2 : Rel X.K H1 ((v, .int n) :: (rs1 ++ Fr)) := h1
      obtain rfl := h2.int
      refine ⟨n, rfl, by omega, by omega, w1 _ H1 rs1 [] s1 h2.tail ?_⟩
      have wk := wk_rng (K := X.K) (lo := 0) (n := n.toNat)
      simpa using wk
    · have h3 := args_len hn
      rw [dEs_len he, hl] at h3
      cases h3
theorem zi_rng2 (G : Gd X T nm k) {x : Str} {eb : Expr} (hx : x = "range") (hg : Gl X x) (hp : plainE ea = true) (hq : plainE eb = true) (ha : PA X [ea, eb] (tA X.K T r)) (hl : r.len = 2) : PI X tg (.Call (.Name x p) [ea, eb] [] pos) (tI X.K T (.rng r)) := by
  subst hx
  have q1 : starEach [ea, eb] X.env = [(false, eval ea X.env), (false, eval eb X.env)] := by rw [star_cons hp, star_cons hq]; rfl
  refine impI (pi_range2 hg (G.bt _ (by decide)) ha q1 (star_cons hq)) fun σ H Q ⟨e, rs, Fr, s, h, w⟩ => ?_
  rw [dI] at w
  refine useA wd_i w s h fun xs e1 vs H1 rs1 as he w1 s1 g h1 => ?_
  cases hr : rngD (args1 xs) with
  | none => rw [hr] at w1; exact w1.elim
  | some ds =>
    rw [hr] at w1
    have hb : (big : Int) = 1000000 := rfl
    rcases rng_i hr with ⟨n, hn, _⟩ | ⟨n, m, hn, h5, h6, h7, h8, rfl⟩
    · have h3 := args_len hn
      rw [dEs_len he, hl] at h3
      cases h3
    · obtain ⟨l1, rfl⟩ := g.all hn
      obtain ⟨v, u, rfl⟩ := Z.l2 l1
      have h2 : Rel X.K H1 ((v, .int n) :: (u, .int m) :: (rs1 ++ Fr)) := h1
      obtain ⟨rfl, rfl, h3⟩ := ii h2
      exact ⟨n, m, rfl, ⟨by omega, by omega, by omega, by omega⟩, w1 _ H1 rs1 [] s1 h3 wk_rng⟩
theorem zc_rng {w : It → Prop} (h : PI X tg ea (tI X.K T (.rng r))) : PI X tg ea (tIc X.K T (.rng r)) := zc_of (fun e => by
  rw [dIc, dI]
  cases dEs T r e with
  | ok d e' => exact ofO_map
  | _ => rfl) h
/-- a list's enumerate -/
theorem zi_enm (G : Gd X T nm k) {x : Str} {elts : List Expr} {kk : Nat} {tp : Pos} (hx : x = "enumerate") (hg : Gl X x) (hp : plainE ea = true) (ha : PE X ea (tE X.K T a)) :
    PI X (.Tuple elts kk tp) (.Call (.Name x p) [ea] [] pos) (tI X.K T (.enm a)) := by
  subst hx
  refine impI (pi_enum hg (G.bt _ (by decide)) (pa_cons ha pa_nil (star_cons hp)) (star_cons hp)) fun σ H Q ⟨e, rs, Fr, s, h, w⟩ => ?_
  rw [dI] at w
  refine use wd_i w s h fun d e1 v H1 rs1 _ w1 s1 h1 => ?_
  cases hr : enmD (fz d) with
  | none => rw [hr] at w1; exact w1.elim
  | some ds =>
    rw [hr] at w1
    have h2 := h1.froz
    rw [← fz_eq] at h2
    have f := isF_fz d
    generalize fz d = q at hr h2 f
    cases q with
    | lst o xs =>
      cases hr
      obtain ⟨pa, vs, rfl, g1, g2, _⟩ := h2.open
      have f2 : isFL xs = true := by
        simp only [isF, Bool.and_eq_true] at f
        exact f.2
      exact ⟨pa, vs, rfl, .inl (.inl g1), w1 _ H1 rs1 _ s1 h2 (wk_enm f2)⟩
    | lck xs =>
      cases hr
      obtain ⟨pa, vs, _, _, rfl, g1, _⟩ := h2.lck
      exact ⟨pa, vs, rfl, g1, w1 _ H1 rs1 _ s1 h2 (wk_enmK f)⟩
    | _ => cases hr
theorem zc_enm (h : PI X tg ea (tI X.K T (.enm a))) : PI X tg ea (tIc X.K T (.enm a)) := zc_of (fun e => by
  rw [dIc, dI]
  cases dE T a e with
  | ok d e' => exact ofO_map
  | _ => rfl) h
theorem zip_i {l : Option (List D)} {ds : List D} (h : zipD l = some ds) : (∃ o a o' b, l = some [.lst o a, .lst o' b] ∧ ds = (a.zip b).map fun z => D.tup [z.1, z.2]) ∨ ∃ a b, l = some [.tup a, .tup b] ∧ ds = (a.zip b).map fun z => D.tup [z.1, z.2] := by
  unfold zipD at h
  split at h
  · exact .inl ⟨_, _, _, _, rfl, (Option.some.inj h).symm⟩
  · exact .inr ⟨_, _, rfl, (Option.some.inj h).symm⟩
  · cases h
/-- arguments that are not raw are frozen -/
def Es.frozen : Es → Bool
  | .nil => true
  | .cons _ r => r.frozen
  | _ => false
theorem dEs_F : ∀ {r : Es} {e : Ev} {xs e1 l}, r.frozen = true → dEs T r e = .ok xs e1 → args1 xs = some l → isFL l = true
  | .nil, e, xs, e1, l, _, h, g => by
    rw [dEs] at h
    injection h with h _
    subst h
    cases g
    rfl
  | .cons a r, e, xs, e1, l, f, h, g => by
    rw [dEs] at h
    obtain ⟨d, _, _, h⟩ := bind_ok h
    obtain ⟨ds, _, h1, h⟩ := bind_ok h
    injection h with h _
    subst h
    rw [args1] at g
    obtain ⟨l', g1, rfl⟩ := map_ok g
    rw [isFL, isF_fz, dEs_F (r := r) f h1 g1]
    rfl
  | .raw _ _, _, _, _, _, f, _, _ => by cases f
  | .bw _ _, _, _, _, _, f, _, _ => by cases f
theorem zi_zip (G : Gd X T nm k) {x : Str} {eb : Expr} {elts : List Expr} {kk : Nat} {tp : Pos} (hx : x = "zip") (hg : Gl X x) (hp : plainE ea = true) (hq : plainE eb = true) (ha : PA X [ea, eb] (tA X.K T r)) (hf : r.frozen = true) :
    PI X (.Tuple elts kk tp) (.Call (.Name x p) [ea, eb] [] pos) (tI X.K T (.zip r)) := by
  subst hx
  refine impI (RZ.pi_zipA hg (G.bt _ (by decide)) ha (star_cons hp) (star_none (by simp [hq]))) fun σ H Q ⟨e, rs, Fr, s, h, w⟩ => ?_
  rw [dI] at w
  refine useA wd_i w s h fun xs e1 vs H1 rs1 as he w1 s1 g h1 => ?_
  cases hr : zipD (args1 xs) with
  | none => rw [hr] at w1; exact w1.elim
  | some ds =>
    rw [hr] at w1
    rcases zip_i hr with ⟨o, u, o', w, hn, rfl⟩ | ⟨u, w, hn, rfl⟩
    · have f := dEs_F hf he hn
      obtain ⟨l1, rfl⟩ := g.all hn
      obtain ⟨v1, v2, rfl⟩ := Z.l2 l1
      have h2 : Rel X.K H1 ((v1, .lst o u) :: (v2, .lst o' w) :: (rs1 ++ Fr)) := h1
      obtain ⟨pa, vs, rfl, g1, g2, _⟩ := h2.open
      obtain ⟨pb, us, rfl, g3, g4, _⟩ := h2.tail.open
      simp only [isFL, isF, Bool.and_eq_true] at f
      exact ⟨pa, pb, vs, us, rfl, .inl ⟨.inl (.inl g1), .inl (.inl g3), w1 _ H1 rs1 [(.ref pa, .lst o u), (.ref pb, .lst o' w)] s1 h2 (wk_zip f.1.2 f.2.1.2)⟩⟩
    · have f := dEs_F hf he hn
      obtain ⟨l1, rfl⟩ := g.all hn
      obtain ⟨v1, v2, rfl⟩ := Z.l2 l1
      have h2 : Rel X.K H1 ((v1, .tup u) :: (v2, .tup w) :: (rs1 ++ Fr)) := h1
      obtain ⟨pa, vs, rfl, g1, g2, _⟩ := h2.openT
      obtain ⟨pb, us, rfl, g3, g4, _⟩ := h2.tail.openT
      simp only [isFL, isF, Bool.and_eq_true] at f
      exact ⟨pa, pb, vs, us, rfl, .inr ⟨g1, g3, w1 _ H1 rs1 [(.ref pa, .tup u), (.ref pb, .tup w)] s1 h2 (wk_zipT f.1 f.2.1)⟩⟩
theorem zc_zip (h : PI X tg ea (tI X.K T (.zip r))) : PI X tg ea (tIc X.K T (.zip r)) := zc_of (fun e => by
  rw [dIc, dI]
  cases dEs T r e with
  | ok d e' => exact ofO_map
  | _ => rfl) h
/-- a name's own list, lent to a comprehension -/
theorem zc_var {i : Nat} {x : Str} (hN : X.N[i]? = some x) (hv : Vis X.env.scope x) (h1 : (x == ("__debug__" : Str)) = false) (h2 : (x == ("__classdict__" : Str)) = false) : PI X tg (.Name x pos) (tIc X.K T (.var i)) := by
  refine ⟨fun pins s σ H R I ⟨e, rs, Fr, sl, h, w⟩ => ?_⟩
  rw [dIc] at w
  cases hd : rd i e with
  | none => rw [hd] at w; exact w.elim
  | some d =>
    rw [hd] at w
    obtain ⟨v, r0, g, pm, _, r2, s2, q2⟩ := sl.get hd
    refine thn ((pe_var hN hv h1 h2).run pins s σ H (fun u H' => u = v ∧ H' = H) I ⟨v, g, rfl, rfl⟩) fun u s1 ⟨v', H1, I1, rv, e1, e2⟩ => ?_
    subst e1
    subst e2
    have hr := h.left pm
    have plain : ∀ {ds : List D}, isF d = true → items d = some ds → WpC X.K σ Fr (.ok (ds, none) e) R → wpAny (model X.prog X.w) X.A (pyIter u) (PIE X pins σ tg R) X.xe s1 := by
      intro ds hf hi w
      have h9 := (hr.dup (isF_frz hf)).perm (.cons _ (pm.symm.append_right Fr))
      refine it_seq I1 rv h9 hi (items_F hf hi) fun J src wk hs => w J H1 rs src sl ?_ wk fun _ _ z => nomatch z
      rcases hs with rfl | rfl
      · exact h9
      · exact h9.tail
    cases d with
    | lst o xs =>
      cases o with
      | true =>
        dsimp only at w
        split at w
        · rename_i hf
          have h9 := hr.perm (.cons _ (q2.symm.append_right Fr))
          obtain ⟨pa, vs, rfl, g1, g2, _⟩ := h9.open
          cases rv
          refine it_list I1 (.inl (.inl g1)) (w _ H1 r2 [(.ref pa, .lst true xs)] s2 h9 (wk_list hf) fun j d z => ?_)
          cases z
          exact ⟨_, [], g, .refl _⟩
        · exact w.elim
      | false =>
        dsimp only at w
        split at w
        · rename_i hf
          exact plain hf rfl w
        · exact w.elim
    | tup xs =>
      dsimp only at w
      split at w
      · rename_i hf
        exact plain hf rfl w
      · exact w.elim
    | lck xs =>
      dsimp only at w
      split at w
      · rename_i hf
        exact plain hf rfl w
      · exact w.elim
    | str z => exact plain rfl rfl w
    | obf c f x =>
      dsimp only at w
      split at w
      · exact w.elim
      · exact w.elim
    | dic o kvs =>
      dsimp only at w
      split at w
      · exact w.elim
      · exact w.elim
    | st o ks =>
      dsimp only at w
      split at w
      · exact w.elim
      · exact w.elim
    | _ => exact w.elim
end
end Z

set_option Elab.async false
set_option linter.all false
set_option autoImplicit false
set_option maxRecDepth 100000
set_option maxHeartbeats 2000000
/-! Z11: list comprehensions. -/
namespace Z
open PySem PySem.Spec PyProof.Rows L2
variable [Tbs]
theorem wipe_get {σ : L2.St} {i : Nat} : ∀ {vs : List Nat}, (wipe σ vs)[i]? = if i ∈ vs then (σ[i]?).map fun _ => none else σ[i]?
  | [] => by simp [wipe]
  | v :: vs => by
    unfold wipe
    by_cases h : v = i
    · subst h
      have hl : (wipe σ vs).length = σ.length := wipe_length σ vs
      by_cases hi : v < σ.length
      · rw [List.getElem?_set_self (by omega), if_pos (by simp), List.getElem?_eq_getElem hi]
        rfl
      · rw [List.getElem?_eq_none (by simp; omega), if_pos (by simp), List.getElem?_eq_none (by omega)]
        rfl
    · rw [List.getElem?_set_ne h, wipe_get]
      have e : (i ∈ v :: vs) = (i ∈ vs) := by
        simp [show ¬ i = v from fun z => h z.symm]
      simp only [e]
theorem wipe_eq {σ σ' : L2.St} {ss vs : List Nat} (x : Eqx ss σ σ') (h : ∀ i ∈ ss, i ∈ vs) : wipe σ' vs = wipe σ vs := by
  apply List.ext_getElem?
  intro i
  rw [wipe_get, wipe_get]
  by_cases hi : i ∈ vs
  · rw [if_pos hi, if_pos hi]
    have hl := x.1
    by_cases hz : i < σ.length
    · rw [List.getElem?_eq_getElem hz, List.getElem?_eq_getElem (by omega)]
      rfl
    · rw [List.getElem?_eq_none (by omega), List.getElem?_eq_none (by omega)]
  · rw [if_neg hi, if_neg hi]
    exact x.2 i fun z => hi (h i z)
theorem wipe_self {σ : L2.St} {vs : List Nat} : wipe (wipe σ vs) vs = wipe σ vs := by
  apply List.ext_getElem?
  intro i
  rw [wipe_get, wipe_get]
  split
  · rw [Option.map_map]; rfl
  · rfl
/-- a slot without root may hold anything -/
theorem Sl.any : ∀ {σ : L2.St} {e : Ev} {rs : Rt} {i : Nat} {o : Option V}, Sl σ e rs → rd i e = none → Sl (σ.set i o) e rs
  | _, _, _, _, _, .nil, _ => .nil
  | _, _, _, 0, _, .skip s, _ => .skip s
  | _, _, _, 0, _, .has s, h => by cases h
  | _, _, _, i + 1, _, .skip s, h => .skip (s.any h)
  | _, _, _, i + 1, _, .has s, h => .has (s.any h)
theorem rd_set {e : Ev} {i j : Nat} {d : Option D} : rd i (e.set j d) = if j = i then (if i < e.length then d else none) else rd i e := by
  unfold rd
  rw [List.getElem?_set]
  by_cases h : j = i
  · subst h
    by_cases hl : j < e.length
    · simp [hl]
    · simp [hl]
  · rw [if_neg h, if_neg h]
theorem rd_wipe {e : Ev} {i : Nat} : ∀ {vs : List Nat}, i ∈ vs → rd i (wipeE e vs) = none
  | v :: vs, h => by
    rw [wipeE, rd_set]
    by_cases hv : v = i
    · rw [if_pos hv]
      split <;> rfl
    · rw [if_neg hv]
      exact rd_wipe ((List.mem_cons.mp h).resolve_left fun z => hv z.symm)
theorem rd_wipe_ne {e : Ev} {i : Nat} : ∀ {vs : List Nat}, i ∉ vs → rd i (wipeE e vs) = rd i e
  | [], _ => rfl
  | v :: vs, h => by
    rw [wipeE, rd_set, if_neg fun z => h (by simp [z])]
    exact rd_wipe_ne fun z => h (List.mem_cons_of_mem _ z)
theorem Sl.wipeS {σ : L2.St} {e : Ev} {rs : Rt} : ∀ {vs ws : List Nat}, Sl σ (wipeE e ws) rs → (∀ i ∈ vs, i ∈ ws) → Sl (wipe σ vs) (wipeE e ws) rs
  | [], _, s, _ => s
  | v :: vs, ws, s, h => by
    unfold wipe
    exact (s.wipeS (vs := vs) fun i z => h i (List.mem_cons_of_mem _ z)).any (rd_wipe (h v List.mem_cons_self))
theorem Sl.unwipe : ∀ {σ σ' : L2.St} {e : Ev} {rs : Rt}, Sl σ e rs → σ'.length = σ.length → (∀ (i : Nat) d, rd i e = some d → σ'[i]? = σ[i]?) → Sl σ' e rs
  | [], [], _, _, .nil, _, _ => .nil
  | _ :: σ, _ :: σ', _, _, .skip s, l, h => .skip (s.unwipe (Nat.succ.inj l) fun i d z => by simpa using h (i + 1) d z)
  | _ :: σ, o :: σ', _, _, .has (v := v) (d := d) s, l, h => by
    have e := h 0 d rfl
    simp only [List.getElem?_cons_zero, Option.some.injEq] at e
    subst e
    exact .has (s.unwipe (Nat.succ.inj l) fun i d z => by simpa using h (i + 1) d z)
/-- the roots in the slots vs -/
def ownR (σ : L2.St) (e : Ev) : List Nat → Rt
  | [] => []
  | i :: r => (match (σ[i]?).join, rd i e with | some v, some d => [(v, d)] | _, _ => []) ++ ownR σ e r
theorem set_none {e : Ev} {i : Nat} (h : rd i e = none) : e.set i none = e := by
  apply List.ext_getElem?
  intro j
  rw [List.getElem?_set]
  split
  · rename_i hj
    subst hj
    split
    · rename_i hl
      unfold rd at h
      rw [List.getElem?_eq_getElem hl] at h ⊢
      exact congrArg some h.symm
    · rename_i hl
      rw [List.getElem?_eq_none (by omega)]
  · rfl
theorem Sl.wiped {σ : L2.St} {e : Ev} {rs : Rt} (s : Sl σ e rs) : ∀ {vs : List Nat}, vs.Nodup → ∃ rw', Sl σ (wipeE e vs) rw' ∧ rs.Perm (ownR σ e vs ++ rw')
  | [], _ => ⟨rs, s, .refl _⟩
  | v :: vs, nd => by
    obtain ⟨n1, n2⟩ := List.nodup_cons.mp nd
    obtain ⟨r1, s1, p1⟩ := s.wiped n2
    rw [wipeE, ownR]
    have e1 : rd v (wipeE e vs) = rd v e := rd_wipe_ne n1
    cases hd : rd v e with
    | none =>
      rw [hd] at e1
      rw [set_none e1]
      refine ⟨r1, s1, ?_⟩
      cases (σ[v]?).join <;> exact p1
    | some d =>
      rw [hd] at e1
      obtain ⟨w, r0, g, pm, _, r2, s2, q2⟩ := s1.get e1
      refine ⟨r2, s2, ?_⟩
      rw [g]
      refine p1.trans ?_
      refine (List.Perm.append_left _ (pm.trans (.cons _ q2.symm))).trans ?_
      exact List.perm_middle
theorem wipe_comm {e : Ev} {v : Nat} {d : Option D} : ∀ {vs : List Nat}, v ∉ vs → wipeE (e.set v d) vs = (wipeE e vs).set v d
  | [], _ => rfl
  | u :: vs, h => by
    rw [wipeE, wipeE, wipe_comm fun z => h (List.mem_cons_of_mem _ z), List.set_comm]
    exact fun z => h (by simp [z])
theorem back_comm {e0 e : Ev} {v : Nat} {d : Option D} : ∀ {vs : List Nat}, v ∉ vs → backE e0 (e.set v d) vs = (backE e0 e vs).set v d
  | [], _ => rfl
  | u :: vs, h => by
    rw [backE, backE, back_comm fun z => h (List.mem_cons_of_mem _ z), List.set_comm]
    exact fun z => h (by simp [z])
theorem Sl.fill {σ : L2.St} {e : Ev} {rs : Rt} {i : Nat} {v : V} (s : Sl σ (e.set i none) rs) (g : σ[i]? = some (some v)) (d : D) : ∃ r, Sl σ (e.set i (some d)) r ∧ r.Perm ((v, d) :: rs) := by
  have go : ∀ {σ : L2.St} {e : Ev} {rs : Rt} {i : Nat}, Sl σ (e.set i none) rs → σ[i]? = some (some v) → ∃ r, Sl σ (e.set i (some d)) r ∧ r.Perm ((v, d) :: rs) := by
    intro σ
    induction σ with
    | nil => intro e rs i s g; simp at g
    | cons o σ ih =>
      intro e rs i s g
      cases e with
      | nil => cases s
      | cons u e =>
        cases i with
        | zero =>
          simp only [List.getElem?_cons_zero, Option.some.injEq] at g
          subst g
          cases s with
          | skip s => exact ⟨_, .has s, .refl _⟩
        | succ i =>
          cases s with
          | skip s =>
            obtain ⟨r, s', p⟩ := ih s (by simpa using g)
            exact ⟨r, .skip s', p⟩
          | has s =>
            obtain ⟨r, s', p⟩ := ih s (by simpa using g)
            exact ⟨_, .has s', (p.cons _).trans (.swap _ _ _)⟩
  exact go s g
/-- the slots put back -/
theorem Sl.back {σ : L2.St} {e1 : Ev} {rs1 : Rt} (s1 : Sl σ e1 rs1) : ∀ {vs : List Nat} {e2 : Ev} {rw2 : Rt}, vs.Nodup → Sl σ (wipeE e2 vs) rw2 →
    ∃ rs, Sl σ (backE e1 e2 vs) rs ∧ rs.Perm (ownR σ e1 vs ++ rw2)
  | [], e2, rw2, _, b => ⟨rw2, b, .refl _⟩
  | v :: vs, e2, rw2, nd, b => by
    obtain ⟨n1, n2⟩ := List.nodup_cons.mp nd
    rw [wipeE, ← wipe_comm n1] at b
    obtain ⟨rs, s2, p⟩ := s1.back n2 b
    rw [back_comm n1] at s2
    rw [backE, ownR]
    cases hd : rd v e1 with
    | none =>
      refine ⟨rs, ?_, ?_⟩
      · have hd' : (e1[v]?).join = none := hd
        rw [hd']
        exact s2
      · cases (σ[v]?).join <;> exact p
    | some d =>
      obtain ⟨w, r0, g, _⟩ := s1.get hd
      obtain ⟨r, s3, q⟩ := s2.fill g d
      refine ⟨r, ?_, ?_⟩
      · have hd' : (e1[v]?).join = some d := hd
        rw [hd']
        exact s3
      · rw [g]
        exact q.trans (p.cons _)
/-- a lent list put back -/
theorem Sl.give {σ : L2.St} {e : Ev} {rs : Rt} {i : Nat} {v : V} {d : D} (s : Sl σ e rs) (g : σ[i]? = some (some v)) : ∃ dr r0 r1, rs.Perm (dr ++ r0) ∧ Sl σ (e.set i (some d)) r1 ∧ r1.Perm ((v, d) :: r0) := s.put' g d

section
variable (K : PySem.W.Frag) (T : Tab)
def tTs (x : Tes) : TT := fun σ H Q => ∃ e rs Fr, Sl σ e rs ∧ Rel K H (rs ++ Fr) ∧ WpB K σ Fr (dTs T x e) Q
end
section
variable {X : Cx} {T : Tab}
theorem zts_nil : PTs X [] (tTs X.K T .nil) :=
  ⟨fun a b c d q j w => pts_nil.run a b c d q j (by
    obtain ⟨e, rs, Fr, s, h, w⟩ := w
    exact w d rs s h)⟩
theorem zts_one {ea : Expr} {t : Te} (h : PT X ea (tT X.K T t)) : PTs X [ea] (tTs X.K T (.cons t .nil)) :=
  ⟨fun a b c d q j w => (pts_one h).run a b c d q j (by
    obtain ⟨e, rs, Fr, s, h, w⟩ := w
    rw [dTs] at w
    refine useT wd_b w s h fun k e1 H1 rs1 _ w1 s1 h1 => ?_
    cases k with
    | true =>
      rw [dTs] at w1
      exact w1 H1 rs1 s1 h1
    | false => exact w1 H1 rs1 s1 h1)⟩
end
theorem OwL.cat {K : PySem.W.Frag} {H Hk : Hp} : ∀ {vs us : List V} {ds es : List D} {f g : List Addr}, OwL K H Hk vs ds f → OwL K H Hk us es g → OwL K H Hk (vs ++ us) (ds ++ es) (f ++ g)
  | _, _, _, _, _, _, .nil, q => q
  | _, _, _, _, _, _, .cons h r, q => by
    rw [List.append_assoc]
    exact .cons h (r.cat q)
/-- an item more at the end of an own list -/
theorem Rel.push {K : PySem.W.Frag} {H : Hp} {rs : Rt} {v : V} {d : D} {a : Addr} {ds : List D} (h : Rel K H ((v, d) :: (.ref a, .lst true ds) :: rs)) :
    ∃ vs, H a = some (.lst vs) ∧ vs.length = ds.length ∧ Rel K (upd H a (.lst (vs ++ [v]))) ((.ref a, .lst true (ds ++ [d])) :: rs) := by
  obtain ⟨Hk, fp, s, q, n, k⟩ := h
  cases q with
  | @cons _ _ f _ _ g1 q =>
    cases q with
    | @cons _ _ _ _ r g2 q =>
      cases g2 with
      | sh z => cases z
      | @lst _ vs _ g h1 h2 =>
        refine ⟨vs, h1, h2.len, ?_⟩
        have na : ∀ b, b ∈ f ∨ b ∈ g ∨ b ∈ r → b ≠ a := by
          intro b hb z
          subst z
          rcases hb with hb | hb | hb
          · exact (List.nodup_append.mp n).2.2 b hb b (by simp) rfl
          · have n2 := (List.nodup_append.mp n).2.1
            rw [List.cons_append] at n2
            exact (List.nodup_cons.mp n2).1 (List.mem_append_left _ hb)
          · have n2 := (List.nodup_append.mp n).2.1
            rw [List.cons_append] at n2
            exact (List.nodup_cons.mp n2).1 (List.mem_append_right _ hb)
        have e1 : ∀ b, b ∈ f ∨ b ∈ g ∨ b ∈ r → upd H a (.lst (vs ++ [v])) b = H b := fun b hb => upd_ne (na b hb)
        have one : OwL K (upd H a (.lst (vs ++ [v]))) Hk [v] [d] (f ++ []) := .cons (g1.sub Sub.rfl fun b z => e1 b (.inl z)) .nil
        have pm : (f ++ (a :: g ++ r)).Perm (a :: (g ++ (f ++ [])) ++ r) := by
          rw [List.append_nil, List.cons_append, List.cons_append, List.append_assoc]
          refine List.perm_middle.trans (.cons _ ?_)
          exact swap3
        refine ⟨Hk, a :: (g ++ (f ++ [])) ++ r, fun b o e => ?_, .cons (.lst upd_same ((h2.sub Sub.rfl fun b z => e1 b (.inr (.inl z))).cat one)) (q.sub Sub.rfl fun b z => e1 b (.inr (.inr z))), pm.nodup n, fun b z => k b (pm.symm.subset z)⟩
        have hb : b ≠ a := by
          rintro rfl
          rw [k b (by simp)] at e
          cases e
        rw [upd_ne hb]
        exact s b o e
/-- a comprehension's reading, from what its text gives -/
theorem lc_i {K : PySem.W.Frag} {T : Tab} {own : List Nat} {tg : Tg} {it : It} {cs : Tes} {x : E} {σ : L2.St} {H : Hp} {Q : VK} (nd : own.Nodup) (ht : ∀ i ∈ tg.slots, i ∈ own) (g : tE K T (.lc own tg it cs x) σ H Q) :
    tLc (tIc K T it) (tG K tg) (tTs K T cs) (tE K T x) own σ H Q := by
  obtain ⟨e, rs, Fr, s, h, w⟩ := g
  rw [dE] at w
  refine ⟨e, rs, Fr, s, h, ?_⟩
  cases hr : dIc T it e with
  | ex _ _ => rw [hr] at w; exact w.elim
  | no => rw [hr] at w; exact w.elim
  | ok p e1 =>
    rw [hr] at w
    simp only [R.bind] at w
    intro J H1 rs1 src s1 h1 wk lent Dl hD
    by_cases hbig : p.1.length ≤ big
    case neg =>
      rw [if_neg hbig] at w
      exact w.elim
    rw [if_pos hbig] at w
    obtain ⟨xs, ef, hlc, w⟩ : ∃ xs ef, lcL own tg (dTs T cs) (dE T x) p.1 [] e1 = .ok xs ef ∧ Wp K σ Fr (.ok (.lst true xs) (giveB p.2 (backE e1 ef own))) Q := by
      cases hx : lcL own tg (dTs T cs) (dE T x) p.1 [] e1 with
      | ok xs ef => rw [hx] at w; exact ⟨xs, ef, rfl, w⟩
      | ex _ _ => rw [hx] at w; exact w.elim
      | no => rw [hx] at w; exact w.elim
    obtain ⟨rw1, sw1, pw1⟩ := s1.wiped nd
    -- what holds ahead of turn i
    let Pv : Nat → Hp → Prop := fun i H' => i ≤ p.1.length ∧ ∃ acc e2 rw2, acc.length ≤ i ∧ Sl (wipe σ own) (wipeE e2 own) rw2 ∧
      Rel K H' (src ++ ((.ref Dl, .lst true acc) :: (rw2 ++ (ownR σ e1 own ++ Fr)))) ∧ lcL own tg (dTs T cs) (dE T x) (p.1.drop i) acc e2 = .ok xs ef
    have turned : ∀ {σ2 : L2.St} {i : Nat} {H' : Hp} {acc : List D} {e2 : Ev} {r2 : Rt}, wipe σ2 own = wipe σ own → i ≤ p.1.length → acc.length ≤ i → Sl σ2 e2 r2 → Rel K H' (r2 ++ (src ++ ((.ref Dl, .lst true acc) :: (ownR σ e1 own ++ Fr)))) →
        lcL own tg (dTs T cs) (dE T x) (p.1.drop i) acc e2 = .ok xs ef → Pv i H' := by
      intro σ2 i H' acc e2 r2 ew hi ha s2 h2 el
      obtain ⟨rw2, s3, p3⟩ := s2.wiped nd
      have s4 := s3.wipeS (vs := own) fun i z => z
      rw [ew] at s4
      refine ⟨hi, acc, e2, rw2, ha, s4, ?_, el⟩
      have h3 := h2.left p3
      rw [List.append_assoc] at h3
      refine h3.cut.perm (swap3.trans (List.Perm.append_left src ?_))
      exact List.perm_middle
    refine ⟨fun i m H' => m = p.1.length - i ∧ Pv i H', ⟨p.1.length, by omega, Nat.zero_le _, [], e1, rw1, Nat.le_refl _, sw1.wipeS fun i z => z, ?_, hlc⟩, ?_⟩
    · refine Rel.mid (Rel.newL (vs := []) (ds := []) ?_ rfl hD)
      refine h1.perm (List.Perm.append_left src ?_)
      refine (pw1.append_right Fr).trans ?_
      rw [← List.append_assoc]
      exact List.Perm.append_right _ List.perm_append_comm
    · rintro i m H2 ⟨rfl, hi, acc, e2, rw2, hle, sw2, h2, el⟩
      by_cases hlt : i < p.1.length
      · refine .inr ⟨wk.goes i H2 _ hlt h2, Pv (i + 1), fun H' hN => ⟨_, by omega, rfl, hN⟩, fun y H3 hy => ?_⟩
        have hd : p.1[i]? = some p.1[i] := List.getElem?_eq_getElem hlt
        have h3 := wk.yields i H2 y H3 _ h2 hy _ hd
        rw [← List.getElem_cons_drop hlt, lcL] at el
        cases hs : setT tg p.1[i] (wipeE e2 own) with
        | none => rw [hs] at el; cases el
        | some e3 =>
          rw [hs] at el
          dsimp only at el
          refine ⟨wipeE e2 own, rw2, src ++ ((.ref Dl, .lst true acc) :: (ownR σ e1 own ++ Fr)), p.1[i], e3, sw2, ?_, hs, fun σ2 H4 r4 xq s4 h4 => ?_⟩
          · refine h3.perm (.cons _ ?_)
            refine List.Perm.trans ?_ swap3
            exact List.Perm.append_left src List.perm_middle.symm
          · have ew : wipe σ2 own = wipe σ own := (wipe_eq xq ht).trans wipe_self
            refine ⟨ew, e3, r4, _, s4, h4, ?_⟩
            cases hc : dTs T cs e3 with
            | ex _ _ => rw [hc] at el; cases el
            | no => rw [hc] at el; cases el
            | ok b e4 =>
              rw [hc] at el
              intro H5 r5 s5 h5
              cases b with
              | false =>
                rw [if_neg Bool.false_ne_true]
                exact turned ew hlt (by omega) s5 h5 el
              | true =>
                rw [if_pos rfl]
                refine ⟨e4, r5, _, s5, h5, ?_⟩
                dsimp only at el
                cases hx : dE T x e4 with
                | ex _ _ => rw [hx] at el; cases el
                | no => rw [hx] at el; cases el
                | ok d e5 =>
                  rw [hx] at el
                  intro v H6 r6 s6 h6
                  have h7 : Rel K H6 ((v, d) :: (.ref Dl, .lst true acc) :: (r6 ++ (src ++ (ownR σ e1 own ++ Fr)))) := by
                    refine h6.perm (.cons _ ?_)
                    refine List.Perm.trans (List.Perm.append_left r6 List.perm_middle) ?_
                    exact List.perm_middle
                  obtain ⟨vs, g1, g2, h8⟩ := h7.push
                  refine ⟨vs, g1, ?_, turned (acc := acc ++ [d]) ew hlt (by simp; omega) s6 ?_ el⟩
                  · have hb : big < sizeLine := by decide
                    omega
                  · refine h8.perm ?_
                    refine List.Perm.trans List.perm_middle.symm ?_
                    exact List.Perm.append_left r6 List.perm_middle.symm
      · have e : i = p.1.length := by omega
        subst e
        refine .inl ⟨wk.stops H2 _ h2, ?_⟩
        rw [List.drop_length, lcL] at el
        injection el with e5 e6
        subst e5
        subst e6
        have sw3 : Sl σ (wipeE e2 own) rw2 := sw2.unwipe (by rw [wipe_length]) fun j d hj => by
          rw [wipe_get, if_neg]
          intro hz
          rw [rd_wipe hz] at hj
          cases hj
        obtain ⟨rf, sf, pf⟩ := s1.back nd sw3
        have h4 : Rel K H2 ((.ref Dl, .lst true acc) :: (src ++ (rf ++ Fr))) := by
          refine h2.perm ?_
          refine List.Perm.trans List.perm_middle (.cons _ (List.Perm.append_left src ?_))
          refine swap3.trans ?_
          rw [← List.append_assoc]
          exact pf.symm.append_right Fr
        cases hp : p.2 with
        | none =>
          rw [hp] at w
          refine w _ H2 rf sf ?_
          have h5 : Rel K H2 (src ++ ((.ref Dl, .lst true acc) :: (rf ++ Fr))) := h4.mid
          exact h5.cut
        | some q =>
          obtain ⟨j, dj⟩ := q
          rw [hp] at w
          obtain ⟨v, src', gj, pj⟩ := lent j dj hp
          obtain ⟨dr, r0, r1, q1, s7, q2⟩ := sf.put' gj dj
          refine w _ H2 r1 s7 ?_
          have h5 : Rel K H2 (src' ++ (dr ++ ((.ref Dl, .lst true acc) :: (r1 ++ Fr)))) := by
            refine h4.perm ?_
            classical
            rw [List.perm_iff_count]
            intro z
            have c1 := pj.count_eq z
            have c2 := q1.count_eq z
            have c3 := q2.count_eq z
            simp only [List.count_append, List.count_cons] at c1 c2 c3 ⊢
            omega
          exact h5.cut.cut
/-- a tuple of a generator expression, from what its text gives -/
theorem gen_i {K : PySem.W.Frag} {T : Tab} {own : List Nat} {tg : Tg} {it : It} {cs : Tes} {x : E} {σ : L2.St} {H : Hp} {Q : VK} {P : Addr} (hP : P ∈ Tbs.tb) (nd : own.Nodup) (ht : ∀ i ∈ tg.slots, i ∈ own) (g : tE K T (.gen .tuple own tg it cs x) σ H Q) :
    GE.tTupG (GE.tGx (tI K T it) P (tG K tg) (tTs K T cs) (tE K T x) own) σ H Q := by
  obtain ⟨e, rs, Fr, s, h, w⟩ := g
  rw [dE] at w
  refine ⟨e, rs, Fr, s, h, ?_⟩
  cases hr : dI T it e with
  | ex _ _ => rw [hr] at w; exact w.elim
  | no => rw [hr] at w; exact w.elim
  | ok l e1 =>
    rw [hr] at w
    simp only [R.bind] at w
    intro J H1 rs1 src s1 h1 wk
    refine ⟨h1.tab hP, fun H1' ht1 => ?_⟩
    replace h1 := h1.retab hP ht1
    by_cases hbig : l.length ≤ big
    case neg =>
      rw [if_neg hbig] at w
      exact w.elim
    rw [if_pos hbig] at w
    obtain ⟨xs, ef, hlc, w⟩ : ∃ xs ef, lcL own tg (dTs T cs) (fun e => (dE T x e).bind fun d e => .ok (fz d) e) l [] e1 = .ok xs ef ∧ Wp K σ Fr (.ok (.tup xs) (backE e1 ef own)) Q := by
      cases hx : lcL own tg (dTs T cs) (fun e => (dE T x e).bind fun d e => .ok (fz d) e) l [] e1 with
      | ok xs ef => simp only [R.bind] at hx; rw [hx] at w; exact ⟨xs, ef, rfl, w⟩
      | ex _ _ => simp only [R.bind] at hx; rw [hx] at w; exact w.elim
      | no => simp only [R.bind] at hx; rw [hx] at w; exact w.elim
    obtain ⟨rw1, sw1, pw1⟩ := s1.wiped nd
    let Pv : Nat → List V → Hp → Prop := fun i ys H' => i ≤ l.length ∧ ∃ acc e2 rw2, acc.length ≤ i ∧ ys.length = acc.length ∧ frzL acc = acc ∧ Sl (wipe σ own) (wipeE e2 own) rw2 ∧
      Rel K H' (src ++ (ys.zip acc ++ (rw2 ++ (ownR σ e1 own ++ Fr)))) ∧ lcL own tg (dTs T cs) (fun e => (dE T x e).bind fun d e => .ok (fz d) e) (l.drop i) acc e2 = .ok xs ef
    have turned : ∀ {σ2 : L2.St} {i : Nat} {ys : List V} {H' : Hp} {acc : List D} {e2 : Ev} {r2 : Rt}, wipe σ2 own = wipe σ own → i ≤ l.length → acc.length ≤ i → ys.length = acc.length → frzL acc = acc → Sl σ2 e2 r2 → Rel K H' (r2 ++ (src ++ (ys.zip acc ++ (ownR σ e1 own ++ Fr)))) →
        lcL own tg (dTs T cs) (fun e => (dE T x e).bind fun d e => .ok (fz d) e) (l.drop i) acc e2 = .ok xs ef → Pv i ys H' := by
      intro σ2 i ys H' acc e2 r2 ew hi ha hy hz s2 h2 el
      obtain ⟨rw2, s3, p3⟩ := s2.wiped nd
      have s4 := s3.wipeS (vs := own) fun i z => z
      rw [ew] at s4
      refine ⟨hi, acc, e2, rw2, ha, hy, hz, s4, ?_, el⟩
      have h3 := h2.left p3
      rw [List.append_assoc] at h3
      refine h3.cut.perm (swap3.trans (List.Perm.append_left src ?_))
      exact swap3
    refine ⟨fun i m ys H' => m = l.length - i ∧ Pv i ys H', ⟨l.length, by omega, Nat.zero_le _, [], e1, rw1, Nat.le_refl _, rfl, rfl, sw1.wipeS fun i z => z, ?_, hlc⟩, ?_⟩
    · refine h1.perm (List.Perm.append_left src ?_)
      refine (pw1.append_right Fr).trans ?_
      show List.Perm _ (rw1 ++ (ownR σ e1 own ++ Fr))
      rw [← List.append_assoc]
      exact List.Perm.append_right _ List.perm_append_comm
    · rintro i m ys H2 ⟨rfl, hi, acc, e2, rw2, hle, hyl, hfr, sw2, h2, el⟩
      by_cases hlt : i < l.length
      · refine .inr ⟨wk.goes i H2 _ hlt h2, Pv (i + 1), fun ys' H' hN => ⟨_, by omega, rfl, hN⟩, fun y H3 hy => ?_⟩
        have hd : l[i]? = some l[i] := List.getElem?_eq_getElem hlt
        have h3 := wk.yields i H2 y H3 _ h2 hy _ hd
        rw [← List.getElem_cons_drop hlt, lcL] at el
        cases hs : setT tg l[i] (wipeE e2 own) with
        | none => rw [hs] at el; cases el
        | some e3 =>
          rw [hs] at el
          dsimp only at el
          refine ⟨wipeE e2 own, rw2, src ++ (ys.zip acc ++ (ownR σ e1 own ++ Fr)), l[i], e3, sw2, ?_, hs, fun σ2 H4 r4 xq s4 h4 => ?_⟩
          · refine h3.perm (.cons _ ?_)
            refine List.Perm.trans ?_ swap3
            exact List.Perm.append_left src swap3
          · have ew : wipe σ2 own = wipe σ own := (wipe_eq xq ht).trans wipe_self
            refine ⟨ew, e3, r4, _, s4, h4, ?_⟩
            cases hc : dTs T cs e3 with
            | ex _ _ => rw [hc] at el; cases el
            | no => rw [hc] at el; cases el
            | ok b e4 =>
              rw [hc] at el
              intro H5 r5 s5 h5
              cases b with
              | false =>
                rw [if_neg Bool.false_ne_true]
                exact turned ew hlt (by omega) hyl hfr s5 h5 el
              | true =>
                rw [if_pos rfl]
                refine ⟨e4, r5, _, s5, h5, ?_⟩
                dsimp only at el
                cases hx : dE T x e4 with
                | ex _ _ => rw [hx] at el; cases el
                | no => rw [hx] at el; cases el
                | ok d e5 =>
                  rw [hx] at el
                  simp only [R.bind] at el
                  intro v H6 r6 s6 h6
                  have h7 := h6.froz
                  refine ⟨?_, turned (acc := acc ++ [fz d]) ew hlt (by simp; omega) (by simp [hyl]) ?_ s6 ?_ el⟩
                  · have hb : big < sizeLine := by decide
                    omega
                  · rw [frzL_app, hfr, frzL, frzL, fz_eq, frz_frz]
                  · have e9 : (ys ++ [v]).zip (acc ++ [fz d]) = ys.zip acc ++ [(v, frz d)] := by
                      rw [List.zip_append hyl, fz_eq]; rfl
                    rw [e9]
                    refine h7.perm ?_
                    classical
                    rw [List.perm_iff_count]
                    intro z
                    simp only [List.count_append, List.count_cons, List.count_nil]
                    omega
      · have e : i = l.length := by omega
        subst e
        refine .inl ⟨wk.stops H2 _ h2, fun p hp => ?_⟩
        rw [List.drop_length, lcL] at el
        injection el with e5 e6
        subst e5
        subst e6
        have sw3 : Sl σ (wipeE e2 own) rw2 := sw2.unwipe (by rw [wipe_length]) fun j d hj => by
          rw [wipe_get, if_neg]
          intro hz
          rw [rd_wipe hz] at hj
          cases hj
        obtain ⟨rf, sf, pf⟩ := s1.back nd sw3
        have h4 : Rel K H2 (ys.zip acc ++ (src ++ (rf ++ Fr))) := by
          refine h2.perm ?_
          classical
          rw [List.perm_iff_count]
          intro z
          have c1 := pf.count_eq z
          simp only [List.count_append] at c1 ⊢
          omega
        refine w _ _ rf sf ?_
        have h5 := Rel.newT h4 hyl hfr hp
        have h6 : Rel K (upd H2 p (.tup ys)) (src ++ ((.ref p, .tup acc) :: (rf ++ Fr))) := h5.mid
        exact h6.cut
/-! ### set comprehensions -/
theorem lcL_pre {own : List Nat} {tg : Tg} {cs : Ev → R Bool} {elt : Ev → R D} : ∀ {l acc : List D} {e : Ev} {xs : List D} {ef : Ev}, lcL own tg cs elt l acc e = .ok xs ef → ∃ t, xs = acc ++ t
  | [], acc, e, xs, ef, h => by
    rw [lcL] at h
    injection h with h1 _
    exact ⟨[], by rw [h1, List.append_nil]⟩
  | d :: l, acc, e, xs, ef, h => by
    rw [lcL] at h
    split at h
    · cases h
    · split at h
      · exact lcL_pre h
      · split at h
        · obtain ⟨t, rfl⟩ := lcL_pre h
          exact ⟨_ :: t, by rw [List.append_assoc]; rfl⟩
        · cases h
      · cases h
theorem keysD_pre : ∀ {a b : List D} {ks : List DK}, keysD (a ++ b) = some ks → ∃ k1 k2, keysD a = some k1 ∧ keysD b = some k2 ∧ ks = k1 ++ k2
  | [], b, ks, h => ⟨[], ks, rfl, h, rfl⟩
  | d :: a, b, ks, h => by
    rw [List.cons_append, keysD] at h
    cases e1 : keyD d with
    | none => rw [e1] at h; cases h
    | some k =>
      cases e2 : keysD (a ++ b) with
      | none => rw [e1, e2] at h; cases h
      | some js =>
        rw [e1, e2] at h
        cases h
        obtain ⟨k1, k2, h1, h2, rfl⟩ := keysD_pre e2
        exact ⟨k :: k1, k2, by rw [keysD, e1, h1], h2, rfl⟩
theorem ddK_snoc (k : DK) : ∀ (ks acc : List DK), ddK acc (ks ++ [k]) = if Zs.hasK (ddK acc ks) k = true then ddK acc ks else ddK acc ks ++ [k]
  | [], acc => rfl
  | j :: ks, acc => by
    rw [List.cons_append, ddK, ddK_snoc k ks, ddK]
omit [Tbs] in
theorem ddK_len : ∀ (ks acc : List DK), (ddK acc ks).length ≤ acc.length + ks.length
  | [], acc => Nat.le_refl _
  | j :: ks, acc => by
    rw [ddK]
    refine Nat.le_trans (ddK_len ks _) ?_
    split <;> simp <;> omega
theorem sx_i {K : PySem.W.Frag} {T : Tab} {own : List Nat} {tg : Tg} {it : It} {cs : Tes} {x : E} {σ : L2.St} {H : Hp} {Q : VK} (nd : own.Nodup) (ht : ∀ i ∈ tg.slots, i ∈ own) (g : tE K T (.sc own tg it cs x) σ H Q) :
    Zs.tSx Tbs.P Tbs.w K (tI K T it) (tG K tg) (tTs K T cs) (tE K T x) own σ H Q := by
  obtain ⟨e, rs, Fr, s, h, w⟩ := g
  rw [dE] at w
  refine ⟨e, rs, Fr, s, h, ?_⟩
  cases hr : dI T it e with
  | ex _ _ => rw [hr] at w; exact w.elim
  | no => rw [hr] at w; exact w.elim
  | ok l e1 =>
    rw [hr] at w
    simp only [R.bind] at w
    intro J H1 rs1 src s1 h1 wk Dl hD
    by_cases hbig : l.length ≤ big
    case neg =>
      rw [if_neg hbig] at w
      exact w.elim
    rw [if_pos hbig] at w
    obtain ⟨xs, ef, hlc, w⟩ : ∃ xs ef, lcL own tg (dTs T cs) (fun e => (dE T x e).bind fun d e => .ok (fz d) e) l [] e1 = .ok xs ef ∧ Wp K σ Fr (ofO (stD xs) (backE e1 ef own)) Q := by
      cases hx : lcL own tg (dTs T cs) (fun e => (dE T x e).bind fun d e => .ok (fz d) e) l [] e1 with
      | ok xs ef => simp only [R.bind] at hx; rw [hx] at w; exact ⟨xs, ef, rfl, w⟩
      | ex _ _ => simp only [R.bind] at hx; rw [hx] at w; exact w.elim
      | no => simp only [R.bind] at hx; rw [hx] at w; exact w.elim
    obtain ⟨ks, ek, ed, al, few⟩ : ∃ ks, keysD xs = some ks ∧ stD xs = some (.st true (ddK [] ks)) ∧ (∀ k ∈ ks, Zs.tupQ k = headQ ks) ∧ ks.length < Zs.roomFor (headQ ks) := by
      cases hk : keysD xs with
      | none => unfold stD at w; rw [hk] at w; exact w.elim
      | some ks =>
        by_cases c : (ks.all fun k => Zs.tupQ k == headQ ks) = true ∧ ks.length < Zs.roomFor (headQ ks)
        · refine ⟨ks, rfl, ?_, fun k m => by simpa using List.all_eq_true.mp c.1 k m, c.2⟩
          unfold stD
          rw [hk]
          exact if_pos c
        · unfold stD at w
          rw [hk] at w
          dsimp only at w
          rw [if_neg c] at w
          exact w.elim
    rw [ed] at w
    obtain ⟨rw1, sw1, pw1⟩ := s1.wiped nd
    let Pv : Nat → Hp → Prop := fun i H' => i ≤ l.length ∧ ∃ acc e2 rw2 ks1, keysD acc = some ks1 ∧ Sl (wipe σ own) (wipeE e2 own) rw2 ∧
      Rel K H' (src ++ ((.ref Dl, .st true (ddK [] ks1)) :: (rw2 ++ (ownR σ e1 own ++ Fr)))) ∧ lcL own tg (dTs T cs) (fun e => (dE T x e).bind fun d e => .ok (fz d) e) (l.drop i) acc e2 = .ok xs ef
    have turned : ∀ {σ2 : L2.St} {i : Nat} {H' : Hp} {acc : List D} {ks1 : List DK} {e2 : Ev} {r2 : Rt}, wipe σ2 own = wipe σ own → i ≤ l.length → keysD acc = some ks1 → Sl σ2 e2 r2 → Rel K H' (r2 ++ (src ++ ((.ref Dl, .st true (ddK [] ks1)) :: (ownR σ e1 own ++ Fr)))) →
        lcL own tg (dTs T cs) (fun e => (dE T x e).bind fun d e => .ok (fz d) e) (l.drop i) acc e2 = .ok xs ef → Pv i H' := by
      intro σ2 i H' acc ks1 e2 r2 ew hi hk s2 h2 el
      obtain ⟨rw2, s3, p3⟩ := s2.wiped nd
      have s4 := s3.wipeS (vs := own) fun i z => z
      rw [ew] at s4
      refine ⟨hi, acc, e2, rw2, ks1, hk, s4, ?_, el⟩
      have h3 := h2.left p3
      rw [List.append_assoc] at h3
      refine h3.cut.perm ?_
      classical
      rw [List.perm_iff_count]
      intro z
      simp only [List.count_append, List.count_cons]
      omega
    refine ⟨fun i m H' => m = l.length - i ∧ Pv i H', ⟨l.length, by omega, Nat.zero_le _, [], e1, rw1, [], rfl, sw1.wipeS fun i z => z, ?_, hlc⟩, ?_⟩
    · have h2 := h1.newS0 hD
      refine h2.perm ?_
      classical
      rw [List.perm_iff_count]
      intro z
      have c1 := pw1.count_eq z
      simp only [List.count_append, List.count_cons, ddK] at c1 ⊢
      omega
    · rintro i m H2 ⟨rfl, hi, acc, e2, rw2, ks1, hk, sw2, h2, el⟩
      by_cases hlt : i < l.length
      · refine .inr ⟨wk.goes i H2 _ hlt h2, Pv (i + 1), fun H' hN => ⟨_, by omega, rfl, hN⟩, fun y H3 hy => ?_⟩
        have hd : l[i]? = some l[i] := List.getElem?_eq_getElem hlt
        have h3 := wk.yields i H2 y H3 _ h2 hy _ hd
        rw [← List.getElem_cons_drop hlt, lcL] at el
        cases hs : setT tg l[i] (wipeE e2 own) with
        | none => rw [hs] at el; cases el
        | some e3 =>
          rw [hs] at el
          dsimp only at el
          refine ⟨wipeE e2 own, rw2, src ++ ((.ref Dl, .st true (ddK [] ks1)) :: (ownR σ e1 own ++ Fr)), l[i], e3, sw2, ?_, hs, fun σ2 H4 r4 xq s4 h4 => ?_⟩
          · refine h3.perm (.cons _ ?_)
            classical
            rw [List.perm_iff_count]
            intro z
            simp only [List.count_append, List.count_cons]
            omega
          · have ew : wipe σ2 own = wipe σ own := (wipe_eq xq ht).trans wipe_self
            refine ⟨ew, e3, r4, _, s4, h4, ?_⟩
            cases hc : dTs T cs e3 with
            | ex _ _ => rw [hc] at el; cases el
            | no => rw [hc] at el; cases el
            | ok b e4 =>
              rw [hc] at el
              intro H5 r5 s5 h5
              cases b with
              | false =>
                rw [if_neg Bool.false_ne_true]
                exact turned ew hlt hk s5 h5 el
              | true =>
                rw [if_pos rfl]
                refine ⟨e4, r5, _, s5, h5, ?_⟩
                dsimp only at el
                cases hx : dE T x e4 with
                | ex _ _ => rw [hx] at el; cases el
                | no => rw [hx] at el; cases el
                | ok d e5 =>
                  rw [hx] at el
                  simp only [R.bind] at el
                  intro v H6 r6 s6 h6
                  have h7 := h6.froz
                  rw [← fz_eq] at h7
                  obtain ⟨t, et⟩ := lcL_pre el
                  rw [et] at ek
                  obtain ⟨k1, k2, ea, _, eks⟩ := keysD_pre ek
                  obtain ⟨k0, kd, e0, e9, ek1⟩ := keysD_pre ea
                  rw [hk] at e0
                  cases e0
                  obtain ⟨k, ekd, rfl⟩ : ∃ k, keyD (fz d) = some k ∧ kd = [k] := by
                    rw [keysD] at e9
                    cases e1 : keyD (fz d) with
                    | none => rw [e1] at e9; cases e9
                    | some k => rw [e1] at e9; cases e9; exact ⟨k, rfl, rfl⟩
                  have h8 : Rel K H6 ((v, fz d) :: (.ref Dl, .st true (ddK [] ks1)) :: (r6 ++ (src ++ (ownR σ e1 own ++ Fr)))) := by
                    refine h7.perm (.cons _ ?_)
                    classical
                    rw [List.perm_iff_count]
                    intro z
                    simp only [List.count_append, List.count_cons]
                    omega
                  obtain ⟨S, hDs, ky, kyv, pm, h9⟩ := h8.pushS (by rw [fz_eq, frz_frz]) ekd
                  have inks : ∀ j, j ∈ ks1 ++ [k] → j ∈ ks := fun j m => by rw [eks, ek1]; exact List.mem_append_left _ m
                  have kq : Zs.tupQ k = headQ ks := al k (inks k (by simp))
                  refine ⟨S, k, hDs, ky, kyv, fun p m => ?_, ?_, turned (acc := acc ++ [fz d]) (ks1 := ks1 ++ [k]) ew hlt (by rw [ea, ek1]) s6 ?_ el⟩
                  · rw [kq]
                    refine al _ (inks _ (List.mem_append_left _ ?_))
                    have := pm.mem_iff.mp (List.mem_map.mpr ⟨p, m, rfl⟩)
                    rw [ddK_mem] at this
                    exact this.resolve_left (fun z => nomatch z)
                  · rw [kq]
                    have l1 : S.length = (ddK [] ks1).length := by rw [← pm.length_eq, List.length_map]
                    have l2 := ddK_len ks1 []
                    have l3 : ks.length = ks1.length + 1 + k2.length := by rw [eks, ek1]; simp; omega
                    simp only [List.length_nil] at l2
                    omega
                  · rw [ddK_snoc]
                    refine h9.perm ?_
                    classical
                    rw [List.perm_iff_count]
                    intro z
                    simp only [List.count_append, List.count_cons]
                    omega
      · have e : i = l.length := by omega
        subst e
        refine .inl ⟨wk.stops H2 _ h2, ?_⟩
        rw [List.drop_length, lcL] at el
        injection el with e5 e6
        subst e5
        subst e6
        rw [ek] at hk
        cases hk
        have sw3 : Sl σ (wipeE e2 own) rw2 := sw2.unwipe (by rw [wipe_length]) fun j d hj => by
          rw [wipe_get, if_neg]
          intro hz
          rw [rd_wipe hz] at hj
          cases hj
        obtain ⟨rf, sf, pf⟩ := s1.back nd sw3
        refine w _ _ rf sf ?_
        have h4 : Rel K H2 (src ++ ((.ref Dl, .st true (ddK [] ks)) :: (rf ++ Fr))) := by
          refine h2.perm ?_
          classical
          rw [List.perm_iff_count]
          intro z
          have c1 := pf.count_eq z
          simp only [List.count_append, List.count_cons] at c1 ⊢
          omega
        exact h4.cut
end Z

set_option Elab.async false
set_option linter.all false
set_option autoImplicit false
set_option maxRecDepth 100000
set_option maxHeartbeats 2000000
/-! Z12: statements. -/
namespace Z
open PySem PySem.Spec PyProof.Rows L2
variable [Tbs]
def Keep (pr : List Nat) (σ σ' : L2.St) : Prop := ∀ j ∈ pr, σ'[j]? = σ[j]?
theorem Keep.rfl {pr : List Nat} {σ : L2.St} : Keep pr σ σ := fun _ _ => _root_.rfl
theorem Keep.tr {pr : List Nat} {σ σ' σ'' : L2.St} (a : Keep pr σ σ') (b : Keep pr σ' σ'') : Keep pr σ σ'' := fun j h => (b j h).trans (a j h)
theorem Eqx.keep {pr ss : List Nat} {σ σ' : L2.St} (x : Eqx ss σ σ') (h : ∀ i ∈ ss, i ∉ pr) : Keep pr σ σ' := fun j hj => x.2 j fun z => h j z hj
theorem Keep.set {pr : List Nat} {σ : L2.St} {i : Nat} {v : Option V} (h : i ∉ pr) : Keep pr σ (σ.set i v) := fun j hj => List.getElem?_set_ne fun (z : i = j) => h (by rw [z]; exact hj)
section
variable (K : PySem.W.Frag) (T : Tab) (pr : List Nat)
def WpS (σ : L2.St) (Fr : Rt) (r : R Fl) (D : Ends) : Prop := match r with
  | .ok .nx e => ∀ σ' H rs, Keep pr σ σ' → Sl σ' e rs → Rel K H (rs ++ Fr) → D.nx σ' H
  | .ok .bk e => ∀ σ' H rs, Keep pr σ σ' → Sl σ' e rs → Rel K H (rs ++ Fr) → D.bk σ' H
  | .ok .ct e => ∀ σ' H rs, Keep pr σ σ' → Sl σ' e rs → Rel K H (rs ++ Fr) → D.ct σ' H
  | .ok (.rt d) e => ∀ v σ' H rs, Keep pr σ σ' → Sl σ' e rs → Rel K H ((v, d) :: (rs ++ Fr)) → D.rt v H
  | _ => False
def tS (x : S) : TS := fun D σ H => ∃ e rs Fr, Sl σ e rs ∧ Rel K H (rs ++ Fr) ∧ WpS K pr σ Fr (dS T x e) D
def tSs (x : Ss) : TS := fun D σ H => ∃ e rs Fr, Sl σ e rs ∧ Rel K H (rs ++ Fr) ∧ WpS K pr σ Fr (dSs T x e) D
end
theorem impS {X : Cx} {st : Stmt} {t t' : TS} (h : PS X st t) (i : ∀ D σ H, t' D σ H → t D σ H) : PS X st t' :=
  ⟨fun a b c d q j w => h.run a b c d q j (i _ _ _ w)⟩
theorem impSs {X : Cx} {st : List Stmt} {t t' : TS} (h : PSs X st t) (i : ∀ D σ H, t' D σ H → t D σ H) : PSs X st t' :=
  ⟨fun a b c d q j w => h.run a b c d q j (i _ _ _ w)⟩
section
variable {X : Cx} {T : Tab} {pr : List Nat} {nm : Nm} {k : Nat} {pos : Pos} {ea eb eg : Expr} {a b : E} {st : Stmt} {sts : List Stmt} {x : S} {xs ys : Ss} {tg : Tg}
theorem wd_s {K : PySem.W.Frag} {σ : L2.St} {Fr : Rt} {D : Ends} : Wd fun r => WpS K pr σ Fr r D := ⟨id, fun _ _ => id⟩
/-- from a later state on -/
theorem WpS.from {K : PySem.W.Frag} {σ σ' : L2.St} {Fr : Rt} {r : R Fl} {D : Ends} (kp : Keep pr σ σ') (w : WpS K pr σ Fr r D) : WpS K pr σ' Fr r D := by
  cases r with
  | ok f e =>
    cases f with
    | nx => exact fun s H rs q => w s H rs (kp.tr q)
    | bk => exact fun s H rs q => w s H rs (kp.tr q)
    | ct => exact fun s H rs q => w s H rs (kp.tr q)
    | rt d => exact fun v s H rs q => w v s H rs (kp.tr q)
  | ex _ _ => exact w
  | no => exact w
/-- with another end where it goes on -/
theorem WpS.nx {K : PySem.W.Frag} {σ : L2.St} {Fr : Rt} {r : R Fl} {D D' : Ends} (w : WpS K pr σ Fr r D) (h1 : ∀ v H, D.rt v H → D'.rt v H) (h2 : ∀ s H, D.bk s H → D'.bk s H) (h3 : ∀ s H, D.ct s H → D'.ct s H)
    (h : ∀ e, r = .ok .nx e → ∀ σ' H rs, Keep pr σ σ' → Sl σ' e rs → Rel K H (rs ++ Fr) → D'.nx σ' H) : WpS K pr σ Fr r D' := by
  cases r with
  | ok f e =>
    cases f with
    | nx => exact h e rfl
    | bk => exact fun s H rs q p u => h2 _ _ (w s H rs q p u)
    | ct => exact fun s H rs q p u => h3 _ _ (w s H rs q p u)
    | rt d => exact fun v s H rs q p u => h1 _ _ (w v s H rs q p u)
  | ex _ _ => exact w
  | no => exact w
theorem zss_nil : PSs X [] (tSs X.K T pr .nil) := impSs pss_nil fun D σ H ⟨e, rs, Fr, s, h, w⟩ => by
  rw [dSs] at w
  exact w σ H rs .rfl s h
theorem seq_i {D : Ends} {σ : L2.St} {H : Hp} (g : tSs X.K T pr (.cons x xs) D σ H) : tS X.K T pr x { D with nx := tSs X.K T pr xs D } σ H := by
  obtain ⟨e, rs, Fr, s, h, w⟩ := g
  rw [dSs] at w
  refine ⟨e, rs, Fr, s, h, ?_⟩
  cases hr : dS T x e with
  | ok f e1 =>
    rw [hr] at w
    cases f with
    | nx => exact fun σ' H' rs' kp s' h' => ⟨e1, rs', Fr, s', h', w.from kp⟩
    | bk => exact w
    | ct => exact w
    | rt d => exact w
  | ex _ _ => rw [hr] at w; exact w
  | no => rw [hr] at w; exact w
theorem zss_cons (h1 : PS X st (tS X.K T pr x)) (h2 : PSs X sts (tSs X.K T pr xs)) : PSs X (st :: sts) (tSs X.K T pr (.cons x xs)) :=
  impSs (pss_cons h1 h2) fun D σ H g => seq_i g
theorem zs_pass : PS X (.Pass pos) (tS X.K T pr .pass) := impS ps_pass fun D σ H ⟨e, rs, Fr, s, h, w⟩ => by
  rw [dS] at w
  exact w σ H rs .rfl s h
theorem zs_brk : PS X (.Break pos) (tS X.K T pr .brk) := impS ps_break fun D σ H ⟨e, rs, Fr, s, h, w⟩ => by
  rw [dS] at w
  exact w σ H rs .rfl s h
theorem zs_cnt : PS X (.Continue pos) (tS X.K T pr .cnt) := impS ps_continue fun D σ H ⟨e, rs, Fr, s, h, w⟩ => by
  rw [dS] at w
  exact w σ H rs .rfl s h
theorem zs_retN : PS X (.Return none pos) (tS X.K T pr .retN) := impS ps_retN fun D σ H ⟨e, rs, Fr, s, h, w⟩ => by
  rw [dS] at w
  exact w _ σ H rs .rfl s h.addN
theorem zs_ret (ha : PE X ea (tE X.K T a)) : PS X (.Return (some ea) pos) (tS X.K T pr (.ret a)) := impS (ps_ret ha) fun D σ H ⟨e, rs, Fr, s, h, w⟩ => by
  rw [dS] at w
  exact use wd_s w s h fun d e1 v H1 rs1 _ w1 s1 h1 => w1 v σ H1 rs1 .rfl s1 h1
theorem zs_ex (ha : PE X ea (tE X.K T a)) (hs : swapsWith ea none pos.line X.env = pure false) : PS X (.Expr ea pos) (tS X.K T pr (.ex a)) := impS (ps_expr ha hs) fun D σ H ⟨e, rs, Fr, s, h, w⟩ => by
  rw [dS] at w
  exact use wd_s w s h fun d e1 v H1 rs1 _ w1 s1 h1 => w1 σ H1 rs1 .rfl s1 h1.tail
theorem zs_ite {ec : Expr} {t : Te} {s1 s2 : List Stmt} (hc : PT X ec (tT X.K T t)) (ha : PSs X s1 (tSs X.K T pr xs)) (hb : PSs X s2 (tSs X.K T pr ys)) : PS X (.If ec s1 s2 pos) (tS X.K T pr (.ite t xs ys)) :=
  impS (ps_if hc ha hb) fun D σ H ⟨e, rs, Fr, s, h, w⟩ => by
    rw [dS] at w
    refine useT wd_s w s h fun c e1 H1 rs1 _ w1 s1 h1 => ?_
    cases c with
    | true => exact ⟨e1, rs1, Fr, s1, h1, w1⟩
    | false => exact ⟨e1, rs1, Fr, s1, h1, w1⟩
/-! ### stores -/
theorem as_i {D : Ends} {σ : L2.St} {H : Hp} (hp : ∀ i ∈ tg.slots, i ∉ pr) (g : tS X.K T pr (.as tg a) D σ H) : tAsg (tE X.K T a) (tG X.K tg) D σ H := by
  obtain ⟨e, rs, Fr, s, h, w⟩ := g
  rw [dS] at w
  refine use wd_s w s h fun d e1 v H1 rs1 _ w1 s1 h1 => ?_
  cases ht : setT tg d e1 with
  | none => rw [ht] at w1; exact w1.elim
  | some e2 =>
    rw [ht] at w1
    exact ⟨e1, rs1, Fr, d, e2, s1, h1, ht, fun σ' H' r' x' s' h' => w1 σ' H' r' (x'.keep hp) s' h'⟩
theorem zs_as (hp : ∀ i ∈ tg.slots, i ∉ pr) (ha : PE X ea (tE X.K T a)) (hg : PG X eg (tG X.K tg)) (hs : swapsWithSole [eg] ea pos.line X.env = pure false) (hw : swappedStores [eg] ea X.env = pure none) (hq : plainE eg = true) :
    PS X (.Assign [eg] ea pos) (tS X.K T pr (.as tg a)) :=
  impS (ps_asg ha hg hs hw (assign_cons hq)) fun D σ H g => as_i hp g
theorem g_name {K : PySem.W.Frag} {i : Nat} {v : V} {σ : L2.St} {H : Hp} {Q : L2.St → Hp → Prop} (g : tG K (.n i) v σ H Q) : gName i v σ H Q := by
  obtain ⟨e, rs, Fr, d, e', s, h, w, q⟩ := g
  rw [setT] at w
  split at w
  · rename_i hl
    cases w
    obtain ⟨r1, s1, h1⟩ := Rel.store s h hl
    exact q _ H r1 (by rw [Tg.slots]; exact .set) s1 h1
  · cases w
theorem zs_set {i : Nat} {y : Str} {p : Pos} (hN : X.N.Nodup) (hi : X.N[i]? = some y) (hx : Loc X.env.scope y) (hf : X.fn y = true ∨ X.env.scope.names.lookup y = some .local) (hp : i ∉ pr) (ha : PE X ea (tE X.K T a)) (hs : swapsWith ea (some (.Name y p)) pos.line X.env = pure false) :
    PS X (.Assign [.Name y p] ea pos) (tS X.K T pr (.as (.n i) a)) :=
  impS (ps_set hN hi hx ha hs hf) fun D σ H g => by
    obtain ⟨e, rs, Fr, s, h, w⟩ := as_i (by simpa [Tg.slots] using hp) g
    refine ⟨e, rs, Fr, s, h, ?_⟩
    cases hr : dE T a e with
    | ok d e1 =>
      rw [hr] at w
      exact fun v H rs s h => g_name (w v H rs s h)
    | ex _ _ => rw [hr] at w; exact w
    | no => rw [hr] at w; exact w
/-- name = [..] on its own row -/
theorem zs_lc {i : Nat} {y : Str} {p cp : Pos} {elt tgE iter : Expr} {ifs : List Expr} {scope : Scope} {own : List (Str × Nat)} {it : It} {cs : Tes} (hc : X.calm = true) (hN : X.N.Nodup) (hi : X.N[i]? = some y) (hyl : X.env.scope.names.lookup y = some .local) (hp : i ∉ pr)
    (hsw : swapsWith (.ListComp elt [⟨tgE, iter, ifs, 0⟩] scope cp) (some (.Name y p)) pos.line X.env = pure true) (hI : PI X tgE iter (tIc X.K T it)) (ok : BlkOk X.N X.env.scope scope own)
    (hg : ∀ (s : Shared) (H : Hp) (C : Addr) (cl : List (Str × Addr)) (fp : List Addr), PG (X.blk s H scope (compEnvC scope cl C X.env) fp) tgE (tG X.K tg)) (ht : ∀ (s : Shared) (H : Hp) (C : Addr) (cl : List (Str × Addr)) (fp : List Addr), PTs (X.blk s H scope (compEnvC scope cl C X.env) fp) ifs (tTs X.K T cs))
    (he : ∀ (s : Shared) (H : Hp) (C : Addr) (cl : List (Str × Addr)) (fp : List Addr), PE (X.blk s H scope (compEnvC scope cl C X.env) fp) elt (tE X.K T a)) (hs : ∀ x, foldedSetIterable iter X.env x = pure x) (nd : (own.map (·.2)).Nodup) (hsl : ∀ i ∈ tg.slots, i ∈ own.map (·.2)) :
    PS X (.Assign [.Name y p] (.ListComp elt [⟨tgE, iter, ifs, 0⟩] scope cp) pos) (tS X.K T pr (.as (.n i) (.lc (own.map (·.2)) tg it cs a))) :=
  impS (ps_setLc hc hN hi hyl hsw hI ok hg ht he hs) fun D σ H g => by
    obtain ⟨e, rs, Fr, s, h, w⟩ := as_i (by simpa [Tg.slots] using hp) g
    refine lc_i nd hsl ⟨e, rs, Fr, s, h, ?_⟩
    cases hr : dE T (.lc (own.map (·.2)) tg it cs a) e with
    | ok d e1 =>
      rw [hr] at w
      exact fun v H rs s h => g_name (w v H rs s h)
    | ex _ _ => rw [hr] at w; exact w
    | no => rw [hr] at w; exact w
theorem z_lc {cp : Pos} {elt tgE iter : Expr} {ifs : List Expr} {scope : Scope} {own : List (Str × Nat)} {it : It} {cs : Tes} (hc : X.calm = true) (hN : X.N.Nodup) (hI : PI X tgE iter (tIc X.K T it)) (ok : BlkOk X.N X.env.scope scope own)
    (hg : ∀ (s : Shared) (H : Hp) (C : Addr) (cl : List (Str × Addr)) (fp : List Addr), PG (X.blk s H scope (compEnvC scope cl C X.env) fp) tgE (tG X.K tg)) (ht : ∀ (s : Shared) (H : Hp) (C : Addr) (cl : List (Str × Addr)) (fp : List Addr), PTs (X.blk s H scope (compEnvC scope cl C X.env) fp) ifs (tTs X.K T cs))
    (he : ∀ (s : Shared) (H : Hp) (C : Addr) (cl : List (Str × Addr)) (fp : List Addr), PE (X.blk s H scope (compEnvC scope cl C X.env) fp) elt (tE X.K T a)) (hs : ∀ x, foldedSetIterable iter X.env x = pure x) (nd : (own.map (·.2)).Nodup) (hsl : ∀ i ∈ tg.slots, i ∈ own.map (·.2)) :
    PE X (.ListComp elt [⟨tgE, iter, ifs, 0⟩] scope cp) (tE X.K T (.lc (own.map (·.2)) tg it cs a)) :=
  imp (pe_lc hc hN hI ok hg ht he hs) fun σ H Q g => lc_i nd hsl g
/-- name op= e, whole numbers -/
theorem aug_ok {o : Operator} (ho : o = .Add ∨ o = .Sub) : ∃ f : Int → Int → Int, PIp X o (ipI f) ∧ ∀ d y z, augD o d y = some z → ∃ i j, d = .int i ∧ y = .int j ∧ z = .int (f i j) := by
  rcases ho with rfl | rfl
  · refine ⟨_, ip_add, fun d y z h => ?_⟩
    cases d <;> cases y <;> first | cases h | skip
    exact ⟨_, _, rfl, rfl, rfl⟩
  · refine ⟨_, ip_sub, fun d y z h => ?_⟩
    cases d <;> cases y <;> first | cases h | skip
    exact ⟨_, _, rfl, rfl, rfl⟩
theorem zs_aug {i : Nat} {y : Str} {p : Pos} {o : Operator} (ho : o = .Add ∨ o = .Sub) (hN : X.N.Nodup) (hi : X.N[i]? = some y) (hx : Loc X.env.scope y) (hf : X.fn y = true ∨ X.env.scope.names.lookup y = some .local) (hp : i ∉ pr) (ha : PE X ea (tE X.K T a)) :
    PS X (.AugAssign (.Name y p) o ea pos) (tS X.K T pr (.aug i o a)) := by
  obtain ⟨f, h1, h2⟩ := aug_ok (X := X) ho
  refine impS (ps_aug hN hi hx ha h1 hf) fun D σ H ⟨e, rs, Fr, s, h, w⟩ => ?_
  rw [dS] at w
  cases hd : rd i e with
  | none => rw [hd] at w; exact w.elim
  | some d =>
    rw [hd] at w
    obtain ⟨v, r0, g, pm, _⟩ := s.get hd
    refine ⟨v, g, use wd_s w s h fun u e1 v1 H1 rs1 _ w1 s1 h1 => ?_⟩
    cases hz : augD o d u with
    | none => rw [hz] at w1; exact w1.elim
    | some z =>
      rw [hz] at w1
      obtain ⟨m, n, rfl, rfl, rfl⟩ := h2 _ _ _ hz
      obtain rfl := (h.left pm).int
      obtain rfl := h1.int
      have hl : i < e1.length := by
        rw [← s1.len]
        exact (List.getElem?_eq_some_iff.mp g).1
      obtain ⟨r2, s2, h3⟩ := Rel.store (v := .int (f m n)) (d := .int (f m n)) s1 h1.tail.addI hl
      exact ⟨m, n, rfl, rfl, w1 _ H1 r2 (.set hp) s2 h3⟩
end
end Z

set_option Elab.async false
set_option linter.all false
set_option autoImplicit false
set_option maxRecDepth 100000
set_option maxHeartbeats 2000000
/-! Z13: for, while, items stored, append, pop, several targets. -/
namespace Z
open PySem PySem.Spec PyProof.Rows L2
variable [Tbs]
theorem bind_bind {α β γ : Type} {r : R α} {f : α → Ev → R β} {g : β → Ev → R γ} : (r.bind f).bind g = r.bind fun a e => (f a e).bind g := by cases r <;> rfl
section
variable {X : Cx} {T : Tab} {pr : List Nat} {nm : Nm} {k : Nat} {pos : Pos} {ea eb eg : Expr} {a b : E} {st : Stmt} {sts : List Stmt} {x : S} {xs ys : Ss} {tg : Tg} {it : It}
theorem for_i {D : Ends} {σ : L2.St} {H : Hp} (hp : ∀ i ∈ tg.slots, i ∉ pr) (g : tS X.K T pr (.fr tg it xs) D σ H) : tFor (tI X.K T it) (tG X.K tg) (tSs X.K T pr xs) D σ H := by
  obtain ⟨e, rs, Fr, s, h, w⟩ := g
  rw [dS] at w
  refine ⟨e, rs, Fr, s, h, ?_⟩
  cases hr : dI T it e with
  | ex _ _ => rw [hr] at w; exact w.elim
  | no => rw [hr] at w; exact w.elim
  | ok ds e1 =>
    rw [hr] at w
    simp only [R.bind] at w
    intro J H1 rs1 src s1 h1 wk
    generalize hres : frL tg (dSs T xs) ds e1 = res at w
    let Pv : Nat → L2.St → Hp → Prop := fun i σ' H' => i ≤ ds.length ∧ Keep pr σ σ' ∧ ∃ e rs, Sl σ' e rs ∧ Rel X.K H' (src ++ (rs ++ Fr)) ∧ frL tg (dSs T xs) (ds.drop i) e = res
    refine ⟨fun i m σ' H' => m = ds.length - i ∧ Pv i σ' H', ⟨ds.length, by omega, Nat.zero_le _, .rfl, e1, rs1, s1, h1, hres⟩, ?_⟩
    rintro i m σ2 H2 ⟨rfl, hi, kp, e2, r2, s2, h2, el⟩
    by_cases hlt : i < ds.length
    · refine .inr ⟨wk.goes i H2 _ hlt h2, Pv (i + 1), fun σ' H' hN => ⟨_, by have := hN.1; omega, rfl, hN⟩, fun y H3 hy => ?_⟩
      have h3 := wk.yields i H2 y H3 _ h2 hy _ (List.getElem?_eq_getElem hlt)
      rw [← List.getElem_cons_drop hlt, frL] at el
      cases hs : setT tg ds[i] e2 with
      | none => rw [hs] at el; subst el; exact w.elim
      | some e3 =>
        rw [hs] at el
        dsimp only at el
        refine ⟨e2, r2, src ++ Fr, ds[i], e3, s2, h3.perm (.cons _ swap3), hs, fun σ3 H4 r4 xq s4 h4 => ?_⟩
        have kp3 : Keep pr σ σ3 := kp.tr (xq.keep hp)
        refine ⟨e3, r4, src ++ Fr, s4, h4, ?_⟩
        have again : ∀ {e4 : Ev}, frL tg (dSs T xs) (ds.drop (i + 1)) e4 = res → ∀ σ' H' rs, Keep pr σ3 σ' → Sl σ' e4 rs → Rel X.K H' (rs ++ (src ++ Fr)) → Pv (i + 1) σ' H' :=
          fun el σ' H' rs kp' s' h' => ⟨hlt, kp3.tr kp', _, rs, s', h'.perm swap3, el⟩
        cases hb : dSs T xs e3 with
        | ex _ _ => rw [hb] at el; subst el; exact w.elim
        | no => rw [hb] at el; subst el; exact w.elim
        | ok f e4 =>
          rw [hb] at el
          cases f with
          | nx => exact again el
          | ct => exact again el
          | bk =>
            dsimp only at el
            subst el
            exact fun σ' H' rs kp' s' h' => w σ' H' rs (kp3.tr kp') s' (Rel.cut (a := src) (h'.perm swap3))
          | rt d =>
            dsimp only at el
            subst el
            exact fun v σ' H' rs kp' s' h' => w v σ' H' rs (kp3.tr kp') s' (Rel.cut (a := src) (h'.perm ((List.Perm.cons _ swap3).trans List.perm_middle.symm)))
    · have e : i = ds.length := by omega
      subst e
      rw [List.drop_length, frL] at el
      subst el
      exact .inl ⟨wk.stops H2 _ h2, w σ2 H2 r2 kp s2 h2.cut⟩
theorem zs_for (hc : X.calm = true) (hpo : PassesOwn (model X.prog X.w) X.A X.env X.xe) (hp : ∀ i ∈ tg.slots, i ∉ pr) (hI : PI X eg ea (tI X.K T it)) (hg : PG X eg (tG X.K tg)) (hb : PSs X sts (tSs X.K T pr xs)) (hs : ∀ x, foldedSetIterable ea X.env x = pure x) :
    PS X (.For eg ea sts [] pos) (tS X.K T pr (.fr tg it xs)) := impS (ps_for hpo hc hI hg hb hs) fun D σ H g => for_i hp g
theorem wh_i {D : Ends} {σ : L2.St} {H : Hp} {t : Te} (g : tS X.K T pr (.wh t xs) D σ H) : tWhile (tT X.K T t) (tSs X.K T pr xs) D σ H := by
  obtain ⟨e, rs, Fr, s, h, w⟩ := g
  rw [dS] at w
  generalize hres : whL (dT T t) (dSs T xs) big e = res at w
  refine ⟨fun m σ' H' => Keep pr σ σ' ∧ ∃ e rs, Sl σ' e rs ∧ Rel X.K H' (rs ++ Fr) ∧ whL (dT T t) (dSs T xs) m e = res, ⟨big, .rfl, e, rs, s, h, hres⟩, ?_⟩
  rintro m σ2 H2 ⟨kp, e2, r2, s2, h2, el⟩
  cases m with
  | zero =>
    rw [whL] at el
    subst el
    exact w.elim
  | succ m =>
    rw [whL] at el
    refine ⟨e2, r2, Fr, s2, h2, ?_⟩
    cases hc : dT T t e2 with
    | ex _ _ => rw [hc] at el; simp only [R.bind] at el; subst el; exact w.elim
    | no => rw [hc] at el; simp only [R.bind] at el; subst el; exact w.elim
    | ok c e3 =>
      rw [hc] at el
      simp only [R.bind] at el
      intro H3 r3 s3 h3
      cases c with
      | false =>
        rw [if_neg Bool.false_ne_true]
        dsimp only at el
        subst el
        exact w σ2 H3 r3 kp s3 h3
      | true =>
        rw [if_pos rfl]
        dsimp only at el
        refine ⟨fun σ' H' => Keep pr σ σ' ∧ ∃ e rs, Sl σ' e rs ∧ Rel X.K H' (rs ++ Fr) ∧ whL (dT T t) (dSs T xs) m e = res, fun σ' H' q => ⟨m, Nat.lt_succ_self _, q⟩, e3, r3, Fr, s3, h3, ?_⟩
        cases hb : dSs T xs e3 with
        | ex _ _ => rw [hb] at el; subst el; exact w.elim
        | no => rw [hb] at el; subst el; exact w.elim
        | ok f e4 =>
          rw [hb] at el
          cases f with
          | nx => exact fun σ' H' rs kp' s' h' => ⟨kp.tr kp', _, rs, s', h', el⟩
          | ct => exact fun σ' H' rs kp' s' h' => ⟨kp.tr kp', _, rs, s', h', el⟩
          | bk =>
            dsimp only at el
            subst el
            exact fun σ' H' rs kp' s' h' => w σ' H' rs (kp.tr kp') s' h'
          | rt d =>
            dsimp only at el
            subst el
            exact fun v σ' H' rs kp' s' h' => w v σ' H' rs (kp.tr kp') s' h'
theorem zs_wh {t : Te} (hpo : PassesOwn (model X.prog X.w) X.A X.env X.xe) (hc : PT X ea (tT X.K T t)) (hb : PSs X sts (tSs X.K T pr xs)) : PS X (.While ea sts [] pos) (tS X.K T pr (.wh t xs)) :=
  impS (ps_while hpo hc hb) fun D σ H g => wh_i g

/-! ### items of an own list -/
theorem Rel.own {K : PySem.W.Frag} {H : Hp} {rs : Rt} {v : V} {ds : List D} (h : Rel K H ((v, .lst true ds) :: rs)) : ∃ a vs, v = .ref a ∧ H a = some (.lst vs) ∧ vs.length = ds.length := by
  obtain ⟨p, vs, rfl, g1, g2, _⟩ := h.open
  exact ⟨p, vs, rfl, g1, g2⟩
/-- an own list's content exchanged: the new items' roots stand beside it -/
theorem Rel.swapL {K : PySem.W.Frag} {H : Hp} {rs : Rt} {a : Addr} {vs vs' : List V} {ds' : List D} (hv : H a = some (.lst vs)) (l : vs'.length = ds'.length)
    (h : ∃ Hk f g, Sub Hk H ∧ OwL K H Hk vs' ds' f ∧ OwR K H Hk rs g ∧ (a :: (f ++ g)).Nodup ∧ ∀ b ∈ a :: (f ++ g), Hk b = none) : Rel K (upd H a (.lst vs')) ((.ref a, .lst true ds') :: rs) := by
  obtain ⟨Hk, f, g, s, h1, h2, n, k⟩ := h
  have na : ∀ b ∈ f ++ g, b ≠ a := fun b hb z => (List.nodup_cons.mp n).1 (z ▸ hb)
  refine ⟨Hk, (a :: f) ++ g, fun b o e => ?_, .cons (.lst upd_same (h1.sub Sub.rfl fun b z => upd_ne (na b (List.mem_append_left _ z)))) (h2.sub Sub.rfl fun b z => upd_ne (na b (List.mem_append_right _ z))), n, k⟩
  have hb : b ≠ a := by
    rintro rfl
    rw [k b (by simp)] at e
    cases e
  rw [upd_ne hb]
  exact s b o e
theorem OwL.set' {K : PySem.W.Frag} {H Hk : Hp} : ∀ {vs : List V} {ds : List D} {f : List Addr} {n : Nat} {v : V} {d : D} {q : List Addr}, OwL K H Hk vs ds f → n < vs.length → Ow K H Hk v d q → ∃ f' dr, OwL K H Hk (vs.set n v) (ds.set n d) f' ∧ (dr ++ f').Perm (q ++ f)
  | _, _, _, _, _, _, _, .nil, hn, _ => absurd hn (Nat.not_lt_zero _)
  | _, _, _, 0, v, d, q, .cons (f := f) (g := g) h r, _, o => ⟨q ++ g, f, .cons o r, swap3⟩
  | _, _, _, n + 1, v, d, q, .cons (f := f) (g := g) h r, hn, o => by
    obtain ⟨f', dr, h1, h2⟩ := r.set' (Nat.lt_of_succ_lt_succ hn) o
    refine ⟨f ++ f', dr, .cons h h1, swap3.trans ?_⟩
    exact (List.Perm.append_left f h2).trans swap3
theorem Rel.setItem {K : PySem.W.Frag} {H : Hp} {rs : Rt} {v : V} {d : D} {a : Addr} {ds : List D} {n : Nat} (hn : n < ds.length) (h : Rel K H ((v, d) :: (.ref a, .lst true ds) :: rs)) :
    ∃ vs, H a = some (.lst vs) ∧ vs.length = ds.length ∧ Rel K (upd H a (.lst (vs.set n v))) ((.ref a, .lst true (ds.set n d)) :: rs) := by
  obtain ⟨Hk, fp, s, q, nd, k⟩ := h
  cases q with
  | @cons _ _ f _ _ g1 q =>
    cases q with
    | @cons _ _ _ _ r g2 q =>
      cases g2 with
      | sh z => cases z
      | @lst _ vs _ g h1 h2 =>
        refine ⟨vs, h1, h2.len, Rel.swapL h1 (by simp [h2.len]) ?_⟩
        obtain ⟨f', dr, h3, h4⟩ := h2.set' (by rw [h2.len]; exact hn) g1
        have pm : (f ++ (a :: g ++ r)).Perm (dr ++ (a :: (f' ++ r))) := by
          classical
          rw [List.perm_iff_count]
          intro z
          have c := h4.count_eq z
          simp only [List.count_append, List.count_cons] at c ⊢
          omega
        have nd2 := pm.nodup nd
        exact ⟨Hk, f', r, s, h3, q, (List.nodup_append.mp nd2).2.1, fun b z => k b (pm.symm.subset (List.mem_append_right _ z))⟩
theorem OwL.del {K : PySem.W.Frag} {H Hk : Hp} : ∀ {vs : List V} {ds : List D} {f : List Addr} {n : Nat} {d : D}, OwL K H Hk vs ds f → ds[n]? = some d → ∃ v q f', vs[n]? = some v ∧ Ow K H Hk v d q ∧ OwL K H Hk (vs.eraseIdx n) (ds.eraseIdx n) f' ∧ (q ++ f').Perm f
  | _, _, _, _, _, .nil, h => by simp at h
  | _, _, _, 0, _, .cons (v := v) (f := f) (g := g) h r, e => by
    cases e
    exact ⟨v, f, g, rfl, h, r, .refl _⟩
  | _, _, _, n + 1, _, .cons (f := f) (g := g) h r, e => by
    obtain ⟨v, q, f', h1, h2, h3, h4⟩ := r.del (n := n) (by simpa using e)
    exact ⟨v, q, f ++ f', by simpa using h1, h2, .cons h h3, swap3.trans (List.Perm.append_left f h4)⟩
theorem Rel.popItem {K : PySem.W.Frag} {H : Hp} {rs : Rt} {d : D} {a : Addr} {ds : List D} {n : Nat} (hd : ds[n]? = some d) (h : Rel K H ((.ref a, .lst true ds) :: rs)) :
    ∃ vs v, H a = some (.lst vs) ∧ vs.length = ds.length ∧ vs[n]? = some v ∧ Rel K (upd H a (.lst (vs.eraseIdx n))) ((v, d) :: (.ref a, .lst true (ds.eraseIdx n)) :: rs) := by
  obtain ⟨Hk, fp, s, q, nd, k⟩ := h
  cases q with
  | @cons _ _ _ _ r g2 q =>
    cases g2 with
    | sh z => cases z
    | @lst _ vs _ g h1 h2 =>
      obtain ⟨v, p, f', h3, h4, h5, h6⟩ := h2.del hd
      refine ⟨vs, v, h1, h2.len, h3, ?_⟩
      have pm : (a :: g ++ r).Perm (a :: (f' ++ (p ++ r))) := by
        classical
        rw [List.perm_iff_count]
        intro z
        have c := h6.count_eq z
        simp only [List.count_append, List.count_cons] at c ⊢
        omega
      have h7 : Rel K (upd H a (.lst (vs.eraseIdx n))) ((.ref a, .lst true (ds.eraseIdx n)) :: (v, d) :: rs) :=
        Rel.swapL h1 h5.len ⟨Hk, f', p ++ r, s, h5, .cons h4 q, pm.nodup nd, fun b z => k b (pm.symm.subset z)⟩
      exact two h7
theorem zs_sset {i : Nat} {y : Str} {p p2 : Pos} (hN : X.N[i]? = some y) (hv : Vis X.env.scope y) (h1 : (y == ("__debug__" : Str)) = false) (h2 : (y == ("__classdict__" : Str)) = false) (ha : PE X ea (tE X.K T a)) (hb : PE X eb (tE X.K T b))
    (hs : swapsWithSole [.Subscript (.Name y p) eb p2] ea pos.line X.env = pure false) (hw : swappedStores [.Subscript (.Name y p) eb p2] ea X.env = pure none) (hg : ∀ v, assign (.Subscript (.Name y p) eb p2) X.env v = (do
      let ov ← holding [v] (eval (.Name y p) X.env)
      let iv ← holding [v, ov] (eval eb X.env)
      standAt p2
      holding [v, ov, iv] (setItem ov iv v)
      release [v, ov, iv] [])) :
    PS X (.Assign [.Subscript (.Name y p) eb p2] ea pos) (tS X.K T pr (.sset i b a)) :=
  impS (ps_asg ha (pg_sub (pe_var hN hv h1 h2) hb set_list hg) hs hw (assign_cons rfl)) fun D σ H ⟨e, rs, Fr, s, h, w⟩ => by
    rw [dS] at w
    refine use wd_s w s h fun d e1 v H1 rs1 _ w1 s1 g1 => ?_
    cases hd : rd i e1 with
    | none => rw [hd] at w1; exact w1.elim
    | some d0 =>
      rw [hd] at w1
      obtain ⟨o, _, go, _⟩ := s1.get hd
      refine ⟨o, go, ?_⟩
      refine use wd_s w1 s1 g1.mid fun kd e2 u H2 rs2 _ w2 s2 g2 => ?_
      cases hr : rd i e2 with
      | none => rw [hr] at w2; cases kd <;> exact w2.elim
      | some d2 =>
        rw [hr] at w2
        obtain ⟨o', r0, go', pm, p1, _⟩ := s2.get hr
        rw [go] at go'
        cases go'
        cases d2 with
        | lst ow ds =>
          cases ow with
          | true =>
            cases kd with
            | int j =>
              dsimp only at w2
              cases hx : ixN ds.length j with
              | none => rw [hx] at w2; exact w2.elim
              | some n =>
                rw [hx] at w2
                have hn : n < ds.length := (ixN_seq hx).2.1
                obtain rfl := g2.int
                have g3 : Rel X.K H2 ((v, d) :: (o, .lst true ds) :: (r0 ++ Fr)) := by
                  refine g2.tail.perm ?_
                  classical
                  rw [List.perm_iff_count]
                  intro z
                  have c := pm.count_eq z
                  simp only [List.count_append, List.count_cons] at c ⊢
                  omega
                obtain ⟨a0, vs0, rfl, _⟩ := (two g3).own
                obtain ⟨vs, k1, k2, k3⟩ := Rel.setItem hn g3
                obtain ⟨r1, s3, q1⟩ := p1 (.lst true (ds.set n d))
                exact ⟨a0, vs, j, n, rfl, rfl, k1, by rw [k2]; exact hx, w2 σ _ r1 .rfl s3 (k3.perm (q1.symm.append_right Fr))⟩
            | _ => exact w2.elim
          | false => exact w2.elim
        | _ => exact w2.elim
/-- an item's place, in the other words -/
theorem tyv_list {K : PySem.W.Frag} {H : Hp} {a : Addr} {vs : List V} (h : H a = some (.lst vs)) : tyV K "list" (.ref a) H := .inl ⟨rfl, vs, .inl (.inl h)⟩
theorem isL_i {β : Type} {W : R β → Prop} {o : Option D} {r : R β} (n : Wd W) (w : W (match o.map isL with | some true => r | _ => .no)) : ∃ ds, o = some (.lst true ds) ∧ W r := by
  cases o with
  | none => exact (n.no w).elim
  | some d =>
    cases d with
    | lst ow ds =>
      cases ow with
      | true => exact ⟨ds, rfl, w⟩
      | false => exact (n.no w).elim
    | _ => exact (n.no w).elim
theorem few1 {e : Expr} {env : Env} {cp : Pos} (h : plainE e = true) : ((backTo cp (starEach [e] env)).all (fun x => !x.1) && (backToKw cp (keywordEach [] env)).all (fun x => x.1.isSome)
    && decide ([e].length + ([] : List Keyword).length + (if ([] : List Keyword).isEmpty then 0 else 1) < 30)) = true := by
  rw [star_cons h]
  rfl
theorem zs_ap {i : Nat} {y : Str} {p ap cp : Pos} (hN : X.N[i]? = some y) (hv : Vis X.env.scope y) (h1 : (y == ("__debug__" : Str)) = false) (h2 : (y == ("__classdict__" : Str)) = false) (hq : plainE ea = true) (ha : PE X ea (tE X.K T a))
    (hline : (ap.endLine == cp.line) = true) : PS X (.Expr (.Call (.Attribute (.Name y p) "append" ap) [ea] [] cp) pos) (tS X.K T pr (.ap i a)) := by
  have pb := pe_bm (X := X) (cpos := cp) (apos := ap) PySem.F.plainAttrs_list PySem.F.slot_list_append PySem.F.type_list_append mt_append (pe_var hN hv h1 h2 (pos := p)) (pa_cons ha pa_nil (star_cons hq)) rfl (few1 hq) hline (star_cons hq) rfl
  refine impS (ps_expr pb rfl) fun D σ H ⟨e, rs, Fr, s, h, w⟩ => ?_
  rw [dS] at w
  obtain ⟨ds0, hd, w⟩ := isL_i wd_s w
  · obtain ⟨o, r9, go, pm9, _⟩ := s.get hd
    obtain ⟨a0, vs0, rfl, ha0, _⟩ := (h.left pm9).own
    refine ⟨.ref a0, go, tyv_list ha0, ?_⟩
    refine use wd_s w s h fun d e2 v H2 rs2 _ w2 s2 g2 => ?_
    cases hr : rd i e2 with
    | none => rw [hr] at w2; exact w2.elim
    | some d2 =>
      rw [hr] at w2
      obtain ⟨o', r0, go', pm, p1, _⟩ := s2.get hr
      rw [go] at go'
      cases go'
      cases d2 with
      | lst ow ds =>
        cases ow with
        | true =>
          dsimp only at w2
          split at w2
          · rename_i hz
            have g3 : Rel X.K H2 ((v, d) :: (.ref a0, .lst true ds) :: (r0 ++ Fr)) := by
              refine g2.perm (.cons _ ?_)
              exact pm.append_right Fr
            obtain ⟨vs, k1, k2, k3⟩ := Rel.push g3
            obtain ⟨r1, s3, q1⟩ := p1 (.lst true (ds ++ [d]))
            have hb : big < sizeLine := by decide
            exact ⟨a0, vs, v, rfl, rfl, k1, by omega, w2 σ _ r1 .rfl s3 (k3.perm (q1.symm.append_right Fr))⟩
          · exact w2.elim
        | false => exact w2.elim
      | _ => exact w2.elim
/-! ### pop -/
theorem pop_end {K : PySem.W.Frag} {σ : L2.St} {H : Hp} {rs Fr : Rt} {e : Ev} {Q : VK} {i n : Nat} {ds : List D} {d : D} {a : Addr} (s : Sl σ e rs) (h : Rel K H (rs ++ Fr)) (hr : rd i e = some (.lst true ds)) (hd : ds[n]? = some d) (go : σ[i]? = some (some (.ref a)))
    (w : Wp K σ Fr (.ok d (e.set i (some (.lst true (ds.eraseIdx n))))) Q) : ∃ vs v, H a = some (.lst vs) ∧ vs.length = ds.length ∧ vs[n]? = some v ∧ Q v (upd H a (.lst (vs.eraseIdx n))) := by
  obtain ⟨o', r0, go', pm, p1, _⟩ := s.get hr
  rw [go] at go'
  cases go'
  obtain ⟨vs, v, k1, k2, k3, k4⟩ := Rel.popItem hd (h.left pm)
  obtain ⟨r1, s1, q1⟩ := p1 (.lst true (ds.eraseIdx n))
  refine ⟨vs, v, k1, k2, k3, w v _ r1 s1 (k4.perm (.cons _ ?_))⟩
  exact (q1.append_right Fr).symm
theorem z_pop0 {i : Nat} {y : Str} {p ap cp : Pos} (hN : X.N[i]? = some y) (hv : Vis X.env.scope y) (h1 : (y == ("__debug__" : Str)) = false) (h2 : (y == ("__classdict__" : Str)) = false) (hline : (ap.endLine == cp.line) = true) :
    PE X (.Call (.Attribute (.Name y p) "pop" ap) [] [] cp) (tE X.K T (.pop i .no)) := by
  refine imp (pe_bm0 (apos := ap) PySem.F.plainAttrs_list PySem.F.slot_list_pop PySem.F.type_list_pop mt_pop (pe_var hN hv h1 h2 (pos := p)) rfl hline) fun σ H Q ⟨e, rs, Fr, s, h, w⟩ => ?_
  rw [dE] at w
  obtain ⟨ds0, hd, w⟩ := isL_i wd_p w
  obtain ⟨o, r9, go, pm9, _⟩ := s.get hd
  obtain ⟨a0, vs0, rfl, ha0, _⟩ := (h.left pm9).own
  refine ⟨.ref a0, go, tyv_list ha0, ?_⟩
  rw [dO] at w
  simp only [R.bind] at w
  rw [hd] at w
  dsimp only at w
  split at w
  · rename_i n hn
    split at w
    · rename_i d hg
      obtain ⟨vs, v, k1, k2, k3, q⟩ := pop_end s h hd hg go w
      have hn2 : n = ds0.length - 1 := by
        split at hn
        · simp only [Option.getD_none, ixN] at hn
          rw [if_neg (by omega)] at hn
          split at hn
          · cases hn; omega
          · cases hn
        · cases hn
      subst hn2
      rw [← k2] at k3 q
      rw [List.eraseIdx_length_sub_one] at q
      exact ⟨a0, vs, v, rfl, rfl, k1, k3, q⟩
    · exact w.elim
  · exact w.elim
theorem z_popAt {i : Nat} {y : Str} {p ap cp : Pos} (hN : X.N[i]? = some y) (hv : Vis X.env.scope y) (h1 : (y == ("__debug__" : Str)) = false) (h2 : (y == ("__classdict__" : Str)) = false) (hq : plainE ea = true) (ha : PE X ea (tE X.K T a)) (hline : (ap.endLine == cp.line) = true) :
    PE X (.Call (.Attribute (.Name y p) "pop" ap) [ea] [] cp) (tE X.K T (.pop i (.e a))) := by
  refine imp (pe_bm (apos := ap) PySem.F.plainAttrs_list PySem.F.slot_list_pop PySem.F.type_list_pop mt_popAt (pe_var hN hv h1 h2 (pos := p)) (pa_cons ha pa_nil (star_cons hq)) rfl (few1 hq) hline (star_cons hq) rfl) fun σ H Q ⟨e, rs, Fr, s, h, w⟩ => ?_
  rw [dE] at w
  obtain ⟨ds0, hd, w⟩ := isL_i wd_p w
  obtain ⟨o, r9, go, pm9, _⟩ := s.get hd
  obtain ⟨a0, vs0, rfl, ha0, _⟩ := (h.left pm9).own
  refine ⟨.ref a0, go, tyv_list ha0, ?_⟩
  rw [dO, bind_bind] at w
  refine use wd_p w s h fun d e2 v H2 rs2 _ w2 s2 g2 => ?_
  cases d with
  | int j =>
    obtain rfl := g2.int
    simp only [R.bind] at w2
    cases hr : rd i e2 with
    | none => rw [hr] at w2; exact w2.elim
    | some d2 =>
      rw [hr] at w2
      cases d2 with
      | lst ow ds =>
        cases ow with
        | true =>
          dsimp only at w2
          split at w2
          · rename_i n hn
            split at w2
            · rename_i d hg
              obtain ⟨vs, v, k1, k2, k3, q⟩ := pop_end s2 g2.tail hr hg go w2
              split at hn
              · rename_i hz
                obtain ⟨z1, z2, z3, z4⟩ := ixN_seq hn
                have hb : big = 1000000 := rfl
                exact ⟨a0, vs, j, n, v, rfl, rfl, k1, by simp only [Option.getD_some] at z3; omega, by simp only [Option.getD_some] at z4; omega, by rw [k2]; exact z1, k3, q⟩
              · cases hn
            · exact w2.elim
          · exact w2.elim
        | false => exact w2.elim
      | _ => exact w2.elim
  | _ => exact w2.elim
end
section
variable {X : Cx} {T : Tab} {nm : Nm} {k : Nat} {pos p : Pos} {ea eb : Expr} {es : List Expr} {a b : E} {r : Es}
/-! ### a call by keywords alone -/
theorem impK {X : Cx} {ks : List Keyword} {t t' : TA} (h : PK X ks t) (i : ∀ σ H Q, t' σ H Q → t σ H Q) : PK X ks t' :=
  ⟨fun p a b c d q j w => h.run p a b c d q j (i _ _ _ w)⟩
theorem zk_nil : PK X [] (tA X.K T .nil) := impK pk_nil fun σ H Q ⟨e, rs, Fr, s, h, w⟩ => w [] H rs [] s .nil h
theorem zk_raw {kw : Option Str} {kpos : Pos} {kws : List Keyword} (ha : PE X ea (tE X.K T a)) (hr : PK X kws (tA X.K T r)) : PK X (⟨kw, ea, kpos⟩ :: kws) (tA X.K T (.raw a r)) := by
  refine impK (pk_cons ha hr) fun σ H Q ⟨e, rs, Fr, s, h, w⟩ => ?_
  rw [dEs] at w
  refine use wd_a w s h fun d e1 v H1 rs1 _ w1 s1 h1 => ?_
  refine useA wd_a w1 s1 h1.mid fun xs e2 vs H2 rs2 as _ w2 s2 g h2 => ?_
  refine w2 _ H2 rs2 _ s2 (.own g) ?_
  exact h2.mid2
theorem reo_zip {α β : Type} (ix : List Nat) : ∀ {a : List α} {b : List β}, a.length = b.length → (reo ix a).length = (reo ix b).length ∧ (reo ix a).zip (reo ix b) = reo ix (a.zip b) := by
  intro a b h
  induction ix with
  | nil => exact ⟨rfl, rfl⟩
  | cons j ix ih =>
    by_cases hj : j < a.length
    · have h1 : a[j]? = some a[j] := List.getElem?_eq_getElem hj
      have h2 : b[j]? = some (b[j]'(h ▸ hj)) := List.getElem?_eq_getElem _
      have h3 : (a.zip b)[j]? = some (a[j], b[j]'(h ▸ hj)) := by rw [List.getElem?_eq_getElem (by simp; omega)]; simp
      simp only [reo, List.filterMap_cons, h1, h2, h3] at ih ⊢
      exact ⟨by simp [ih.1], by rw [List.zip_cons_cons, ih.2]⟩
    · have h1 : a[j]? = none := List.getElem?_eq_none (by omega)
      have h2 : b[j]? = none := List.getElem?_eq_none (by omega)
      have h3 : (a.zip b)[j]? = none := List.getElem?_eq_none (by simp; omega)
      simp only [reo, List.filterMap_cons, h1, h2, h3] at ih ⊢
      exact ih
theorem Rel.pick {K : PySem.W.Frag} {H : Hp} {as Fr : Rt} (f : ∀ x ∈ as, frz x.2 = x.2) (h : Rel K H (as ++ Fr)) (ix : List Nat) : Rel K H (reo ix as ++ Fr) := by
  have go : Rel K H (reo ix as ++ (as ++ Fr)) := by
    induction ix with
    | nil => exact h
    | cons j ix ih =>
      unfold reo at ih ⊢
      rw [List.filterMap_cons]
      cases hj : as[j]? with
      | none => exact ih
      | some x =>
        have hm := List.mem_of_getElem? hj
        have hf := f x hm
        obtain ⟨a1, a2, rfl⟩ := List.append_of_mem hm
        have p1 : (List.filterMap (fun j => (a1 ++ x :: a2)[j]?) ix ++ (a1 ++ x :: a2 ++ Fr)).Perm (x :: (List.filterMap (fun j => (a1 ++ x :: a2)[j]?) ix ++ (a1 ++ a2 ++ Fr))) := by
          classical
          rw [List.perm_iff_count]
          intro z
          simp only [List.count_append, List.count_cons]
          omega
        have h2 := (ih.perm p1).dup hf
        exact h2.perm (.cons _ p1.symm)
  have := go.perm (show (reo ix as ++ (as ++ Fr)).Perm (as ++ (reo ix as ++ Fr)) from swap3)
  exact this.cut
theorem fnk_i {i : Nat} {n : Nat} {ix : List Nat} {m : Nat} {σ : L2.St} {H : Hp} {Q : VK} (hl : r.len = m) (hn : ∀ l : List V, l.length = m → (reo ix l).length = n) (g : tE X.K T (.fnk i ix r) σ H Q) :
    tCallK (fun vs H Q E => vs.length = n ∧ spD X.K (T i) vs H Q E) (kg ix m) E0 tNil (tA X.K T r) σ H Q := by
  obtain ⟨e, rs, Fr, s, h, w⟩ := g
  rw [dE] at w
  refine useA wd_p w s h fun xs e1 vs H1 rs1 as he w1 s1 g h1 => ?_
  cases hx : args1 xs with
  | none => rw [hx] at w1; exact w1.elim
  | some l =>
    rw [hx] at w1
    dsimp only at w1
    obtain ⟨l1, rfl⟩ := g.all hx
    have lm : l.length = m := by rw [args_len hx, dEs_len he, hl]
    have h2 := h1.frozL l1
    have hz := reo_zip ix (a := vs) (b := l.map fz) (by rw [l1, List.length_map])
    have h3 : Rel X.K H1 ((reo ix vs).zip (reo ix (l.map fz)) ++ (rs1 ++ Fr)) := by
      rw [hz.2]
      refine Rel.pick (fun x hx => ?_) h2 ix
      obtain ⟨y, _, hy⟩ := List.mem_map.mp (List.of_mem_zip hx).2
      rw [← hy]
      exact fz_frz y
    have hk : kg ix m [] vs = reo ix vs := by
      unfold kg
      rw [if_pos (by simp [l1, lm])]
    show _ ∧ spD X.K (T i) _ _ _ _
    rw [hk]
    refine ⟨hn vs (by rw [l1, lm]), reo ix (l.map fz), rs1 ++ Fr, hz.1, h3, ?_⟩
    cases hT : T i (reo ix (l.map fz)) with
    | ok d ps =>
      rw [hT] at w1
      exact fun v H' rs _ hr => w1 v H' rs1 s1 (by
        have q : Rel X.K H' (rs ++ ((v, d) :: (rs1 ++ Fr))) := hr.mid
        exact q.cut)
    | ex _ _ => rw [hT] at w1; exact w1.elim
    | no => rw [hT] at w1; exact w1.elim
def kwNames : List Keyword → Option (List Str)
  | [] => some []
  | ⟨some x, _, _⟩ :: r => (kwNames r).map fun l => x :: l
  | _ => none
theorem kw_ok {env : Env} : ∀ {kws : List Keyword} {ks : List Str}, kwNames kws = some ks → (backToKw pos (keywordEach kws env)).filterMap (·.1) = ks ∧ (backToKw pos (keywordEach kws env)).all (·.1.isSome) = true ∧ (backToKw pos (keywordEach kws env)).any (·.1.isNone) = false
  | [], ks, h => by
    cases h
    exact ⟨rfl, rfl, rfl⟩
  | ⟨some x, e, q⟩ :: r, ks, h => by
    obtain ⟨l, hl, rfl⟩ := map_ok h
    obtain ⟨h1, h2, h3⟩ := kw_ok (env := env) hl
    have hb : backToKw pos (keywordEach (⟨some x, e, q⟩ :: r) env) = (some x, (do let v ← eval e env; standAt pos; pure v)) :: backToKw pos (keywordEach r env) := rfl
    rw [hb]
    exact ⟨by rw [List.filterMap_cons]; simp [h1], by simpa using h2, by simpa using h3⟩
  | ⟨none, _, _⟩ :: _, _, h => by cases h
theorem z_fnk (G : Gd X T nm k) {i : Nat} {x : Str} {n : Nat} {ps ks : List Str} {kk : List (List Str)} {kws : List Keyword} (hi : nm.fn[i]? = some ⟨x, n, ps, kk⟩) (hks : ks ∈ kk) (hl : r.len = ks.length) (hin : ∀ j ∈ ixOf ks ps, j < ks.length) (hg : Gl X x) (hd : (x == ("__debug__" : Str)) = false)
    (hn : kwNames kws = some ks) (hk : PK X kws (tA X.K T r)) : PE X (.Call (.Name x p) [] kws pos) (tE X.K T (.fnk i (ixOf ks ps) r)) := by
  obtain ⟨f, fd, hl', hkb, hm, hk', hb, F⟩ := G.fn i x n ps kk hi
  obtain ⟨n1, n2, n3⟩ := kw_ok (pos := pos) (env := X.env) hn
  have q : PE X (.Call (.Name x p) [] kws pos) (tCallK (fun vs H Q E => vs.length = n ∧ spD X.K (T i) vs H Q E) (kg (ixOf ks ps) ks.length) E0 tNil (tA X.K T r)) := by
    refine ⟨fun pins s σ H Q I h => ?_⟩
    refine wpAny_Call_Name_kw (ld_glob I hg hm ?_ hd)
    refine PySem.W.callWith_KW0 (h₀ := X.base) I.ok.mod.kin hk' n2 (thn (hk.run pos pins s σ H _ I h) fun ws s2 ⟨zs, H2, I2, rz, q2⟩ => ⟨I2.kIn, ?_⟩) (by rw [n3]; rfl)
    rw [n1]
    exact run_fnk F G.room (hkb ks hks) pass0 I2 .nil rz q2
  refine imp q fun σ H Q g => fnk_i hl (fun l hl2 => ?_) g
  have : ∀ ix : List Nat, (∀ j ∈ ix, j < l.length) → (reo ix l).length = ix.length := by
    intro ix
    induction ix with
    | nil => exact fun _ => rfl
    | cons j ix ih =>
      intro hj
      unfold reo at ih ⊢
      rw [List.filterMap_cons, List.getElem?_eq_getElem (hj j (.head _))]
      simp [ih fun j h => hj j (.tail _ h)]
  rw [this _ (by rw [hl2]; exact hin), ← hl']
  simp [ixOf]
end
end Z

set_option Elab.async false
set_option linter.all false
set_option autoImplicit false
set_option maxRecDepth 100000
set_option maxHeartbeats 4000000
/-! Y4: own exceptions in the small language: made, asked for a field, for their class. -/
namespace Z
open PySem PySem.Spec PyProof.Rows L2 Y
variable [Tbs]
/-! ### new objects under a root -/
section
variable {K : PySem.W.Frag} {H H' : Hp} {rs : Rt} {a dx C : Addr} {c f : Str} {v : V} {d : D}
theorem Rel.newOb (h : Rel K H rs) (hc : Cls K c C) (na : H a = none) (ha : H' a = some (exo a C none)) (off : ∀ b, b ≠ a → H' b = H b) : Rel K H' ((.ref a, .ob c) :: rs) := by
  obtain ⟨Hk, fp, s, o, n, k⟩ := h
  have ka : Hk a = none := by
    cases e : Hk a with
    | none => rfl
    | some x => rw [s a x e] at na; cases na
  have s1 : Sub Hk (upd Hk a (exo a C none)) := fun b x e => by rw [upd_ne (ne_of_none e ka)]; exact e
  have apart : ∀ b ∈ fp, b ≠ a := fun b hb z => by
    obtain ⟨x, e⟩ := o.there b hb
    rw [z, na] at e
    cases e
  refine ⟨upd Hk a (exo a C none), [] ++ fp, fun b x e => ?_, .cons (.sh (.ob hc upd_same)) (o.sub s1 fun b hb => off b (apart b hb)), n, fun b hb => by rw [upd_ne (apart b hb)]; exact k b hb⟩
  by_cases hb : b = a
  · subst hb
    rw [upd_same] at e
    rw [ha]
    exact e
  · rw [upd_ne hb] at e
    rw [off b hb]
    exact s b x e
theorem Rel.newObf (h : Rel K H ((v, d) :: rs)) (fr : frz d = d) (hc : Cls K c C) (na : H a = none) (nd : H dx = none) (ne : dx ≠ a) (ha : H' a = some (exo a C (some dx))) (hd : H' dx = some (exd dx [(f, v)])) (off : ∀ b, b ≠ a → b ≠ dx → H' b = H b) : Rel K H' ((.ref a, .obf c f d) :: rs) := by
  obtain ⟨Hk, fp, s, o, n, k⟩ := h
  cases o with
  | @cons _ _ f1 _ f2 hv o =>
    obtain ⟨rfl, sv⟩ := hv.shared fr
    have no : ∀ {b : Addr}, H b = none → Hk b = none := fun {b} z => by
      cases e : Hk b with
      | none => rfl
      | some x => rw [s b x e] at z; cases z
    have ka := no na
    have kd := no nd
    let Hn : Hp := upd (upd Hk dx (exd dx [(f, v)])) a (exo a C (some dx))
    have s1 : Sub Hk Hn := fun b x e => by
      show upd (upd Hk dx (exd dx [(f, v)])) a (exo a C (some dx)) b = _
      rw [upd_ne (ne_of_none e ka), upd_ne (ne_of_none e kd)]
      exact e
    have apart : ∀ b ∈ f2, b ≠ a ∧ b ≠ dx := fun b hb => by
      obtain ⟨x, e⟩ := o.there b hb
      exact ⟨fun z => (by rw [z, na] at e; cases e), fun z => (by rw [z, nd] at e; cases e)⟩
    have nA : Hn a = some (exo a C (some dx)) := upd_same
    have nD : Hn dx = some (exd dx [(f, v)]) := by
      show upd (upd Hk dx (exd dx [(f, v)])) a (exo a C (some dx)) dx = _
      rw [upd_ne ne, upd_same]
    refine ⟨Hn, [] ++ f2, fun b x e => ?_, .cons (.sh (.obf hc nA nD (sv.sub s1))) (o.sub s1 fun b hb => off b (apart b hb).1 (apart b hb).2), n, fun b hb => ?_⟩
    · by_cases hb : b = a
      · subst hb
        rw [nA] at e
        rw [ha]
        exact e
      · by_cases hb2 : b = dx
        · subst hb2
          rw [nD] at e
          rw [hd]
          exact e
        · rw [off b hb hb2]
          refine s b x ?_
          have q : upd (upd Hk dx (exd dx [(f, v)])) a (exo a C (some dx)) b = some x := e
          rw [upd_ne hb, upd_ne hb2] at q
          exact q
    · have q := apart b hb
      show upd (upd Hk dx (exd dx [(f, v)])) a (exo a C (some dx)) b = none
      rw [upd_ne q.1, upd_ne q.2]
      exact k b hb
end
/-! ### C(..) -/
def tMkV (C : Addr) (sp : Sp) (ta : TA) : TE := fun σ H Q => ta σ H fun vs H1 => vs.length ≤ 1000 ∧ ∀ a, H1 a = none → sp (.ref a :: vs) (upd H1 a (exo a C none)) (fun v H2 => v = .non ∧ Q (.ref a) H2) E0
section
variable {X : Cx} {T : Tab} {nm : Nm} {k j : Nat} {pos p : Pos} {ea e : Expr} {es : List Expr} {a : E} {r : Es} {B newId initId : String} {tl : List Value} {C fI : Addr} {fd : FuncData} {ps : List Str} {sp : Sp} {x : Str} {t : TA}
theorem pe_mkv (b : Bs X.K B newId initId tl) (Tc : Xc X.K C newId tl) (iC : PySem.W.findIn X.K (.ref C) "__init__" = some (some (.ref fI))) (tI : PySem.W.typeIn X.K (.ref fI) = some (.type "function")) (F : FnOk X.prog X.w X.K X.mg X.base CX0 j fI fd ps sp) (hr : Room (j + 1) X.A)
    (hb : Binds X.K fd ps []) (hg : Gl X x) (hm : X.mg x = some (.ref C)) (hd : (x == ("__debug__" : Str)) = false) (ha : PA X (e :: es) t) (he : starEach (e :: es) X.env = (false, eval e X.env) :: starEach es X.env) (hpl : (backTo pos (starEach es X.env)).any (·.1) = false) :
    PE X (.Call (.Name x p) (e :: es) [] pos) (tMkV C sp t) := by
  refine ⟨fun pins s σ H Q I h => ?_⟩
  refine wpAny_Call_Name_kw (ld_glob I hg hm ?_ hd)
  refine PySem.W.callWith_K (h₀ := X.base) I.ok.mod.kin Tc.kp (thn (ha.run pos pins s σ H _ I h) fun us s1 ⟨vs, H1, I1, r1, hl, q1⟩ => ⟨I1.kIn, ?_⟩) he hpl
  exact make_ok b Tc iC tI F hr hb I1 r1 hl q1
theorem pe_mkv0 (b : Bs X.K B newId initId tl) (Tc : Xc X.K C newId tl) (iC : PySem.W.findIn X.K (.ref C) "__init__" = some (some (.ref fI))) (tI : PySem.W.typeIn X.K (.ref fI) = some (.type "function")) (F : FnOk X.prog X.w X.K X.mg X.base CX0 j fI fd ps sp) (hr : Room (j + 1) X.A)
    (hb : Binds X.K fd ps []) (hg : Gl X x) (hm : X.mg x = some (.ref C)) (hd : (x == ("__debug__" : Str)) = false) : PE X (.Call (.Name x p) [] [] pos) (tMkV C sp tNil) := by
  refine ⟨fun pins s σ H Q I h => ?_⟩
  refine wpAny_Call_Name_kw (ld_glob I hg hm ?_ hd)
  exact PySem.W.callWith_K0 I.kIn Tc.kp (make_ok (us := []) b Tc iC tI F hr hb I .nil h.1 h.2)
theorem z_mk0 (G : Gd X T nm k) {y : Xn} (hy : y ∈ nm.xs) (hf : y.f = none) (hx : y.c = x) (hg : Gl X x) (hd : (x == ("__debug__" : Str)) = false) : PE X (.Call (.Name x p) [] [] pos) (tE X.K T (.mk x none .nil)) := by
  subst hx
  obtain ⟨C, fI, B, newId, initId, tl, fd, hc, hm, b, Tc, iC, tI, _, _, _, q⟩ := (G.xc y hy).ex
  rw [hf] at q
  refine imp (pe_mkv0 b Tc iC tI q.1 (G.room.mono (by omega)) q.2 hg hm hd) fun σ H Q ⟨e, rs, Fr, s, h, w⟩ => ⟨by simp, fun a na => ?_⟩
  rw [dE, dEs] at w
  refine ⟨a, C, rfl, Tc, upd_same, rfl, w (.ref a) _ rs s ?_⟩
  exact h.newOb hc na upd_same fun b hb => upd_ne hb
theorem z_mk1 (G : Gd X T nm k) {y : Xn} {f : Str} (hy : y ∈ nm.xs) (hf : y.f = some f) (hx : y.c = x) (hg : Gl X x) (hd : (x == ("__debug__" : Str)) = false) (hp : plainE ea = true) (ha : PA X [ea] (tA X.K T r)) : PE X (.Call (.Name x p) [ea] [] pos) (tE X.K T (.mk x (some f) r)) := by
  subst hx
  obtain ⟨C, fI, B, newId, initId, tl, fd, hc, hm, b, Tc, iC, tI, _, _, _, q⟩ := (G.xc y hy).ex
  rw [hf] at q
  obtain ⟨nof, F, hb, _⟩ := q
  refine imp (pe_mkv b Tc iC tI F (G.room.mono (by omega)) hb hg hm hd ha (star_cons hp) rfl) fun σ H Q ⟨e, rs, Fr, s, h, w⟩ => ?_
  rw [dE] at w
  refine useA wd_p w s h fun xs e1 vs H1 rs1 as _ w1 s1 g h1 => ?_
  cases hl : args1 xs with
  | none => rw [hl] at w1; exact w1.elim
  | some l =>
    rw [hl] at w1
    obtain ⟨l1, rfl⟩ := g.all hl
    cases l with
    | nil => exact w1.elim
    | cons d l =>
      cases l with
      | cons _ _ => exact w1.elim
      | nil =>
        obtain ⟨v, rfl⟩ := Z.l1 l1
        have h2 : Rel X.K H1 ((v, fz d) :: (rs1 ++ Fr)) := by
          rw [fz_eq]
          exact Rel.froz (show Rel X.K H1 ((v, d) :: (rs1 ++ Fr)) from h1)
        refine ⟨by simp, fun a na => ⟨a, C, v, rfl, Tc, nof, upd_same, fun dx hdx ne => ⟨rfl, w1 (.ref a) _ rs1 s1 ?_⟩⟩⟩
        rw [upd_ne ne] at hdx
        exact h2.newObf (fz_frz d) hc na hdx ne upd_same (by rw [upd_ne ne, upd_same]) fun b hb hb2 => by rw [upd_ne hb, upd_ne hb2, upd_ne hb]
/-- by keyword -/
def tMkK (C : Addr) (sp : Sp) (t : TA) : TE := fun σ H Q => t σ H fun vs H1 => ∃ v, vs = [v] ∧ ∀ a, H1 a = none → sp [.ref a, v] (upd H1 a (exo a C none)) (fun v H2 => v = .non ∧ Q (.ref a) H2) E0
theorem pe_mkk {prm : Str} {kpos : Pos} (b : Bs X.K B newId initId tl) (Tc : Xc X.K C newId tl) (iC : PySem.W.findIn X.K (.ref C) "__init__" = some (some (.ref fI))) (tI : PySem.W.typeIn X.K (.ref fI) = some (.type "function")) (F : FnOk X.prog X.w X.K X.mg X.base CX0 j fI fd ["self", prm] sp) (hr : Room (j + 1) X.A)
    (hb : ∀ z u : Value, bindArgs fd ⟨[z], [(prm, u)]⟩ = pure [(("self" : Str), z), (prm, u)]) (hg : Gl X x) (hm : X.mg x = some (.ref C)) (hd : (x == ("__debug__" : Str)) = false) (hk : PK X [⟨some prm, e, kpos⟩] t) : PE X (.Call (.Name x p) [] [⟨some prm, e, kpos⟩] pos) (tMkK C sp t) := by
  refine ⟨fun pins s σ H Q I h => ?_⟩
  refine wpAny_Call_Name_kw (ld_glob I hg hm ?_ hd)
  refine PySem.W.callWith_KW0 (h₀ := X.base) I.ok.mod.kin Tc.kp rfl (thn (hk.run pos pins s σ H _ I h) fun us s1 ⟨vs, H1, I1, r1, v, ev, q1⟩ => ⟨I1.kIn, ?_⟩) rfl
  subst ev
  cases r1 with
  | cons rv rr =>
    cases rr
    exact make_kw b Tc iC tI F hr (fun z => hb z _) I1 rv q1
theorem z_mkk (G : Gd X T nm k) {y : Xn} {f : Str} {kpos : Pos} (hy : y ∈ nm.xs) (hf : y.f = some f) (hx : y.c = x) (hg : Gl X x) (hd : (x == ("__debug__" : Str)) = false) (ha : PE X ea (tE X.K T a)) : PE X (.Call (.Name x p) [] [⟨some y.prm, ea, kpos⟩] pos) (tE X.K T (.mk x (some f) (.raw a .nil))) := by
  subst hx
  obtain ⟨C, fI, B, newId, initId, tl, fd, hc, hm, b, Tc, iC, tI, _, _, _, q⟩ := (G.xc y hy).ex
  rw [hf] at q
  obtain ⟨nof, F, hb, hkb⟩ := q
  refine imp (pe_mkk b Tc iC tI F (G.room.mono (by omega)) hkb hg hm hd (zk_raw ha zk_nil)) fun σ H Q ⟨e, rs, Fr, s, h, w⟩ => ?_
  rw [dE] at w
  refine useA wd_p w s h fun xs e1 vs H1 rs1 as _ w1 s1 g h1 => ?_
  cases hl : args1 xs with
  | none => rw [hl] at w1; exact w1.elim
  | some l =>
    rw [hl] at w1
    obtain ⟨l1, rfl⟩ := g.all hl
    cases l with
    | nil => exact w1.elim
    | cons d l =>
      cases l with
      | cons _ _ => exact w1.elim
      | nil =>
        obtain ⟨v, rfl⟩ := Z.l1 l1
        have h2 : Rel X.K H1 ((v, fz d) :: (rs1 ++ Fr)) := by
          rw [fz_eq]
          exact Rel.froz (show Rel X.K H1 ((v, d) :: (rs1 ++ Fr)) from h1)
        refine ⟨v, rfl, fun a na => ⟨a, C, v, rfl, Tc, nof, upd_same, fun dx hdx ne => ⟨rfl, w1 (.ref a) _ rs1 s1 ?_⟩⟩⟩
        rw [upd_ne ne] at hdx
        exact h2.newObf (fz_frz d) hc na hdx ne upd_same (by rw [upd_ne ne, upd_same]) fun b hb hb2 => by rw [upd_ne hb, upd_ne hb2, upd_ne hb]
end
/-! ### fields, classes -/
section
variable {K : PySem.W.Frag} {H : Hp} {rs : Rt} {v : V} {c f : Str} {d : D}
theorem Rel.obf (h : Rel K H ((v, .obf c f d) :: rs)) : ∃ a C dx u, v = .ref a ∧ Cls K c C ∧ H a = some (exo a C (some dx)) ∧ H dx = some (exd dx [(f, u)]) ∧ Rel K H ((u, d) :: rs) := by
  obtain ⟨Hk, fp, s, o, n, k⟩ := h
  cases o with
  | cons w o =>
    cases w with
    | sh w =>
      cases w with
      | obf h1 h2 h3 h4 => exact ⟨_, _, _, _, rfl, h1, s _ _ h2, s _ _ h3, Hk, _, s, .cons (.sh h4) o, n, k⟩
theorem Rel.ob (h : Rel K H ((v, .ob c) :: rs)) : ∃ a C, v = .ref a ∧ Cls K c C ∧ H a = some (exo a C none) := by
  obtain ⟨Hk, fp, s, o, n, k⟩ := h
  cases o with
  | cons w o =>
    cases w with
    | sh w =>
      cases w with
      | ob h1 h2 => exact ⟨_, _, rfl, h1, s _ _ h2⟩
theorem Cls.uniq {C D : Addr} (h1 : Cls K c C) (h2 : Cls K c D) : C = D := by
  have := h1.symm.trans h2
  injection this with this
  injection this with this
  injection this
end
theorem len_one {α : Type} : ∀ {l : List α}, l.length = 1 → ∃ a, l = [a]
  | [a], _ => ⟨a, rfl⟩
def attrB : Expr → Bool
  | .Name _ _ => true
  | .Subscript _ _ _ => true
  | .Call _ (_ :: _) _ _ => true
  | .Call _ [] (_ :: _) _ => true
  | _ => false
theorem attr_ok {e : Expr} {f : Str} {env : Env} (h : attrB e = true) (w : Sem Value) : attributeBase e f env w = w := by
  cases e with
  | Name _ _ => rfl
  | Subscript _ _ _ => rfl
  | Call g as ks p =>
    cases as with
    | cons _ _ => cases g <;> rfl
    | nil =>
      cases ks with
      | cons _ _ => cases g <;> rfl
      | nil => cases h
  | _ => cases h
/-- e.f of an own exception -/
def tFld (K : PySem.W.Frag) (f : Str) (te : TE) : TE := fun σ H Q => te σ H fun x H1 => ∃ (a C dx : Addr) (v : V), x = .ref a ∧ L2.ExcC K C ∧ PySem.W.findIn K (.ref C) f = some none ∧ H1 a = some (exo a C (some dx)) ∧ H1 dx = some (exd dx [(f, v)]) ∧ Q v H1
/-- what isinstance is asked of an own exception -/
def rIsO (K : PySem.W.Frag) : List V → Hp → VK → Prop := fun xs H Q => ∃ (a C : Addr) (c : V) (u : Value) (b : Bool), xs = [.ref a, c] ∧ L2.ExcC K C ∧ (H a = some (exo a C none) ∨ ∃ dx fs, H a = some (exo a C (some dx)) ∧ H dx = some (exd dx fs)) ∧ (∀ z, RelV c z → z = u) ∧ PySem.W.kitOne K (.ref C) u = some b ∧ Q (.bl b) H
section
variable {X : Cx} {T : Tab} {nm : Nm} {k : Nat} {pos p p2 : Pos} {ea e : Expr} {a : E} {te : TE} {f x : Str}
theorem pe_fld (he : PE X e te) (hb : attrB e = true) : PE X (.Attribute e f pos) (tFld X.K f te) := by
  refine ⟨fun pins s σ H Q I h => ?_⟩
  refine attr_of (attr_ok hb _) (thn (he.run pins s σ H _ I h) fun u s1 ⟨x, H1, I1, rx, a, C, dx, v, ex, ec, nof, ea, ed, q⟩ => ?_)
  subst ex
  obtain rfl : u = Value.ref a := rx
  obtain ⟨t1, ho⟩ := exo_at I1.hok ea
  obtain ⟨mA, ns, rel⟩ := exd_at I1.hok ed
  obtain ⟨od, hod, look⟩ := lookIn_ns ns
  have q2 := rel f
  rw [show (([(f, v)] : List (Str × V)).lookup f) = some v by simp [List.lookup]] at q2
  cases hu : mA f with
  | none => rw [hu] at q2; exact q2.elim
  | some u =>
    rw [hu] at q2
    have J : PySem.W.InstAt s1.heap a _ C (some od) := ⟨ho, rfl, rfl, hod⟩
    exact PySem.HandSPX.exc_get I1.kIn J ec.hg ec.hk ec.hs (PySem.W.findObj_own ec.hd nof rfl (by rw [look, hu])) (handed_of q2) ⟨v, H1, I1.tok _, q2, q⟩
theorem cr_isO : CallR X (.builtin "isinstance") (rIsO X.K) := by
  intro pins s σ H xs us Q I r ⟨a, C, c, cv, b, ex, ec, ho, hc, hk, q⟩
  subst ex
  cases r with
  | cons rx rr =>
    cases rr with
    | cons rt rr =>
      cases rr
      cases rx
      have et := hc _ rt
      subst et
      have cl : (PySem.W.clsIn X.K C).isSome = true := by
        obtain ⟨cd, hcd, _⟩ := PySem.W.any_some ec.hd
        rw [hcd]
        rfl
      rcases ho with ho | ⟨dx, fs, ho, hd⟩
      · obtain ⟨t1, g⟩ := exo_at I.hok ho
        have J : PySem.W.InstAt s.heap a { cls := .ref C, dict := none, data := .fields #[.ref t1, .none, .none, .none, .bool false, .none] } C none := ⟨g, rfl, rfl, trivial⟩
        exact PySem.W.kia_one (PySem.W.kitx_exc cl ec.hg ec.hk ec.hs ec.ha ec.hn ec.ht ec.hm) I.kIn J hk (fun z => nomatch z) fun tk => ⟨.bl b, H, I.kept (t' := tk) fun _ _ z => z, rfl, q⟩
      · obtain ⟨t1, g⟩ := exo_at I.hok ho
        obtain ⟨mA, ns, rel⟩ := exd_at I.hok hd
        obtain ⟨od, hod, look⟩ := lookIn_ns ns
        have J : PySem.W.InstAt s.heap a { cls := .ref C, dict := some dx, data := .fields #[.ref t1, .none, .none, .none, .bool false, .none] } C (some od) := ⟨g, rfl, rfl, hod⟩
        exact PySem.W.kia_one (PySem.W.kitx_exc cl ec.hg ec.hk ec.hs ec.ha ec.hn ec.ht ec.hm) I.kIn J hk (fun z => nomatch z) fun tk => ⟨.bl b, H, I.kept (t' := tk) fun _ _ z => z, rfl, q⟩
theorem z_fld (G : Gd X T nm k) {cs : List Str} (hcs : ∀ c ∈ cs, ∃ y ∈ nm.xs, y.c = c ∧ y.f = some f) (ha : PE X ea (tE X.K T a)) (hb : attrB ea = true) : PE X (.Attribute ea f pos) (tE X.K T (.fld a f cs)) := by
  refine imp (pe_fld ha hb) fun σ H Q ⟨e, rs, Fr, s, h, w⟩ => ?_
  rw [dE] at w
  refine use wd_p w s h fun d e1 v H1 rs1 _ w1 s1 h1 => ?_
  have h2 : Rel X.K H1 ((v, fz d) :: (rs1 ++ Fr)) := by
    rw [fz_eq]
    exact h1.froz
  generalize fz d = z at h2 w1
  cases z with
  | obf c g d' =>
    dsimp only at w1
    split at w1
    · rename_i hq
      obtain ⟨hf, hm⟩ := hq
      obtain ⟨y, hy, hc, hyf⟩ := hcs c hm
      obtain ⟨a0, C, dx, u, rfl, k1, k2, k3, h3⟩ := h2.obf
      obtain ⟨C', fI, B, newId, initId, tl, fd, hc', _, _, _, _, _, ec, _, _, q⟩ := (G.xc y hy).ex
      rw [hc] at hc'
      obtain rfl := k1.uniq hc'
      rw [hyf] at q
      subst hf
      exact ⟨a0, C, dx, u, rfl, ec, q.1, k2, k3, w1 u H1 rs1 s1 h3⟩
    · exact w1.elim
  | _ => exact w1.elim
theorem z_isx (G : Gd X T nm k) {yes all : List Str} {y : Str} {c : V} {u : Value} (hx : x = "isinstance") (hg : Gl X x) (hp : plainE ea = true) (ha : PE X ea (tE X.K T a)) (hpe : PE X (.Name y p2) (tC c)) (hrel : ∀ z, RelV c z → z = u)
    (hk : ∀ c' ∈ all, ∀ C, Cls X.K c' C → L2.ExcC X.K C ∧ PySem.W.kitOne X.K (.ref C) u = some (decide (c' ∈ yes))) : PE X (.Call (.Name x p) [ea, .Name y p2] [] pos) (tE X.K T (.isx a yes all)) := by
  subst hx
  refine imp (pe_callB cr_isO hg (G.bt _ (by decide)) (by decide +kernel) (pa_cons ha (pa_cons hpe pa_nil rfl) (star_cons hp)) (by decide) (by decide) (star_cons hp) (star_none (by simp [hp, plainE]))) fun σ H Q ⟨e, rs, Fr, s, h, w⟩ => ?_
  rw [dE] at w
  refine use wd_p w s h fun d e1 v H1 rs1 _ w1 s1 h1 => ?_
  cases d with
  | ob cc =>
    dsimp only at w1
    split at w1
    · rename_i hm
      obtain ⟨a0, C, rfl, k1, k2⟩ := h1.ob
      obtain ⟨ec, ek⟩ := hk cc hm C k1
      exact ⟨a0, C, c, u, _, rfl, ec, .inl k2, hrel, ek, w1 _ H1 rs1 s1 h1.tail.addB⟩
    · exact w1.elim
  | obf cc g d' =>
    dsimp only at w1
    split at w1
    · rename_i hm
      have h2 := h1.froz
      rw [frz] at h2
      obtain ⟨a0, C, dx, u', rfl, k1, k2, k3, _⟩ := h2.obf
      obtain ⟨ec, ek⟩ := hk cc hm C k1
      exact ⟨a0, C, c, u, _, rfl, ec, .inr ⟨dx, _, k2, k3⟩, hrel, ek, w1 _ H1 rs1 s1 h1.tail.addB⟩
    · exact w1.elim
  | _ => exact w1.elim
/-- of an own class -/
theorem z_isC (G : Gd X T nm k) {y : Str} {z : Xn} (hx : x = "isinstance") (hg : Gl X x) (hp : plainE ea = true) (ha : PE X ea (tE X.K T a)) (hz : z ∈ nm.xs) (hzc : z.c = y) (hgy : Gl X y) (hdy : (y == ("__debug__" : Str)) = false) :
    PE X (.Call (.Name x p) [ea, .Name y p2] [] pos) (tE X.K T (.isx a [y] (nm.xs.map (·.c)))) := by
  obtain ⟨D, fI, B, newId, initId, tl, fd, hc, hm, _⟩ := (G.xc z hz).ex
  rw [hzc] at hc hm
  refine z_isx G hx hg hp ha (pe_glob (v := .ref D) (u := .ref D) hgy hm rfl hdy) (fun w r => r) fun c' hc' C hC => ?_
  obtain ⟨t, ht, rfl⟩ := List.mem_map.mp hc'
  obtain ⟨C', _, _, _, _, _, _, hc2, _, _, _, _, _, ec, kt, _⟩ := (G.xc t ht).ex
  obtain rfl := hC.uniq hc2
  refine ⟨ec, ?_⟩
  rw [kt z hz D (by rw [hzc]; exact hc), hzc]
  congr 1
  simp only [List.mem_singleton, decide_eq_decide]
  exact eq_comm
/-- of a built-in exception class -/
theorem z_isB (G : Gd X T nm k) {b : String} {y : Str} (hx : x = "isinstance") (hg : Gl X x) (hp : plainE ea = true) (ha : PE X ea (tE X.K T a)) (hb : b ∈ excNames) (hy : y = Str.ofString b) (hgy : Gl X y) :
    PE X (.Call (.Name x p) [ea, .Name y p2] [] pos) (tE X.K T (.isx a ((nm.xs.filter fun t => decide (b ∈ t.up)).map (·.c)) ((nm.xs.filter fun t => decide ((nm.xs.filter fun s => decide (s.c = t.c)).length = 1)).map (·.c)))) := by
  have hpe : PE X (.Name y p2) (tC (.ty b)) := by
    subst hy
    simp only [excNames, List.mem_cons, List.not_mem_nil, or_false] at hb
    rcases hb with rfl | rfl | rfl | rfl
    · exact pe_bltn hgy (G.bt _ (by decide)) (by decide +kernel) rfl (by decide) (by decide)
    · exact pe_bltn hgy (G.bt _ (by decide)) (by decide +kernel) rfl (by decide) (by decide)
    · exact pe_bltn hgy (G.bt _ (by decide)) (by decide +kernel) rfl (by decide) (by decide)
    · exact pe_bltn hgy (G.bt _ (by decide)) (by decide +kernel) rfl (by decide) (by decide)
  refine z_isx G hx hg hp ha hpe (fun w r => r) fun c' hc' C hC => ?_
  obtain ⟨t, ht, rfl⟩ := List.mem_map.mp hc'
  obtain ⟨ht, h1⟩ := List.mem_filter.mp ht
  obtain ⟨C', _, _, _, _, _, _, hc2, _, _, _, _, _, ec, _, kb, _⟩ := (G.xc t ht).ex
  obtain rfl := hC.uniq hc2
  refine ⟨ec, ?_⟩
  rw [kb b hb]
  congr 1
  simp only [decide_eq_decide, List.mem_map, List.mem_filter, decide_eq_true_eq]
  constructor
  · exact fun h => ⟨t, ⟨ht, h⟩, rfl⟩
  · rintro ⟨s, ⟨hs, h⟩, e⟩
    have h2 := of_decide_eq_true h1
    obtain ⟨q, hq⟩ := len_one h2
    have m1 : s ∈ nm.xs.filter fun s => decide (s.c = t.c) := List.mem_filter.mpr ⟨hs, by simpa using e⟩
    have m2 : t ∈ nm.xs.filter fun s => decide (s.c = t.c) := List.mem_filter.mpr ⟨ht, by simp⟩
    rw [hq] at m1 m2
    rw [List.mem_singleton.mp m2, ← List.mem_singleton.mp m1]
    exact h
end
end Z

set_option Elab.async false
set_option linter.all false
set_option autoImplicit false
set_option maxRecDepth 100000
set_option maxHeartbeats 2000000
/-! Z14: from the written text to the small language. -/
namespace Z
open PySem PySem.Spec PyProof.Rows L2

/-- a def of the table: its name, its parameters' names, which of them are lent -/
structure Dn where
  nm : Str
  ps : List Str
  lent : List Bool
  kws : List (List Str)
/-- where one stands: all names by slot, the defs, the scope that runs, the names whose cells are the block's own -/
structure Cc where
  N : List Str
  ds : List Dn
  xs : List Y.Xn
structure Sc where
  sc : Scope
  fn : Str → Bool
  gn : Bool
def visB (s : Sc) (x : Str) : Bool := (s.sc.names.lookup x == some .local || s.sc.names.lookup x == some .cell || s.sc.names.lookup x == some .free) && !(x == ("__debug__" : Str)) && !(x == ("__classdict__" : Str))
def locB (s : Sc) (x : Str) : Bool := (s.sc.names.lookup x == some .local || s.sc.names.lookup x == some .cell) && (s.fn x || s.sc.names.lookup x == some .local)
def gloB (s : Sc) (x : Str) : Bool := (s.sc.names.lookup x == some .globalImplicit) && !(x == ("__debug__" : Str))
def slot (N : List Str) (x : Str) : Option Nat := if N[N.idxOf x]? == some x then some (N.idxOf x) else none
def dnAt (ds : List Dn) (x : Str) : Option (Nat × Dn) := match ds.findIdx? fun d => d.nm == x with
  | some i => match ds[i]? with
    | some d => if d.nm == x then some (i, d) else none
    | none => none
  | none => none
def okBin : Operator → Bool
  | .Add | .Sub | .Mult | .FloorDiv | .Mod | .Pow => true
  | _ => false
def biOf2 (x : Str) : Option Bi := if x == "set" then some .set else if x == "sorted" then some .sorted else none
def biOf (x : Str) : Option Bi :=
  if x == "len" then some .len else if x == "abs" then some .abs else if x == "int" then some .int else if x == "sum" then some .sum else if x == "min" then some .min else if x == "max" then some .max
  else if x == "list" then some .list else if x == "tuple" then some .tuple else if x == "all" then some .all else if x == "any" then some .any else biOf2 x
def tyOfN (x : Str) : Option Ty :=
  if x == "bool" then some .bool else if x == "int" then some .int else if x == "str" then some .str else if x == "list" then some .list else if x == "tuple" then some .tuple else if x == "dict" then some .dict else none
def tyE (s : Sc) : Expr → Option Ty
  | .Name x _ => if gloB s x then tyOfN x else none
  | _ => none
def tysE (s : Sc) : List Expr → Option (List Ty)
  | [] => some []
  | e :: r => match tyE s e, tysE s r with
    | some t, some ts => some (t :: ts)
    | _, _ => none
def plainI : Expr → Bool
  | .Slice _ _ _ _ => false
  | _ => true
def plainF : Expr → Bool
  | .Set _ _ _ => false
  | _ => true
def nameE : Expr → Option Str
  | .Name x _ => some x
  | _ => none
def ownOf (N : List Str) (scope : Scope) : List (Str × Nat) := scope.names.filterMap fun p => if p.2 == .local || p.2 == .cell then (slot N p.1).map fun i => (p.1, i) else none
def genB : Expr → Bool
  | .GeneratorExp _ _ _ _ => true
  | _ => false
def plainG : Expr → Bool
  | .Set _ _ _ => false
  | .List _ _ => false
  | _ => true
/-- what a generator expression's names are to be -/
def genC (N : List Str) (sc scope : Scope) (own : List (Str × Nat)) : Bool :=
  (match scope.kind with | .function => true | _ => false) && !scope.isCoroutine && scope.names.all (fun y => scope.names.lookup y.1 == some y.2) && scope.names.all (fun y => !(y.2 == .cell)) && (scope.names.lookup (".0" : Str) == some .local) &&
  own.all (fun p => N[p.2]? == some p.1) && scope.names.all (fun y => !(y.2 == .free) || sc.names.lookup y.1 == some .cell || sc.names.lookup y.1 == some .free) && scope.names.all (fun y => !(y.2 == .local) || (own.map (·.1)).contains y.1 || !N.contains y.1)
mutual
  def cG (c : Cc) (s : Sc) : Nat → Expr → Option Tg
    | 0, _ => none
    | n + 1, .Name x _ => if locB s x then (slot c.N x).map .n else none
    | n + 1, .Tuple es _ _ => if es.all plainE then (cGs c s n es).map .t else none
    | _, _ => none
  def cGs (c : Cc) (s : Sc) : Nat → List Expr → Option Tgs
    | 0, _ => none
    | n + 1, [] => some .nil
    | n + 1, e :: r => match cG c s n e, cGs c s n r with
      | some t, some ts => some (.cons t ts)
      | _, _ => none
end

def xnAt (xs : List Y.Xn) (x : Str) : Option Y.Xn := xs.find? fun y => decide (y.c = x)
def exAt (y : Str) : Option String := Y.excNames.find? fun b => decide (Str.ofString b = y)
def boB : Expr → Bool
  | .BoolOp _ _ _ => true
  | _ => false
/-- where a test asks the value and nothing else, or a comparison -/
def tstB : Expr → Bool
  | .BoolOp _ _ _ => false
  | .UnaryOp .Not _ _ => false
  | .IfExp _ _ _ _ => false
  | _ => true
def cV (c : Cc) (s : Sc) (w : Bool) (e : Expr) (o : Option It) : Option It := match w, nameE e with
  | true, some x => if visB s x = true then (slot c.N x).map .var else none
  | _, _ => o
mutual
  def cE (c : Cc) : Nat → Sc → Expr → Option E
    | 0, _, _ => none
    | n + 1, s, e => match e with
      | .Name x _ => if visB s x = true then (slot c.N x).map .v else none
      | .Constant k _ _ => (cnst k).map .c
      | .BinOp a o b _ => if okBin o = true then (cE c n s a).bind fun x => (cE c n s b).map fun y => .bin o x y else none
      | .UnaryOp u a _ => match u with
        | .USub => (cE c n s a).map .neg
        | .Not => (cE c n s a).map fun x => .tst (.not (.val x))
        | _ => none
      | .Compare a os bs _ => match os, bs with
        | [o], [b] => match o, b with
          | .Is, .Constant .none _ _ => (cE c n s a).map (.isN false)
          | .IsNot, .Constant .none _ _ => (cE c n s a).map (.isN true)
          | o, b => if okCmp o = true ∧ behindInMarks o b = false then (cE c n s a).bind fun x => (cE c n s b).map fun y => .cmp o x y else none
        | [o, o'], [b, d] => if okCmp o = true ∧ okCmp o' = true ∧ lastMarks [o, o'] [b, d] = false then (cE c n s a).bind fun x => (cE c n s b).bind fun y => (cE c n s d).map fun z => .chn o o' x y z else none
        | _, _ => none
      | .BoolOp o vs p => match vs with
        | [] => none
        | [a] => cE c n s a
        | a :: b :: r => (cE c n s a).bind fun x => (cE c n s (.BoolOp o (b :: r) p)).map fun y => match o with
          | .And => .and x y
          | .Or => .or x y
      | .IfExp t a b _ => (cT c n s t).bind fun w => (cE c n s a).bind fun x => (cE c n s b).map fun y => .ite w x y
      | .Tuple es _ _ => (cEs c n s [] es).map .tup
      | .List es _ => (cEs c n s (es.map fun _ => 1) es).map .lst
      | .Subscript a b _ => match b with
        | .Slice lo hi st _ => match st with
          | none => (cE c n s a).bind fun x => (cO c n s lo).bind fun l => (cO c n s hi).map fun h => .slc x l h
          | some _ => none
        | b => if plainI b = true then match nameE a with
          | some x => if visB s x = true then (slot c.N x).bind fun i => (cE c n s b).map fun y => .subv i y else none
          | none => (cE c n s a).bind fun x => (cE c n s b).map fun y => .sub x y
          else none
      | .Attribute o f _ => if attrB o = true then (cE c n s o).map fun x => .fld x f ((c.xs.filter fun y => decide (y.f = some f)).map (·.c)) else none
      | .Call f as ks cp => match f, ks with
        | .Attribute o at_ ap, [] => (nameE o).bind fun y => if at_ = "pop" ∧ visB s y = true ∧ (ap.endLine == cp.line) = true then (slot c.N y).bind fun i => match as with
          | [] => some (.pop i .no)
          | [b] => if plainE b = true then (cE c n s b).map fun x => .pop i (.e x) else none
          | _ => none
          else none
        | .Name f _, kw :: kws => if gloB s f = true then match dnAt c.ds f, as with
          | some (i, d), [] => (kwNames (kw :: kws)).bind fun ks => if ks ∈ d.kws ∧ ∀ j ∈ ixOf ks d.ps, j < ks.length then (cK c n s (kw :: kws)).map fun r => .fnk i (ixOf ks d.ps) r else none
          | none, [] => (xnAt c.xs f).bind fun y => match y.f, kw :: kws with
            | some g, [⟨some q, b, _⟩] => if q = y.prm then (cE c n s b).map fun x => .mk f (some g) (.raw x .nil) else none
            | _, _ => none
          | _, _ => none
          else none
        | .Name f _, [] => if gloB s f = true then match dnAt c.ds f with
          | some (i, d) => match as with
            | [] => if d.ps.length = 0 then some (.fn i .nil) else none
            | a :: r => if d.ps.length = (a :: r).length then (cEs c n s (d.lent.map fun b => if b = true then 2 else 1) (a :: r)).map (.fn i) else none
          | none => match as with
            | [] => (xnAt c.xs f).bind fun y => match y.f with
              | none => some (.mk f none .nil)
              | some _ => none
            | a :: r => if (xnAt c.xs f).isSome = true then (xnAt c.xs f).bind fun y => match y.f, r with
                | some g, [] => if plainE a = true then (cEs c n s [1] [a]).map (.mk f (some g)) else none
                | _, _ => none
              else if f = "isinstance" then match r with
                | [b] => match b with
                  | .Name y p => match tyE s (.Name y p) with
                    | some t => (cE c n s a).bind fun x => if plainE a = true then some (.isi x [t] true) else none
                    | none => if gloB s y = true ∧ plainE a = true then (cE c n s a).bind fun x => match xnAt c.xs y with
                      | some _ => some (.isx x [y] (c.xs.map (·.c)))
                      | none => (exAt y).map fun b => .isx x ((c.xs.filter fun t => decide (b ∈ t.up)).map (·.c)) ((c.xs.filter fun t => decide ((c.xs.filter fun s => decide (s.c = t.c)).length = 1)).map (·.c))
                      else none
                  | .Tuple es _ _ => (tysE s es).bind fun ts => (cE c n s a).bind fun x => if plainE a = true ∧ ts ≠ [] ∧ ts.length ≤ big then some (.isi x ts false) else none
                  | _ => none
                | _ => none
              else if f = "len" then match r with
                | [] => match nameE a with
                  | some y => if visB s y = true then (slot c.N y).map .lenv else none
                  | none => (cEs c n s [] [a]).map (.bi .len)
                | _ => none
              else if f = "tuple" ∧ genB a = true then match r with
                | [] => cQ c n s a
                | _ => none
              else match biOf f with
                | some b => (cEs c n s [] (a :: r)).map (.bi b)
                | none => none
          else none
        | _, _ => none
      | .ListComp x gs scope _ => match gs with
        | [⟨tg, iter, ifs, 0⟩] =>
          if blkC c.N s.sc scope (ownOf c.N scope) = true ∧ ((ownOf c.N scope).map (·.2)).Nodup ∧ plainF iter = true then
            (cG c ⟨relS scope s.sc, fun x => scope.names.lookup x == some .cell, s.gn⟩ n tg).bind fun t => (cI c n s tg iter true).bind fun i => (cTs c n ⟨relS scope s.sc, fun x => scope.names.lookup x == some .cell, s.gn⟩ ifs).bind fun cs =>
              (cE c n ⟨relS scope s.sc, fun x => scope.names.lookup x == some .cell, s.gn⟩ x).bind fun y => if ∀ j ∈ t.slots, j ∈ (ownOf c.N scope).map (·.2) then some (.lc ((ownOf c.N scope).map (·.2)) t i cs y) else none
          else none
        | _ => none
      | .SetComp x gs scope _ => match gs with
        | [⟨tg, iter, ifs, 0⟩] =>
          if blkC c.N s.sc scope (ownOf c.N scope) = true ∧ ((ownOf c.N scope).map (·.2)).Nodup ∧ plainF iter = true then
            (cG c ⟨relS scope s.sc, fun x => scope.names.lookup x == some .cell, s.gn⟩ n tg).bind fun t => (cI c n s tg iter false).bind fun i => (cTs c n ⟨relS scope s.sc, fun x => scope.names.lookup x == some .cell, s.gn⟩ ifs).bind fun cs =>
              (cE c n ⟨relS scope s.sc, fun x => scope.names.lookup x == some .cell, s.gn⟩ x).bind fun y => if ∀ j ∈ t.slots, j ∈ (ownOf c.N scope).map (·.2) then some (.sc ((ownOf c.N scope).map (·.2)) t i cs y) else none
          else none
        | _ => none
      | _ => none
  def cQ (c : Cc) : Nat → Sc → Expr → Option E
    | 0, _, _ => none
    | n + 1, s, e => match e with
      | .GeneratorExp elt gs scope _ => match gs with
        | [⟨tg, iter, ifs, 0⟩] =>
          if s.gn = true ∧ genC c.N s.sc scope (ownOf c.N scope) = true ∧ ((ownOf c.N scope).map (·.2)).Nodup ∧ plainG iter = true then
            (cG c ⟨scope, fun _ => false, false⟩ n tg).bind fun t => (cI c n s tg iter false).bind fun i => (cTs c n ⟨scope, fun _ => false, false⟩ ifs).bind fun cs =>
              (cE c n ⟨scope, fun _ => false, false⟩ elt).bind fun y => if ∀ j ∈ t.slots, j ∈ (ownOf c.N scope).map (·.2) then some (.gen .tuple ((ownOf c.N scope).map (·.2)) t i cs y) else none
          else none
        | _ => none
      | _ => none
  def cEs (c : Cc) : Nat → Sc → List Nat → List Expr → Option Es
    | 0, _, _, _ => none
    | n + 1, s, m, es => match es with
      | [] => some .nil
      | e :: r => if plainE e = true then (cEs c n s m.tail r).bind fun y => match m with
        | 2 :: _ => match nameE e with
          | some x => if visB s x = true then (slot c.N x).map fun i => .bw i y else none
          | none => (cE c n s e).map fun x => .raw x y
        | 1 :: _ => (cE c n s e).map fun x => .raw x y
        | _ => (cE c n s e).map fun x => .cons x y
        else none
  def cK (c : Cc) : Nat → Sc → List Keyword → Option Es
    | 0, _, _ => none
    | n + 1, s, ks => match ks with
      | [] => some .nil
      | ⟨_, e, _⟩ :: r => (cE c n s e).bind fun x => (cK c n s r).map fun y => .raw x y
  def cT (c : Cc) : Nat → Sc → Expr → Option Te
    | 0, _, _ => none
    | n + 1, s, e => match e with
      | .BoolOp o vs p => match vs with
        | [] => none
        | [a] => cT c n s a
        | a :: b :: r => (cT c n s a).bind fun x => (cT c n s (.BoolOp o (b :: r) p)).map fun y => match o with
          | .And => .and x y
          | .Or => .or x y
      | .UnaryOp u a p => match u with
        | .Not => (cT c n s a).map .not
        | u => (cE c n s (.UnaryOp u a p)).map .val
      | e => if tstB e = true then (cE c n s e).map .val else none
  def cTs (c : Cc) : Nat → Sc → List Expr → Option Tes
    | 0, _, _ => none
    | n + 1, s, es => match es with
      | [] => some .nil
      | [e] => (cT c n s e).map fun t => .cons t .nil
      | _ => none
  def cO (c : Cc) : Nat → Sc → Option Expr → Option Oe
    | 0, _, _ => none
    | n + 1, s, o => match o with
      | none => some .no
      | some e => (cE c n s e).map .e
  def cI (c : Cc) : Nat → Sc → Expr → Expr → Bool → Option It
    | 0, _, _, _, _ => none
    | n + 1, s, tg, e, w => match e with
      | .Call f as ks q => match nameE f, ks with
        | some y, [] => if gloB s y = true ∧ y = "range" then match as with
            | [_] => (cEs c n s [] as).map .rng
            | [_, _] => (cEs c n s [] as).map .rng
            | _ => none
          else if gloB s y = true ∧ y = "enumerate" then match as, tg with
            | [a], .Tuple _ _ _ => if plainE a = true then (cE c n s a).map .enm else none
            | _, _ => none
          else if gloB s y = true ∧ y = "zip" then match as, tg with
            | [_, _], .Tuple _ _ _ => (cEs c n s [] as).map .zip
            | _, _ => none
          else (cE c n s (.Call f as ks q)).map .seq
        | _, _ => (cE c n s (.Call f as ks q)).map .seq
      | e => cV c s w e ((cE c n s e).map .seq)
end
end Z

set_option Elab.async false
set_option linter.all false
set_option autoImplicit false
set_option maxRecDepth 100000
set_option maxHeartbeats 4000000
/-! Z15: the small text gives what the written text gives. -/
namespace Z
open PySem PySem.Spec PyProof.Rows L2
variable [Tbs]

/-- where a generator expression may be made -/
def GnX (k : Nat) (X : Cx) : Prop := ∃ cd P, X.env.code = .ref cd ∧ GxR.TabB X.base X.mg cd P ∧ P ∈ Tbs.tb ∧ Room (8 * k + 8) X.A
structure At (k : Nat) (c : Cc) (z : Sc) (X : Cx) : Prop where
  n : X.N = c.N
  s : X.env.scope = z.sc
  f : X.fn = z.fn
  g : z.gn = true → GnX k X
def nmOf (c : Cc) : Nm := ⟨c.ds.map fun d => ⟨d.nm, d.ps.length, d.ps, d.kws⟩, c.xs⟩
theorem slot_ok {N : List Str} {x : Str} {i : Nat} (h : slot N x = some i) : N[i]? = some x := by
  unfold slot at h
  split at h
  · rename_i g
    cases h
    exact eq_of_beq g
  · cases h
theorem vis_ok {s : Sc} {x : Str} {X : Cx} (hs : X.env.scope = s.sc) (h : visB s x = true) : Vis X.env.scope x ∧ (x == ("__debug__" : Str)) = false ∧ (x == ("__classdict__" : Str)) = false := by
  unfold visB at h
  simp only [Bool.and_eq_true, Bool.or_eq_true, Bool.not_eq_true', beq_iff_eq] at h
  rw [hs]
  unfold Vis
  obtain ⟨⟨(h1 | h1) | h1, h2⟩, h3⟩ := h
  · exact ⟨.inl h1, by simpa using h2, by simpa using h3⟩
  · exact ⟨.inr (.inl h1), by simpa using h2, by simpa using h3⟩
  · exact ⟨.inr (.inr h1), by simpa using h2, by simpa using h3⟩
theorem loc_ok {k : Nat} {c : Cc} {s : Sc} {x : Str} {X : Cx} (a : At k c s X) (h : locB s x = true) : Loc X.env.scope x ∧ (X.fn x = true ∨ X.env.scope.names.lookup x = some .local) := by
  unfold locB at h
  simp only [Bool.and_eq_true, Bool.or_eq_true, beq_iff_eq] at h
  rw [a.s, a.f]
  exact h
theorem glo_ok {s : Sc} {x : Str} {X : Cx} (hs : X.env.scope = s.sc) (h : gloB s x = true) : Gl X x ∧ (x == ("__debug__" : Str)) = false := by
  unfold gloB at h
  simp only [Bool.and_eq_true, Bool.not_eq_true', beq_iff_eq] at h
  refine ⟨?_, by simpa using h.2⟩
  show X.env.scope.names.lookup x = some .globalImplicit
  rw [hs]
  exact h.1
theorem dn_ok {c : Cc} {x : Str} {i : Nat} {d : Dn} (h : dnAt c.ds x = some (i, d)) : (nmOf c).fn[i]? = some ⟨x, d.ps.length, d.ps, d.kws⟩ := by
  unfold dnAt at h
  split at h
  · split at h
    · rename_i j _ e he
      split at h
      · rename_i hd
        cases h
        show (c.ds.map fun d => (⟨d.nm, d.ps.length, d.ps, d.kws⟩ : Nx))[i]? = _
        rw [List.getElem?_map, he, ← eq_of_beq hd]
        rfl
      · cases h
    · cases h
  · cases h
section
variable {c : Cc} {X : Cx} {T : Tab} {k : Nat}
theorem g_ok (n : Nat) : (∀ s e t, cG c s n e = some t → X.calm = true → X.N.Nodup → At k c s X → PG X e (tG X.K t)) ∧ (∀ s es ts, cGs c s n es = some ts → es.all plainE = true → X.calm = true → X.N.Nodup → At k c s X → PGs X es (tGs X.K ts) ∧ es.length = ts.len) := by
  induction n with
  | zero => exact ⟨fun s e t h => (by simp [cG] at h), fun s es ts h => (by simp [cGs] at h)⟩
  | succ n ih =>
    obtain ⟨i1, i2⟩ := ih
    refine ⟨fun s e t h hc nd a => ?_, fun s es ts h hp hc nd a => ?_⟩
    · cases e with
      | Name x p =>
        simp only [cG] at h
        split at h
        · rename_i hl
          obtain ⟨i, hi, rfl⟩ := map_ok h
          obtain ⟨l1, l2⟩ := loc_ok a hl
          exact zg_n nd (by rw [a.n]; exact slot_ok hi) l1 l2
        · cases h
      | Tuple es k p =>
        simp only [cG] at h
        split at h
        · rename_i hq
          obtain ⟨ts, hts, rfl⟩ := map_ok h
          obtain ⟨g1, g2⟩ := i2 s _ ts hts hq hc nd a
          exact zg_t hc hq g2 g1
        · cases h
      | _ => simp [cG] at h
    · cases es with
      | nil =>
        simp only [cGs] at h
        cases h
        exact ⟨zgs_nil, rfl⟩
      | cons e r =>
        simp only [List.all_cons, Bool.and_eq_true] at hp
        simp only [cGs] at h
        split at h
        · rename_i h1 h2
          cases h
          obtain ⟨g1, g2⟩ := i2 s _ _ h2 hp.2 hc nd a
          exact ⟨zgs_cons hp.1 (i1 s _ _ h1 hc nd a) g1, by rw [List.length_cons, g2]; rfl⟩
        · cases h
/-! ### in a comprehension's block all stands as it stood -/
theorem Gd.blk {X : Cx} {T : Tab} {nm : Nm} {k : Nat} (G : Gd X T nm k) (s : Shared) (H : Hp) (scope : Scope) (env : Env) (fp : List Addr) : Gd (X.blk s H scope env fp) T nm k :=
  ⟨G.calm, G.pw, G.nd, G.hu, G.room, G.bt, G.fn, G.xc⟩
def IsPlain (e : Expr) : Prop := True
/-- what is a plain value where a test is asked -/
def plainT : Expr → Bool
  | .BoolOp _ _ _ => false
  | .UnaryOp .Not _ _ => false
  | .Compare _ _ _ _ => false
  | _ => true
theorem folded_ok {e : Expr} {env : Env} (h : plainF e = true) : ∀ x, foldedSetIterable e env x = pure x := by
  intro x
  cases e <;> first | rfl | cases h
theorem plainI_ok {e : Expr} (h : plainI e = true) : PlainIx e := by
  intro v u
  cases e <;> first | rfl | cases h
theorem bi_ok2 {x : Str} {b : Bi} (h : biOf2 x = some b) : x = biN b ∧ biOk b = true := by
  unfold biOf2 at h
  repeat' split at h
  all_goals first | (cases h; done) | (rename_i hx; cases h; exact ⟨eq_of_beq hx, rfl⟩)
theorem bi_ok {x : Str} {b : Bi} (h : biOf x = some b) : x = biN b ∧ biOk b = true := by
  unfold biOf at h
  repeat' split at h
  all_goals first | exact bi_ok2 h | (cases h; done) | (rename_i hx; cases h; exact ⟨eq_of_beq hx, rfl⟩)
theorem tyN_ok {x : Str} {t : Ty} (h : tyOfN x = some t) : x = tyN t ∧ tyOk t = true := by
  unfold tyOfN at h
  repeat' split at h
  all_goals first | (cases h; done) | (rename_i hx; cases h; exact ⟨eq_of_beq hx, rfl⟩)
theorem tyE_ok {s : Sc} {e : Expr} {t : Ty} (h : tyE s e = some t) : ∃ x p, e = .Name x p ∧ gloB s x = true ∧ x = tyN t ∧ tyOk t = true := by
  cases e with
  | Name x p =>
    simp only [tyE] at h
    split at h
    · rename_i hg
      obtain ⟨h1, h2⟩ := tyN_ok h
      exact ⟨x, p, rfl, hg, h1, h2⟩
    · cases h
  | _ => cases h
theorem tysE_ok {s : Sc} (G : Gd X T (nmOf c) k) (hs : X.env.scope = s.sc) : ∀ {es : List Expr} {ts : List Ty}, tysE s es = some ts → PA X es (tTys ts) ∧ ts.all tyOk = true
  | [], ts, h => by
    cases h
    exact ⟨pa_nil, rfl⟩
  | e :: r, ts, h => by
    simp only [tysE] at h
    split at h
    · rename_i t ts' h1 h2
      cases h
      obtain ⟨g1, g2⟩ := tysE_ok G hs h2
      obtain ⟨x, p, rfl, h3, h4, h5⟩ := tyE_ok h1
      exact ⟨pa_cons (z_ty G h4 h5 (glo_ok hs h3).1) g1 rfl, by simp [h5, g2]⟩
    · cases h
end
end Z

set_option Elab.async false
set_option linter.all false
set_option autoImplicit false
set_option maxRecDepth 100000
set_option maxHeartbeats 4000000
/-! Z16: expressions, tests, arguments, iterables: the small text gives what the written text gives. -/
namespace Z
open PySem PySem.Spec PyProof.Rows L2
variable [Tbs]
theorem bnd_ok {α β : Type} {o : Option α} {f : α → Option β} {d : β} (h : o.bind f = some d) : ∃ k, o = some k ∧ f k = some d := by
  cases o with
  | none => cases h
  | some k => exact ⟨k, rfl, h⟩
theorem ifs_ok {α : Type} {p : Prop} [Decidable p] {o : Option α} {d : α} (h : (if p then o else none) = some d) : p ∧ o = some d := by
  split at h
  · exact ⟨by assumption, h⟩
  · cases h
theorem name_ok {e : Expr} {x : Str} (h : nameE e = some x) : ∃ p, e = .Name x p := by
  cases e with
  | Name y p => cases h; exact ⟨p, rfl⟩
  | _ => cases h
/-- what the compiler gives at this fuel is right -/
structure Snd (c : Cc) (n : Nat) : Prop where
  e : ∀ {k : Nat} {X : Cx} {T : Tab} {s : Sc} {e : Expr} {x : E}, cE c n s e = some x → Gd X T (nmOf c) k → At k c s X → PE X e (tE X.K T x) ∧ (tstB e = true → PT X e (tT X.K T (.val x)))
  q : ∀ {k : Nat} {X : Cx} {T : Tab} {s : Sc} {e : Expr} {x : E} {p pos : Pos}, cQ c n s e = some x → Gd X T (nmOf c) k → At k c s X → Gl X "tuple" → PE X (.Call (.Name "tuple" p) [e] [] pos) (tE X.K T x)
  es : ∀ {k : Nat} {X : Cx} {T : Tab} {s : Sc} {m : List Nat} {es : List Expr} {r : Es}, cEs c n s m es = some r → Gd X T (nmOf c) k → At k c s X → PA X es (tA X.K T r) ∧ r.len = es.length ∧ es.all plainE = true ∧ (m = [] → r.frozen = true)
  t : ∀ {k : Nat} {X : Cx} {T : Tab} {s : Sc} {e : Expr} {x : Te}, cT c n s e = some x → Gd X T (nmOf c) k → At k c s X → PT X e (tT X.K T x) ∧ (boB e = true → PW X e (tT X.K T x))
  ts : ∀ {k : Nat} {X : Cx} {T : Tab} {s : Sc} {es : List Expr} {x : Tes}, cTs c n s es = some x → Gd X T (nmOf c) k → At k c s X → PTs X es (tTs X.K T x)
  o : ∀ {k : Nat} {X : Cx} {T : Tab} {s : Sc} {e : Option Expr} {x : Oe}, cO c n s e = some x → Gd X T (nmOf c) k → At k c s X → PO X e (tO X.K T x)
  kw : ∀ {k : Nat} {X : Cx} {T : Tab} {s : Sc} {kws : List Keyword} {r : Es}, cK c n s kws = some r → Gd X T (nmOf c) k → At k c s X → PK X kws (tA X.K T r) ∧ r.len = kws.length
  i : ∀ {k : Nat} {X : Cx} {T : Tab} {s : Sc} {tg e : Expr} {w : Bool} {x : It}, cI c n s tg e w = some x → Gd X T (nmOf c) k → At k c s X → PI X tg e (if w = true then tIc X.K T x else tI X.K T x)
section
variable {c : Cc} {n k : Nat} {X : Cx} {T : Tab} {s : Sc}
theorem es_s (ih : Snd c n) {m : List Nat} {es : List Expr} {r : Es} (h : cEs c (n + 1) s m es = some r) (G : Gd X T (nmOf c) k) (a : At k c s X) : PA X es (tA X.K T r) ∧ r.len = es.length ∧ es.all plainE = true ∧ (m = [] → r.frozen = true) := by
  rw [cEs.eq_def] at h
  dsimp only at h
  cases es with
  | nil => cases h; exact ⟨za_nil, rfl, rfl, fun _ => rfl⟩
  | cons e es =>
    obtain ⟨hp, h⟩ := ifs_ok h
    obtain ⟨y, hy, h⟩ := bnd_ok h
    obtain ⟨g1, g2, g3, g4⟩ := ih.es hy G a
    have plain : ∀ {z}, (cE c n s e).map (fun x => Es.cons x y) = some z → PA X (e :: es) (tA X.K T z) ∧ z.len = (e :: es).length ∧ (e :: es).all plainE = true ∧ (m = [] → z.frozen = true) := fun {z} h => by
      obtain ⟨x, hx, rfl⟩ := map_ok h
      exact ⟨za_cons hp (ih.e hx G a).1 g1, by rw [Es.len, g2, List.length_cons], by rw [List.all_cons, hp, g3]; rfl, fun hm => by subst hm; exact g4 rfl⟩
    have raw : m ≠ [] → ∀ {z}, (cE c n s e).map (fun x => Es.raw x y) = some z → PA X (e :: es) (tA X.K T z) ∧ z.len = (e :: es).length ∧ (e :: es).all plainE = true ∧ (m = [] → z.frozen = true) := fun hm {z} h => by
      obtain ⟨x, hx, rfl⟩ := map_ok h
      exact ⟨za_raw hp (ih.e hx G a).1 g1, by rw [Es.len, g2, List.length_cons], by rw [List.all_cons, hp, g3]; rfl, fun h => absurd h hm⟩
    split at h
    · cases hn : nameE e with
      | none =>
        rw [hn] at h
        exact raw (by simp) h
      | some z =>
        rw [hn] at h
        obtain ⟨p, rfl⟩ := name_ok hn
        obtain ⟨hv, h⟩ := ifs_ok h
        obtain ⟨i, hi, rfl⟩ := map_ok h
        obtain ⟨v1, v2, v3⟩ := vis_ok a.s hv
        exact ⟨za_bw (by rw [a.n]; exact slot_ok hi) v1 v2 v3 g1, by rw [Es.len, g2, List.length_cons], by rw [List.all_cons, hp, g3]; rfl, fun hm => nomatch hm⟩
    · exact raw (by simp) h
    · exact plain h
theorem k_s (ih : Snd c n) {kws : List Keyword} {r : Es} (h : cK c (n + 1) s kws = some r) (G : Gd X T (nmOf c) k) (a : At k c s X) : PK X kws (tA X.K T r) ∧ r.len = kws.length := by
  rw [cK.eq_def] at h
  dsimp only at h
  cases kws with
  | nil => cases h; exact ⟨zk_nil, rfl⟩
  | cons kw kws =>
    obtain ⟨x, e, q⟩ := kw
    obtain ⟨y, hy, h⟩ := bnd_ok h
    obtain ⟨z, hz, rfl⟩ := map_ok h
    obtain ⟨g1, g2⟩ := ih.kw hz G a
    exact ⟨zk_raw (ih.e hy G a).1 g1, by rw [Es.len, g2, List.length_cons]⟩
theorem genC_ok {N : List Str} {sc scope : Scope} {own : List (Str × Nat)} (h : genC N sc scope own = true) : GE.GOk N sc scope own := by
  unfold genC at h
  simp only [Bool.and_eq_true, List.all_eq_true, Bool.not_eq_true', Bool.or_eq_true, beq_iff_eq, beq_eq_false_iff_ne, List.contains_iff_mem] at h
  obtain ⟨⟨⟨⟨⟨⟨⟨h1, h2⟩, h3⟩, h4⟩, h5⟩, h6⟩, h7⟩, h8⟩ := h
  refine ⟨?_, h2, h3, h4, h5, h6, fun y hy e => ?_, fun y hy e => ?_⟩
  · split at h1
    · assumption
    · cases h1
  · rcases h7 y hy with (z | z) | z
    · exact absurd e z
    · exact .inl z
    · exact .inr z
  · rcases h8 y hy with (z | z) | z
    · exact absurd e z
    · exact .inl z
    · refine .inr fun m => ?_
      have := List.contains_iff_mem.mpr m
      simp_all
theorem gfold_ok {iter : Expr} {env : Env} (h : plainG iter = true) : ∀ v, genFold iter env v = pure v := by
  intro v
  cases iter <;> first | rfl | cases h
theorem q_s (ih : Snd c n) {e : Expr} {x : E} {p pos : Pos} (h : cQ c (n + 1) s e = some x) (G : Gd X T (nmOf c) k) (a : At k c s X) (hg : Gl X "tuple") : PE X (.Call (.Name "tuple" p) [e] [] pos) (tE X.K T x) := by
  cases e with
  | GeneratorExp elt gs scope gpos =>
    rw [cQ.eq_def] at h
    dsimp only at h
    split at h
    · obtain ⟨⟨h1, h2, h3, h4⟩, h⟩ := ifs_ok h
      obtain ⟨t, ht, h⟩ := bnd_ok h
      obtain ⟨i, hi, h⟩ := bnd_ok h
      obtain ⟨cs, hcs, h⟩ := bnd_ok h
      obtain ⟨y, hy, h⟩ := bnd_ok h
      obtain ⟨hs, h⟩ := ifs_ok h
      cases h
      obtain ⟨cd, P, hcode, TB, hP, hr⟩ := a.g h1
      have at2 : ∀ (A : Around) (z : Shared) (H : Hp) (cenv : Env) (fp : List Addr) (pn : List (Addr × Obj)), cenv.scope = scope → At k c ⟨scope, fun _ => false, false⟩ (GE.gx X A z H cenv fp pn) := fun A z H cenv fp pn e =>
        ⟨a.n, e, rfl, fun z => nomatch z⟩
      have gd2 : ∀ (A : Around) (z : Shared) (H : Hp) (cenv : Env) (fp : List Addr) (pn : List (Addr × Obj)), Room (8 * k + 2) A → Gd (GE.gx X A z H cenv fp pn) T (nmOf c) k := fun A z H cenv fp pn r =>
        ⟨rfl, G.pw, G.nd, by have := r.un; show A.units + 65 < cLine; omega, r, G.bt, G.fn, G.xc⟩
      have pg := GE.pgen_gx (X := X) (elt := elt) (scope := scope) (pos := gpos) (own := ownOf c.N scope) (E := GE.EF) (k := 8 * k + 2) (g := tG X.K t) (tt := tTs X.K T cs) (te := tE X.K T y) hr G.nd TB hcode (by rw [a.n, a.s]; exact genC_ok h2) (ih.i (T := T) (w := false) hi G a)
        (fun A z H cenv fp pn r e => (g_ok (X := GE.gx X A z H cenv fp pn) n).1 _ _ _ ht rfl G.nd (at2 A z H cenv fp pn e)) (fun A z H cenv fp pn r e => ih.ts hcs (gd2 A z H cenv fp pn r) (at2 A z H cenv fp pn e))
        (fun A z H cenv fp pn r e => (ih.e hy (gd2 A z H cenv fp pn r) (at2 A z H cenv fp pn e)).1) (gfold_ok h4)
      exact imp (GE.pe_tupG pg hr hg (G.bt "tuple" (by decide)) (by decide +kernel)) fun σ H Q g => gen_i hP h3 hs g
    · cases h
  | _ => simp [cQ] at h
theorem o_s (ih : Snd c n) {e : Option Expr} {x : Oe} (h : cO c (n + 1) s e = some x) (G : Gd X T (nmOf c) k) (a : At k c s X) : PO X e (tO X.K T x) := by
  rw [cO.eq_def] at h
  dsimp only at h
  cases e with
  | none => cases h; exact zo_none
  | some e =>
    obtain ⟨x, hx, rfl⟩ := map_ok h
    exact zo_some (ih.e hx G a).1
theorem ts_s (ih : Snd c n) {es : List Expr} {x : Tes} (h : cTs c (n + 1) s es = some x) (G : Gd X T (nmOf c) k) (a : At k c s X) : PTs X es (tTs X.K T x) := by
  rw [cTs.eq_def] at h
  dsimp only at h
  split at h
  · cases h; exact zts_nil
  · obtain ⟨t, ht, rfl⟩ := map_ok h
    exact zts_one (ih.t ht G a).1
  · cases h
theorem t_s (ih : Snd c n) {e : Expr} {x : Te} (h : cT c (n + 1) s e = some x) (G : Gd X T (nmOf c) k) (a : At k c s X) : PT X e (tT X.K T x) ∧ (boB e = true → PW X e (tT X.K T x)) := by
  rw [cT.eq_def] at h
  dsimp only at h
  have val : ∀ {e x}, boB e = false → tstB e = true → (cE c n s e).map Te.val = some x → PT X e (tT X.K T x) ∧ (boB e = true → PW X e (tT X.K T x)) := fun {e x} hb ht h => by
    obtain ⟨y, hy, rfl⟩ := map_ok h
    exact ⟨(ih.e hy G a).2 ht, fun z => by rw [hb] at z; cases z⟩
  cases e with
  | BoolOp o vs p =>
    dsimp only at h
    have ho : o = .And ∨ o = .Or := by cases o; exact .inl rfl; exact .inr rfl
    split at h
    · cases h
    · have w := zw_one (pos := p) ho (ih.t h G a).1
      exact ⟨w.pt, fun _ => w⟩
    · obtain ⟨x, hx, h⟩ := bnd_ok h
      obtain ⟨y, hy, rfl⟩ := map_ok h
      have h1 := (ih.t hx G a).1
      have h2 := (ih.t hy G a).2 rfl
      cases o with
      | And => have w := zw_and h1 h2; exact ⟨w.pt, fun _ => w⟩
      | Or => have w := zw_or h1 h2; exact ⟨w.pt, fun _ => w⟩
  | UnaryOp u b p =>
    dsimp only at h
    cases u with
    | Not =>
      obtain ⟨x, hx, rfl⟩ := map_ok h
      exact ⟨zt_not (ih.t hx G a).1, fun z => nomatch z⟩
    | _ => exact val rfl rfl h
  | _ =>
    obtain ⟨ht, h⟩ := ifs_ok h
    exact val rfl ht h
theorem i_s (ih : Snd c n) {tg e : Expr} {w : Bool} {x : It} (h : cI c (n + 1) s tg e w = some x) (G : Gd X T (nmOf c) k) (a : At k c s X) : PI X tg e (if w = true then tIc X.K T x else tI X.K T x) := by
  rw [cI.eq_def] at h
  dsimp only at h
  have seq : ∀ {e x}, (cE c n s e).map It.seq = some x → PI X tg e (if w = true then tIc X.K T x else tI X.K T x) := fun {e x} h => by
    obtain ⟨y, hy, rfl⟩ := map_ok h
    cases w with
    | true => exact zc_seq (ih.e hy G a).1
    | false => exact zi_seq (ih.e hy G a).1
  have plain : ∀ {e}, cV c s w e ((cE c n s e).map It.seq) = some x → PI X tg e (if w = true then tIc X.K T x else tI X.K T x) := fun {e} h => by
    unfold cV at h
    split at h
    · obtain ⟨p, rfl⟩ := name_ok ‹nameE _ = some _›
      obtain ⟨hv, h⟩ := ifs_ok h
      obtain ⟨i, hi, rfl⟩ := map_ok h
      obtain ⟨v1, v2, v3⟩ := vis_ok a.s hv
      exact zc_var (by rw [a.n]; exact slot_ok hi) v1 v2 v3
    · exact seq h
  cases e with
  | Call f as ks q =>
    dsimp only at h
    split at h
    · obtain ⟨p, rfl⟩ := name_ok ‹nameE _ = some _›
      split at h
      · rename_i hr
        obtain ⟨hg, hr⟩ := hr
        have hg := (glo_ok a.s hg).1
        split at h
        · obtain ⟨r, hr', rfl⟩ := map_ok h
          obtain ⟨g1, g2, g3, g4⟩ := ih.es hr' G a
          simp only [List.all_cons, Bool.and_eq_true] at g3
          have z := zi_rng1 (tg := tg) (p := p) (pos := q) G hr hg g3.1 g1 g2
          cases w with
          | true => exact zc_rng (w := fun _ => True) z
          | false => exact z
        · obtain ⟨r, hr', rfl⟩ := map_ok h
          obtain ⟨g1, g2, g3, g4⟩ := ih.es hr' G a
          simp only [List.all_cons, Bool.and_eq_true] at g3
          have z := zi_rng2 (tg := tg) (p := p) (pos := q) G hr hg g3.1 g3.2.1 g1 g2
          cases w with
          | true => exact zc_rng (w := fun _ => True) z
          | false => exact z
        · cases h
      · split at h
        · rename_i hr
          obtain ⟨hg, hr⟩ := hr
          have hg := (glo_ok a.s hg).1
          split at h
          · obtain ⟨hp, h⟩ := ifs_ok h
            obtain ⟨y, hy, rfl⟩ := map_ok h
            have z := fun elts kk tp => zi_enm (elts := elts) (kk := kk) (tp := tp) (p := p) (pos := q) G hr hg hp (ih.e hy G a).1
            cases w with
            | true => exact zc_enm (z _ _ _)
            | false => exact z _ _ _
          · cases h
        · split at h
          · rename_i hr
            obtain ⟨hg, hr⟩ := hr
            have hg := (glo_ok a.s hg).1
            split at h
            · obtain ⟨r, hr', rfl⟩ := map_ok h
              obtain ⟨g1, g2, g3, g4⟩ := ih.es hr' G a
              simp only [List.all_cons, Bool.and_eq_true] at g3
              have z := fun elts kk tp => zi_zip (elts := elts) (kk := kk) (tp := tp) (p := p) (pos := q) G hr hg g3.1 g3.2.1 g1 (g4 rfl)
              cases w with
              | true => exact zc_zip (z _ _ _)
              | false => exact z _ _ _
            · cases h
          · exact seq h
    · exact seq h
  | _ => exact plain h
end
end Z

set_option Elab.async false
set_option linter.all false
set_option autoImplicit false
set_option maxRecDepth 100000
set_option maxHeartbeats 4000000
/-! Z17: expressions. -/
namespace Z
open PySem PySem.Spec PyProof.Rows L2
variable [Tbs]
section
variable {c : Cc} {n k : Nat} {X : Cx} {T : Tab} {s : Sc}
theorem bin_s (pw : Pw X) {o : Operator} (ho : okBin o = true) : OpR X (binaryOp o) (rBin X.K o) := by
  cases o with
  | Add => exact o_add
  | Sub => exact o_sub pw
  | Mult => exact o_mul
  | FloorDiv => exact o_fdiv
  | Mod => exact o_mod
  | Pow => exact o_pow
  | _ => cases ho
theorem xn_ok {xs : List Y.Xn} {x : Str} {y : Y.Xn} (h : xnAt xs x = some y) : y ∈ xs ∧ y.c = x := by
  unfold xnAt at h
  have q := List.find?_some h
  exact ⟨List.mem_of_find?_eq_some h, by simpa using q⟩
theorem ex_ok {y : Str} {b : String} (h : exAt y = some b) : b ∈ Y.excNames ∧ y = Str.ofString b := by
  unfold exAt at h
  have q := List.find?_some h
  exact ⟨List.mem_of_find?_eq_some h, by simpa using (of_decide_eq_true q).symm⟩
theorem kw_len : ∀ {kws : List Keyword} {ks : List Str}, kwNames kws = some ks → kws.length = ks.length
  | [], _, h => by cases h; rfl
  | ⟨some _, _, _⟩ :: r, _, h => by
    obtain ⟨l, hl, rfl⟩ := map_ok h
    rw [List.length_cons, List.length_cons, kw_len hl]
  | ⟨none, _, _⟩ :: _, _, h => by cases h
theorem call_s (ih : Snd c n) {f : Str} {p q : Pos} {as : List Expr} {x : E} (h : cE c (n + 1) s (.Call (.Name f p) as [] q) = some x) (G : Gd X T (nmOf c) k) (a : At k c s X) : PE X (.Call (.Name f p) as [] q) (tE X.K T x) := by
  rw [cE.eq_def] at h
  dsimp only at h
  obtain ⟨hg, h⟩ := ifs_ok h
  obtain ⟨hg, hd⟩ := glo_ok a.s hg
  split at h
  · rename_i i d hdn
    have hi := dn_ok hdn
    cases as with
    | nil =>
      obtain ⟨hz, h⟩ := ifs_ok h
      cases h
      rw [hz] at hi
      exact z_fn0 G hi hg hd
    | cons b r =>
      obtain ⟨hz, h⟩ := ifs_ok h
      obtain ⟨y, hy, rfl⟩ := map_ok h
      obtain ⟨g1, g2, g3, g4⟩ := ih.es hy G a
      exact z_fn G hi (g2.trans hz.symm) hg hd g3 g1
  · cases as with
    | nil =>
      obtain ⟨y, hy, h⟩ := bnd_ok h
      obtain ⟨y1, y2⟩ := xn_ok hy
      split at h
      · rename_i hf
        cases h
        exact z_mk0 G y1 hf y2 hg hd
      · cases h
    | cons b r =>
      dsimp only at h
      split at h
      · obtain ⟨y, hy, h⟩ := bnd_ok h
        obtain ⟨y1, y2⟩ := xn_ok hy
        split at h
        · have hf := ‹y.f = some _›
          obtain ⟨hp, h⟩ := ifs_ok h
          obtain ⟨z, hz, rfl⟩ := map_ok h
          exact z_mk1 G y1 hf y2 hg hd hp (ih.es hz G a).1
        · cases h
      split at h
      · rename_i hf
        cases r with
        | nil => cases h
        | cons d r =>
          cases r with
          | cons _ _ => cases h
          | nil =>
            cases d with
            | Name y p2 =>
              dsimp only at h
              split at h
              · have ht := ‹tyE s _ = some _›
                obtain ⟨x, hx, h⟩ := bnd_ok h
                obtain ⟨hp, h⟩ := ifs_ok h
                cases h
                obtain ⟨_, _, he, h3, h4, h5⟩ := tyE_ok ht
                cases he
                exact z_isi G hf hg hp (ih.e hx G a).1 h4 h5 (glo_ok a.s h3).1
              · obtain ⟨⟨hgy, hp⟩, h⟩ := ifs_ok h
                obtain ⟨gy, dy⟩ := glo_ok a.s hgy
                obtain ⟨x, hx, h⟩ := bnd_ok h
                cases hn : xnAt c.xs y with
                | some z =>
                  rw [hn] at h
                  cases h
                  obtain ⟨z1, z2⟩ := xn_ok hn
                  exact z_isC G hf hg hp (ih.e hx G a).1 z1 z2 gy dy
                | none =>
                  rw [hn] at h
                  obtain ⟨b', hb', rfl⟩ := map_ok h
                  obtain ⟨e1, e2⟩ := ex_ok hb'
                  exact z_isB G hf hg hp (ih.e hx G a).1 e1 e2 gy
            | Tuple es kk p2 =>
              obtain ⟨ts, ht, h⟩ := bnd_ok h
              obtain ⟨x, hx, h⟩ := bnd_ok h
              obtain ⟨⟨hp, h1, h2⟩, h⟩ := ifs_ok h
              cases h
              obtain ⟨g1, g2⟩ := tysE_ok G a.s ht
              exact z_isiT G hf hg hp (ih.e hx G a).1 g1 g2 h1 h2
            | _ => cases h
      · split at h
        · rename_i hf
          cases r with
          | cons _ _ => cases h
          | nil =>
            dsimp only at h
            split at h
            · obtain ⟨hv, h⟩ := ifs_ok h
              obtain ⟨i, hi, rfl⟩ := map_ok h
              obtain ⟨v1, v2, v3⟩ := vis_ok a.s hv
              obtain ⟨p2, rfl⟩ := name_ok ‹nameE _ = some _›
              exact z_lenv G hf (by rw [a.n]; exact slot_ok hi) v1 v2 v3 hg
            · obtain ⟨y, hy, rfl⟩ := map_ok h
              obtain ⟨g1, g2, g3, g4⟩ := ih.es hy G a
              exact z_bi G hf rfl hg g3 g1
        · split at h
          · rename_i hf
            obtain ⟨hf, _⟩ := hf
            cases r with
            | cons _ _ => cases h
            | nil =>
              have z := ih.q (p := p) (pos := q) h G a (hf ▸ hg)
              rw [← hf] at z
              exact z
          · split at h
            · rename_i b' hb
              obtain ⟨y, hy, rfl⟩ := map_ok h
              obtain ⟨g1, g2, g3, g4⟩ := ih.es hy G a
              obtain ⟨b1, b2⟩ := bi_ok hb
              exact z_bi G b1 b2 hg g3 g1
            · cases h
theorem lc_s (ih : Snd c n) {elt tg iter : Expr} {ifs : List Expr} {scope : Scope} {p : Pos} {x : E} (h : cE c (n + 1) s (.ListComp elt [⟨tg, iter, ifs, 0⟩] scope p) = some x) (G : Gd X T (nmOf c) k) (a : At k c s X) :
    ∃ own tg' it cs y, x = .lc own tg' it cs y ∧ ∃ own', own = own'.map (·.2) ∧ PI X tg iter (tIc X.K T it) ∧ BlkOk X.N X.env.scope scope own' ∧
    (∀ (s : Shared) (H : Hp) (C : Addr) (cl : List (Str × Addr)) (fp : List Addr), PG (X.blk s H scope (compEnvC scope cl C X.env) fp) tg (tG X.K tg')) ∧ (∀ (s : Shared) (H : Hp) (C : Addr) (cl : List (Str × Addr)) (fp : List Addr), PTs (X.blk s H scope (compEnvC scope cl C X.env) fp) ifs (tTs X.K T cs)) ∧
    (∀ (s : Shared) (H : Hp) (C : Addr) (cl : List (Str × Addr)) (fp : List Addr), PE (X.blk s H scope (compEnvC scope cl C X.env) fp) elt (tE X.K T y)) ∧ (∀ x, foldedSetIterable iter X.env x = pure x) ∧ (own'.map (·.2)).Nodup ∧ ∀ i ∈ tg'.slots, i ∈ own'.map (·.2) := by
  rw [cE.eq_def] at h
  dsimp only at h
  obtain ⟨⟨hb, nd, hf⟩, h⟩ := ifs_ok h
  obtain ⟨t, ht, h⟩ := bnd_ok h
  obtain ⟨i, hi, h⟩ := bnd_ok h
  obtain ⟨cs, hcs, h⟩ := bnd_ok h
  obtain ⟨y, hy, h⟩ := bnd_ok h
  obtain ⟨hs, h⟩ := ifs_ok h
  cases h
  have at2 : ∀ (z : Shared) (H : Hp) (C : Addr) (cl : List (Str × Addr)) (fp : List Addr), At k c ⟨relS scope s.sc, fun x => scope.names.lookup x == some .cell, s.gn⟩ (X.blk z H scope (compEnvC scope cl C X.env) fp) := fun z H C cl fp =>
    ⟨a.n, by rw [← a.s]; rfl, rfl, fun z => let ⟨cd, P, h1, h2, h3, h4⟩ := a.g z; ⟨cd, P, h1, h2, h3, h4⟩⟩
  exact ⟨_, _, _, _, _, rfl, ownOf c.N scope, rfl, ih.i (w := true) hi G a, blkOk_by (by rw [a.n, a.s]; exact hb), fun z H C cl fp => (g_ok n).1 _ _ _ ht G.calm G.nd (at2 z H C cl fp),
    fun z H C cl fp => ih.ts hcs (G.blk z H scope _ fp) (at2 z H C cl fp), fun z H C cl fp => (ih.e hy (G.blk z H scope _ fp) (at2 z H C cl fp)).1, folded_ok hf, nd, hs⟩
theorem sx_s (ih : Snd c n) {elt tg iter : Expr} {ifs : List Expr} {scope : Scope} {p : Pos} {x : E} (h : cE c (n + 1) s (.SetComp elt [⟨tg, iter, ifs, 0⟩] scope p) = some x) (G : Gd X T (nmOf c) k) (a : At k c s X) :
    ∃ own tg' it cs y, x = .sc own tg' it cs y ∧ ∃ own', own = own'.map (·.2) ∧ PI X tg iter (tI X.K T it) ∧ BlkOk X.N X.env.scope scope own' ∧
    (∀ (s : Shared) (H : Hp) (C : Addr) (cl : List (Str × Addr)) (fp : List Addr), PG (X.blk s H scope (compEnvC scope cl C X.env) fp) tg (tG X.K tg')) ∧ (∀ (s : Shared) (H : Hp) (C : Addr) (cl : List (Str × Addr)) (fp : List Addr), PTs (X.blk s H scope (compEnvC scope cl C X.env) fp) ifs (tTs X.K T cs)) ∧
    (∀ (s : Shared) (H : Hp) (C : Addr) (cl : List (Str × Addr)) (fp : List Addr), PE (X.blk s H scope (compEnvC scope cl C X.env) fp) elt (tE X.K T y)) ∧ (∀ x, foldedSetIterable iter X.env x = pure x) ∧ (own'.map (·.2)).Nodup ∧ ∀ i ∈ tg'.slots, i ∈ own'.map (·.2) := by
  rw [cE.eq_def] at h
  dsimp only at h
  obtain ⟨⟨hb, nd, hf⟩, h⟩ := ifs_ok h
  obtain ⟨t, ht, h⟩ := bnd_ok h
  obtain ⟨i, hi, h⟩ := bnd_ok h
  obtain ⟨cs, hcs, h⟩ := bnd_ok h
  obtain ⟨y, hy, h⟩ := bnd_ok h
  obtain ⟨hs, h⟩ := ifs_ok h
  cases h
  have at2 : ∀ (z : Shared) (H : Hp) (C : Addr) (cl : List (Str × Addr)) (fp : List Addr), At k c ⟨relS scope s.sc, fun x => scope.names.lookup x == some .cell, s.gn⟩ (X.blk z H scope (compEnvC scope cl C X.env) fp) := fun z H C cl fp =>
    ⟨a.n, by rw [← a.s]; rfl, rfl, fun z => let ⟨cd, P, h1, h2, h3, h4⟩ := a.g z; ⟨cd, P, h1, h2, h3, h4⟩⟩
  exact ⟨_, _, _, _, _, rfl, ownOf c.N scope, rfl, ih.i (w := false) hi G a, blkOk_by (by rw [a.n, a.s]; exact hb), fun z H C cl fp => (g_ok n).1 _ _ _ ht G.calm G.nd (at2 z H C cl fp),
    fun z H C cl fp => ih.ts hcs (G.blk z H scope _ fp) (at2 z H C cl fp), fun z H C cl fp => (ih.e hy (G.blk z H scope _ fp) (at2 z H C cl fp)).1, folded_ok hf, nd, hs⟩
theorem e_s (ih : Snd c n) {e : Expr} {x : E} (h : cE c (n + 1) s e = some x) (G : Gd X T (nmOf c) k) (a : At k c s X) : PE X e (tE X.K T x) ∧ (tstB e = true → PT X e (tT X.K T (.val x))) := by
  have h0 := h
  rw [cE.eq_def] at h
  dsimp only at h
  cases e with
  | Name y p =>
    obtain ⟨hv, h⟩ := ifs_ok h
    obtain ⟨i, hi, rfl⟩ := map_ok h
    obtain ⟨v1, v2, v3⟩ := vis_ok a.s hv
    have q := z_var (T := T) (pos := p) (by rw [a.n]; exact slot_ok hi) v1 v2 v3
    exact ⟨q, fun _ => zt_val q fun _ => rfl⟩
  | Constant d kk p =>
    obtain ⟨i, hi, rfl⟩ := map_ok h
    have q := z_c (X := X) (T := T) (pos := p) (k := kk) hi
    exact ⟨q, fun _ => zt_val q fun _ => rfl⟩
  | BinOp l o r p =>
    obtain ⟨ho, h⟩ := ifs_ok h
    obtain ⟨x, hx, h⟩ := bnd_ok h
    obtain ⟨y, hy, rfl⟩ := map_ok h
    have q := z_op (pos := p) (bin_s G.pw ho) (ih.e hx G a).1 (ih.e hy G a).1
    exact ⟨q, fun _ => zt_val q fun _ => rfl⟩
  | UnaryOp u b p =>
    cases u with
    | USub =>
      obtain ⟨x, hx, rfl⟩ := map_ok h
      have q := z_neg (pos := p) (ih.e hx G a).1
      exact ⟨q, fun _ => zt_val q fun _ => rfl⟩
    | Not =>
      obtain ⟨x, hx, rfl⟩ := map_ok h
      exact ⟨z_not (ih.e hx G a).1, fun z => nomatch z⟩
    | _ => cases h
  | Compare l os bs p =>
    cases os with
    | nil => cases h
    | cons o os =>
      cases os with
      | nil =>
        cases bs with
        | nil => cases h
        | cons b bs =>
          cases bs with
          | cons _ _ => cases h
          | nil =>
            dsimp only at h
            split at h
            · obtain ⟨x, hx, rfl⟩ := map_ok h
              exact ⟨z_isN false (ih.e hx G a).1, fun _ => zt_isN false (ih.e hx G a).1⟩
            · obtain ⟨x, hx, rfl⟩ := map_ok h
              exact ⟨z_isN true (ih.e hx G a).1, fun _ => zt_isN true (ih.e hx G a).1⟩
            · obtain ⟨⟨ho, hm⟩, h⟩ := ifs_ok h
              obtain ⟨x, hx, h⟩ := bnd_ok h
              obtain ⟨y, hy, rfl⟩ := map_ok h
              exact ⟨z_cmp G.hu ho hm (ih.e hx G a).1 (ih.e hy G a).1, fun _ => zt_cmp G.hu ho hm (ih.e hx G a).1 (ih.e hy G a).1⟩
      | cons o' os =>
        cases os with
        | cons _ _ => cases h
        | nil =>
          cases bs with
          | nil => cases h
          | cons b bs =>
            cases bs with
            | nil => cases h
            | cons b' bs =>
              cases bs with
              | cons _ _ => cases h
              | nil =>
                obtain ⟨⟨ho, ho', hm⟩, h⟩ := ifs_ok h
                obtain ⟨x, hx, h⟩ := bnd_ok h
                obtain ⟨y, hy, h⟩ := bnd_ok h
                obtain ⟨z, hz, rfl⟩ := map_ok h
                exact ⟨z_chn G.hu ho ho' hm (ih.e hx G a).1 (ih.e hy G a).1 (ih.e hz G a).1, fun _ => zt_chn G.hu ho ho' hm (ih.e hx G a).1 (ih.e hy G a).1 (ih.e hz G a).1⟩
  | BoolOp o vs p =>
    refine ⟨?_, fun z => nomatch z⟩
    dsimp only at h
    split at h
    · cases h
    · exact z_one (ih.e h G a).1
    · obtain ⟨x, hx, h⟩ := bnd_ok h
      obtain ⟨y, hy, rfl⟩ := map_ok h
      cases o with
      | And => exact z_and (ih.e hx G a).1 (ih.e hy G a).1
      | Or => exact z_or (ih.e hx G a).1 (ih.e hy G a).1
  | IfExp t b d p =>
    obtain ⟨w, hw, h⟩ := bnd_ok h
    obtain ⟨x, hx, h⟩ := bnd_ok h
    obtain ⟨y, hy, rfl⟩ := map_ok h
    exact ⟨z_ite (ih.t hw G a).1 (ih.e hx G a).1 (ih.e hy G a).1, fun z => nomatch z⟩
  | Tuple es kk p =>
    obtain ⟨r, hr, rfl⟩ := map_ok h
    have q := z_tup (k := kk) (pos := p) (ih.es hr G a).1
    exact ⟨q, fun _ => zt_val q fun _ => rfl⟩
  | List es p =>
    obtain ⟨r, hr, rfl⟩ := map_ok h
    have q := z_lst (pos := p) (ih.es hr G a).1
    exact ⟨q, fun _ => zt_val q fun _ => rfl⟩
  | Subscript l b p =>
    have plain : plainI b = true → (match nameE l with
          | some x => if visB s x = true then (slot c.N x).bind fun i => (cE c n s b).map fun y => E.subv i y else none
          | none => (cE c n s l).bind fun x => (cE c n s b).map fun y => .sub x y) = some x → PE X (.Subscript l b p) (tE X.K T x) := fun hp h => by
      split at h
      · obtain ⟨hv, h⟩ := ifs_ok h
        obtain ⟨i, hi, h⟩ := bnd_ok h
        obtain ⟨y, hy, rfl⟩ := map_ok h
        obtain ⟨v1, v2, v3⟩ := vis_ok a.s hv
        obtain ⟨p2, rfl⟩ := name_ok ‹nameE _ = some _›
        exact z_subv (by rw [a.n]; exact slot_ok hi) v1 v2 v3 (plainI_ok hp) (ih.e hy G a).1
      · obtain ⟨x, hx, h⟩ := bnd_ok h
        obtain ⟨y, hy, rfl⟩ := map_ok h
        exact z_sub (plainI_ok hp) (ih.e hx G a).1 (ih.e hy G a).1
    have all : PE X (.Subscript l b p) (tE X.K T x) := by
      cases b with
      | Slice lo hi st p2 =>
        cases st with
        | some _ => cases h
        | none =>
          obtain ⟨x, hx, h⟩ := bnd_ok h
          obtain ⟨y, hy, h⟩ := bnd_ok h
          obtain ⟨z, hz, rfl⟩ := map_ok h
          exact z_slc (ih.e hx G a).1 (ih.o hy G a) (ih.o hz G a)
      | _ =>
        obtain ⟨hp, h⟩ := ifs_ok h
        exact plain hp h
    exact ⟨all, fun _ => zt_val all fun _ => rfl⟩
  | Call f as ks p =>
    cases ks with
    | cons kw kws =>
      cases f with
      | Name y p2 =>
        dsimp only at h
        obtain ⟨hg, h⟩ := ifs_ok h
        obtain ⟨hg, hd⟩ := glo_ok a.s hg
        split at h
        · have hdn := ‹dnAt c.ds y = some _›
          obtain ⟨ks, hks, h⟩ := bnd_ok h
          obtain ⟨⟨h1, h2⟩, h⟩ := ifs_ok h
          obtain ⟨r, hr, rfl⟩ := map_ok h
          obtain ⟨g1, g2⟩ := ih.kw hr G a
          have q := z_fnk (pos := p) (p := p2) G (dn_ok hdn) h1 (by rw [g2, kw_len hks]) h2 hg hd hks g1
          exact ⟨q, fun _ => zt_val q fun _ => rfl⟩
        · obtain ⟨z, hz, h⟩ := bnd_ok h
          obtain ⟨z1, z2⟩ := xn_ok hz
          split at h
          · have hf := ‹z.f = some _›
            have hk := ‹kw :: kws = _›
            obtain ⟨hq, h⟩ := ifs_ok h
            obtain ⟨w, hw, rfl⟩ := map_ok h
            rw [hk, hq]
            have q := fun kp => z_mkk (pos := p) (p := p2) (kpos := kp) G z1 hf z2 hg hd (ih.e hw G a).1
            exact ⟨q _, fun _ => zt_val (q _) fun _ => rfl⟩
          · cases h
        · cases h
      | _ => cases h
    | nil =>
      cases f with
      | Name y p2 =>
        have q := call_s ih h0 G a
        exact ⟨q, fun _ => zt_val q fun _ => rfl⟩
      | Attribute o at_ ap =>
        have q : PE X (.Call (.Attribute o at_ ap) as [] p) (tE X.K T x) := by
          dsimp only at h
          obtain ⟨y, hy, h⟩ := bnd_ok h
          obtain ⟨⟨h1, h2, h3⟩, h⟩ := ifs_ok h
          obtain ⟨i, hi, h⟩ := bnd_ok h
          obtain ⟨v1, v2, v3⟩ := vis_ok a.s h2
          have hN : X.N[i]? = some y := by rw [a.n]; exact slot_ok hi
          cases as with
          | nil =>
            cases h
            obtain ⟨p2, rfl⟩ := name_ok hy
            subst h1
            exact z_pop0 hN v1 v2 v3 h3
          | cons b as =>
            cases as with
            | cons _ _ => cases h
            | nil =>
              obtain ⟨hp, h⟩ := ifs_ok h
              obtain ⟨z, hz, rfl⟩ := map_ok h
              obtain ⟨p2, rfl⟩ := name_ok hy
              subst h1
              exact z_popAt hN v1 v2 v3 hp (ih.e hz G a).1 h3
        exact ⟨q, fun _ => zt_val q fun _ => rfl⟩
      | _ => cases h
  | Attribute o f p =>
    obtain ⟨hb, h⟩ := ifs_ok h
    obtain ⟨x, hx, rfl⟩ := map_ok h
    have q := z_fld (pos := p) (f := f) G (cs := (c.xs.filter fun y => decide (y.f = some f)).map (·.c)) (fun c' hc' => by
      obtain ⟨t, ht, e⟩ := List.mem_map.mp hc'
      obtain ⟨t1, t2⟩ := List.mem_filter.mp ht
      exact ⟨t, t1, e, of_decide_eq_true t2⟩) (ih.e hx G a).1 hb
    exact ⟨q, fun _ => zt_val q fun _ => rfl⟩
  | SetComp y gs scope p =>
    dsimp only at h
    split at h
    · obtain ⟨own, tg', it, cs, y, rfl, own', rfl, h1, h2, h3, h4, h5, h6, h7, h8⟩ := sx_s ih h0 G a
      have hu := G.hu
      have q := imp (Zs.pe_sx (pos := p) (by omega) G.calm G.nd h1 h2 h3 h4 h5 h6) fun σ H Q g => by
        rw [G.pw.1, G.pw.2]
        exact sx_i (T := T) h7 h8 g
      exact ⟨q, fun _ => zt_val q fun _ => rfl⟩
    · cases h
  | ListComp y gs scope p =>
    dsimp only at h
    split at h
    · obtain ⟨own, tg', it, cs, y, rfl, own', rfl, h1, h2, h3, h4, h5, h6, h7, h8⟩ := lc_s ih h0 G a
      have q := z_lc (cp := p) G.calm G.nd h1 h2 h3 h4 h5 h6 h7 h8
      exact ⟨q, fun _ => zt_val q fun _ => rfl⟩
    · cases h
  | _ => cases h
theorem snd (c : Cc) : ∀ n, Snd c n
  | 0 => ⟨fun h => (by rw [cE.eq_def] at h; cases h), fun h => (by rw [cQ.eq_def] at h; cases h), fun h => (by rw [cEs.eq_def] at h; cases h), fun h => (by rw [cT.eq_def] at h; cases h), fun h => (by rw [cTs.eq_def] at h; cases h), fun h => (by rw [cO.eq_def] at h; cases h), fun h => (by rw [cK.eq_def] at h; cases h), fun h => (by rw [cI.eq_def] at h; cases h)⟩
  | n + 1 => ⟨e_s (snd c n), q_s (snd c n), es_s (snd c n), t_s (snd c n), ts_s (snd c n), o_s (snd c n), k_s (snd c n), i_s (snd c n)⟩
end
end Z

set_option Elab.async false
set_option linter.all false
set_option autoImplicit false
set_option maxRecDepth 100000
set_option maxHeartbeats 4000000
/-! Z18: statements, from the written text to the small one. -/
namespace Z
open PySem PySem.Spec PyProof.Rows L2
def compS : Expr → Option Scope
  | .ListComp _ _ s _ => some s
  | .SetComp _ _ s _ => some s
  | .DictComp _ _ _ s _ => some s
  | _ => none
def bkOf (sc : Scope) : ScopeKind := if sc.kind.isAnnotationScope then .function else sc.kind
def swN (v : Expr) (t : Str) (p : Pos) (sc : Scope) : Bool := match compS v with
  | none => false
  | some k => bkOf sc == .function && sc.names.lookup t == some .local && p.line == v.pos.line && !(k.names.any fun (n, k) => n == t && (k == .local || k == .cell))
theorem swN_ok (v : Expr) (t : Str) (p : Pos) (l : Nat) (env : Env) : swapsWith v (some (.Name t p)) l env = pure (swN v t p env.scope) := by
  cases v <;> rfl
theorem sw0 {v : Expr} {l : Nat} {env : Env} (h : compS v = none) : swapsWith v none l env = pure false := by
  cases v <;> first | rfl | cases h
theorem swT {v : Expr} {es : List Expr} {k : Nat} {p : Pos} {l : Nat} {env : Env} : swapsWithSole [.Tuple es k p] v l env = pure false := by
  cases v <;> rfl
theorem swS {v a b : Expr} {p : Pos} {l : Nat} {env : Env} : swapsWithSole [.Subscript a b p] v l env = pure false := by
  cases v <;> rfl
theorem stS {v a b : Expr} {p : Pos} {env : Env} : swappedStores [.Subscript a b p] v env = pure none := by
  cases v <;> rfl
/-- which stores go from the right -/
def parQ (ts : List Expr) (v : Expr) (sc : Scope) : Option (Option (List Str)) := match v with
  | .Tuple vs _ _ =>
    if (!(ts.length == 2 || ts.length == 3) || vs.length != ts.length || bkOf sc != .function) = true then some none
    else if (vs.any fun | .Starred .. => true | _ => false) = true then some none
    else
      let names := ts.filterMap fun
        | .Name id pos => if (sc.names.lookup id == some .local && pos.line == (ts.head?.map (·.pos.line)).getD 0) = true then some id else none
        | _ => none
      if (names.length != ts.length || names.eraseDups.length != names.length) = true then some none
      else if vs.all (foldedForSure 8) = true then some none
      else if vs.all (constantsAlone 8) = true then none
      else some (some names)
  | _ => some none
theorem parQ_ok {ts : List Expr} {v : Expr} {k : Nat} {p : Pos} {env : Env} {r : Option (List Str)} (h : parQ ts v env.scope = some r) : swappedStores [.Tuple ts k p] v env = pure r := by
  cases v with
  | Tuple vs k2 p2 =>
    unfold parQ at h
    unfold swappedStores
    dsimp only at h ⊢
    change (if (!(ts.length == 2 || ts.length == 3) || vs.length != ts.length || bkOf env.scope != .function) = true then _ else _) = _
    split at h
    · rename_i h1
      rw [if_pos h1]; cases h; rfl
    · rename_i h1
      rw [if_neg h1]
      split at h
      · rename_i h2
        cases h
        exact if_pos h2
      · rename_i h2
        refine (if_neg h2).trans ?_
        split at h
        · rename_i h3
          cases h
          exact if_pos h3
        · rename_i h3
          refine (if_neg h3).trans ?_
          split at h
          · rename_i h4
            cases h
            exact if_pos h4
          · rename_i h4
            refine (if_neg h4).trans ?_
            split at h
            · cases h
            · rename_i h5
              cases h
              exact if_neg h5
  | _ =>
    cases h
    rfl
/-- a name's value leaves with it -/
def mvOf (c : Cc) (pr : List Nat) (s : Sc) (e : Expr) : Option Nat := (nameE e).bind fun x => if visB s x = true then (slot c.N x).bind fun i => if i ∉ pr then some i else none else none
mutual
  def cS (c : Cc) (pr : List Nat) : Nat → Sc → Stmt → Option S
    | 0, _, _ => none
    | n + 1, s, st => match st with
      | .Pass _ => some .pass
      | .Break _ => some .brk
      | .Continue _ => some .cnt
      | .Return v _ => match v with
        | none => some .retN
        | some e => match mvOf c pr s e with
          | some i => some (.ret (.mv i))
          | none => (cE c n s e).map .ret
      | .Expr e p => match e with
        | .Call f as ks cp => match f with
          | .Attribute o at_ ap => if at_ = "pop" then (cE c n s (.Call (.Attribute o at_ ap) as ks cp)).map .ex else match as, ks with
            | [a], [] => (nameE o).bind fun y => if at_ = "append" ∧ visB s y = true ∧ plainE a = true ∧ (ap.endLine == cp.line) = true then (slot c.N y).bind fun i => (cE c n s a).map (.ap i) else none
            | _, _ => none
          | f => (cE c n s (.Call f as ks cp)).map .ex
        | e => if compS e = none then (cE c n s e).map .ex else none
      | .Assign ts v p => match ts with
        | [t] => match t with
          | .Name y q => if locB s y = true then (slot c.N y).bind fun i => if i ∉ pr then match swN v y q s.sc with
              | false => (cE c n s v).map (.as (.n i))
              | true => match v with
                | .ListComp _ [⟨_, _, _, 0⟩] _ _ => (cE c n s v).map (.as (.n i))
                | _ => none
              else none else none
          | .Tuple es k q => match parQ es v s.sc with
            | some none => (cG c s n (.Tuple es k q)).bind fun tg => (cE c n s v).bind fun x => if ∀ i ∈ tg.slots, i ∉ pr then some (.as tg x) else none
            | some (some names) => match es, v with
              | [.Name x _, .Name y _], .Tuple [a, b] _ _ => (slot c.N x).bind fun i => (slot c.N y).bind fun j => (cEs c n s [1, 1] [a, b]).bind fun r =>
                if names = [x, y] ∧ i ≠ j ∧ i ∉ pr ∧ j ∉ pr ∧ s.sc.names.lookup x = some .local ∧ s.sc.names.lookup y = some .local then some (.par [i, j] r) else none
              | _, _ => none
            | none => none
          | .Subscript o b q => match nameE o with
            | some y => if visB s y = true ∧ plainI b = true then (slot c.N y).bind fun i => (cE c n s b).bind fun x => (cE c n s v).map fun z => .sset i x z else none
            | none => none
          | _ => none
        | _ => none
      | .AugAssign t o v _ => match nameE t with
        | some y => if locB s y = true ∧ (o = .Add ∨ o = .Sub) then (slot c.N y).bind fun i => if i ∉ pr then (cE c n s v).map (.aug i o) else none else none
        | none => none
      | .If t a b _ => (cT c n s t).bind fun k => (cSs c pr n s a).bind fun x => (cSs c pr n s b).map fun y => .ite k x y
      | .For t i b o _ => match o with
        | [] => if plainF i = true then (cG c s n t).bind fun tg => (cI c n s t i false).bind fun it => (cSs c pr n s b).bind fun x => if ∀ i ∈ tg.slots, i ∉ pr then some (.fr tg it x) else none else none
        | _ => none
      | .While t b o _ => match o with
        | [] => (cT c n s t).bind fun k => (cSs c pr n s b).map fun x => .wh k x
        | _ => none
      | _ => none
  def cSs (c : Cc) (pr : List Nat) : Nat → Sc → List Stmt → Option Ss
    | 0, _, _ => none
    | n + 1, s, l => match l with
      | [] => some .nil
      | a :: r => (cS c pr n s a).bind fun x => (cSs c pr n s r).map fun y => .cons x y
end
end Z

set_option Elab.async false
set_option linter.all false
set_option autoImplicit false
set_option maxRecDepth 100000
set_option maxHeartbeats 4000000
/-! Z19: statements: the small text gives what the written text gives. -/
namespace Z
open PySem PySem.Spec PyProof.Rows L2
variable [Tbs]
theorem len_two {α : Type} : ∀ {l : List α}, l.length = 2 → ∃ a b, l = [a, b]
  | [a, b], _ => ⟨a, b, rfl⟩
section
variable {K : PySem.W.Frag}
theorem Rel.store' {H : Hp} {σ : L2.St} {e : Ev} {rs Fr : Rt} {v : V} {d : D} {i : Nat} (s : Sl σ e rs) (h : Rel K H ((v, d) :: (rs ++ Fr))) : ∃ r1, Sl (σ.set i (some v)) (e.set i (some d)) r1 ∧ Rel K H (r1 ++ Fr) := by
  by_cases hl : i < e.length
  · exact Rel.store s h hl
  · have h1 : e.set i (some d) = e := List.set_eq_of_length_le (by omega)
    have h2 : σ.set i (some v) = σ := List.set_eq_of_length_le (by rw [s.len]; omega)
    rw [h1, h2]
    exact ⟨rs, s, h.tail⟩
variable {X : Cx} {T : Tab} {pr : List Nat} {pos : Pos} {ea eb : Expr} {r : Es}
theorem par_i {D : Ends} {σ : L2.St} {H : Hp} {i j : Nat} (hi : i ∉ pr) (hj : j ∉ pr) (g : tS X.K T pr (.par [i, j] r) D σ H) : tPar i j (tA X.K T r) D σ H := by
  obtain ⟨e, rs, Fr, s, h, w⟩ := g
  rw [dS] at w
  refine useA wd_s w s h fun xs e1 vs H1 rs1 as _ w1 s1 g h1 => ?_
  cases hl : args1 xs with
  | none => rw [hl] at w1; exact w1.elim
  | some l =>
    rw [hl] at w1
    obtain ⟨l1, rfl⟩ := g.all hl
    dsimp only at w1
    split at w1
    · rename_i l2
      obtain ⟨da, db, rfl⟩ := len_two l2
      obtain ⟨v, u, rfl⟩ := len_two l1
      refine ⟨v, u, rfl, ?_⟩
      have h9 : Rel X.K H1 ((v, da) :: (u, db) :: (rs1 ++ Fr)) := h1
      obtain ⟨r1, s2, h2⟩ := Rel.store' (i := i) s1 (Fr := (u, db) :: Fr) (h9.perm (.cons _ List.perm_middle.symm))
      obtain ⟨r2, s3, h3⟩ := Rel.store' (i := j) s2 (h2.perm List.perm_middle)
      exact w1 _ H1 r2 ((Keep.set hi).tr (.set hj)) s3 h3
    · exact w1.elim
theorem zs_par {i j : Nat} {x y : Str} {px py pt : Pos} {kt k2 : Nat} {pt2 : Pos} (hc : X.calm = true) (hN : X.N.Nodup) (hi : X.N[i]? = some x) (hj : X.N[j]? = some y) (hij : i ≠ j) (pi : i ∉ pr) (pj : j ∉ pr)
    (hx : X.env.scope.names.lookup x = some .local) (hy : X.env.scope.names.lookup y = some .local) (ha : PA X [ea, eb] (tA X.K T r))
    (hw : swappedStores [.Tuple [.Name x px, .Name y py] kt pt] (.Tuple [ea, eb] k2 pt2) X.env = pure (some [x, y])) :
    PS X (.Assign [.Tuple [.Name x px, .Name y py] kt pt] (.Tuple [ea, eb] k2 pt2) pos) (tS X.K T pr (.par [i, j] r)) :=
  impS (ps_par hc hN hi hj hij hx hy ha hw swT) fun D σ H => par_i pi pj
end
structure SndS (c : Cc) (pr : List Nat) (n : Nat) : Prop where
  s : ∀ {k : Nat} {X : Cx} {T : Tab} {s : Sc} {st : Stmt} {x : S}, cS c pr n s st = some x → Gd X T (nmOf c) k → At k c s X → (X.xe = fun _ _ => False) → PS X st (tS X.K T pr x)
  ss : ∀ {k : Nat} {X : Cx} {T : Tab} {s : Sc} {st : List Stmt} {x : Ss}, cSs c pr n s st = some x → Gd X T (nmOf c) k → At k c s X → (X.xe = fun _ _ => False) → PSs X st (tSs X.K T pr x)
section
variable {c : Cc} {n k : Nat} {X : Cx} {T : Tab} {s : Sc} {pr : List Nat}
theorem mv_ok {e : Expr} {i : Nat} (h : mvOf c pr s e = some i) (a : At k c s X) : PE X e (tE X.K T (.mv i)) := by
  obtain ⟨x, hx, h⟩ := bnd_ok h
  obtain ⟨p, rfl⟩ := name_ok hx
  obtain ⟨hv, h⟩ := ifs_ok h
  obtain ⟨j, hj, h⟩ := bnd_ok h
  obtain ⟨_, h⟩ := ifs_ok h
  cases h
  obtain ⟨v1, v2, v3⟩ := vis_ok a.s hv
  exact z_mv (by rw [a.n]; exact slot_ok hj) v1 v2 v3
theorem swN_loc {v : Expr} {y : Str} {q : Pos} {sc : Scope} (h : swN v y q sc = true) : sc.names.lookup y = some .local := by
  unfold swN at h
  split at h
  · cases h
  · simp only [Bool.and_eq_true, beq_iff_eq] at h
    exact h.1.1.2
theorem as_s {t v : Expr} {p : Pos} {x : S} (h : cS c pr (n + 1) s (.Assign [t] v p) = some x) (G : Gd X T (nmOf c) k) (a : At k c s X) : PS X (.Assign [t] v p) (tS X.K T pr x) := by
  rw [cS.eq_def] at h
  dsimp only at h
  cases t with
  | Name y q =>
    obtain ⟨hl, h⟩ := ifs_ok h
    obtain ⟨i, hi, h⟩ := bnd_ok h
    obtain ⟨hp, h⟩ := ifs_ok h
    obtain ⟨l1, l2⟩ := loc_ok a hl
    have hs := swN_ok v y q p.line X.env
    rw [a.s] at hs
    have hN : X.N[i]? = some y := by rw [a.n]; exact slot_ok hi
    cases hw : swN v y q s.sc with
    | false =>
      rw [hw] at h hs
      obtain ⟨x, hx, rfl⟩ := map_ok h
      exact zs_set G.nd hN l1 l2 hp ((snd c n).e hx G a).1 hs
    | true =>
      rw [hw] at h hs
      dsimp only at h
      split at h
      · obtain ⟨x, hx, rfl⟩ := map_ok h
        cases n with
        | zero => rw [cE.eq_def] at hx; cases hx
        | succ n =>
          obtain ⟨own, tg', it, cs, y', rfl, own', rfl, h1, h2, h3, h4, h5, h6, h7, h8⟩ := lc_s (snd c n) hx G a
          exact zs_lc G.calm G.nd hN (by rw [a.s]; exact swN_loc hw) hp hs h1 h2 h3 h4 h5 h6 h7 h8
      · cases h
  | Tuple es kk q =>
    dsimp only at h
    split at h
    · rename_i hq
      obtain ⟨tg, ht, h⟩ := bnd_ok h
      obtain ⟨x, hx, h⟩ := bnd_ok h
      obtain ⟨hp, h⟩ := ifs_ok h
      cases h
      exact zs_as hp ((snd c n).e hx G a).1 ((g_ok n).1 _ _ _ ht G.calm G.nd a) swT (parQ_ok (by rw [a.s]; exact hq)) rfl
    · rename_i hq
      split at h
      · obtain ⟨i, hi, h⟩ := bnd_ok h
        obtain ⟨j, hj, h⟩ := bnd_ok h
        obtain ⟨r, hr, h⟩ := bnd_ok h
        obtain ⟨⟨h1, h2, h3, h4, h5, h6⟩, h⟩ := ifs_ok h
        cases h
        subst h1
        exact zs_par G.calm G.nd (by rw [a.n]; exact slot_ok hi) (by rw [a.n]; exact slot_ok hj) h2 h3 h4 (by rw [a.s]; exact h5) (by rw [a.s]; exact h6) ((snd c n).es hr G a).1 (parQ_ok (by rw [a.s]; exact hq))
      · cases h
    · cases h
  | Subscript o b q =>
    dsimp only at h
    split at h
    · obtain ⟨⟨hv, hb⟩, h⟩ := ifs_ok h
      obtain ⟨i, hi, h⟩ := bnd_ok h
      obtain ⟨x, hx, h⟩ := bnd_ok h
      obtain ⟨z, hz, rfl⟩ := map_ok h
      obtain ⟨v1, v2, v3⟩ := vis_ok a.s hv
      obtain ⟨p2, rfl⟩ := name_ok ‹nameE _ = some _›
      exact zs_sset (by rw [a.n]; exact slot_ok hi) v1 v2 v3 ((snd c n).e hz G a).1 ((snd c n).e hx G a).1 swS stS fun u => by cases b <;> first | rfl | cases hb
    · cases h
  | _ => cases h
theorem s_s (ih : SndS c pr n) {st : Stmt} {x : S} (h : cS c pr (n + 1) s st = some x) (G : Gd X T (nmOf c) k) (a : At k c s X) (hx : X.xe = fun _ _ => False) : PS X st (tS X.K T pr x) := by
  have h0 := h
  have own : PassesOwn (model X.prog X.w) X.A X.env X.xe := by rw [hx]; exact PassesOwn.never
  rw [cS.eq_def] at h
  dsimp only at h
  cases st with
  | Pass p => cases h; exact zs_pass
  | Break p => cases h; exact zs_brk
  | Continue p => cases h; exact zs_cnt
  | Return v p =>
    cases v with
    | none => cases h; exact zs_retN
    | some e =>
      dsimp only at h
      split at h
      · rename_i hm
        cases h
        exact zs_ret (mv_ok hm a)
      · obtain ⟨x, hx, rfl⟩ := map_ok h
        exact zs_ret ((snd c n).e hx G a).1
  | Expr e p =>
    have plain : compS e = none → (cE c n s e).map S.ex = some x → PS X (.Expr e p) (tS X.K T pr x) := fun hs h => by
      obtain ⟨x, hx, rfl⟩ := map_ok h
      exact zs_ex ((snd c n).e hx G a).1 (sw0 hs)
    cases e with
    | Call f as ks cp =>
      cases f with
      | Attribute o at_ ap =>
        dsimp only at h
        split at h
        · exact plain rfl h
        split at h
        · obtain ⟨y, hy, h⟩ := bnd_ok h
          obtain ⟨⟨h1, h2, h3, h4⟩, h⟩ := ifs_ok h
          obtain ⟨i, hi, h⟩ := bnd_ok h
          obtain ⟨x, hx, rfl⟩ := map_ok h
          obtain ⟨v1, v2, v3⟩ := vis_ok a.s h2
          obtain ⟨p2, rfl⟩ := name_ok hy
          subst h1
          exact zs_ap (by rw [a.n]; exact slot_ok hi) v1 v2 v3 h3 ((snd c n).e hx G a).1 h4
        · cases h
      | _ => exact plain rfl h
    | _ =>
      obtain ⟨hs, h⟩ := ifs_ok h
      exact plain hs h
  | Assign ts v p =>
    cases ts with
    | nil => cases h
    | cons t ts =>
      cases ts with
      | nil => exact as_s h0 G a
      | cons _ _ => cases h
  | AugAssign t o v p =>
    dsimp only at h
    split at h
    · obtain ⟨⟨hl, ho⟩, h⟩ := ifs_ok h
      obtain ⟨i, hi, h⟩ := bnd_ok h
      obtain ⟨hp, h⟩ := ifs_ok h
      obtain ⟨x, hx, rfl⟩ := map_ok h
      obtain ⟨l1, l2⟩ := loc_ok a hl
      obtain ⟨p2, rfl⟩ := name_ok ‹nameE _ = some _›
      exact zs_aug ho G.nd (by rw [a.n]; exact slot_ok hi) l1 l2 hp ((snd c n).e hx G a).1
    · cases h
  | If t b d p =>
    obtain ⟨z, hz, h⟩ := bnd_ok h
    obtain ⟨x, hx', h⟩ := bnd_ok h
    obtain ⟨y, hy, rfl⟩ := map_ok h
    exact zs_ite ((snd c n).t hz G a).1 (ih.ss hx' G a hx) (ih.ss hy G a hx)
  | For t i b o p =>
    cases o with
    | cons _ _ => cases h
    | nil =>
      obtain ⟨hf, h⟩ := ifs_ok h
      obtain ⟨tg, ht, h⟩ := bnd_ok h
      obtain ⟨it, hi, h⟩ := bnd_ok h
      obtain ⟨x, hx', h⟩ := bnd_ok h
      obtain ⟨hp, h⟩ := ifs_ok h
      cases h
      exact zs_for G.calm own hp ((snd c n).i (w := false) hi G a) ((g_ok n).1 _ _ _ ht G.calm G.nd a) (ih.ss hx' G a hx) (folded_ok hf)
  | While t b o p =>
    cases o with
    | cons _ _ => cases h
    | nil =>
      obtain ⟨z, hz, h⟩ := bnd_ok h
      obtain ⟨x, hx', rfl⟩ := map_ok h
      exact zs_wh own ((snd c n).t hz G a).1 (ih.ss hx' G a hx)
  | _ => cases h
theorem ss_s (ih : SndS c pr n) {st : List Stmt} {x : Ss} (h : cSs c pr (n + 1) s st = some x) (G : Gd X T (nmOf c) k) (a : At k c s X) (hx : X.xe = fun _ _ => False) : PSs X st (tSs X.K T pr x) := by
  rw [cSs.eq_def] at h
  cases st with
  | nil => cases h; exact zss_nil
  | cons z r =>
    obtain ⟨x, hx', h⟩ := bnd_ok h
    obtain ⟨y, hy, rfl⟩ := map_ok h
    exact zss_cons (ih.s hx' G a hx) (ih.ss hy G a hx)
theorem sndS (c : Cc) (pr : List Nat) : ∀ n, SndS c pr n
  | 0 => ⟨fun h => (by rw [cS.eq_def] at h; cases h), fun h => (by rw [cSs.eq_def] at h; cases h)⟩
  | n + 1 => ⟨s_s (sndS c pr n), ss_s (sndS c pr n)⟩
end
end Z

set_option Elab.async false
set_option linter.all false
set_option autoImplicit false
set_option maxRecDepth 100000
set_option maxHeartbeats 4000000
/-! Z20: the defs, level by level. -/
namespace Z
open PySem PySem.Spec PyProof.Rows L2
variable [Tbs]
theorem Sl.start0 (n : Nat) : Sl (List.replicate n none) (List.replicate n none) [] := by
  induction n with
  | zero => exact .nil
  | succ n ih =>
    rw [List.replicate_succ, List.replicate_succ]
    exact .skip ih
theorem Sl.start (n : Nat) : ∀ {vs : List V} {as : List D}, vs.length = as.length → Sl (vs.map some ++ List.replicate n none) (as.map some ++ List.replicate n none) (vs.zip as)
  | [], [], _ => Sl.start0 n
  | v :: vs, a :: as, h => .has (Sl.start n (Nat.succ.inj h))
/-- what is kept of the slots -/
theorem Sl.part : ∀ {σ : L2.St} {e : Ev} {rs : Rt}, Sl σ e rs → ∀ {σ' : L2.St} {e' : Ev}, σ'.length = e'.length → (∀ (i : Nat) (d : D), rd i e' = some d → rd i e = some d ∧ σ'[i]? = σ[i]?) → ∃ rs' dr, Sl σ' e' rs' ∧ rs.Perm (dr ++ rs')
  | _, _, rs, _, [], [], _, _ => ⟨[], rs, .nil, by simp⟩
  | _, _, _, .nil, v :: σ', d :: e', hl, h => by
    obtain ⟨rs', dr, h1, h2⟩ := Sl.part .nil (σ' := σ') (e' := e') (by simpa using hl) fun i d hi => absurd (h (i + 1) d hi).1 (by simp [rd])
    cases d with
    | none => exact ⟨rs', dr, .skip h1, h2⟩
    | some d => exact absurd (h 0 d rfl).1 (by simp [rd])
  | _, _, _, .skip (o := o) s, v :: σ', d :: e', hl, h => by
    obtain ⟨rs', dr, h1, h2⟩ := s.part (σ' := σ') (e' := e') (by simpa using hl) fun i d hi => by
      have q := h (i + 1) d hi
      exact ⟨q.1, by simpa using q.2⟩
    cases d with
    | none => exact ⟨rs', dr, .skip h1, h2⟩
    | some d => exact absurd (h 0 d rfl).1 (by simp [rd])
  | _, _, _, .has (v := w) (d := u) s, v :: σ', d :: e', hl, h => by
    obtain ⟨rs', dr, h1, h2⟩ := s.part (σ' := σ') (e' := e') (by simpa using hl) fun i d hi => by
      have q := h (i + 1) d hi
      exact ⟨q.1, by simpa using q.2⟩
    cases d with
    | none => exact ⟨rs', (w, u) :: dr, .skip h1, h2.cons _⟩
    | some d =>
      obtain ⟨q1, q2⟩ := h 0 d rfl
      have e1 : u = d := by simpa [rd] using q1
      have e2 : v = some w := by simpa using q2
      subst e1
      subst e2
      exact ⟨_, dr, .has h1, (h2.cons _).trans List.perm_middle.symm⟩
theorem rd_mask {f : Fd} {e : Ev} {i : Nat} {d : D} (h : rd i (maskE f e) = some d) : i < f.ps ∧ f.pr.contains i = true ∧ rd i e = some d := by
  unfold maskE rd at h
  rw [List.getElem?_map] at h
  by_cases hi : i < f.ps
  · rw [List.getElem?_range hi] at h
    simp only [Option.map_some, Option.join_some] at h
    split at h
    · exact ⟨hi, by assumption, h⟩
    · cases h
  · rw [List.getElem?_eq_none (by simpa using hi)] at h
    cases h
/-- a def of the text: its name, its statement, its names by slot, its parameters, which are lent -/
structure Df where
  x : Str
  st : Stmt
  N : List Str
  ps : List Str
  lent : List Bool
  kws : List (List Str)
def prOf (d : Df) : List Nat := (List.range d.ps.length).filter fun i => d.lent.getD i false
def dnOf (d : Df) : Dn := ⟨d.x, d.ps, d.lent, d.kws⟩
def cD (ds : List Df) (xs : List Y.Xn) (fuel : Nat) (d : Df) : Option Fd := (cSs ⟨d.N, ds.map dnOf, xs⟩ (prOf d) fuel ⟨defScope d.st, fun _ => true, true⟩ (defBody d.st)).map fun b => ⟨d.ps.length, d.N.length, prOf d, b⟩
def cDs (ds : List Df) (xs : List Y.Xn) (fuel : Nat) : List Df → Option (List Fd)
  | [] => some []
  | d :: r => (cD ds xs fuel d).bind fun x => (cDs ds xs fuel r).map fun y => x :: y
theorem cDs_at {ds : List Df} {xs : List Y.Xn} {fuel : Nat} : ∀ {l : List Df} {fs : List Fd}, cDs ds xs fuel l = some fs → ∀ {i : Nat} {d : Df}, l[i]? = some d → ∃ f, fs[i]? = some f ∧ cD ds xs fuel d = some f
  | [], _, _, i, d, h => by simp at h
  | a :: r, fs, h, i, d, hi => by
    obtain ⟨x, hx, h⟩ := bnd_ok h
    obtain ⟨y, hy, rfl⟩ := map_ok h
    cases i with
    | zero => cases hi; exact ⟨x, rfl, hx⟩
    | succ i => exact cDs_at hy (i := i) (by simpa using hi)
section
variable {P : Program} {w : World} {K : PySem.W.Frag} {mg : Str → Option Value} {base : Heap}
theorem _root_.L2.Fun.okC {x qual : Str} {st : Stmt} {f : Addr} {fd : FuncData} {N ps : List Str} {k : Nat} {sp : Sp} (F : Fun K x qual st f fd) (S : FnScope N ps (defScope st)) (len : ∀ vs H Q E, sp vs H Q E → vs.length = ps.length)
    (hbody : ∀ (cdv : Value) (A : Around) (outer : List Env) (s : Shared) (H : Hp) (vs : List V) (Q : VK) (E : XK), fd.code = cdv → Room k (A.deeper (envOfC qual (defScope st) s.heap.objs.size f cdv)) → sp vs H Q E →
      ∃ t, PSs (cxOf CX0 P w K mg base N qual (defScope st) f cdv A outer s H E).nox (defBody st) t ∧ t { nx := fun _ H' => Q .non H', rt := Q } (L2.start N vs) H) : FnOk P w K mg base CX0 (k + 1) f fd ps sp := by
  obtain ⟨oc, od, kV, doc, pm, an, cdv, ct, osl, rfl, lk, hcd⟩ := F.ex
  refine fn_of lk hcd S len fun A outer s H vs Q E hr hsp => ?_
  obtain ⟨t, h, q⟩ := hbody cdv A outer s H vs Q E rfl hr hsp
  exact ⟨t, h.nox, q⟩
/-- what is known of a def's object -/
structure Kn (K : PySem.W.Frag) (mg : Str → Option Value) (base : Heap) (d : Df) (f : Addr) (fd : FuncData) : Prop where
  ex : ∃ qual : Str, Fun K d.x qual d.st f fd
  g : mg d.x = some (.ref f)
  b : ∀ us : List Value, us.length = d.ps.length → bindArgs fd ⟨us, []⟩ = pure (d.ps.zip us)
  S : FnScope d.N d.ps (defScope d.st)
  kw : ∀ ks ∈ d.kws, ∀ ws : List Value, ws.length = ks.length → bindArgs fd ⟨[], ks.zip ws⟩ = pure (d.ps.zip (reo (ixOf ks d.ps) ws))
  tb : ∃ (c P : Addr), fd.code = .ref c ∧ GxR.TabB base mg c P ∧ P ∈ Tbs.tb
def Know (K : PySem.W.Frag) (mg : Str → Option Value) (base : Heap) (d : Df) : Prop := ∃ f fd, Kn K mg base d f fd
theorem body_ok {N : List Str} {X : Cx} {T : Tab} {F : Fd} {vs : List V} {H : Hp} {Q : VK} {st : List Stmt} (hN : F.ns = N.length) (hb : PSs X st (tSs X.K T F.pr F.body)) (h : spD X.K (runF T F) vs H Q E0) :
    ∃ t, PSs X st t ∧ t { nx := fun _ H' => Q .non H', rt := Q } (L2.start N vs) H := by
  refine ⟨_, hb, ?_⟩
  obtain ⟨as, Fr, hl, hR, h⟩ := h
  unfold runF at h
  by_cases ha : as.length = F.ps
  · rw [if_pos ha] at h
    have hk : N.length - vs.length = F.ns - F.ps := by rw [hN, hl, ha]
    refine ⟨as.map some ++ List.replicate (F.ns - F.ps) none, vs.zip as, Fr, ?_, hR, ?_⟩
    · unfold L2.start
      rw [hk]
      exact Sl.start _ hl
    · have fin : ∀ {e : Ev} {d : D} {v : V} {σ' : L2.St} {H' : Hp} {rs : Rt}, Keep F.pr (L2.start N vs) σ' → Sl σ' e rs → Rel X.K H' ((v, d) :: (rs ++ Fr)) →
          (∀ v H' rs, Sl (vs.map some) (maskE F e) rs → Rel X.K H' ((v, d) :: (rs ++ Fr)) → Q v H') → Q v H' := by
        intro e d v σ' H' rs kp s hr q
        obtain ⟨rs', dr, s', pm⟩ := s.part (σ' := vs.map some) (e' := maskE F e) (by simp [maskE, hl, ha]) fun i d hd => by
          obtain ⟨h1, h2, h3⟩ := rd_mask hd
          refine ⟨h3, ?_⟩
          rw [kp i (by simpa using h2)]
          unfold L2.start
          rw [List.getElem?_append_left (by simp [hl, ha]; exact h1)]
        have h2 : Rel X.K H' (dr ++ ((v, d) :: (rs' ++ Fr))) := by
          refine hr.perm ?_
          classical
          rw [List.perm_iff_count]
          intro z
          have c := pm.count_eq z
          simp only [List.count_append, List.count_cons] at c ⊢
          omega
        exact q v H' rs' s' h2.cut
      generalize dSs T F.body (as.map some ++ List.replicate (F.ns - F.ps) none) = r at h
      cases r with
      | ok f e =>
        cases f with
        | nx => exact fun σ' H' rs kp s hr => fin kp s hr.addN h
        | rt d => exact fun v σ' H' rs kp s hr => fin kp s hr h
        | bk => exact h.elim
        | ct => exact h.elim
      | ex _ _ => exact h.elim
      | no => exact h.elim
  · rw [if_neg ha] at h
    exact h.elim
theorem vals_len {vs : List V} {us : List Value} (r : Vals vs us) : vs.length = us.length := Paired.length r
theorem reo_vals {vs : List V} {us : List Value} (r : Vals vs us) (ix : List Nat) : Vals (reo ix vs) (reo ix us) := by
  induction ix with
  | nil => exact .nil
  | cons j ix ih =>
    unfold reo at ih ⊢
    rw [List.filterMap_cons, List.filterMap_cons]
    cases hj : vs[j]? with
    | none =>
      have : us[j]? = none := List.getElem?_eq_none (by rw [← vals_len r]; exact List.getElem?_eq_none_iff.mp hj)
      rw [this]
      exact ih
    | some x =>
      obtain ⟨u, hu, ru⟩ := r.get hj
      rw [hu]
      exact .cons ru ih
theorem kb_ok {fd : FuncData} {ps ks : List Str} (h : ∀ ws : List Value, ws.length = ks.length → bindArgs fd ⟨[], ks.zip ws⟩ = pure (ps.zip (reo (ixOf ks ps) ws))) (hp : ps ≠ []) : KBinds K fd ps ks (kg (ixOf ks ps) ks.length) (kg (ixOf ks ps) ks.length) where
  to s us ws _ hl := by
    unfold kg at hl ⊢
    by_cases hc : (us.isEmpty && ws.length == ks.length) = true
    · rw [if_pos hc]
      simp only [Bool.and_eq_true, beq_iff_eq, List.isEmpty_iff] at hc
      obtain ⟨rfl, hc⟩ := hc
      exact .of_eq (h ws hc)
    · rw [if_neg hc] at hl
      exact absurd (List.length_eq_zero_iff.mp hl.symm) hp
  rel {vs us zs ws} r1 r2 := by
    unfold kg
    have e1 : vs.isEmpty = us.isEmpty := by
      cases r1 with
      | nil => rfl
      | cons _ _ => rfl
    rw [e1, vals_len r2]
    split
    · exact reo_vals r2 _
    · exact .nil
theorem onel (pw : P = Tbs.P ∧ w = Tbs.w) {ds : List Df} {xs : List Y.Xn} {fs : List Fd} {fuel : Nat} (hc : cDs ds xs fuel ds = some fs) (hx : ∀ x ∈ xs, Y.XOk P w K mg base xs x) (bt : ∀ x ∈ bNames, mg x = none) {n i : Nat} {d : Df} {f : Addr} {fd : FuncData} (hd : ds[i]? = some d) (kn : Kn K mg base d f fd)
    (T : FnT P w K mg base n (tab fs n) ⟨ds.map fun d => ⟨d.x, d.ps.length, d.ps, d.kws⟩, xs⟩) : FnOk P w K mg base CX0 (8 * (n + 1) + 2) f fd d.ps (fun vs H Q E => vs.length = d.ps.length ∧ spD K (tab fs (n + 1) i) vs H Q E) := by
  obtain ⟨⟨qual, F⟩, h1, h2, S, _, cc, PP, hcc, hTB, hPP⟩ := kn
  obtain ⟨fdz, g1, g2⟩ := cDs_at hc hd
  obtain ⟨b, hb, rfl⟩ := map_ok g2
  refine (F.okC (k := 8 * n + 8) S (fun vs H Q E q => q.1) fun cdv A outer s H vs Q E hcd hr ⟨q1, q2⟩ => ?_).mono (by omega)
  have G : Gd (cxOf CX0 P w K mg base d.N qual (defScope d.st) f cdv A outer s H E).nox (tab fs n) (nmOf ⟨d.N, ds.map dnOf, xs⟩) n :=
    ⟨rfl, pw, S.nd, by have := hr.un; show (A.deeper _).units + 65 < cLine; omega, hr.mono (by omega), bt, by
      unfold nmOf
      rw [List.map_map]
      exact T, hx⟩
  refine body_ok (F := ⟨d.ps.length, d.N.length, prOf d, b⟩) rfl ((sndS ⟨d.N, ds.map dnOf, xs⟩ (prOf d) fuel).ss hb G ⟨rfl, rfl, rfl, fun _ => ⟨cc, PP, hcd.symm.trans hcc, hTB, hPP, hr⟩⟩ rfl) ?_
  obtain ⟨as, Fr, q3, q4, q5⟩ := q2
  refine ⟨as, Fr, q3, q4, ?_⟩
  rw [tab, g1] at q5
  exact q5
theorem lev (pw : P = Tbs.P ∧ w = Tbs.w) {ds : List Df} {xs : List Y.Xn} {fs : List Fd} {fuel : Nat} (hc : cDs ds xs fuel ds = some fs) (kn : ∀ d ∈ ds, Know K mg base d) (hl0 : ∀ d ∈ ds, d.kws ≠ [] → d.ps ≠ []) (hx : ∀ x ∈ xs, Y.XOk P w K mg base xs x) (bt : ∀ x ∈ bNames, mg x = none) : ∀ n, FnT P w K mg base n (tab fs n) ⟨ds.map fun d => ⟨d.x, d.ps.length, d.ps, d.kws⟩, xs⟩
  | n, i, x, m, ps, kk, hi => by
    rw [List.getElem?_map] at hi
    obtain ⟨d, hd, he⟩ := map_ok hi
    cases he
    obtain ⟨f, fd, k⟩ := kn d (List.mem_of_getElem? hd)
    obtain ⟨qual, F⟩ := k.ex
    refine ⟨f, fd, rfl, fun ks hks => kb_ok (k.kw ks hks) (hl0 d (List.mem_of_getElem? hd) fun z => by rw [z] at hks; cases hks), k.g, F.kp, .all k.b, ?_⟩
    cases n with
    | zero => exact ⟨fun vs H Q E q => q.1, fun A outer s H args us vs Q E hr e0 hb hv ⟨_, as, Fr, _, _, q⟩ => q.elim⟩
    | succ n => exact onel pw hc hx bt hd k (lev pw hc kn hl0 hx bt n)
end
end Z

set_option Elab.async false
set_option linter.all false
set_option autoImplicit false
set_option maxRecDepth 100000
set_option maxHeartbeats 4000000
/-! Z21: a law's head. -/
namespace Z
open PySem PySem.Spec PyProof.Rows L2
variable [Tbs]
/-- what is asked of the law's def -/
def spLaw (n : Nat) (K : PySem.W.Frag) : Sp := fun vs H Q _ => ∃ (a : Addr) (ns : List Int), vs = [.ref a] ∧ ns.length ≤ n ∧ (∀ P ∈ Tbs.tb, ∃ ps, H P = some (.tbl ps) ∧ TriplesOk ps.toList) ∧ SqL K H a (ns.map V.int) ∧ ∀ v H', v = V.bl true → Q v H'
theorem shL_ints {K : PySem.W.Frag} {Hk : Hp} : ∀ ns : List Int, ShL K Hk (ns.map V.int) (ns.map D.int)
  | [] => .nil
  | n :: r => .cons (.int n) (shL_ints r)
open Classical in
theorem start_rel {K : PySem.W.Frag} {H : Hp} {a : Addr} {ns : List Int} (nd : (Tbs.tb).Nodup) (t : Tabs H) (hs : SqL K H a (ns.map V.int)) : Rel K H [(.ref a, .lck (ns.map D.int))] := by
  have ne : ∀ (o : HO), H a = some o → (∀ ps, o ≠ .tbl ps) → a ∉ Tbs.tb := fun o e n z => by
    obtain ⟨ps, h, _⟩ := t a z
    rw [e] at h
    cases h
    exact n _ rfl
  refine ⟨fun b => if b ∈ Tbs.tb then none else H b, [] ++ Tbs.tb, fun b o e => ?_, .cons (.sh (.lck ?_ (shL_ints ns))) (.nil t), nd, fun b z => if_pos z⟩
  · replace e : (if b ∈ Tbs.tb then none else H b) = some o := e
    split at e
    · cases e
    · exact e
  · rcases hs with (z | ⟨u, z⟩) | z
    · exact .inl (.inl ((if_neg (ne _ z fun ps q => by cases q)).trans z))
    · exact .inl (.inr ⟨u, (if_neg (ne _ z fun ps q => by cases q)).trans z⟩)
    · exact .inr z
theorem law_of {P : Program} {w : World} {K : PySem.W.Frag} {mg : Str → Option Value} {base : Heap} {ds : List Df} {xs : List Y.Xn} {fs : List Fd} {fuel n i m : Nat} {d : Df} {f : Addr} {fd : FuncData} {x : Str} (pw : P = Tbs.P ∧ w = Tbs.w) (nd : (Tbs.tb).Nodup) (hc : cDs ds xs fuel ds = some fs) (hx : ∀ x ∈ xs, Y.XOk P w K mg base xs x) (bt : ∀ x ∈ bNames, mg x = none)
    (kn : ∀ d ∈ ds, Know K mg base d) (hl0 : ∀ d ∈ ds, d.kws ≠ [] → d.ps ≠ []) (hd : ds[i]? = some d) (k : Kn K mg base d f fd) (hps : d.ps = [x]) (h : ∀ ns : List Int, ns.length ≤ m → ∃ ps, tab fs (n + 1) i [.lck (ns.map D.int)] = .ok (.bl true) ps) : FnOk P w K mg base CX0 (8 * (n + 1) + 2) f fd [x] (spLaw m K) := by
  have F := onel (P := P) (w := w) (base := base) pw hc hx bt hd k (lev pw hc kn hl0 hx bt n)
  rw [hps] at F
  refine F.imp fun vs H Q E ⟨a, ns, e, hl, ht, hs, q⟩ => ?_
  subst e
  obtain ⟨ps, hp⟩ := h ns hl
  refine ⟨rfl, [.lck (ns.map D.int)], [], rfl, start_rel nd (fun P hP => ht P hP) hs, ?_⟩
  rw [hp]
  exact fun v H' rs _ hr => q v H' hr.bl
/-- a code object's table -/
def codeB (o : Obj) : Option Addr := match o.cls, o.data with
  | Value.type "code", Data.fields vs => match (vs[11]? : Option Value), vs.getD 11 .none, vs.getD 18 .none, vs.getD 7 .none, vs.getD 9 .none, vs.getD 10 .none with
    | some (.ref P), .ref P', .str _ _, .int _ _, .bool _, .int _ _ => if P = P' then some P else none
    | _, _, _, _, _, _ => none
  | _, _ => none
omit [Tbs] in
theorem codeB_ok {o : Obj} {P : Addr} (h : codeB o = some P) : ∃ vs file tf flags tg inF text tt, o.cls = .type "code" ∧ o.data = .fields vs ∧ vs[11]? = some (.ref P) ∧ vs.getD 11 .none = .ref P ∧ vs.getD 18 .none = .str file tf ∧
    vs.getD 7 .none = .int flags tg ∧ vs.getD 9 .none = .bool inF ∧ vs.getD 10 .none = .int text tt := by
  unfold codeB at h
  split at h
  · rename_i vs hc hd
    split at h
    · rename_i P1 P2 file tf flags tg inF text tt h1 h2 h3 h4 h5 h6
      split at h
      · rename_i he
        cases h
        subst he
        exact ⟨vs, file, tf, flags, tg, inF, text, tt, hc, hd, h1, h2, h3, h4, h5, h6⟩
      · cases h
    · cases h
  · cases h
omit [Tbs] in
theorem codeHd_of {K : PySem.W.Frag} {h : Heap} {c P : Addr} {o : Obj} (X : K.In h) (l : K.lookup c = some o) (b : codeB o = some P) (hne : c ≠ P) : PySem.W.CodeHd h c P := by
  obtain ⟨vs, file, tf, flags, tg, inF, text, tt, h1, h2, h3, h4, h5, h6, h7, h8⟩ := codeB_ok b
  exact ⟨o, vs, file, tf, flags, tg, inF, text, tt, X _ _ l, h1, h2, h3, h4, h5, h6, h7, h8, hne⟩
omit [Tbs] in
/-- the walk of a law whose defs' tables are all known -/
theorem walk_ofDefs {l : PySem.W.OpenLaw} {n k : Nat} {q : Program} {loose : List Str} {XP : (Str → Option Value) → Heap → Prop} {YP : World → Heap → Prop} {d : DefRec} {K : Params → PySem.W.Frag} {CX : World → CXT} {x : Str}
    (hn : l.most = some n) (hn2 : n ≤ sizeLine) (hdf : d.params.defaults = []) (hr : Room k callerA) (hY : ∀ (w : World) (h : Heap), YP w h → (K w.params).In h)
    (F : ∀ (w : World) (mg : Str → Option Value) (fa : Addr) (h : Heap), (K w.params).In h → h.Ns mainGlobals mg → mg d.name = some (.ref fa) →
      (∀ (nm : Str) (f c P : Addr) (fd : FuncData) (oc : Value) (od : Option Addr) (osl : Array (Option Value)) (co : Obj), ((recsOf q).any fun e => e.name == nm) = true → mg nm = some (.ref f) → (K w.params).lookup f = some ⟨oc, od, .func fd, osl⟩ → fd.code = .ref c → (K w.params).lookup c = some co → codeB co = some P →
        h.get? P = some { cls := .none, data := .fields #[] }) → LamX.LawAtS l w (K w.params) (CX w) k n x mg fa h)
    (hCX : ∀ (w : World) (H : Hp) (s : Shared) (e : Value) (s' : Shared), CX w [] H s (fun _ _ _ => False) e s' → False) :
    PySem.W.WalkO q loose XP YP l.row.toRowW d [] (fun f vs => PySem.call f vs) := by
  refine Att.attach_callB hn hdf fun w s₀ s₁ mg mb fa o pm cd doc a vs ns G Y ho hd hcd hmg hobj hints hlen hbits hg => ?_
  have KX := hY w _ Y
  have own : ∀ (nm : Str) (f c P : Addr) (fd : FuncData) (oc : Value) (od : Option Addr) (osl : Array (Option Value)) (co : Obj), ((recsOf q).any fun e => e.name == nm) = true → mg nm = some (.ref f) → (K w.params).lookup f = some ⟨oc, od, .func fd, osl⟩ → fd.code = .ref c → (K w.params).lookup c = some co → codeB co = some P →
      s₁.heap.get? P = some { cls := .none, data := .fields #[] } := fun nm f c P fd oc od osl co hrec hnm hf hc hlc hb => by
    obtain ⟨dL, hm, hn1⟩ := List.any_eq_true.mp hrec
    have hn2 : dL.name = nm := beq_iff_eq.mp hn1
    obtain ⟨a', o', fd', c', P', h1, h2, h3, h4, h5, h6⟩ := G.T.tab dL hm
    rw [hn2, hnm] at h1
    cases h1
    have g1 := KX _ _ hf
    rw [g1] at h2
    cases h2
    cases h3
    rw [hc] at h4
    cases h4
    obtain ⟨⟨oc', vc, e1, _, e3, e4⟩, hP⟩ := h6
    have g2 := KX _ _ hlc
    rw [g2] at e1
    cases e1
    obtain ⟨vs2, _, _, _, _, _, _, _, _, z2, z3, _⟩ := codeB_ok hb
    rw [z2] at e3
    cases e3
    rw [z3] at e4
    cases e4
    exact hP
  obtain ⟨fd, cs, sp, hT, nT, C, hb, hsp, hF⟩ := F w mg fa _ KX G.T.g hmg own
  exact LamX.law_callTs KX G.T.g G.T.b G.T.builtins G.T.nolimit hg hT nT C G.T.bmain hobj hints (Nat.le_trans hlen hn2) hr hF hb (fun H hH hS => hsp H a ns hlen hbits hH hS) fun H e s' => hCX w H s₁ e s'
theorem kn_mk {K : PySem.W.Frag} {mg : Str → Option Value} {h base : Heap} {c0 P0 : Addr} {d : Df} {qual : Str} {f : Addr} {oc kV dc pm ct : Value} {od an : Option Addr} {sl : Array (Option Value)} (X : K.In h) (G : h.Ns mainGlobals mg)
    (a : PySem.W.nsIn K mainGlobals d.x = some (some (.ref f))) (l : K.lookup f = some ⟨oc, od, .func (PySem.W.fnOf d.x qual (defArgs d.st) (defBody d.st) (defScope d.st) .none kV dc pm an (.ref c0) ct), sl⟩) (c : PySem.W.codeIn K (.ref c0) qual = true) (k : PySem.W.keepIn K (.ref f) = true)
    (b : ∀ us : List Value, us.length = d.ps.length → bindArgs (PySem.W.fnOf d.x qual (defArgs d.st) (defBody d.st) (defScope d.st) .none kV dc pm an (.ref c0) ct) ⟨us, []⟩ = pure (d.ps.zip us)) (S : FnScope d.N d.ps (defScope d.st))
    (kw : ∀ ks ∈ d.kws, ∀ ws : List Value, ws.length = ks.length → bindArgs (PySem.W.fnOf d.x qual (defArgs d.st) (defBody d.st) (defScope d.st) .none kV dc pm an (.ref c0) ct) ⟨[], ks.zip ws⟩ = pure (d.ps.zip (reo (ixOf ks d.ps) ws))) (tb : GxR.TabB base mg c0 P0) (hP : P0 ∈ Tbs.tb) :
    Kn K mg base d f (PySem.W.fnOf d.x qual (defArgs d.st) (defBody d.st) (defScope d.st) .none kV dc pm an (.ref c0) ct) :=
  ⟨⟨qual, fun_mk l c k⟩, PySem.W.mg_of X G a, b, S, kw, c0, P0, rfl, tb, hP⟩
omit [Tbs] in
theorem scopeC {N P : List Str} {sc : Scope} (h : ((match sc.kind with | .function => true | _ => false) && !sc.isCoroutine && !sc.isGenerator && decide N.Nodup && decide (N.take P.length = P) && P.all (fun x => sc.names.lookup x == some .local || sc.names.lookup x == some .cell) && sc.names.all fun y => !(y.2 == .free)) = true) : FnScope N P sc := by
  simp only [Bool.and_eq_true, List.all_eq_true, decide_eq_true_eq, Bool.not_eq_true', Bool.or_eq_true, beq_iff_eq] at h
  obtain ⟨⟨⟨⟨⟨⟨h1, h2⟩, h3⟩, h4⟩, h5⟩, h6⟩, h7⟩ := h
  refine ⟨?_, h2, h3, h4, h5, h6, fun y hy e => ?_⟩
  · split at h1
    · assumption
    · cases h1
  · have q := h7 y hy
    rw [e] at q
    cases q
end Z

set_option Elab.async false
set_option linter.all false
set_option autoImplicit false
set_option maxRecDepth 100000
set_option maxHeartbeats 4000000
/-! Y5: what a law's head has to bring for own exceptions. -/
namespace Y
open PySem PySem.Spec PyProof.Rows L2 Z
section
variable {K : PySem.W.Frag} {C D : Addr} {T newId : String} {b : Bool} {tl : List Value}
theorem kit_T (hm : PySem.W.kitMeta T = true) (h : PySem.W.subIn K (.ref C) (.type T) = some b) : PySem.W.kitOne K (.ref C) (.type T) = some b := by
  unfold PySem.W.kitOne PySem.W.kitCls
  rw [if_neg (by simp)]
  dsimp only
  rw [if_pos hm]
  exact h
/-- what an own class's mro tells -/
theorem sub_ref (T : Xc K C newId tl) (htl : tl.contains (.ref D) = false) (hn : C ≠ D) : PySem.W.subIn K (.ref C) (.ref D) = some false := by
  obtain ⟨c1, c2, c3, c4, c5, c6, c7, c8, c9, k0, k1, k2, k3, k5, hC⟩ := T.cls
  have hcl : PySem.W.clsIn K C = some { name := c1, bases := c4, mro := .ref C :: tl, ns := c3, qualname := c2, hasDict := true, slotNames := c5, subclasses := c6, abstract := c7, collection := c8, hasDel := false } := by
    unfold PySem.W.clsIn
    rw [hC] <;> rfl
  show PySem.W.mroIn K C (.ref D) = some false
  unfold PySem.W.mroIn
  rw [hcl, Option.bind_some, if_neg (by simp), List.contains_cons, htl, Bool.or_false]
  congr 1
  simpa using fun e => hn e.symm
theorem kit_same : PySem.W.kitOne K (.ref C) (.ref C) = some true := by
  unfold PySem.W.kitOne
  rw [if_pos (by simp)]
theorem kit_other (hn : C ≠ D) (hd : PySem.W.hasDictIn K D = true) (ht : PySem.W.typeIn K (.ref D) = some (.type "type")) (h : PySem.W.subIn K (.ref C) (.ref D) = some false) : PySem.W.kitOne K (.ref C) (.ref D) = some false := by
  unfold PySem.W.kitOne PySem.W.kitCls
  rw [if_neg (by simpa using hn)]
  dsimp only
  obtain ⟨cd, hc, _⟩ := PySem.W.any_some hd
  rw [if_pos (by rw [hc, ht]; rfl)]
  exact h
end
theorem bs_VE {K : PySem.W.Frag} (i : PySem.W.findCls K (.type "ValueError") (.type "type") "__init__" = some (.val (.builtin "ValueError.__init__"))) : Bs K "ValueError" "ValueError.__new__" "ValueError.__init__" [.type "ValueError", .type "Exception", .type "BaseException", .type "object"] where
  f := PySem.F.excBase_ValueError
  s := PySem.F.store_ValueError
  b := by decide +kernel
  t := by kernel_rfl
  st := by decide +kernel
  i := i
  hd := by decide +kernel
  nm := by decide
  db := by decide
theorem bs_LE {K : PySem.W.Frag} (i : PySem.W.findCls K (.type "LookupError") (.type "type") "__init__" = some (.val (.builtin "LookupError.__init__"))) : Bs K "LookupError" "LookupError.__new__" "LookupError.__init__" [.type "LookupError", .type "Exception", .type "BaseException", .type "object"] where
  f := PySem.F.excBase_LookupError
  s := PySem.F.store_LookupError
  b := by decide +kernel
  t := by kernel_rfl
  st := by decide +kernel
  i := i
  hd := by decide +kernel
  nm := by decide
  db := by decide
end Y

set_option Elab.async false
set_option linter.all false
set_option autoImplicit false
set_option maxRecDepth 100000
set_option maxHeartbeats 4000000
/-! H1: a law's head: its classes and defs from the facts that the head answers. -/
namespace Y
open PySem PySem.Spec PyProof.Rows L2 Z
section
variable {P : Program} {w : World} {K : PySem.W.Frag} {mg : Str → Option Value} {base : Heap}
/-- what is known of a class by itself -/
structure XFact (P : Program) (w : World) (K : PySem.W.Frag) (mg : Str → Option Value) (base : Heap) (x : Xn) (C : Addr) : Prop where
  a : Cls K x.c C
  g : mg x.c = some (.ref C)
  ex : L2.ExcC K C
  ty : PySem.W.typeIn K (.ref C) = some (.type "type")
  up : ∀ b ∈ excNames, PySem.W.kitOne K (.ref C) (.type b) = some (decide (b ∈ x.up))
  rest : ∃ (fI : Addr) (B newId initId : String) (tl : List Value) (fd : FuncData), Bs K B newId initId tl ∧ Xc K C newId tl ∧ (∀ D : Addr, tl.contains (.ref D) = false) ∧ PySem.W.findIn K (.ref C) "__init__" = some (some (.ref fI)) ∧ PySem.W.typeIn K (.ref fI) = some (.type "function") ∧
    match x.f with
    | none => FnOk P w K mg base CX0 1 fI fd ["self"] (spI0 K newId tl) ∧ Binds K fd ["self"] []
    | some f => PySem.W.findIn K (.ref C) f = some none ∧ FnOk P w K mg base CX0 1 fI fd ["self", x.prm] (spI1 K newId tl f) ∧ Binds K fd ["self", x.prm] [] ∧ ∀ z u : Value, bindArgs fd ⟨[z], [(x.prm, u)]⟩ = pure [(("self" : Str), z), (x.prm, u)]
theorem nd_map {α β : Type} (f : α → β) : ∀ {l : List α}, (l.map f).Nodup → ∀ {a b : α}, a ∈ l → b ∈ l → f a = f b → a = b
  | [], _, _, _, h, _, _ => nomatch h
  | x :: l, n, a, b, ha, hb, e => by
    rw [List.map_cons, List.nodup_cons] at n
    rcases List.mem_cons.mp ha with p | p
    · rcases List.mem_cons.mp hb with r | r
      · rw [p, r]
      · rw [p] at e
        exact absurd (e ▸ List.mem_map_of_mem r) n.1
    · rcases List.mem_cons.mp hb with r | r
      · rw [r] at e
        exact absurd (e ▸ List.mem_map_of_mem p) n.1
      · exact nd_map f n.2 p r e
theorem xok_all {l : List (Xn × Addr)} (h : ∀ p ∈ l, XFact P w K mg base p.1 p.2) (nn : (l.map fun p => p.1.c).Nodup) (na : (l.map fun p => p.2).Nodup) : ∀ x ∈ l.map (·.1), XOk P w K mg base (l.map (·.1)) x := by
  intro x hx
  obtain ⟨p, hp, rfl⟩ := List.mem_map.mp hx
  have F := h p hp
  obtain ⟨fI, B, newId, initId, tl, fd, h1, h2, h3, h4, h5, h6⟩ := F.rest
  refine ⟨p.2, fI, B, newId, initId, tl, fd, F.a, F.g, h1, h2, h4, h5, F.ex, fun y hy D hD => ?_, F.up, h6⟩
  obtain ⟨q, hq, rfl⟩ := List.mem_map.mp hy
  have G := h q hq
  have e : D = q.2 := by
    have z : some (some (Value.ref D)) = some (some (Value.ref q.2)) := hD.symm.trans G.a
    injection z with z; injection z with z; injection z
  subst e
  by_cases c : q.1.c = p.1.c
  · have := nd_map (fun p : Xn × Addr => p.1.c) nn hq hp c
    subst this
    rw [decide_eq_true rfl]
    exact kit_same
  · rw [decide_eq_false c]
    have hn : p.2 ≠ q.2 := fun e => c (by rw [nd_map (fun p : Xn × Addr => p.2) na hp hq e])
    exact kit_other hn G.ex.hd G.ty (sub_ref h2 (h3 _) hn)
theorem excC_mk {C : Addr} (hg : PySem.W.findIn K (.ref C) "__getattribute__" = some (some (.builtin "BaseException.__getattribute__"))) (hk : PySem.W.findIn K (.ref C) "__getattr__" = some none) (hs : PySem.W.subIn K (.ref C) (.type "BaseException") = some true) (hd : PySem.W.hasDictIn K C = true)
    (ha : PySem.W.findIn K (.ref C) "__class__" = some (some (.builtin "object.__class__"))) (hn : PySem.W.specialIn K (.builtin "object.__class__") "__get__" = some (some (.builtin "getset_descriptor.__get__"))) (ht : PySem.W.takesIn K (.builtin "object.__class__") = some true) (hm : PySem.W.mroIn K C (.type "object") = some true) : L2.ExcC K C := ⟨hg, hk, hs, hd, ha, hn, ht, hm⟩
theorem up_LE {C : Addr} (h1 : PySem.W.subIn K (.ref C) (.type "LookupError") = some true) (h2 : PySem.W.subIn K (.ref C) (.type "ValueError") = some false) (h3 : PySem.W.subIn K (.ref C) (.type "KeyError") = some false) (h4 : PySem.W.subIn K (.ref C) (.type "IndexError") = some false) :
    ∀ b ∈ excNames, PySem.W.kitOne K (.ref C) (.type b) = some (decide (b ∈ ["LookupError"])) := by
  intro b hb
  simp only [excNames, List.mem_cons, List.not_mem_nil, or_false] at hb
  rcases hb with rfl | rfl | rfl | rfl
  · exact kit_T (by decide +kernel) h1
  · exact kit_T (by decide +kernel) h2
  · exact kit_T (by decide +kernel) h3
  · exact kit_T (by decide +kernel) h4
theorem up_VE {C : Addr} (h1 : PySem.W.subIn K (.ref C) (.type "LookupError") = some false) (h2 : PySem.W.subIn K (.ref C) (.type "ValueError") = some true) (h3 : PySem.W.subIn K (.ref C) (.type "KeyError") = some false) (h4 : PySem.W.subIn K (.ref C) (.type "IndexError") = some false) :
    ∀ b ∈ excNames, PySem.W.kitOne K (.ref C) (.type b) = some (decide (b ∈ ["ValueError"])) := by
  intro b hb
  simp only [excNames, List.mem_cons, List.not_mem_nil, or_false] at hb
  rcases hb with rfl | rfl | rfl | rfl
  · exact kit_T (by decide +kernel) h1
  · exact kit_T (by decide +kernel) h2
  · exact kit_T (by decide +kernel) h3
  · exact kit_T (by decide +kernel) h4
abbrev tlV : List Value := [.type "ValueError", .type "Exception", .type "BaseException", .type "object"]
abbrev tlL : List Value := [.type "LookupError", .type "Exception", .type "BaseException", .type "object"]
theorem tlV_no (D : Addr) : tlV.contains (.ref D) = false := rfl
theorem tlL_no (D : Addr) : tlL.contains (.ref D) = false := rfl
end
end Y
namespace Y
open PySem PySem.Spec PyProof.Rows L2 Z
section
variable {P : Program} {w : World} {K : PySem.W.Frag} {mg : Str → Option Value} {base h : Heap} {C fI : Addr} {B newId initId : String} {tl : List Value} {c f prm qual : Str} {ups : List String} {st : Stmt}
  {nm q : Str} {N : Addr} {bs : List Value} {sn : List Str} {sub : List Value} {ab : Bool} {col : Option Bool} {dd : Option Addr} {k0 k1 k2 k3 k5 : Option Value} {oc kV dc pm cd ct : Value} {od an : Option Addr} {sl : Array (Option Value)} {p1 p2 p3 p4 p5 p6 q1 q2 q3 q4 : Pos}
theorem xf1 (X : K.In h) (G : h.Ns mainGlobals mg) (b : Bs K B newId initId tl) (hm : mg (Str.ofString B) = none) (ntl : ∀ D : Addr, tl.contains (.ref D) = false) (up : ∀ b ∈ excNames, PySem.W.kitOne K (.ref C) (.type b) = some (decide (b ∈ ups)))
    (aC : PySem.W.nsIn K mainGlobals c = some (some (.ref C))) (xL : K.lookup C = some (excClassObj nm q C N bs tl true sn sub ab col dd k0 k1 k2 k3 k5 newId)) (sa : PySem.W.findIn K (.ref C) "__setattr__" = some (some (.builtin "object.__setattr__"))) (kp : PySem.W.keepIn K (.ref C) = true)
    (iC : PySem.W.findIn K (.ref C) "__init__" = some (some (.ref fI))) (tI : PySem.W.typeIn K (.ref fI) = some (.type "function")) (lI : K.lookup fI = some ⟨oc, od, .func (PySem.W.fnOf "__init__" qual (defArgs st) (defBody st) (defScope st) .none kV dc pm an cd ct), sl⟩) (cI : PySem.W.codeIn K cd qual = true) (kf : PySem.W.keepIn K (.ref fI) = true)
    (nf : PySem.W.findIn K (.ref C) f = some none) (E : L2.ExcC K C) (ty : PySem.W.typeIn K (.ref C) = some (.type "type"))
    (S : FnScope ["self", prm] ["self", prm] (defScope st)) (hg : (defScope st).names.lookup (Str.ofString B) = some .globalImplicit) (h1 : (prm == ("__debug__" : Str)) = false) (h2 : (prm == ("__classdict__" : Str)) = false)
    (hb : defBody st = [.Expr (.Call (.Attribute (.Name (Str.ofString B) p1) "__init__" p2) [.Name "self" p3, .Name prm p4] [] p5) p6, .Assign [.Attribute (.Name "self" q1) f q2] (.Name prm q3) q4])
    (hc : ∀ env : Env, ∃ pl : Sem Bool, eval (.Call (.Attribute (.Name (Str.ofString B) p1) "__init__" p2) [.Name "self" p3, .Name prm p4] [] p5) env = (do
      let ov ← eval (.Name (Str.ofString B) p1) env
      standAt p2.atName
      let (f, first) ← holding [ov] (getMethod ov "__init__" pl)
      callWith p5 f first (backTo p5 (starEach [.Name "self" p3, .Name prm p4] env)) (backToKw p5 (keywordEach [] env))))
    (b1 : ∀ us : List Value, us.length = 2 → bindArgs (PySem.W.fnOf "__init__" qual (defArgs st) (defBody st) (defScope st) .none kV dc pm an cd ct) ⟨us, []⟩ = pure ((["self", prm] : List Str).zip us))
    (b2 : ∀ z u : Value, bindArgs (PySem.W.fnOf "__init__" qual (defArgs st) (defBody st) (defScope st) .none kV dc pm an cd ct) ⟨[z], [(prm, u)]⟩ = pure [(("self" : Str), z), (prm, u)]) : XFact P w K mg base ⟨c, some f, prm, ups⟩ C where
  a := aC
  g := PySem.W.mg_of X G aC
  ex := E
  ty := ty
  up := up
  rest := ⟨fI, B, newId, initId, tl, _, b, ⟨⟨_, _, _, _, _, _, _, _, _, _, _, _, _, _, xL⟩, sa, kp⟩, ntl, iC, tI, nf, init1 b (fun_mk (st := st) lI cI kf) hm S hg h1 h2 hb hc, .all b1, b2⟩
theorem xf0 (X : K.In h) (G : h.Ns mainGlobals mg) (b : Bs K B newId initId tl) (hm : mg (Str.ofString B) = none) (ntl : ∀ D : Addr, tl.contains (.ref D) = false) (up : ∀ b ∈ excNames, PySem.W.kitOne K (.ref C) (.type b) = some (decide (b ∈ ups)))
    (aC : PySem.W.nsIn K mainGlobals c = some (some (.ref C))) (xL : K.lookup C = some (excClassObj nm q C N bs tl true sn sub ab col dd k0 k1 k2 k3 k5 newId)) (sa : PySem.W.findIn K (.ref C) "__setattr__" = some (some (.builtin "object.__setattr__"))) (kp : PySem.W.keepIn K (.ref C) = true)
    (iC : PySem.W.findIn K (.ref C) "__init__" = some (some (.ref fI))) (tI : PySem.W.typeIn K (.ref fI) = some (.type "function")) (lI : K.lookup fI = some ⟨oc, od, .func (PySem.W.fnOf "__init__" qual (defArgs st) (defBody st) (defScope st) .none kV dc pm an cd ct), sl⟩) (cI : PySem.W.codeIn K cd qual = true) (kf : PySem.W.keepIn K (.ref fI) = true)
    (E : L2.ExcC K C) (ty : PySem.W.typeIn K (.ref C) = some (.type "type"))
    (S : FnScope ["self"] ["self"] (defScope st)) (hg : (defScope st).names.lookup (Str.ofString B) = some .globalImplicit)
    (hb : defBody st = [.Expr (.Call (.Attribute (.Name (Str.ofString B) p1) "__init__" p2) [.Name "self" p3] [] p5) p6])
    (hc : ∀ env : Env, ∃ pl : Sem Bool, eval (.Call (.Attribute (.Name (Str.ofString B) p1) "__init__" p2) [.Name "self" p3] [] p5) env = (do
      let ov ← eval (.Name (Str.ofString B) p1) env
      standAt p2.atName
      let (f, first) ← holding [ov] (getMethod ov "__init__" pl)
      callWith p5 f first (backTo p5 (starEach [.Name "self" p3] env)) (backToKw p5 (keywordEach [] env))))
    (b1 : ∀ us : List Value, us.length = 1 → bindArgs (PySem.W.fnOf "__init__" qual (defArgs st) (defBody st) (defScope st) .none kV dc pm an cd ct) ⟨us, []⟩ = pure ((["self"] : List Str).zip us)) : XFact P w K mg base ⟨c, none, "", ups⟩ C where
  a := aC
  g := PySem.W.mg_of X G aC
  ex := E
  ty := ty
  up := up
  rest := ⟨fI, B, newId, initId, tl, _, b, ⟨⟨_, _, _, _, _, _, _, _, _, _, _, _, _, _, xL⟩, sa, kp⟩, ntl, iC, tI, init0 b (fun_mk (st := st) lI cI kf) hm S hg hb hc, .all b1⟩
end
end Y

set_option Elab.async false
set_option linter.all false
set_option autoImplicit false
set_option maxRecDepth 100000
set_option maxHeartbeats 4000000
/-! M1: drawing a number from a law's box. -/
namespace M
open PySem PySem.Spec Z
def bTake : Ss := (Z.Ss.cons
  (Z.S.ite
    (Z.Te.val (Z.E.cmp (PySem.CmpOp.Gt) (Z.E.subv 0 (Z.E.c (Z.D.int 0))) (Z.E.c (Z.D.int 0))))
    (Z.Ss.cons
      (Z.S.as
        (Z.Tg.n 5)
        (Z.E.bin
          (PySem.Operator.Mod)
          (Z.E.bi (Z.Bi.int) (Z.Es.cons (Z.E.subv 0 (Z.E.c (Z.D.int 0))) (Z.Es.nil)))
          (Z.E.v 1)))
      (Z.Ss.cons
        (Z.S.sset 0 (Z.E.c (Z.D.int 0)) (Z.E.bin (PySem.Operator.FloorDiv) (Z.E.subv 0 (Z.E.c (Z.D.int 0))) (Z.E.v 1)))
        (Z.Ss.cons (Z.S.ret (Z.E.mv 5)) (Z.Ss.nil))))
    (Z.Ss.nil))
  (Z.Ss.cons
    (Z.S.sset 0 (Z.E.c (Z.D.int 2)) (Z.E.bin (PySem.Operator.Add) (Z.E.subv 0 (Z.E.c (Z.D.int 2))) (Z.E.c (Z.D.int 1))))
    (Z.Ss.cons
      (Z.S.as
        (Z.Tg.n 2)
        (Z.E.bin
          (PySem.Operator.Mod)
          (Z.E.bi
            (Z.Bi.int)
            (Z.Es.cons
              (Z.E.bin
                (PySem.Operator.Mult)
                (Z.E.bin
                  (PySem.Operator.Add)
                  (Z.E.subv 0 (Z.E.c (Z.D.int 1)))
                  (Z.E.bin (PySem.Operator.Mult) (Z.E.c (Z.D.int 48271)) (Z.E.subv 0 (Z.E.c (Z.D.int 2)))))
                (Z.E.bin (PySem.Operator.Add) (Z.E.c (Z.D.int 39373)) (Z.E.subv 0 (Z.E.c (Z.D.int 2)))))
              (Z.Es.nil)))
          (Z.E.c (Z.D.int 2147483647))))
      (Z.Ss.cons
        (Z.S.as
          (Z.Tg.n 3)
          (Z.E.bin
            (PySem.Operator.Add)
            (Z.E.bin (PySem.Operator.Mod) (Z.E.bi (Z.Bi.int) (Z.Es.cons (Z.E.v 2) (Z.Es.nil))) (Z.E.c (Z.D.int 40009)))
            (Z.E.c (Z.D.int 7))))
        (Z.Ss.cons
          (Z.S.as
            (Z.Tg.n 4)
            (Z.E.bin
              (PySem.Operator.Mod)
              (Z.E.bi
                (Z.Bi.int)
                (Z.Es.cons
                  (Z.E.bin
                    (PySem.Operator.Mult)
                    (Z.E.bin
                      (PySem.Operator.Add)
                      (Z.E.bin (PySem.Operator.Add) (Z.E.v 2) (Z.E.subv 0 (Z.E.c (Z.D.int 2))))
                      (Z.E.bin (PySem.Operator.FloorDiv) (Z.E.subv 0 (Z.E.c (Z.D.int 1))) (Z.E.c (Z.D.int 1000003))))
                    (Z.E.v 3))
                  (Z.Es.nil)))
              (Z.E.c (Z.D.int 2147483629))))
          (Z.Ss.cons
            (Z.S.ret
              (Z.E.bin
                (PySem.Operator.Mod)
                (Z.E.bi
                  (Z.Bi.int)
                  (Z.Es.cons
                    (Z.E.bin
                      (PySem.Operator.FloorDiv)
                      (Z.E.bin
                        (PySem.Operator.Mod)
                        (Z.E.bi
                          (Z.Bi.int)
                          (Z.Es.cons
                            (Z.E.bin
                              (PySem.Operator.Add)
                              (Z.E.bin (PySem.Operator.Mult) (Z.E.v 4) (Z.E.c (Z.D.int 48271)))
                              (Z.E.v 2))
                            (Z.Es.nil)))
                        (Z.E.c (Z.D.int 2147483587)))
                      (Z.E.c (Z.D.int 64)))
                    (Z.Es.nil)))
                (Z.E.v 1)))
            (Z.Ss.nil)))))))
theorem mul_of {i j : Int} (h : 0 ≤ j ∧ j < 2 ^ 64) : mulOk i j = true := by
  unfold mulOk
  rw [Bool.or_eq_true, decide_eq_true_eq, decide_eq_true_eq]
  exact .inr (by omega)
theorem mul_of' {i j : Int} (h : 0 ≤ i ∧ i < 2 ^ 64) : mulOk i j = true := by
  unfold mulOk
  rw [Bool.or_eq_true, decide_eq_true_eq, decide_eq_true_eq]
  exact .inl (by omega)
def box (a b c : Int) : D := .lst true [.int a, .int b, .int c]
theorem take_run (T : Tab) (a b c w : Int) (hw : 0 < w) (hw2 : w < 1073741824) (hb : 0 ≤ b ∧ b < 2 ^ 62) (hc : 0 ≤ c ∧ c < 1000000) :
    ∃ d a' c' e, dSs T bTake [some (box a b c), some (.int w), none, none, none, none] = .ok (.rt (.int d)) e ∧ rd 0 e = some (box a' b c') ∧ 0 ≤ d ∧ d < w ∧ c ≤ c' ∧ c' ≤ c + 1 := by
  by_cases ha : 0 < a
  · refine ⟨a % w, a / w, c, [some (box (a / w) b c), some (.int w), none, none, none, none], ?_, rfl, Int.emod_nonneg _ (by omega), Int.emod_lt_of_pos _ hw, by omega, by omega⟩
    simp [bTake, box, dSs, dS, dT, dE, dEs, R.bind, rd, cmpD, truth, ofO, fz, isF, isFL, subD, L2.atI, L2.ixN, ha, hw, hw2, binD, args1, biD, setT]
  · generalize h1 : ((b + 48271 * (c + 1)) * (39373 + (c + 1))) % 2147483647 = o
    generalize h2 : o % 40009 + 7 = f
    generalize h3 : ((o + (c + 1) + b / 1000003) * f) % 2147483629 = t
    have o1 : 0 ≤ o := by rw [← h1]; exact Int.emod_nonneg _ (by decide)
    have f1 : 0 ≤ f ∧ f < 50000 := by
      have := Int.emod_nonneg o (show (40009 : Int) ≠ 0 by decide)
      have := Int.emod_lt_of_pos o (show (0 : Int) < 40009 by decide)
      omega
    have t1 : 0 ≤ t ∧ t < 2147483629 := ⟨by rw [← h3]; exact Int.emod_nonneg _ (by decide), by rw [← h3]; exact Int.emod_lt_of_pos _ (by decide)⟩
    have m1 : mulOk 48271 (c + 1) = true := mul_of' (by decide)
    have m2 : mulOk (b + 48271 * (c + 1)) (39373 + (c + 1)) = true := mul_of (by omega)
    have m3 : mulOk (o + (c + 1) + b / 1000003) f = true := mul_of (by omega)
    have m4 : mulOk t 48271 = true := mul_of (by decide)
    refine ⟨((t * 48271 + o) % 2147483587 / 64) % w, a, c + 1, [some (box a b (c + 1)), some (.int w), some (.int o), some (.int f), some (.int t), none], ?_, rfl, Int.emod_nonneg _ (by omega), Int.emod_lt_of_pos _ hw, by omega, by omega⟩
    simp [bTake, box, dSs, dS, dT, dE, dEs, R.bind, rd, cmpD, truth, ofO, fz, isF, isFL, subD, L2.atI, L2.ixN, ha, hw, hw2, binD, args1, biD, setT, m1, m2, m3, m4, h1, h2, h3]
def bBox : Ss := (Z.Ss.cons
  (Z.S.as
    (Z.Tg.n 2)
    (Z.E.ite (Z.Te.val (Z.E.cmp (PySem.CmpOp.Lt) (Z.E.v 1) (Z.E.lenv 0))) (Z.E.subv 0 (Z.E.v 1)) (Z.E.c (Z.D.int 0))))
  (Z.Ss.cons
    (Z.S.ret
      (Z.E.lst
        (Z.Es.raw
          (Z.E.bin
            (PySem.Operator.Mult)
            (Z.E.bi (Z.Bi.abs) (Z.Es.cons (Z.E.v 2) (Z.Es.nil)))
            (Z.E.bi
              (Z.Bi.int)
              (Z.Es.cons
                (Z.E.cmp
                  (PySem.CmpOp.GtE)
                  (Z.E.bi (Z.Bi.abs) (Z.Es.cons (Z.E.v 2) (Z.Es.nil)))
                  (Z.E.bin (PySem.Operator.Pow) (Z.E.c (Z.D.int 10)) (Z.E.c (Z.D.int 18))))
                (Z.Es.nil))))
          (Z.Es.raw
            (Z.E.bin
              (PySem.Operator.Add)
              (Z.E.bin
                (PySem.Operator.Add)
                (Z.E.bin
                  (PySem.Operator.Mod)
                  (Z.E.bi (Z.Bi.int) (Z.Es.cons (Z.E.v 2) (Z.Es.nil)))
                  (Z.E.c (Z.D.int 2305843009213693951)))
                (Z.E.bin (PySem.Operator.Mult) (Z.E.c (Z.D.int 39373)) (Z.E.v 1)))
              (Z.E.c (Z.D.int 1053100)))
            (Z.Es.raw (Z.E.c (Z.D.int 0)) (Z.Es.nil))))))
    (Z.Ss.nil)))
theorem box_run (T : Tab) (cs : List Int) (k : Nat) (hk : k < cs.length) (hk2 : k < 1000) : ∃ a b e, dSs T bBox [some (.lst false (cs.map D.int)), some (.int k), none] = .ok (.rt (box a b 0)) e ∧ 0 ≤ b ∧ b < 2 ^ 62 := by
  have hx : (cs.map D.int)[k]? = some (.int cs[k]) := by rw [List.getElem?_map, List.getElem?_eq_getElem hk]; rfl
  have hat : L2.atI (cs.map D.int) (k : Int) = some (.int cs[k]) := by
    unfold L2.atI L2.ixN
    rw [if_pos (by omega), if_pos (by simp; omega)]
    simpa using hx
  generalize cs[k] = z at hat
  have m1 : mulOk (if z < 0 then -z else z) (if 1000000000000000000 ≤ (if z < 0 then -z else z) then 1 else 0) = true := by
    apply mul_of
    generalize (if z < 0 then -z else z) = y
    by_cases h : 1000000000000000000 ≤ y <;> simp [h]
  have m2 : mulOk 39373 (k : Int) = true := mul_of' (by decide)
  refine ⟨(if z < 0 then -z else z) * (if 1000000000000000000 ≤ (if z < 0 then -z else z) then 1 else 0), z % 2305843009213693951 + 39373 * k + 1053100, [some (.lst false (cs.map D.int)), some (.int k), some (.int z)], ?_, ?_, ?_⟩
  · have f : isFL (cs.map D.int) = true := by
      clear hx hat hk
      induction cs with
      | nil => rfl
      | cons c cs ih => simp [isFL, isF, ih]
    simp [bBox, box, dSs, dS, dT, dE, dEs, R.bind, rd, cmpD, truth, ofO, fz, isF, isFL, subD, hat, hk, binD, args1, biD, setT, m1, m2, f, big]
  · have := Int.emod_nonneg z (show (2305843009213693951 : Int) ≠ 0 by decide)
    omega
  · have := Int.emod_lt_of_pos z (show (0 : Int) < 2305843009213693951 by decide)
    omega
def bOf : Ss := (Z.Ss.cons (Z.S.ret (Z.E.subv 1 (Z.E.fn 1 (Z.Es.bw 0 (Z.Es.raw (Z.E.lenv 1) (Z.Es.nil)))))) (Z.Ss.nil))
theorem of_run (T : Tab) (a b c a' c' d : Int) (goods : List D) (x : D) (hT : T 1 [box a b c, .int goods.length] = .ok (.int d) [some (box a' b c'), none]) (hd : L2.atI goods d = some x) (hx : isF x = true) :
    dSs T bOf [some (box a b c), some (.lst true goods)] = .ok (.rt x) [some (box a' b c'), some (.lst true goods)] := by
  unfold box at *
  simp [bOf, dSs, dS, dE, dEs, R.bind, rd, ofO, biD, takeB, putB, hT, subD, hd, hx]
theorem run_rt {T : Tab} {F : Fd} {as : List D} {e : Ev} {d : D} (hl : as.length = F.ps) (h : dSs T F.body (as.map some ++ List.replicate (F.ns - F.ps) none) = .ok (.rt d) e) : runF T F as = .ok d (maskE F e) := by
  unfold runF
  rw [if_pos hl, h]
section
variable {fs : List Fd} (h0 : fs[0]? = some ⟨2, 3, [], bBox⟩) (h1 : fs[1]? = some ⟨2, 6, [0], bTake⟩) (h3 : fs[3]? = some ⟨2, 2, [0], bOf⟩)
include h1 in
theorem take_fn (n : Nat) (a b c w : Int) (hw : 0 < w) (hw2 : w < 1073741824) (hb : 0 ≤ b ∧ b < 2 ^ 62) (hc : 0 ≤ c ∧ c < 1000000) :
    ∃ d a' c', tab fs (n + 1) 1 [box a b c, .int w] = .ok (.int d) [some (box a' b c'), none] ∧ 0 ≤ d ∧ d < w ∧ c ≤ c' ∧ c' ≤ c + 1 := by
  obtain ⟨d, a', c', e, h, hr, k1, k2, k3, k4⟩ := take_run (tab fs n) a b c w hw hw2 hb hc
  refine ⟨d, a', c', ?_, k1, k2, k3, k4⟩
  rw [tab, h1]
  refine (run_rt (F := ⟨2, 6, [0], bTake⟩) rfl h).trans ?_
  show R.ok (D.int d) [rd 0 e, none] = _
  rw [hr]
include h0 in
theorem box_fn (n : Nat) (cs : List Int) (k : Nat) (hk : k < cs.length) (hk2 : k < 1000) : ∃ a b, tab fs (n + 1) 0 [.lst false (cs.map D.int), .int k] = .ok (box a b 0) [none, none] ∧ 0 ≤ b ∧ b < 2 ^ 62 := by
  obtain ⟨a, b, e, h, k1, k2⟩ := box_run (tab fs n) cs k hk hk2
  refine ⟨a, b, ?_, k1, k2⟩
  rw [tab, h0]
  exact run_rt (F := ⟨2, 3, [], bBox⟩) rfl h
include h1 h3 in
theorem of_fn (n : Nat) (a b c : Int) (goods : List D) (hg : isFL goods = true) (hl : 0 < goods.length ∧ goods.length < 1000) (hb : 0 ≤ b ∧ b < 2 ^ 62) (hc : 0 ≤ c ∧ c < 1000000) :
    ∃ x a' c', x ∈ goods ∧ tab fs (n + 2) 3 [box a b c, .lst true goods] = .ok x [some (box a' b c'), none] ∧ c ≤ c' ∧ c' ≤ c + 1 := by
  obtain ⟨d, a', c', hT, k1, k2, k3, k4⟩ := take_fn h1 n a b c goods.length (by omega) (by omega) hb hc
  obtain ⟨m, rfl⟩ := Int.eq_ofNat_of_zero_le k1
  have hm : m < goods.length := by omega
  have hd : L2.atI goods (m : Int) = some goods[m] := by
    unfold L2.atI L2.ixN
    rw [if_pos (by omega), if_pos (by omega)]
    simp
  have hmem : goods[m] ∈ goods := List.getElem_mem hm
  have hf : isF goods[m] = true := by
    have : ∀ l : List D, isFL l = true → ∀ x ∈ l, isF x = true := by
      intro l
      induction l with
      | nil => intro _ x hx; cases hx
      | cons y l ih =>
        intro h x hx
        simp only [isFL, Bool.and_eq_true] at h
        rcases List.mem_cons.mp hx with rfl | hx
        · exact h.1
        · exact ih h.2 x hx
    exact this goods hg _ hmem
  refine ⟨goods[m], a', c', hmem, ?_, k3, k4⟩
  have h := of_run (tab fs (n + 1)) a b c a' c' m goods goods[m] hT hd hf
  rw [tab, h3]
  exact run_rt (T := tab fs (n + 1)) (F := ⟨2, 2, [0], bOf⟩) (as := [box a b c, .lst true goods]) rfl h
end
end M

set_option Elab.async false
set_option linter.all false
set_option autoImplicit false
set_option maxRecDepth 100000
set_option maxHeartbeats 4000000
/-! M4: a law's cells. -/
namespace M
open PySem PySem.Spec Z
def bCells : Ss := (Z.Ss.cons
  (Z.S.as
    (Z.Tg.n 2)
    (Z.E.or
      (Z.E.bi (Z.Bi.list) (Z.Es.cons (Z.E.slc (Z.E.v 0) (Z.Oe.no) (Z.Oe.e (Z.E.v 1))) (Z.Es.nil)))
      (Z.E.lst (Z.Es.raw (Z.E.c (Z.D.int 0)) (Z.Es.nil)))))
  (Z.Ss.cons
    (Z.S.fr
      (Z.Tg.t (Z.Tgs.cons (Z.Tg.n 3) (Z.Tgs.cons (Z.Tg.n 4) (Z.Tgs.nil))))
      (Z.It.enm (Z.E.slc (Z.E.v 0) (Z.Oe.e (Z.E.v 1)) (Z.Oe.e (Z.E.c (Z.D.int 63)))))
      (Z.Ss.cons
        (Z.S.as
          (Z.Tg.n 5)
          (Z.E.bin (PySem.Operator.Mod) (Z.E.bi (Z.Bi.int) (Z.Es.cons (Z.E.v 3) (Z.Es.nil))) (Z.E.v 1)))
        (Z.Ss.cons
          (Z.S.sset
            2
            (Z.E.v 5)
            (Z.E.bin
              (PySem.Operator.Add)
              (Z.E.subv 2 (Z.E.v 5))
              (Z.E.bin (PySem.Operator.Mult) (Z.E.v 4) (Z.E.bin (PySem.Operator.Add) (Z.E.v 3) (Z.E.c (Z.D.int 2))))))
          (Z.Ss.nil))))
    (Z.Ss.cons (Z.S.ret (Z.E.mv 2)) (Z.Ss.nil))))
def bLoop : Ss := match bCells with
  | .cons _ (.cons (.fr _ _ b) _) => b
  | _ => .nil
def tgL : Tg := .t (.cons (.n 3) (.cons (.n 4) .nil))
theorem loop1 (T : Tab) (s : D) (cs : List Int) (k c : Int) (hc : cs.length = 3) (hk : 0 ≤ k ∧ k < 1000) (x3 x4 x5 : Option D) : ∃ cs' : List Int, cs'.length = 3 ∧ ∃ e1, setT tgL (.tup [.int k, .int c]) [some s, some (.int 3), some (.lst true (cs.map D.int)), x3, x4, x5] = some e1 ∧
    dSs T bLoop e1 = .ok .nx [some s, some (.int 3), some (.lst true (cs'.map D.int)), some (.int k), some (.int c), some (.int (k % 3))] := by
  have h0 := Int.emod_nonneg k (show (3 : Int) ≠ 0 by decide)
  have h1 := Int.emod_lt_of_pos k (show (0 : Int) < 3 by decide)
  have m : mulOk c (k + 2) = true := mul_of (by omega)
  match cs, hc with
  | [a, b, d], _ =>
    have h : k % 3 = 0 ∨ k % 3 = 1 ∨ k % 3 = 2 := by omega
    rcases h with h | h | h
    · refine ⟨[a + c * (k + 2), b, d], rfl, _, rfl, ?_⟩
      simp [bLoop, bCells, dSs, dS, dE, dEs, R.bind, rd, ofO, biD, args1, binD, subD, L2.atI, L2.ixN, isF, isFL, setT, fz, m, h]
    · refine ⟨[a, b + c * (k + 2), d], rfl, _, rfl, ?_⟩
      simp [bLoop, bCells, dSs, dS, dE, dEs, R.bind, rd, ofO, biD, args1, binD, subD, L2.atI, L2.ixN, isF, isFL, setT, fz, m, h]
    · refine ⟨[a, b, d + c * (k + 2)], rfl, _, rfl, ?_⟩
      simp [bLoop, bCells, dSs, dS, dE, dEs, R.bind, rd, ofO, biD, args1, binD, subD, L2.atI, L2.ixN, isF, isFL, setT, fz, m, h]
theorem loopN (T : Tab) (s : D) : ∀ (l : List (Int × Int)) (cs : List Int), cs.length = 3 → (∀ p ∈ l, 0 ≤ p.1 ∧ p.1 < 1000) → ∀ x3 x4 x5 : Option D, ∃ cs' : List Int, cs'.length = 3 ∧ ∃ y3 y4 y5 : Option D,
    frL tgL (dSs T bLoop) (l.map fun p => D.tup [.int p.1, .int p.2]) [some s, some (.int 3), some (.lst true (cs.map D.int)), x3, x4, x5] = .ok .nx [some s, some (.int 3), some (.lst true (cs'.map D.int)), y3, y4, y5]
  | [], cs, hc, _, x3, x4, x5 => ⟨cs, hc, x3, x4, x5, rfl⟩
  | p :: l, cs, hc, hl, x3, x4, x5 => by
    obtain ⟨cs1, h1, e1, h2, h3⟩ := loop1 T s cs p.1 p.2 hc (hl p (.head _)) x3 x4 x5
    obtain ⟨cs2, h4, y3, y4, y5, h5⟩ := loopN T s l cs1 h1 (fun q hq => hl q (.tail _ hq)) _ _ _
    refine ⟨cs2, h4, y3, y4, y5, ?_⟩
    rw [List.map_cons, frL, h2]
    dsimp only
    rw [h3]
    exact h5
end M

set_option Elab.async false
set_option linter.all false
set_option autoImplicit false
set_option maxRecDepth 100000
set_option maxHeartbeats 4000000
/-! M5: a law's cells, whole. -/
namespace M
open PySem PySem.Spec Z
theorem cut_map {α β : Type} (f : α → β) (xs : List α) (lo hi : Option Int) : Z.cut (xs.map f) lo hi = (Z.cut xs lo hi).map f := by
  unfold Z.cut
  rw [List.length_map, List.map_take, List.map_drop]
theorem isFL_int : ∀ ns : List Int, isFL (ns.map D.int) = true
  | [] => rfl
  | n :: r => by rw [List.map_cons, isFL, isFL_int r]; rfl
theorem frz_int (ns : List Int) : frzL (ns.map D.int) = ns.map D.int := isFL_frz (isFL_int ns)
theorem enm_map (l : List Int) : (l.map D.int).mapIdx (fun k d => D.tup [.int (Int.ofNat k), d]) = (l.mapIdx fun k z => ((k : Int), z)).map fun p => D.tup [.int p.1, .int p.2] := by
  refine List.ext_getElem? fun i => ?_
  simp [List.getElem?_mapIdx]
  cases l[i]? <;> rfl
def sA : S := match bCells with
  | .cons a _ => a
  | _ => .pass
def itL : It := match bCells with
  | .cons _ (.cons (.fr _ i _) _) => i
  | _ => .var 0
theorem cells_run (T : Tab) (ns : List Int) (hl : ns.length ≤ 63) : ∃ cs : List Int, 0 < cs.length ∧ cs.length ≤ 3 ∧ ∃ e, dSs T bCells [some (.lck (ns.map D.int)), some (.int 3), none, none, none, none] = .ok (.rt (.lst true (cs.map D.int))) e := by
  have s1 : ∀ lo hi, slcD (.lck (ns.map D.int)) lo hi = some (.lst true ((Z.cut ns lo hi).map D.int)) := fun lo hi => by rw [slcD, cut_map]
  have hF : isF (.lck (ns.map D.int)) = true := by rw [isF, isFL_int]
  have l1 : (Z.cut ns none (some 3)).length = min 3 ns.length := by
    unfold Z.cut
    rw [show HT.sIx ns.length ns.length (some 3) = min 3 ns.length from HT.sIx_nat ns.length ns.length 3, HT.sIx_none]
    simp
  have l2 : ns.length ≤ 3 → Z.cut ns (some 3) (some 63) = [] := fun h => by
    unfold Z.cut
    rw [show HT.sIx ns.length 0 (some 3) = min 3 ns.length from HT.sIx_nat ns.length 0 3, List.drop_eq_nil_of_le (by omega)]
    simp
  have l3 : (Z.cut ns (some 3) (some 63)).length < 1000 := by
    unfold Z.cut
    simp
    omega
  have s0 := s1 none (some 3)
  generalize Z.cut ns none (some 3) = as at s0 l1
  have has := s0
  generalize hbs : Z.cut ns (some 3) (some 63) = bs at l2 l3
  have s2 : slcD (.lck (ns.map D.int)) (some 3) (some 63) = some (.lst true (bs.map D.int)) := by
    rw [slcD, cut_map, hbs]
  have s3 : slcD (.lck (ns.map D.int)) none (some 3) = some (.lst true (as.map D.int)) := has
  obtain ⟨cs, hcs, c1, c2⟩ : ∃ cs : List Int, (if as.isEmpty = true then [0] else as) = cs ∧ 0 < cs.length ∧ cs.length ≤ 3 := by
    cases as with
    | nil => exact ⟨[0], rfl, by decide, by decide⟩
    | cons a as =>
      refine ⟨a :: as, rfl, by simp, ?_⟩
      omega
  have e1 : dS T sA [some (.lck (ns.map D.int)), some (.int 3), none, none, none, none] = .ok .nx [some (.lck (ns.map D.int)), some (.int 3), some (.lst true (cs.map D.int)), none, none, none] := by
    subst hcs
    cases as with
    | nil => simp [sA, bCells, dS, dE, dEs, dO, R.bind, rd, isFL_int, isF, s3, ofO, fz, frz, frzL, args1, biD, truth, setT, big]
    | cons a as =>
      have f1 := frz_int as
      simp [sA, bCells, dS, dE, dEs, dO, R.bind, rd, isFL_int, isF, s3, ofO, fz, frz, frzL, f1, args1, biD, truth, setT, big]
  have e2 : dI T itL [some (.lck (ns.map D.int)), some (.int 3), some (.lst true (cs.map D.int)), none, none, none] = .ok ((bs.mapIdx fun k z => ((k : Int), z)).map fun p => D.tup [.int p.1, .int p.2]) [some (.lck (ns.map D.int)), some (.int 3), some (.lst true (cs.map D.int)), none, none, none] := by
    have f2 := frz_int bs
    have f3 := enm_map bs
    simp [itL, bCells, dI, dE, dO, R.bind, rd, isFL_int, isF, s2, ofO, fz, frz, f2, enmD]
    exact f3
  have go : ∃ cs2 : List Int, 0 < cs2.length ∧ cs2.length ≤ 3 ∧ ∃ y3 y4 y5 : Option D, frL tgL (dSs T bLoop) ((bs.mapIdx fun k z => ((k : Int), z)).map fun p => D.tup [.int p.1, .int p.2]) [some (.lck (ns.map D.int)), some (.int 3), some (.lst true (cs.map D.int)), none, none, none] =
      .ok .nx [some (.lck (ns.map D.int)), some (.int 3), some (.lst true (cs2.map D.int)), y3, y4, y5] := by
    by_cases h3 : ns.length ≤ 3
    · rw [l2 h3]
      exact ⟨cs, c1, c2, none, none, none, rfl⟩
    · have hc3 : cs.length = 3 := by
        have : as.length = 3 := by omega
        cases as with
        | nil => cases this
        | cons a as => rw [← hcs]; exact this
      obtain ⟨cs2, k1, y3, y4, y5, k2⟩ := loopN T (.lck (ns.map D.int)) (bs.mapIdx fun k z => ((k : Int), z)) cs hc3 (fun p hp => by
        obtain ⟨i, hi⟩ := List.getElem?_of_mem hp
        rw [List.getElem?_mapIdx] at hi
        cases hb : bs[i]? with
        | none => rw [hb] at hi; cases hi
        | some z =>
          rw [hb] at hi
          cases hi
          have := (List.getElem?_eq_some_iff.mp hb).1
          constructor
          · show (0 : Int) ≤ (i : Int); omega
          · show (i : Int) < 1000; omega) none none none
      exact ⟨cs2, by omega, by omega, y3, y4, y5, k2⟩
  obtain ⟨cs2, k1, k2, y3, y4, y5, k3⟩ := go
  refine ⟨cs2, k1, k2, [some (.lck (ns.map D.int)), some (.int 3), none, y3, y4, y5], ?_⟩
  rw [show bCells = .cons sA (.cons (.fr tgL itL bLoop) (.cons (.ret (.mv 2)) .nil)) from rfl, dSs, e1]
  dsimp only
  rw [dSs, dS, e2]
  simp only [R.bind]
  rw [k3]
  rfl
end M

set_option Elab.async false
set_option linter.all false
set_option autoImplicit false
set_option maxRecDepth 100000
set_option maxHeartbeats 4000000
/-! M6: law k00, its turns. -/
namespace M
open PySem PySem.Spec Z
def bRight : Ss := (Z.Ss.cons
  (Z.S.fr
    (Z.Tg.n 1)
    (Z.It.rng (Z.Es.cons (Z.E.c (Z.D.int 4)) (Z.Es.nil)))
    (Z.Ss.cons
      (Z.S.par
        [2, 3]
        (Z.Es.raw
          (Z.E.fn
            3
            (Z.Es.bw
              0
              (Z.Es.raw
                (Z.E.lst
                  (Z.Es.raw
                    (Z.E.c (Z.D.str { cps := #[97] }))
                    (Z.Es.raw
                      (Z.E.c (Z.D.str { cps := #[99, 111, 114, 101] }))
                      (Z.Es.raw (Z.E.c (Z.D.str { cps := #[122, 122] })) (Z.Es.nil)))))
                (Z.Es.nil))))
          (Z.Es.raw
            (Z.E.fn
              3
              (Z.Es.bw
                0
                (Z.Es.raw
                  (Z.E.lst
                    (Z.Es.raw
                      (Z.E.c (Z.D.str { cps := #[109] }))
                      (Z.Es.raw
                        (Z.E.c (Z.D.str { cps := #[98] }))
                        (Z.Es.raw (Z.E.c (Z.D.str { cps := #[114, 101, 97, 100] })) (Z.Es.nil)))))
                  (Z.Es.nil))))
            (Z.Es.nil))))
      (Z.Ss.cons
        (Z.S.ite
          (Z.Te.not
            (Z.Te.val
              (Z.E.fn
                6
                (Z.Es.raw
                  (Z.E.v 2)
                  (Z.Es.raw
                    (Z.E.tup (Z.Es.cons (Z.E.v 2) (Z.Es.cons (Z.E.v 3) (Z.Es.nil))))
                    (Z.Es.raw
                      (Z.E.bin
                        (PySem.Operator.Sub)
                        (Z.E.fn
                          1
                          (Z.Es.bw
                            0
                            (Z.Es.raw
                              (Z.E.bin (PySem.Operator.Pow) (Z.E.c (Z.D.int 10)) (Z.E.c (Z.D.int 9)))
                              (Z.Es.nil))))
                        (Z.E.bin (PySem.Operator.Pow) (Z.E.c (Z.D.int 10)) (Z.E.c (Z.D.int 8))))
                      (Z.Es.nil)))))))
          (Z.Ss.cons (Z.S.ret (Z.E.c (Z.D.bl false))) (Z.Ss.nil))
          (Z.Ss.nil))
        (Z.Ss.nil))))
  (Z.Ss.cons (Z.S.ret (Z.E.c (Z.D.bl true))) (Z.Ss.nil)))
def bTurn : Ss := match bRight with
  | .cons (.fr _ _ b) _ => b
  | _ => .nil
def tags : List D := [.str ⟨#[97]⟩, .str ⟨#[99, 111, 114, 101]⟩, .str ⟨#[122, 122]⟩]
def fars : List D := [.str ⟨#[109]⟩, .str ⟨#[98]⟩, .str ⟨#[114, 101, 97, 100]⟩]
structure Tb (T : Tab) : Prop where
  t3 : ∀ (a b c : Int) (goods : List D), isFL goods = true → 0 < goods.length ∧ goods.length < 1000 → 0 ≤ b ∧ b < 2 ^ 62 → 0 ≤ c ∧ c < 1000000 → ∃ x a' c', x ∈ goods ∧ T 3 [box a b c, .lst true goods] = .ok x [some (box a' b c'), none] ∧ c ≤ c' ∧ c' ≤ c + 1
  t1 : ∀ (a b c w : Int), 0 < w → w < 1073741824 → 0 ≤ b ∧ b < 2 ^ 62 → 0 ≤ c ∧ c < 1000000 → ∃ d a' c', T 1 [box a b c, .int w] = .ok (.int d) [some (box a' b c'), none] ∧ 0 ≤ d ∧ d < w ∧ c ≤ c' ∧ c' ≤ c + 1
  t6 : ∀ x ∈ tags, ∀ y ∈ fars, ∀ n : Int, T 6 [x, .tup [x, y], .int n] = .ok (.bl true) [none, none, none]
theorem str_of {x : D} (h : x ∈ tags ∨ x ∈ fars) : ∃ z, x = .str z := by
  simp only [tags, fars, List.mem_cons, List.not_mem_nil, or_false] at h
  rcases h with (rfl | rfl | rfl) | (rfl | rfl | rfl) <;> exact ⟨_, rfl⟩
theorem turn (T : Tab) (t : Tb T) (a b c : Int) (hb : 0 ≤ b ∧ b < 2 ^ 62) (hc : 0 ≤ c ∧ c < 900000) (x1 x2 x3 : Option D) : ∃ a' c' y2 y3, dSs T bTurn [some (box a b c), x1, x2, x3] = .ok .nx [some (box a' b c'), x1, y2, y3] ∧ c ≤ c' ∧ c' ≤ c + 3 := by
  obtain ⟨x, a1, c1, hx, h1, k1, k2⟩ := t.t3 a b c tags rfl ⟨by decide, by decide⟩ hb ⟨hc.1, by omega⟩
  obtain ⟨y, a2, c2, hy, h2, k3, k4⟩ := t.t3 a1 b c1 fars rfl ⟨by decide, by decide⟩ hb ⟨by omega, by omega⟩
  obtain ⟨d, a3, c3, h3, _, _, k5, k6⟩ := t.t1 a2 b c2 1000000000 (by decide) (by decide) hb ⟨by omega, by omega⟩
  have h4 := t.t6 x hx y hy (d - 100000000)
  obtain ⟨sx, rfl⟩ := str_of (.inl hx)
  obtain ⟨sy, rfl⟩ := str_of (.inr hy)
  refine ⟨a3, c3, some (.str sx), some (.str sy), ?_, by omega, by omega⟩
  unfold tags at h1
  unfold fars at h2
  unfold box at *
  simp [bTurn, bRight, dSs, dS, dT, dE, dEs, R.bind, rd, ofO, args1, takeB, putB, isF, isFL, fz, binD, truth, h1, h2, h3, h4, big]
theorem turns (T : Tab) (t : Tb T) : ∀ (l : List Int) (a b c : Int), 0 ≤ b ∧ b < 2 ^ 62 → 0 ≤ c → c + 3 * l.length < 900000 → ∀ x1 x2 x3 : Option D, ∃ a' c' y1 y2 y3, frL (.n 1) (dSs T bTurn) (l.map D.int) [some (box a b c), x1, x2, x3] = .ok .nx [some (box a' b c'), y1, y2, y3]
  | [], a, b, c, _, _, _, x1, x2, x3 => ⟨a, c, x1, x2, x3, rfl⟩
  | n :: l, a, b, c, hb, hc, hl, x1, x2, x3 => by
    rw [List.length_cons] at hl
    obtain ⟨a1, c1, y2, y3, h1, k1, k2⟩ := turn T t a b c hb ⟨hc, by omega⟩ (some (.int n)) x2 x3
    obtain ⟨a2, c2, z1, z2, z3, h2⟩ := turns T t l a1 b c1 hb (by omega) (by omega) (some (.int n)) y2 y3
    refine ⟨a2, c2, z1, z2, z3, ?_⟩
    rw [List.map_cons, frL]
    show (match dSs T bTurn [some (box a b c), some (.int n), x2, x3] with
      | .ok .nx e2 => frL (.n 1) (dSs T bTurn) (l.map D.int) e2
      | .ok .ct e2 => frL (.n 1) (dSs T bTurn) (l.map D.int) e2
      | .ok .bk e2 => .ok .nx e2
      | .ok (.rt d) e2 => .ok (.rt d) e2
      | .ex x e2 => .ex x e2
      | .no => .no) = _
    rw [h1]
    exact h2
theorem right_run (T : Tab) (t : Tb T) (a b : Int) (hb : 0 ≤ b ∧ b < 2 ^ 62) : ∃ e, dSs T bRight [some (box a b 0), none, none, none] = .ok (.rt (.bl true)) e := by
  obtain ⟨a', c', y1, y2, y3, h⟩ := turns T t [0, 1, 2, 3] a b 0 hb (by decide) (by decide) none none none
  refine ⟨[some (box a' b c'), y1, y2, y3], ?_⟩
  rw [show bRight = .cons (.fr (.n 1) (.rng (.cons (.c (.int 4)) .nil)) bTurn) (.cons (.ret (.c (.bl true))) .nil) from rfl, dSs, dS]
  rw [show dI T (.rng (.cons (.c (.int 4)) .nil)) [some (box a b 0), none, none, none] = .ok (([0, 1, 2, 3] : List Int).map D.int) [some (box a b 0), none, none, none] from rfl]
  simp only [R.bind]
  rw [h]
  rfl
def bLaw : Ss := (Z.Ss.cons
  (Z.S.ite
    (Z.Te.not (Z.Te.val (Z.E.fn 7 (Z.Es.nil))))
    (Z.Ss.cons (Z.S.ret (Z.E.c (Z.D.bl false))) (Z.Ss.nil))
    (Z.Ss.nil))
  (Z.Ss.cons
    (Z.S.as (Z.Tg.n 1) (Z.E.fn 2 (Z.Es.raw (Z.E.v 0) (Z.Es.raw (Z.E.c (Z.D.int 3)) (Z.Es.nil)))))
    (Z.Ss.cons
      (Z.S.ret
        (Z.E.bi
          (Z.Bi.all)
          (Z.Es.cons
            (Z.E.lc
              [2]
              (Z.Tg.n 2)
              (Z.It.rng (Z.Es.cons (Z.E.lenv 1) (Z.Es.nil)))
              (Z.Tes.nil)
              (Z.E.fn 8 (Z.Es.raw (Z.E.fn 0 (Z.Es.raw (Z.E.v 1) (Z.Es.raw (Z.E.v 2) (Z.Es.nil)))) (Z.Es.nil))))
            (Z.Es.nil))))
      (Z.Ss.nil))))
structure Tl (T : Tab) : Prop where
  t7 : T 7 [] = .ok (.bl true) []
  t2 : ∀ ns : List Int, ns.length ≤ 63 → ∃ cs : List Int, 0 < cs.length ∧ cs.length ≤ 3 ∧ T 2 [.lck (ns.map D.int), .int 3] = .ok (.lst true (cs.map D.int)) [none, none]
  t0 : ∀ (cs : List Int) (k : Nat), k < cs.length → k < 1000 → ∃ a b, T 0 [.lst false (cs.map D.int), .int k] = .ok (box a b 0) [none, none] ∧ 0 ≤ b ∧ b < 2 ^ 62
  t8 : ∀ a b : Int, 0 ≤ b ∧ b < 2 ^ 62 → ∃ p, T 8 [box a b 0] = .ok (.bl true) [p]
def elt : E := .fn 8 (.raw (.fn 0 (.raw (.v 1) (.raw (.v 2) .nil))) .nil)
theorem elt_run (T : Tab) (t : Tl T) (L : D) (cs : List Int) (o : Bool) (k : Nat) (hk : k < cs.length) (h3 : cs.length ≤ 3) : dE T elt [some L, some (.lst o (cs.map D.int)), some (.int k)] = .ok (.bl true) [some L, some (.lst false (cs.map D.int)), some (.int k)] := by
  obtain ⟨a, b, h0, hb⟩ := t.t0 cs k hk (by omega)
  obtain ⟨p, h8⟩ := t.t8 a b hb
  cases o <;> simp [elt, dE, dEs, R.bind, rd, isF, isFL_int, frz, frz_int, takeB, putB, h0, h8]
theorem lc_go (T : Tab) (t : Tl T) (L : D) (cs : List Int) (h3 : cs.length ≤ 3) : ∀ (l : List Nat), (∀ k ∈ l, k < cs.length) → ∀ (acc : List D) (o : Bool) (x : Option D), ∃ o' y, lcL [2] (.n 2) (dTs T .nil) (dE T elt) (l.map fun (k : Nat) => D.int (Int.ofNat k)) acc [some L, some (.lst o (cs.map D.int)), x] = .ok (acc ++ List.replicate l.length (.bl true)) [some L, some (.lst o' (cs.map D.int)), y]
  | [], _, acc, o, x => ⟨o, x, by rw [List.map_nil, lcL]; simp⟩
  | k :: l, hk, acc, o, x => by
    obtain ⟨o', y, h⟩ := lc_go T t L cs h3 l (fun q hq => hk q (.tail _ hq)) (acc ++ [.bl true]) false (some (.int (Int.ofNat k)))
    refine ⟨o', y, ?_⟩
    rw [List.map_cons, lcL]
    have hs : setT (.n 2) (.int (Int.ofNat k)) (wipeE [some L, some (.lst o (cs.map D.int)), x] [2]) = some [some L, some (.lst o (cs.map D.int)), some (.int (Int.ofNat k))] := rfl
    rw [hs]
    dsimp only
    rw [dTs]
    dsimp only
    rw [show dE T elt [some L, some (.lst o (cs.map D.int)), some (.int (Int.ofNat k))] = _ from elt_run T t L cs o k (hk k (.head _)) h3]
    dsimp only
    refine h.trans ?_
    rw [List.length_cons, List.replicate_succ, List.append_assoc]
    rfl
theorem bls_rep (n : Nat) : blsD (List.replicate n (.bl true)) = some (List.replicate n true) := by
  induction n with
  | zero => rfl
  | succ n ih => rw [List.replicate_succ, blsD, ih]; rfl
theorem isFL_rep (n : Nat) : isFL (List.replicate n (.bl true)) = true := by
  induction n with
  | zero => rfl
  | succ n ih => rw [List.replicate_succ, isFL, ih]; rfl
end M

set_option Elab.async false
set_option linter.all false
set_option autoImplicit false
set_option maxRecDepth 100000
set_option maxHeartbeats 4000000
namespace M
open PySem PySem.Spec Z
theorem rngD_n (n : Nat) (h : n < 1000000) : rngD (some [.int (n : Int)]) = some ((List.range n).map (fun (k : Nat) => D.int (Int.ofNat k))) := by
  have hb : (-((big : Nat) : Int) < (n : Int) ∧ (n : Int) < ((big : Nat) : Int)) := by
    constructor
    · show (-((1000000 : Nat) : Int) < (n : Int)); omega
    · show ((n : Int) < ((1000000 : Nat) : Int)); omega
  rw [rngD, if_pos hb]
  rfl
theorem dIc_rng (T : Tab) (as : Es) (e : Ev) : dIc T (.rng as) e = (dEs T as e).bind fun xs e => ofO ((rngD (args1 xs)).map fun l => (l, none)) e := by
  rw [dIc]
theorem dEs_one (T : Tab) (x : E) (e : Ev) : dEs T (.cons x .nil) e = (dE T x e).bind fun d e => .ok [.inl (fz d)] e := by
  rw [dEs]
  simp only [dEs, R.bind]
theorem fz_int (n : Int) : fz (.int n) = .int n := rfl
theorem rng_map (n : Nat) (h : n < 1000000) : (rngD (args1 [.inl (.int (n : Int))])).map (fun l => (l, (none : Option (Nat × D)))) = some ((List.range n).map (fun (k : Nat) => D.int (Int.ofNat k)), none) := by
  have h2 := rngD_n n h
  have : args1 [.inl (.int (n : Int))] = some [.int (n : Int)] := rfl
  rw [this, h2]
  rfl
theorem bind_ok {α β : Type} (a : α) (e : Ev) (f : α → Ev → R β) : (R.ok a e).bind f = f a e := rfl
theorem dEs_int (T : Tab) (e e1 : Ev) (n : Int) (x : E) (h : dE T x e = .ok (.int n) e1) : dEs T (.cons x .nil) e = .ok [.inl (.int n)] e1 := by
  rw [dEs_one, h, bind_ok, fz_int]
theorem dIc_rng' (T : Tab) (e e1 : Ev) (as : Es) (xs : List (Sum D Nat)) (ys : List D) (h : dEs T as e = .ok xs e1) (h2 : (rngD (args1 xs)).map (fun l => (l, (none : Option (Nat × D)))) = some (ys, none)) : dIc T (.rng as) e = .ok (ys, none) e1 := by
  rw [dIc_rng, h, bind_ok, h2]
  rfl
theorem rng_one (T : Tab) (e e1 : Ev) (n : Nat) (x : E) (hn : n < 1000000) (h : dE T x e = .ok (.int n) e1) : dIc T (.rng (.cons x .nil)) e = .ok ((List.range n).map (fun (k : Nat) => D.int (Int.ofNat k)), none) e1 :=
  dIc_rng' T e e1 _ _ _ (dEs_int T e e1 n x h) (rng_map n hn)
theorem lenv_I (T : Tab) (L : D) (cs : List Int) (o : Bool) : dE T (.lenv 1) [some L, some (.lst o (cs.map D.int)), none] = .ok (.int cs.length) [some L, some (.lst o (cs.map D.int)), none] := by
  have : biD .len [.lst o (cs.map D.int)] = some (.int cs.length) := by rw [biD, List.length_map]
  simp only [dE, rd, List.getElem?_cons_succ, List.getElem?_cons_zero, Option.join_some, this, ofO]
theorem rng_I (T : Tab) (L : D) (cs : List Int) (c2 : cs.length ≤ 3) : dIc T (.rng (.cons (.lenv 1) .nil)) [some L, some (.lst true (cs.map D.int)), none] = .ok ((List.range cs.length).map (fun (k : Nat) => D.int (Int.ofNat k)), none) [some L, some (.lst true (cs.map D.int)), none] :=
  rng_one T _ _ cs.length _ (by omega) (lenv_I T L cs true)
theorem law_run (T : Tab) (t : Tl T) (ns : List Int) (hl : ns.length ≤ 63) : ∃ e, dSs T bLaw [some (.lck (ns.map D.int)), none, none] = .ok (.rt (.bl true)) e := by
  obtain ⟨cs, c1, c2, h2⟩ := t.t2 ns hl
  have h7 := t.t7
  have F : isFL (ns.map D.int) = true := isFL_int ns
  obtain ⟨o', y, hlc⟩ := lc_go T t (.lck (ns.map D.int)) cs c2 (List.range cs.length) (fun k hk => List.mem_range.mp hk) [] true none
  rw [List.length_range, List.nil_append] at hlc
  have h1 : dSs T bLaw [some (.lck (ns.map D.int)), none, none] = dSs T (.cons (.ret (.bi .all (.cons (.lc [2] (.n 2) (.rng (.cons (.lenv 1) .nil)) .nil elt) .nil))) .nil) [some (.lck (ns.map D.int)), some (.lst true (cs.map D.int)), none] := by
    rw [show bLaw = .cons (.ite (.not (.val (.fn 7 .nil))) (.cons (.ret (.c (.bl false))) .nil) .nil) (.cons (.as (.n 1) (.fn 2 (.raw (.v 0) (.raw (.c (.int 3)) .nil)))) (.cons (.ret (.bi .all (.cons (.lc [2] (.n 2) (.rng (.cons (.lenv 1) .nil)) .nil elt) .nil))) .nil)) from rfl]
    rw [dSs]
    rw [show dS T (.ite (.not (.val (.fn 7 .nil))) (.cons (.ret (.c (.bl false))) .nil) .nil) [some (.lck (ns.map D.int)), none, none] = .ok .nx [some (.lck (ns.map D.int)), none, none] by
      simp [dS, dSs, dT, dE, dEs, R.bind, takeB, putB, h7, truth, ofO]]
    dsimp only
    rw [dSs]
    rw [show dS T (.as (.n 1) (.fn 2 (.raw (.v 0) (.raw (.c (.int 3)) .nil)))) [some (.lck (ns.map D.int)), none, none] = .ok .nx [some (.lck (ns.map D.int)), some (.lst true (cs.map D.int)), none] by
      simp [dS, dE, dEs, R.bind, rd, isF, F, takeB, putB, h2, setT]]
  have h3 : dE T (.lc [2] (.n 2) (.rng (.cons (.lenv 1) .nil)) .nil elt) [some (.lck (ns.map D.int)), some (.lst true (cs.map D.int)), none] = .ok (.lst true (List.replicate cs.length (.bl true))) (backE [some (.lck (ns.map D.int)), some (.lst true (cs.map D.int)), none] [some (.lck (ns.map D.int)), some (.lst o' (cs.map D.int)), y] [2]) := by
    rw [dE]
    have hI := rng_I T (.lck (ns.map D.int)) cs c2
    rw [hI]
    simp only [R.bind]
    have hle : ((List.range cs.length).map fun (k : Nat) => D.int (Int.ofNat k)).length ≤ big := by
      rw [List.length_map, List.length_range]
      unfold big
      omega
    rw [if_pos hle, hlc]
    rfl
  refine ⟨backE [some (.lck (ns.map D.int)), some (.lst true (cs.map D.int)), none] [some (.lck (ns.map D.int)), some (.lst o' (cs.map D.int)), y] [2], ?_⟩
  · rw [h1, dSs, dS, dE, dEs, h3]
    simp only [R.bind, dEs]
    have hf : fz (.lst true (List.replicate cs.length (.bl true))) = .lst false (List.replicate cs.length (.bl true)) := by
      rw [fz_eq, frz, isFL_frz (isFL_rep _)]
    rw [hf]
    simp [args1, biD, bls_rep, ofO]
end M

set_option Elab.async false
set_option linter.all false
set_option autoImplicit false
set_option maxRecDepth 100000
set_option maxHeartbeats 4000000
/-! Sm: a law's own look at two equal values. -/
namespace M
open PySem PySem.Spec PyProof.Rows L2 Z
def bSame (j : Nat) : Ss := Z.Ss.cons
  (Z.S.ite
    (Z.Te.val (Z.E.isi (Z.E.v 1) [Z.Ty.list, Z.Ty.tuple] false))
    (Z.Ss.cons
      (Z.S.ite
        (Z.Te.or
          (Z.Te.val
            (Z.E.cmp (PySem.CmpOp.NotEq) (Z.E.isi (Z.E.v 0) [Z.Ty.list] true) (Z.E.isi (Z.E.v 1) [Z.Ty.list] true)))
          (Z.Te.val
            (Z.E.cmp (PySem.CmpOp.NotEq) (Z.E.isi (Z.E.v 0) [Z.Ty.tuple] true) (Z.E.isi (Z.E.v 1) [Z.Ty.tuple] true))))
        (Z.Ss.cons (Z.S.ret (Z.E.c (Z.D.bl false))) (Z.Ss.nil))
        (Z.Ss.nil))
      (Z.Ss.cons
        (Z.S.ret
          (Z.E.and
            (Z.E.cmp (PySem.CmpOp.Eq) (Z.E.lenv 0) (Z.E.lenv 1))
            (Z.E.bi
              (Z.Bi.all)
              (Z.Es.cons
                (Z.E.lc
                  [2, 3]
                  (Z.Tg.t (Z.Tgs.cons (Z.Tg.n 2) (Z.Tgs.cons (Z.Tg.n 3) (Z.Tgs.nil))))
                  (Z.It.zip (Z.Es.cons (Z.E.v 0) (Z.Es.cons (Z.E.v 1) (Z.Es.nil))))
                  (Z.Tes.nil)
                  (Z.E.fn j (Z.Es.raw (Z.E.v 2) (Z.Es.raw (Z.E.v 3) (Z.Es.nil)))))
                (Z.Es.nil)))))
        (Z.Ss.nil)))
    (Z.Ss.nil))
  (Z.Ss.cons
    (Z.S.ite
      (Z.Te.or (Z.Te.val (Z.E.isN false (Z.E.v 1))) (Z.Te.val (Z.E.isi (Z.E.v 1) [Z.Ty.bool, Z.Ty.str] false)))
      (Z.Ss.cons
        (Z.S.ret
          (Z.E.and
            (Z.E.cmp (PySem.CmpOp.Eq) (Z.E.v 0) (Z.E.v 1))
            (Z.E.and
              (Z.E.cmp (PySem.CmpOp.Eq) (Z.E.isi (Z.E.v 0) [Z.Ty.bool] true) (Z.E.isi (Z.E.v 1) [Z.Ty.bool] true))
              (Z.E.cmp (PySem.CmpOp.Eq) (Z.E.isN false (Z.E.v 0)) (Z.E.isN false (Z.E.v 1))))))
        (Z.Ss.nil))
      (Z.Ss.nil))
    (Z.Ss.cons
      (Z.S.ret
        (Z.E.and
          (Z.E.isi (Z.E.v 0) [Z.Ty.int] true)
          (Z.E.and
            (Z.E.tst (Z.Te.not (Z.Te.val (Z.E.isi (Z.E.v 0) [Z.Ty.bool] true))))
            (Z.E.cmp (PySem.CmpOp.Eq) (Z.E.v 0) (Z.E.v 1)))))
      (Z.Ss.nil)))
/-- plain values, nested at most k deep -/
def pl : Nat → D → Bool
  | _, .non => true
  | _, .bl _ => true
  | _, .int _ => true
  | _, .str s => PyData.strOk s
  | k + 1, .tup xs => decide (xs.length ≤ 1000) && xs.all (pl k)
  | k + 1, .lst o xs => !o && decide (xs.length ≤ 1000) && xs.all (pl k)
  | _, _ => false
theorem isFL_of {l : List D} (h : ∀ d ∈ l, isF d = true) : isFL l = true := by
  induction l with
  | nil => rfl
  | cons x l ih => rw [isFL, h x (.head _), ih fun d hd => h d (.tail _ hd)]; rfl
theorem isF_pl : ∀ (k : Nat) (d : D), pl k d = true → isF d = true
  | 0, d, h => by cases d <;> first | rfl | (simp [pl] at h)
  | k + 1, d, h => by
    cases d with
    | tup xs =>
      simp only [pl, Bool.and_eq_true, List.all_eq_true] at h
      rw [isF]
      exact isFL_of fun d hd => isF_pl k d (h.2 d hd)
    | lst o xs =>
      simp only [pl, Bool.and_eq_true, List.all_eq_true] at h
      rw [isF, isFL_of fun d hd => isF_pl k d (h.2 d hd), h.1.1]
      rfl
    | _ => first | rfl | (simp [pl] at h)
theorem eqD_int (a b : Int) : eqD (.int a) (.int b) = some (a == b) := rfl
theorem eqD_bl (a b : Bool) : eqD (.bl a) (.bl b) = some (a == b) := rfl
theorem eqD_str {a b : Str} (ha : PyData.strOk a = true) (hb : PyData.strOk b = true) : eqD (.str a) (.str b) = some (a == b) := by
  have s : ∀ {a : Str}, PyData.strOk a = true → SeqAt.shaped (.str a) = true := fun h => by
    unfold SeqAt.shaped
    rw [PyData.canLay0, h]
    rfl
  simp only [eqD, py]
  rw [if_pos ⟨s ha, s hb⟩]
  rfl
theorem same_go (T : Tab) (j : Nat) : ∀ (l : List D), (∀ d ∈ l, isF d = true ∧ T j [d, d] = .ok (.bl true) [none, none]) → ∀ (acc : List D) (a b x y : Option D), ∃ x' y', lcL [2, 3] (.t (.cons (.n 2) (.cons (.n 3) .nil))) (dTs T .nil) (dE T (.fn j (.raw (.v 2) (.raw (.v 3) .nil)))) ((l.zip l).map fun z => D.tup [z.1, z.2]) acc [a, b, x, y] = .ok (acc ++ List.replicate l.length (.bl true)) [a, b, x', y']
  | [], _, acc, a, b, x, y => ⟨x, y, by rw [List.zip_nil_left, List.map_nil, lcL]; simp⟩
  | d :: l, h, acc, a, b, x, y => by
    obtain ⟨x', y', r⟩ := same_go T j l (fun q hq => h q (.tail _ hq)) (acc ++ [.bl true]) a b (some d) (some d)
    refine ⟨x', y', ?_⟩
    obtain ⟨h1, h2⟩ := h d (.head _)
    rw [List.zip_cons_cons, List.map_cons, lcL]
    have hs : setT (.t (.cons (.n 2) (.cons (.n 3) .nil))) (.tup [d, d]) (wipeE [a, b, x, y] [2, 3]) = some [a, b, some d, some d] := rfl
    rw [hs]
    dsimp only
    rw [dTs]
    dsimp only
    rw [show dE T (.fn j (.raw (.v 2) (.raw (.v 3) .nil))) [a, b, some d, some d] = .ok (.bl true) [a, b, some d, some d] by
      simp [dE, dEs, R.bind, rd, h1, takeB, h2, putB]]
    dsimp only
    refine r.trans ?_
    rw [List.length_cons, List.replicate_succ, List.append_assoc]
    rfl
theorem same_seq (T : Tab) (j : Nat) (d : D) (l : List D) (hd : d = .tup l ∨ d = .lst false l) (hn : l.length ≤ 1000) (h : ∀ d ∈ l, isF d = true ∧ T j [d, d] = .ok (.bl true) [none, none]) : ∃ e, dSs T (bSame j) [some d, some d, none, none] = .ok (.rt (.bl true)) e := by
  have hF : isFL l = true := isFL_of fun d hd => (h d hd).1
  obtain ⟨x', y', r⟩ := same_go T j l h [] (some d) (some d) none none
  have hz : ((l.zip l).map fun z => D.tup [z.1, z.2]).length ≤ big := by
    rw [List.length_map, List.length_zip, Nat.min_self]
    unfold big; omega
  have hd1 : isF d = true := by
    rcases hd with rfl | rfl
    · rw [isF, hF]
    · rw [isF, hF]; rfl
  have hl : dE T (.lc [2, 3] (.t (.cons (.n 2) (.cons (.n 3) .nil))) (.zip (.cons (.v 0) (.cons (.v 1) .nil))) .nil (.fn j (.raw (.v 2) (.raw (.v 3) .nil)))) [some d, some d, none, none] = .ok (.lst true (List.replicate l.length (.bl true))) [some d, some d, none, none] := by
    have hI : dIc T (.zip (.cons (.v 0) (.cons (.v 1) .nil))) [some d, some d, none, none] = .ok (((l.zip l).map fun z => D.tup [z.1, z.2]), none) [some d, some d, none, none] := by
      have hf : fz d = d := by unfold fz; rw [if_pos hd1]
      have hz2 : zipD (some [d, d]) = some ((l.zip l).map fun z => D.tup [z.1, z.2]) := by rcases hd with rfl | rfl <;> rfl
      rw [dIc]
      simp only [dEs, dE, rd, List.getElem?_cons_succ, List.getElem?_cons_zero, Option.join_some, hd1, if_true, bind_ok, hf, args1, Option.map_some, hz2, ofO]
    rw [dE, hI, bind_ok, if_pos hz, r]
    rfl
  have hall : biD .all [.lst false (List.replicate l.length (.bl true))] = some (.bl true) := by
    rw [biD, bls_rep]
    simp
  have hfz : fz (.lst true (List.replicate l.length (.bl true))) = .lst false (List.replicate l.length (.bl true)) := by
    rw [fz_eq, frz, isFL_frz (isFL_rep _)]
  have hlen : biD .len [d] = some (.int l.length) := by rcases hd with rfl | rfl <;> rfl
  have t1 : tyAny d [.list, .tuple] = some true := by rcases hd with rfl | rfl <;> rfl
  have t2 : ∃ b, tyAny d [.list] = some b := by rcases hd with rfl | rfl <;> exact ⟨_, rfl⟩
  have t3 : ∃ b, tyAny d [.tuple] = some b := by rcases hd with rfl | rfl <;> exact ⟨_, rfl⟩
  obtain ⟨c2, t2⟩ := t2
  obtain ⟨c3, t3⟩ := t3
  have hfb : ∀ b : Bool, fz (.bl b) = .bl b := fun _ => rfl
  have hne : ∀ b : Bool, (eqD (.bl b) (.bl b)).map (!·) = some false := fun b => by cases b <;> rfl
  have hee : ∀ n : Nat, eqD (.int (n : Int)) (.int n) = some true := fun n => by rw [eqD_int, beq_self_eq_true]
  refine ⟨[some d, some d, none, none], ?_⟩
  unfold bSame
  generalize (Z.E.lc [2, 3] (.t (.cons (.n 2) (.cons (.n 3) .nil))) (.zip (.cons (.v 0) (.cons (.v 1) .nil))) .nil (.fn j (.raw (.v 2) (.raw (.v 3) .nil)))) = X at hl ⊢
  simp only [dSs, dS, dT, dE, dEs, rd, List.getElem?_cons_succ, List.getElem?_cons_zero, Option.join_some, hd1, if_true, bind_ok, t1, t2, t3, Option.map_some, ofO, truth, cmpD, hfb, hne, hlen, fz_int, hee, hl, hfz, args1, Option.bind_some, hall]
/-- lists, one's own or not -/
theorem same_lst (T : Tab) (j : Nat) (o1 o2 : Bool) (l : List D) (hn : l.length ≤ 1000) (h : ∀ d ∈ l, isF d = true ∧ T j [d, d] = .ok (.bl true) [none, none]) : ∃ e, dSs T (bSame j) [some (.lst o1 l), some (.lst o2 l), none, none] = .ok (.rt (.bl true)) e := by
  have hF : isFL l = true := isFL_of fun d hd => (h d hd).1
  have f1 : ∀ o, isF (.lst o l) = !o := fun o => by rw [isF, hF, Bool.and_true]
  have f2 : ∀ o, frz (.lst o l) = .lst false l := fun o => by rw [frz, isFL_frz hF]
  have key : ∀ (a b : D), (a = .lst true l ∨ a = .lst false l) → (b = .lst true l ∨ b = .lst false l) → ∀ r, dSs T (bSame j) [some (.lst false l), some (.lst false l), none, none] = r → dSs T (bSame j) [some a, some b, none, none] = r := by
    intro a b ha hb r hr
    have q1 : dT T (Z.Te.val (Z.E.isi (Z.E.v 1) [Z.Ty.list, Z.Ty.tuple] false)) [some a, some b, none, none] = .ok true [some a, some (.lst false l), none, none] := by
      rcases hb with rfl | rfl <;> simp [dT, dE, R.bind, rd, f1, f2, tyAny, tyOf, tyB, ofO, truth]
    have q2 : dT T (Z.Te.or (Z.Te.val (Z.E.cmp (PySem.CmpOp.NotEq) (Z.E.isi (Z.E.v 0) [Z.Ty.list] true) (Z.E.isi (Z.E.v 1) [Z.Ty.list] true)))
          (Z.Te.val (Z.E.cmp (PySem.CmpOp.NotEq) (Z.E.isi (Z.E.v 0) [Z.Ty.tuple] true) (Z.E.isi (Z.E.v 1) [Z.Ty.tuple] true)))) [some a, some (.lst false l), none, none] = .ok false [some (.lst false l), some (.lst false l), none, none] := by
      have k1 : eqD (.bl true) (.bl true) = some true := rfl
      have k2 : eqD (.bl false) (.bl false) = some true := rfl
      have k3 : ∀ b, fz (.bl b) = .bl b := fun _ => rfl
      have k4 : tyAny (.lst false l) [.list] = some true := rfl
      have k5 : tyAny (.lst false l) [.tuple] = some false := rfl
      rcases ha with rfl | rfl <;> simp [dT, dE, R.bind, rd, f1, f2, ofO, truth, cmpD, k1, k2, k3, k4, k5]
    have g1 : dT T (Z.Te.val (Z.E.isi (Z.E.v 1) [Z.Ty.list, Z.Ty.tuple] false)) [some (.lst false l), some (.lst false l), none, none] = .ok true [some (.lst false l), some (.lst false l), none, none] := by
      simp [dT, dE, R.bind, rd, f1, f2, tyAny, tyOf, tyB, ofO, truth]
    have g2 : dT T (Z.Te.or (Z.Te.val (Z.E.cmp (PySem.CmpOp.NotEq) (Z.E.isi (Z.E.v 0) [Z.Ty.list] true) (Z.E.isi (Z.E.v 1) [Z.Ty.list] true)))
          (Z.Te.val (Z.E.cmp (PySem.CmpOp.NotEq) (Z.E.isi (Z.E.v 0) [Z.Ty.tuple] true) (Z.E.isi (Z.E.v 1) [Z.Ty.tuple] true)))) [some (.lst false l), some (.lst false l), none, none] = .ok false [some (.lst false l), some (.lst false l), none, none] := by
      have k1 : eqD (.bl true) (.bl true) = some true := rfl
      have k2 : eqD (.bl false) (.bl false) = some true := rfl
      have k3 : ∀ b, fz (.bl b) = .bl b := fun _ => rfl
      have k4 : tyAny (.lst false l) [.list] = some true := rfl
      have k5 : tyAny (.lst false l) [.tuple] = some false := rfl
      simp [dT, dE, R.bind, rd, f1, f2, ofO, truth, cmpD, k1, k2, k3, k4, k5]
    rw [← hr]
    unfold bSame
    rw [dSs, dSs, dS, dS, q1, g1, bind_ok, bind_ok]
    dsimp only
    rw [dSs, dSs, dS, dS, q2, g2, bind_ok]
  obtain ⟨e, he⟩ := same_seq T j (.lst false l) l (.inr rfl) hn h
  exact ⟨e, key _ _ (by cases o1 <;> simp) (by cases o2 <;> simp) _ he⟩
theorem same_at (T : Tab) (j : Nat) (d : D) (h : pl 0 d = true) : ∃ e, dSs T (bSame j) [some d, some d, none, none] = .ok (.rt (.bl true)) e := by
  refine ⟨[some d, some d, none, none], ?_⟩
  have hfb : ∀ b : Bool, fz (.bl b) = .bl b := fun _ => rfl
  have hne : ∀ b : Bool, eqD (.bl b) (.bl b) = some true := fun b => by cases b <;> rfl
  cases d with
  | non => rfl
  | bl b => cases b <;> rfl
  | int i =>
    have hee : eqD (.int i) (.int i) = some true := by rw [eqD_int, beq_self_eq_true]
    have t1 : tyAny (.int i) [.list, .tuple] = some false := rfl
    have t2 : tyAny (.int i) [.bool, .str] = some false := rfl
    have t3 : tyAny (.int i) [.int] = some true := rfl
    have t4 : tyAny (.int i) [.bool] = some false := rfl
    have hF : isF (.int i) = true := rfl
    have nn : ((false : Bool) != false) = false := rfl
    simp only [bSame, dSs, dS, dT, dE, dEs, rd, List.getElem?_cons_succ, List.getElem?_cons_zero, Option.join_some, hF, if_true, bind_ok, t1, t2, t3, t4, Option.map_some, ofO, truth, cmpD, fz_int, hee, hfb, nn, Bool.not_false]
  | str s =>
    have hee : eqD (.str s) (.str s) = some true := by rw [eqD_str (by simpa [pl] using h) (by simpa [pl] using h), beq_self_eq_true]
    have hfs : fz (.str s) = .str s := rfl
    have t1 : tyAny (.str s) [.list, .tuple] = some false := rfl
    have t2 : tyAny (.str s) [.bool, .str] = some true := rfl
    have t4 : tyAny (.str s) [.bool] = some false := rfl
    have hF : isF (.str s) = true := rfl
    have nn : ((false : Bool) != false) = false := rfl
    simp only [bSame, dSs, dS, dT, dE, dEs, rd, List.getElem?_cons_succ, List.getElem?_cons_zero, Option.join_some, hF, if_true, bind_ok, t1, t2, t4, Option.map_some, ofO, truth, cmpD, hfs, hee, hfb, hne, nn]
  | _ => simp [pl] at h
theorem same_refl {fs : List Fd} {j : Nat} (hj : fs[j]? = some ⟨2, 4, [], bSame j⟩) : ∀ (k : Nat) (d : D), pl k d = true → ∀ n, k ≤ n → tab fs (n + 1) j [d, d] = .ok (.bl true) [none, none] := by
  intro k
  induction k with
  | zero =>
    intro d hd n _
    rw [tab, hj]
    obtain ⟨e, he⟩ := same_at (tab fs n) j d hd
    exact run_rt (F := ⟨2, 4, [], bSame j⟩) rfl he
  | succ k ih =>
    intro d hd n hn
    obtain ⟨m, rfl⟩ : ∃ m, n = m + 1 := ⟨n - 1, by omega⟩
    have go : ∀ l : List D, l.all (pl k) = true → ∀ d ∈ l, isF d = true ∧ tab fs (m + 1) j [d, d] = .ok (.bl true) [none, none] := fun l hl d hd => by
      have := List.all_eq_true.mp hl d hd
      exact ⟨isF_pl k d this, ih d this m (by omega)⟩
    have fin : ∀ d l, (d = .tup l ∨ d = .lst false l) → l.length ≤ 1000 → l.all (pl k) = true → tab fs (m + 1 + 1) j [d, d] = .ok (.bl true) [none, none] := fun d l h1 h2 h3 => by
      rw [tab, hj]
      obtain ⟨e, he⟩ := same_seq (tab fs (m + 1)) j d l h1 h2 (go l h3)
      exact run_rt (F := ⟨2, 4, [], bSame j⟩) rfl he
    have at0 : pl 0 d = true → tab fs (m + 1 + 1) j [d, d] = .ok (.bl true) [none, none] := fun h => by
      rw [tab, hj]
      obtain ⟨e, he⟩ := same_at (tab fs (m + 1)) j d h
      exact run_rt (F := ⟨2, 4, [], bSame j⟩) rfl he
    cases d with
    | tup xs =>
      simp only [pl, Bool.and_eq_true, decide_eq_true_eq] at hd
      exact fin _ xs (.inl rfl) hd.1 hd.2
    | lst o xs =>
      simp only [pl, Bool.and_eq_true, decide_eq_true_eq, Bool.not_eq_true'] at hd
      obtain ⟨⟨rfl, h1⟩, h2⟩ := hd
      exact fin _ xs (.inr rfl) h1 h2
    | _ => exact at0 (by simpa [pl] using hd)
theorem same_refl_lst {fs : List Fd} {j : Nat} (hj : fs[j]? = some ⟨2, 4, [], bSame j⟩) (k : Nat) (o1 o2 : Bool) (l : List D) (h : pl (k + 1) (.lst false l) = true) (n : Nat) (hn : k + 1 ≤ n) : tab fs (n + 1) j [.lst o1 l, .lst o2 l] = .ok (.bl true) [none, none] := by
  obtain ⟨m, rfl⟩ : ∃ m, n = m + 1 := ⟨n - 1, by omega⟩
  simp only [pl, Bool.and_eq_true, decide_eq_true_eq] at h
  rw [tab, hj]
  obtain ⟨e, he⟩ := same_lst (tab fs (m + 1)) j o1 o2 l h.1.2 fun d hd => by
    have := List.all_eq_true.mp h.2 d hd
    exact ⟨isF_pl k d this, same_refl hj k d this m (by omega)⟩
  exact run_rt (F := ⟨2, 4, [], bSame j⟩) rfl he
end M

set_option Elab.async false
set_option linter.all false
set_option autoImplicit false
set_option maxRecDepth 100000
set_option maxHeartbeats 4000000
/-! P1: what laws have in common, whatever the numbers of their defs. -/
namespace Pz
open PySem PySem.Spec Z M
def bBoxK (K : Int) : Ss := (Z.Ss.cons
  (Z.S.as
    (Z.Tg.n 2)
    (Z.E.ite (Z.Te.val (Z.E.cmp (PySem.CmpOp.Lt) (Z.E.v 1) (Z.E.lenv 0))) (Z.E.subv 0 (Z.E.v 1)) (Z.E.c (Z.D.int 0))))
  (Z.Ss.cons
    (Z.S.ret
      (Z.E.lst
        (Z.Es.raw
          (Z.E.bin
            (PySem.Operator.Mult)
            (Z.E.bi (Z.Bi.abs) (Z.Es.cons (Z.E.v 2) (Z.Es.nil)))
            (Z.E.bi
              (Z.Bi.int)
              (Z.Es.cons
                (Z.E.cmp
                  (PySem.CmpOp.GtE)
                  (Z.E.bi (Z.Bi.abs) (Z.Es.cons (Z.E.v 2) (Z.Es.nil)))
                  (Z.E.bin (PySem.Operator.Pow) (Z.E.c (Z.D.int 10)) (Z.E.c (Z.D.int 18))))
                (Z.Es.nil))))
          (Z.Es.raw
            (Z.E.bin
              (PySem.Operator.Add)
              (Z.E.bin
                (PySem.Operator.Add)
                (Z.E.bin
                  (PySem.Operator.Mod)
                  (Z.E.bi (Z.Bi.int) (Z.Es.cons (Z.E.v 2) (Z.Es.nil)))
                  (Z.E.c (Z.D.int 2305843009213693951)))
                (Z.E.bin (PySem.Operator.Mult) (Z.E.c (Z.D.int 39373)) (Z.E.v 1)))
              (Z.E.c (Z.D.int K)))
            (Z.Es.raw (Z.E.c (Z.D.int 0)) (Z.Es.nil))))))
    (Z.Ss.nil)))
theorem box_runK (K : Int) (hK : 0 ≤ K ∧ K < 1000000000000) (T : Tab) (cs : List Int) (k : Nat) (hk : k < cs.length) (hk2 : k < 1000) : ∃ a b e, dSs T (bBoxK K) [some (.lst false (cs.map D.int)), some (.int k), none] = .ok (.rt (box a b 0)) e ∧ 0 ≤ b ∧ b < 2 ^ 62 := by
  have hx : (cs.map D.int)[k]? = some (.int cs[k]) := by rw [List.getElem?_map, List.getElem?_eq_getElem hk]; rfl
  have hat : L2.atI (cs.map D.int) (k : Int) = some (.int cs[k]) := by
    unfold L2.atI L2.ixN
    rw [if_pos (by omega), if_pos (by simp; omega)]
    simpa using hx
  generalize cs[k] = z at hat
  have m1 : mulOk (if z < 0 then -z else z) (if 1000000000000000000 ≤ (if z < 0 then -z else z) then 1 else 0) = true := by
    apply mul_of
    generalize (if z < 0 then -z else z) = y
    by_cases h : 1000000000000000000 ≤ y <;> simp [h]
  have m2 : mulOk 39373 (k : Int) = true := mul_of' (by decide)
  refine ⟨(if z < 0 then -z else z) * (if 1000000000000000000 ≤ (if z < 0 then -z else z) then 1 else 0), z % 2305843009213693951 + 39373 * k + K, [some (.lst false (cs.map D.int)), some (.int k), some (.int z)], ?_, ?_, ?_⟩
  · have f : isFL (cs.map D.int) = true := by
      clear hx hat hk
      induction cs with
      | nil => rfl
      | cons c cs ih => simp [isFL, isF, ih]
    simp [bBoxK, box, dSs, dS, dT, dE, dEs, R.bind, rd, cmpD, truth, ofO, fz, isF, isFL, subD, hat, hk, binD, args1, biD, setT, m1, m2, f, big]
  · have := Int.emod_nonneg z (show (2305843009213693951 : Int) ≠ 0 by decide)
    omega
  · have := Int.emod_lt_of_pos z (show (0 : Int) < 2305843009213693951 by decide)
    omega
def bOfJ (j : Nat) : Ss := (Z.Ss.cons (Z.S.ret (Z.E.subv 1 (Z.E.fn j (Z.Es.bw 0 (Z.Es.raw (Z.E.lenv 1) (Z.Es.nil)))))) (Z.Ss.nil))
theorem of_runJ (j : Nat) (T : Tab) (a b c a' c' d : Int) (goods : List D) (x : D) (hT : T j [box a b c, .int goods.length] = .ok (.int d) [some (box a' b c'), none]) (hd : L2.atI goods d = some x) (hx : isF x = true) :
    dSs T (bOfJ j) [some (box a b c), some (.lst true goods)] = .ok (.rt x) [some (box a' b c'), some (.lst true goods)] := by
  unfold box at *
  simp [bOfJ, dSs, dS, dE, dEs, R.bind, rd, ofO, biD, takeB, putB, hT, subD, hd, hx]
section
variable {fs : List Fd} {jb jt jo : Nat} {K : Int} (hK : 0 ≤ K ∧ K < 1000000000000) (h0 : fs[jb]? = some ⟨2, 3, [], bBoxK K⟩) (h1 : fs[jt]? = some ⟨2, 6, [0], bTake⟩) (h3 : fs[jo]? = some ⟨2, 2, [0], bOfJ jt⟩)
include h1 in
theorem take_fnJ (n : Nat) (a b c w : Int) (hw : 0 < w) (hw2 : w < 1073741824) (hb : 0 ≤ b ∧ b < 2 ^ 62) (hc : 0 ≤ c ∧ c < 1000000) :
    ∃ d a' c', tab fs (n + 1) jt [box a b c, .int w] = .ok (.int d) [some (box a' b c'), none] ∧ 0 ≤ d ∧ d < w ∧ c ≤ c' ∧ c' ≤ c + 1 := by
  obtain ⟨d, a', c', e, h, hr, k1, k2, k3, k4⟩ := take_run (tab fs n) a b c w hw hw2 hb hc
  refine ⟨d, a', c', ?_, k1, k2, k3, k4⟩
  rw [tab, h1]
  refine (run_rt (F := ⟨2, 6, [0], bTake⟩) rfl h).trans ?_
  show R.ok (D.int d) [rd 0 e, none] = _
  rw [hr]
include hK h0 in
theorem box_fnJ (n : Nat) (cs : List Int) (k : Nat) (hk : k < cs.length) (hk2 : k < 1000) : ∃ a b, tab fs (n + 1) jb [.lst false (cs.map D.int), .int k] = .ok (box a b 0) [none, none] ∧ 0 ≤ b ∧ b < 2 ^ 62 := by
  obtain ⟨a, b, e, h, k1, k2⟩ := box_runK K hK (tab fs n) cs k hk hk2
  refine ⟨a, b, ?_, k1, k2⟩
  rw [tab, h0]
  exact run_rt (F := ⟨2, 3, [], bBoxK K⟩) rfl h
include h1 h3 in
theorem of_fnJ (n : Nat) (a b c : Int) (goods : List D) (hg : isFL goods = true) (hl : 0 < goods.length ∧ goods.length < 1000) (hb : 0 ≤ b ∧ b < 2 ^ 62) (hc : 0 ≤ c ∧ c < 1000000) :
    ∃ x a' c', x ∈ goods ∧ tab fs (n + 2) jo [box a b c, .lst true goods] = .ok x [some (box a' b c'), none] ∧ c ≤ c' ∧ c' ≤ c + 1 := by
  obtain ⟨d, a', c', hT, k1, k2, k3, k4⟩ := take_fnJ h1 n a b c goods.length (by omega) (by omega) hb hc
  obtain ⟨m, rfl⟩ := Int.eq_ofNat_of_zero_le k1
  have hm : m < goods.length := by omega
  have hd : L2.atI goods (m : Int) = some goods[m] := by
    unfold L2.atI L2.ixN
    rw [if_pos (by omega), if_pos (by omega)]
    simp
  have hmem : goods[m] ∈ goods := List.getElem_mem hm
  have hf : isF goods[m] = true := by
    have : ∀ l : List D, isFL l = true → ∀ x ∈ l, isF x = true := by
      intro l
      induction l with
      | nil => intro _ x hx; cases hx
      | cons y l ih =>
        intro h x hx
        simp only [isFL, Bool.and_eq_true] at h
        rcases List.mem_cons.mp hx with rfl | hx
        · exact h.1
        · exact ih h.2 x hx
    exact this goods hg _ hmem
  refine ⟨goods[m], a', c', hmem, ?_, k3, k4⟩
  have h := of_runJ jt (tab fs (n + 1)) a b c a' c' m goods goods[m] hT hd hf
  rw [tab, h3]
  exact run_rt (T := tab fs (n + 1)) (F := ⟨2, 2, [0], bOfJ jt⟩) (as := [box a b c, .lst true goods]) rfl h
end
def bLawJ (jh jc jb jr : Nat) : Ss := (Z.Ss.cons
  (Z.S.ite
    (Z.Te.not (Z.Te.val (Z.E.fn jh (Z.Es.nil))))
    (Z.Ss.cons (Z.S.ret (Z.E.c (Z.D.bl false))) (Z.Ss.nil))
    (Z.Ss.nil))
  (Z.Ss.cons
    (Z.S.as (Z.Tg.n 1) (Z.E.fn jc (Z.Es.raw (Z.E.v 0) (Z.Es.raw (Z.E.c (Z.D.int 3)) (Z.Es.nil)))))
    (Z.Ss.cons
      (Z.S.ret
        (Z.E.bi
          (Z.Bi.all)
          (Z.Es.cons
            (Z.E.lc
              [2]
              (Z.Tg.n 2)
              (Z.It.rng (Z.Es.cons (Z.E.lenv 1) (Z.Es.nil)))
              (Z.Tes.nil)
              (Z.E.fn jr (Z.Es.raw (Z.E.fn jb (Z.Es.raw (Z.E.v 1) (Z.Es.raw (Z.E.v 2) (Z.Es.nil)))) (Z.Es.nil))))
            (Z.Es.nil))))
      (Z.Ss.nil))))
structure TlJ (jh jc jb jr : Nat) (T : Tab) : Prop where
  t7 : T jh [] = .ok (.bl true) []
  t2 : ∀ ns : List Int, ns.length ≤ 63 → ∃ cs : List Int, 0 < cs.length ∧ cs.length ≤ 3 ∧ T jc [.lck (ns.map D.int), .int 3] = .ok (.lst true (cs.map D.int)) [none, none]
  t0 : ∀ (cs : List Int) (k : Nat), k < cs.length → k < 1000 → ∃ a b, T jb [.lst false (cs.map D.int), .int k] = .ok (box a b 0) [none, none] ∧ 0 ≤ b ∧ b < 2 ^ 62
  t8 : ∀ a b : Int, 0 ≤ b ∧ b < 2 ^ 62 → ∃ p, T jr [box a b 0] = .ok (.bl true) [p]
def eltJ (jb jr : Nat) : E := .fn jr (.raw (.fn jb (.raw (.v 1) (.raw (.v 2) .nil))) .nil)
theorem elt_runJ {jh jc jb jr : Nat} (T : Tab) (t : TlJ jh jc jb jr T) (L : D) (cs : List Int) (o : Bool) (k : Nat) (hk : k < cs.length) (h3 : cs.length ≤ 3) : dE T (eltJ jb jr) [some L, some (.lst o (cs.map D.int)), some (.int k)] = .ok (.bl true) [some L, some (.lst false (cs.map D.int)), some (.int k)] := by
  obtain ⟨a, b, h0, hb⟩ := t.t0 cs k hk (by omega)
  obtain ⟨p, h8⟩ := t.t8 a b hb
  cases o <;> simp [eltJ, dE, dEs, R.bind, rd, isF, isFL_int, frz, frz_int, takeB, putB, h0, h8]
theorem lc_goJ {jh jc jb jr : Nat} (T : Tab) (t : TlJ jh jc jb jr T) (L : D) (cs : List Int) (h3 : cs.length ≤ 3) : ∀ (l : List Nat), (∀ k ∈ l, k < cs.length) → ∀ (acc : List D) (o : Bool) (x : Option D), ∃ o' y, lcL [2] (.n 2) (dTs T .nil) (dE T (eltJ jb jr)) (l.map fun (k : Nat) => D.int (Int.ofNat k)) acc [some L, some (.lst o (cs.map D.int)), x] = .ok (acc ++ List.replicate l.length (.bl true)) [some L, some (.lst o' (cs.map D.int)), y]
  | [], _, acc, o, x => ⟨o, x, by rw [List.map_nil, lcL]; simp⟩
  | k :: l, hk, acc, o, x => by
    obtain ⟨o', y, h⟩ := lc_goJ T t L cs h3 l (fun q hq => hk q (.tail _ hq)) (acc ++ [.bl true]) false (some (.int (Int.ofNat k)))
    refine ⟨o', y, ?_⟩
    rw [List.map_cons, lcL]
    have hs : setT (.n 2) (.int (Int.ofNat k)) (wipeE [some L, some (.lst o (cs.map D.int)), x] [2]) = some [some L, some (.lst o (cs.map D.int)), some (.int (Int.ofNat k))] := rfl
    rw [hs]
    dsimp only
    rw [dTs]
    dsimp only
    rw [show dE T (eltJ jb jr) [some L, some (.lst o (cs.map D.int)), some (.int (Int.ofNat k))] = _ from elt_runJ T t L cs o k (hk k (.head _)) h3]
    dsimp only
    refine h.trans ?_
    rw [List.length_cons, List.replicate_succ, List.append_assoc]
    rfl
theorem law_runJ {jh jc jb jr : Nat} (T : Tab) (t : TlJ jh jc jb jr T) (ns : List Int) (hl : ns.length ≤ 63) : ∃ e, dSs T (bLawJ jh jc jb jr) [some (.lck (ns.map D.int)), none, none] = .ok (.rt (.bl true)) e := by
  obtain ⟨cs, c1, c2, h2⟩ := t.t2 ns hl
  have h7 := t.t7
  have F : isFL (ns.map D.int) = true := isFL_int ns
  obtain ⟨o', y, hlc⟩ := lc_goJ T t (.lck (ns.map D.int)) cs c2 (List.range cs.length) (fun k hk => List.mem_range.mp hk) [] true none
  rw [List.length_range, List.nil_append] at hlc
  have h1 : dSs T (bLawJ jh jc jb jr) [some (.lck (ns.map D.int)), none, none] = dSs T (.cons (.ret (.bi .all (.cons (.lc [2] (.n 2) (.rng (.cons (.lenv 1) .nil)) .nil (eltJ jb jr)) .nil))) .nil) [some (.lck (ns.map D.int)), some (.lst true (cs.map D.int)), none] := by
    rw [show bLawJ jh jc jb jr = .cons (.ite (.not (.val (.fn jh .nil))) (.cons (.ret (.c (.bl false))) .nil) .nil) (.cons (.as (.n 1) (.fn jc (.raw (.v 0) (.raw (.c (.int 3)) .nil)))) (.cons (.ret (.bi .all (.cons (.lc [2] (.n 2) (.rng (.cons (.lenv 1) .nil)) .nil (eltJ jb jr)) .nil))) .nil)) from rfl]
    rw [dSs]
    rw [show dS T (.ite (.not (.val (.fn jh .nil))) (.cons (.ret (.c (.bl false))) .nil) .nil) [some (.lck (ns.map D.int)), none, none] = .ok .nx [some (.lck (ns.map D.int)), none, none] by
      simp [dS, dSs, dT, dE, dEs, R.bind, takeB, putB, h7, truth, ofO]]
    dsimp only
    rw [dSs]
    rw [show dS T (.as (.n 1) (.fn jc (.raw (.v 0) (.raw (.c (.int 3)) .nil)))) [some (.lck (ns.map D.int)), none, none] = .ok .nx [some (.lck (ns.map D.int)), some (.lst true (cs.map D.int)), none] by
      simp [dS, dE, dEs, R.bind, rd, isF, F, takeB, putB, h2, setT]]
  have h3 : dE T (.lc [2] (.n 2) (.rng (.cons (.lenv 1) .nil)) .nil (eltJ jb jr)) [some (.lck (ns.map D.int)), some (.lst true (cs.map D.int)), none] = .ok (.lst true (List.replicate cs.length (.bl true))) (backE [some (.lck (ns.map D.int)), some (.lst true (cs.map D.int)), none] [some (.lck (ns.map D.int)), some (.lst o' (cs.map D.int)), y] [2]) := by
    rw [dE]
    have hI := rng_I T (.lck (ns.map D.int)) cs c2
    rw [hI]
    simp only [R.bind]
    have hle : ((List.range cs.length).map fun (k : Nat) => D.int (Int.ofNat k)).length ≤ big := by
      rw [List.length_map, List.length_range]
      unfold big
      omega
    rw [if_pos hle, hlc]
    rfl
  refine ⟨backE [some (.lck (ns.map D.int)), some (.lst true (cs.map D.int)), none] [some (.lck (ns.map D.int)), some (.lst o' (cs.map D.int)), y] [2], ?_⟩
  · rw [h1, dSs, dS, dE, dEs, h3]
    simp only [R.bind, dEs]
    have hf : fz (.lst true (List.replicate cs.length (.bl true))) = .lst false (List.replicate cs.length (.bl true)) := by
      rw [fz_eq, frz, isFL_frz (isFL_rep _)]
    rw [hf]
    simp [args1, biD, bls_rep, ofO]
/-- the law, whole: what is by hand, the cells, and what is drawn from each box -/
theorem law_whole {fs : List Fd} {jh jc jb jr jl n : Nat} {K : Int} (hK : 0 ≤ K ∧ K < 1000000000000) (hl : fs[jl]? = some ⟨1, 3, [], bLawJ jh jc jb jr⟩) (hc : fs[jc]? = some ⟨2, 6, [], bCells⟩) (hb : fs[jb]? = some ⟨2, 3, [], bBoxK K⟩)
    (hand : tab fs (n + 1) jh [] = .ok (.bl true) []) (right : ∀ a b : Int, 0 ≤ b ∧ b < 2 ^ 62 → ∃ p, tab fs (n + 1) jr [box a b 0] = .ok (.bl true) [p]) (ns : List Int) (h63 : ns.length ≤ 63) :
    ∃ ps, tab fs (n + 2) jl [.lck (ns.map D.int)] = .ok (.bl true) ps := by
  have t : TlJ jh jc jb jr (tab fs (n + 1)) := ⟨hand, fun ns hl => by
    obtain ⟨cs, c1, c2, e, h⟩ := cells_run (tab fs n) ns hl
    refine ⟨cs, c1, c2, ?_⟩
    rw [tab, hc]
    exact run_rt (F := ⟨2, 6, [], bCells⟩) rfl h, box_fnJ hK hb n, right⟩
  obtain ⟨e, h⟩ := law_runJ (tab fs (n + 1)) t ns h63
  refine ⟨maskE ⟨1, 3, [], bLawJ jh jc jb jr⟩ e, ?_⟩
  rw [tab, hl]
  exact run_rt (F := ⟨1, 3, [], bLawJ jh jc jb jr⟩) rfl h
end Pz

set_option Elab.async false
set_option linter.all false
set_option autoImplicit false
set_option maxRecDepth 100000
set_option maxHeartbeats 4000000
/-! P2: loops and comprehensions, by what holds turn by turn; picking. -/
namespace Pz
open PySem PySem.Spec Z M
/-- a comprehension: what holds behind each turn, of what was gathered and of the slots -/
theorem lcL_by {own : List Nat} {tg : Tg} {cs : Ev → R Bool} {elt : Ev → R D} (I : Nat → List D → Ev → Prop) : ∀ (l : List D) (i : Nat) (acc : List D) (e : Ev), I i acc e →
    (∀ (k : Nat) (d : D), l[k]? = some d → ∀ acc e, I (i + k) acc e → ∃ e1, setT tg d (wipeE e own) = some e1 ∧ ((∃ e2, cs e1 = .ok false e2 ∧ I (i + k + 1) acc e2) ∨ ∃ e2 y e3, cs e1 = .ok true e2 ∧ elt e2 = .ok y e3 ∧ I (i + k + 1) (acc ++ [y]) e3)) →
    ∃ acc' e', lcL own tg cs elt l acc e = .ok acc' e' ∧ I (i + l.length) acc' e'
  | [], i, acc, e, h, _ => ⟨acc, e, rfl, h⟩
  | d :: l, i, acc, e, h, st => by
    have on : ∀ acc e, I (i + 1) acc e → ∃ acc' e', lcL own tg cs elt l acc e = .ok acc' e' ∧ I (i + (l.length + 1)) acc' e' := fun acc e h => by
      obtain ⟨a, b, h1, h2⟩ := lcL_by I l (i + 1) acc e h fun k d hk acc e h => by
        have := st (k + 1) d (by simpa using hk) acc e (by rw [show i + (k + 1) = i + 1 + k by omega]; exact h)
        rw [show i + (k + 1) + 1 = i + 1 + k + 1 by omega] at this
        exact this
      exact ⟨a, b, h1, by rw [show i + (l.length + 1) = i + 1 + l.length by omega]; exact h2⟩
    obtain ⟨e1, h1, ⟨e2, h2, h3⟩ | ⟨e2, y, e3, h2, h3, h4⟩⟩ := st 0 d rfl acc e h
    · obtain ⟨a, b, g1, g2⟩ := on acc e2 h3
      refine ⟨a, b, ?_, g2⟩
      rw [lcL, h1]
      dsimp only
      rw [h2]
      exact g1
    · obtain ⟨a, b, g1, g2⟩ := on (acc ++ [y]) e3 h4
      refine ⟨a, b, ?_, g2⟩
      rw [lcL, h1]
      dsimp only
      rw [h2]
      dsimp only
      rw [h3]
      exact g1
/-- a comprehension that draws nothing: which items stay, and what becomes of them -/
theorem lcL_map {own : List Nat} {tg : Tg} {cs : Ev → R Bool} {elt : Ev → R D} (I : Ev → Prop) (g : D → Option D) (l : List D) (acc : List D) (e : Ev) (h : I e)
    (st : ∀ d ∈ l, ∀ e, I e → ∃ e1, setT tg d (wipeE e own) = some e1 ∧ ((∃ e2, cs e1 = .ok false e2 ∧ g d = none ∧ I e2) ∨ ∃ e2 y e3, cs e1 = .ok true e2 ∧ elt e2 = .ok y e3 ∧ g d = some y ∧ I e3)) :
    ∃ e', lcL own tg cs elt l acc e = .ok (acc ++ l.filterMap g) e' ∧ I e' := by
  obtain ⟨a, e', h1, h2, h3⟩ := lcL_by (own := own) (tg := tg) (cs := cs) (elt := elt) (fun i a e => a = acc ++ (l.take i).filterMap g ∧ I e) l 0 acc e ⟨by simp, h⟩ fun k d hk a e ⟨ha, he⟩ => by
    obtain ⟨e1, s1, s2⟩ := st d (List.mem_of_getElem? hk) e he
    have tk : l.take (k + 1) = l.take k ++ [d] := by rw [List.take_succ, hk, Option.toList_some]
    rw [Nat.zero_add] at ha
    refine ⟨e1, s1, ?_⟩
    rw [Nat.zero_add]
    rcases s2 with ⟨e2, s2, s3, s4⟩ | ⟨e2, y, e3, s2, s3, s4, s5⟩
    · exact .inl ⟨e2, s2, by rw [tk, List.filterMap_append, ha]; simp [s3], s4⟩
    · exact .inr ⟨e2, y, e3, s2, s3, by rw [tk, List.filterMap_append, ha]; simp [s4], s5⟩
  rw [Nat.zero_add, List.take_length] at h2
  exact ⟨e', by rw [h1, h2], h3⟩
theorem frL_by {tg : Tg} {body : Ev → R Fl} (I : Nat → Ev → Prop) : ∀ (l : List D) (i : Nat) (e : Ev), I i e →
    (∀ (k : Nat) (d : D), l[k]? = some d → ∀ e, I (i + k) e → ∃ e1 e2, setT tg d e = some e1 ∧ body e1 = .ok .nx e2 ∧ I (i + k + 1) e2) → ∃ e', frL tg body l e = .ok .nx e' ∧ I (i + l.length) e'
  | [], i, e, h, _ => ⟨e, rfl, h⟩
  | d :: l, i, e, h, st => by
    obtain ⟨e1, e2, h1, h2, h3⟩ := st 0 d rfl e h
    obtain ⟨e', g1, g2⟩ := frL_by I l (i + 1) e2 h3 fun k d hk e h => by
      have := st (k + 1) d (by simpa using hk) e (by rw [show i + (k + 1) = i + 1 + k by omega]; exact h)
      rw [show i + (k + 1) + 1 = i + 1 + k + 1 by omega] at this
      exact this
    refine ⟨e', ?_, by rw [List.length_cons, show i + (l.length + 1) = i + 1 + l.length by omega]; exact g2⟩
    rw [frL, h1]
    dsimp only
    rw [h2]
    exact g1
theorem rng_at (n : Nat) (h : n < 1000000) : rngD (some [.int (n : Int)]) = some ((List.range n).map (fun (k : Nat) => D.int (Int.ofNat k))) := rngD_n n h
/-- the body of picking -/
def bPickL (j : Nat) : Ss := .cons (.ap 5 (.pop 4 (.e (.fn j (.bw 0 (.raw (.lenv 4) .nil)))))) .nil
def bPick (j : Nat) : Ss := .cons (.par [4, 5] (.raw (.bi .list (.cons (.v 1) .nil)) (.raw (.lst .nil) .nil)))
  (.cons (.fr (.n 3) (.rng (.cons (.bi .min (.cons (.v 2) (.cons (.lenv 4) .nil))) .nil)) (bPickL j)) (.cons (.ret (.mv 5)) .nil))
theorem pick_turn (T : Tab) (j : Nat) (g s t : D) (a b c a' c' : Int) (rest found : List D) (k : Nat) (x : D) (hk : rest[k]? = some x) (hl : rest.length ≤ 100) (hf : found.length < 1000)
    (hT : T j [box a b c, .int rest.length] = .ok (.int k) [some (box a' b c'), none]) :
    dSs T (bPickL j) [some (box a b c), some g, some s, some t, some (.lst true rest), some (.lst true found)] = .ok .nx [some (box a' b c'), some g, some s, some t, some (.lst true (rest.eraseIdx k)), some (.lst true (found ++ [x]))] := by
  have hb : rest.length ≤ big := by unfold big; omega
  have hk2 : k < rest.length := (List.getElem?_eq_some_iff.mp hk).1
  have hi : L2.ixN rest.length (k : Int) = some k := by
    unfold L2.ixN
    rw [if_pos (by omega), if_pos (by omega)]
    simp
  have hf2 : found.length < big := by unfold big; omega
  unfold box at *
  simp [bPickL, dSs, dS, dE, dEs, dO, R.bind, rd, ofO, isL, biD, takeB, putB, hT, hk, hb, hi, hf2]
/-- what drawing gives, of whatever table -/
def Draws (T : Tab) (j : Nat) : Prop := ∀ a b c w : Int, 0 < w → w < 1073741824 → 0 ≤ b ∧ b < 2 ^ 62 → 0 ≤ c ∧ c < 1000000 →
  ∃ d a' c', T j [box a b c, .int w] = .ok (.int d) [some (box a' b c'), none] ∧ 0 ≤ d ∧ d < w ∧ c ≤ c' ∧ c' ≤ c + 1
theorem perm_erase : ∀ {l : List D} {k : Nat} {x : D}, l[k]? = some x → (x :: l.eraseIdx k).Perm l
  | [], _, _, h => nomatch h
  | y :: l, 0, x, h => by
    cases h
    exact .refl _
  | y :: l, k + 1, x, h => (List.Perm.swap y x _).trans ((perm_erase (l := l) (by simpa using h)).cons y)
theorem pick_run (T : Tab) (j : Nat) (dr : Draws T j) (a b c : Int) (pool : List D) (o : Bool) (z : Nat) (hp : isFL pool = true) (hl : pool.length ≤ 100) (hz : z ≤ pool.length) (hb : 0 ≤ b ∧ b < 2 ^ 62) (hc : 0 ≤ c ∧ c < 900000) :
    ∃ (got rest : List D) (a' c' : Int) (e : Ev), dSs T (bPick j) [some (box a b c), some (.lst false pool), some (.int z), none, none, none] = .ok (.rt (.lst true got)) e ∧ rd 0 e = some (box a' b c') ∧ got.length = z ∧ (got ++ rest).Perm pool ∧ c ≤ c' ∧ c' ≤ c + z := by
  have loop := frL_by (tg := .n 3) (body := dSs T (bPickL j)) (fun i e => ∃ (got rest : List D) (a' c' : Int) (t : Option D), e = [some (box a' b c'), some (.lst false pool), some (.int z), t, some (.lst true rest), some (.lst true got)] ∧ got.length = i ∧ (got ++ rest).Perm pool ∧ c ≤ c' ∧ c' ≤ c + i)
    ((List.range z).map fun (k : Nat) => D.int (Int.ofNat k)) 0 [some (box a b c), some (.lst false pool), some (.int z), none, some (.lst true pool), some (.lst true [])] ⟨[], pool, a, c, none, rfl, rfl, .refl _, Int.le_refl _, by omega⟩
    fun k d hk e ⟨got, rest, a', c', t, e1, h1, h2, h3, h4⟩ => by
      rw [Nat.zero_add] at h1 h4
      have hkz : k < z := by
        have := (List.getElem?_eq_some_iff.mp hk).1
        simpa using this
      have lr : got.length + rest.length = pool.length := by rw [← List.length_append, h2.length_eq]
      obtain ⟨q, a2, c2, hT, q1, q2, q3, q4⟩ := dr a' b c' rest.length (by omega) (by omega) hb (by omega)
      obtain ⟨m, rfl⟩ := Int.eq_ofNat_of_zero_le q1
      have hm : m < rest.length := by omega
      have hx : rest[m]? = some rest[m] := List.getElem?_eq_getElem hm
      refine ⟨[some (box a' b c'), some (.lst false pool), some (.int z), some d, some (.lst true rest), some (.lst true got)], _, by rw [e1]; rfl, pick_turn T j _ _ _ a' b c' a2 c2 rest got m rest[m] hx (by omega) (by omega) hT, got ++ [rest[m]], rest.eraseIdx m, a2, c2, some d, rfl, by simp [h1], ?_, by omega, by omega⟩
      rw [List.append_assoc]
      exact (List.Perm.append_left got (perm_erase hx)).trans h2
  rw [Nat.zero_add, List.length_map, List.length_range] at loop
  obtain ⟨e', lp, got, rest, a', c', t, e1, h1, h2, h3, h4⟩ := loop
  subst e1
  have hmin : min z pool.length = z := Nat.min_eq_left hz
  refine ⟨got, rest, a', c', [some (box a' b c'), some (.lst false pool), some (.int z), t, some (.lst true rest), none], ?_, rfl, h1, h2, h3, h4⟩
  have s1 : dS T (.par [4, 5] (.raw (.bi .list (.cons (.v 1) .nil)) (.raw (.lst .nil) .nil))) [some (box a b c), some (.lst false pool), some (.int z), none, none, none] = .ok .nx [some (box a b c), some (.lst false pool), some (.int z), none, some (.lst true pool), some (.lst true [])] := by
    have f : frzL pool = pool := isFL_frz hp
    simp [dS, dE, dEs, R.bind, rd, isF, hp, fz, args1, biD, ofO]
  have s2 : dI T (.rng (.cons (.bi .min (.cons (.v 2) (.cons (.lenv 4) .nil))) .nil)) [some (box a b c), some (.lst false pool), some (.int z), none, some (.lst true pool), some (.lst true [])] =
      .ok ((List.range z).map fun (k : Nat) => D.int (Int.ofNat k)) [some (box a b c), some (.lst false pool), some (.int z), none, some (.lst true pool), some (.lst true [])] := by
    have m : (if (pool.length : Int) < (z : Int) then (pool.length : Int) else (z : Int)) = (z : Int) := if_neg (by omega)
    have hd : dEs T (.cons (.bi .min (.cons (.v 2) (.cons (.lenv 4) .nil))) .nil) [some (box a b c), some (.lst false pool), some (.int z), none, some (.lst true pool), some (.lst true [])] = .ok [.inl (.int z)] [some (box a b c), some (.lst false pool), some (.int z), none, some (.lst true pool), some (.lst true [])] := by
      simp [dEs, dE, R.bind, rd, isF, fz, args1, biD, ofO, m]
      intro hlt
      omega
    have a1 : args1 [.inl (.int (z : Int))] = some [.int z] := rfl
    rw [dI, hd, M.bind_ok, a1, rng_at z (by omega), ofO]
  rw [bPick, dSs, s1]
  dsimp only
  rw [dSs, dS, s2]
  simp only [R.bind]
  rw [lp]
  simp [dSs, dS, dE, R.bind, rd]
end Pz

set_option Elab.async false
set_option linter.all false
set_option autoImplicit false
set_option maxRecDepth 100000
set_option maxHeartbeats 4000000
/-! P3: pairs of texts, texts: what == and `in` tell of them. -/
namespace Pz
open PySem PySem.Spec Z M
abbrev Pr := Str × Str
def pr (p : Pr) : D := .tup [.str p.1, .str p.2]
def prP (p : Pr) : PyData := .tuple [.str p.1, .str p.2]
def okS (s : Str) : Bool := PyData.strOk s
def okP (p : Pr) : Bool := okS p.1 && okS p.2
theorem py_prs : ∀ W : List Pr, pyL (W.map pr) = some (W.map prP)
  | [] => rfl
  | p :: W => by rw [List.map_cons, pyL, py_prs W]; rfl
theorem py_strs : ∀ W : List Str, pyL (W.map D.str) = some (W.map PyData.str)
  | [] => rfl
  | p :: W => by rw [List.map_cons, pyL, py_strs W]; rfl
theorem sh_str {a : Str} (h : okS a = true) : SeqAt.shaped (.str a) = true := by
  unfold SeqAt.shaped
  rw [PyData.canLay0, show PyData.strOk a = true from h]
  rfl
theorem sh_pr {p : Pr} (h : okP p = true) : SeqAt.shaped (prP p) = true := by
  unfold okP at h
  rw [Bool.and_eq_true] at h
  have h1 : PyData.strOk p.1 = true := h.1
  have h2 : PyData.strOk p.2 = true := h.2
  simp [SeqAt.shaped, prP, PyData.canLay0, PyData.canLayAll0, h1, h2, PyData.depth, PyData.depthAll]
theorem lay_list (f : Pr → PyData) : ∀ W : List Pr, (∀ p ∈ W, (f p).canLay0 = true ∧ (f p).depth ≤ 1) → PyData.canLayAll0 (W.map f) = true ∧ PyData.depthAll (W.map f) ≤ 1
  | [], _ => ⟨rfl, Nat.zero_le _⟩
  | p :: W, h => by
    obtain ⟨a, b⟩ := lay_list f W fun q m => h q (List.mem_cons_of_mem _ m)
    obtain ⟨c, d⟩ := h p List.mem_cons_self
    rw [List.map_cons, PyData.canLayAll0, PyData.depthAll, a, c]
    exact ⟨rfl, Nat.max_le.mpr ⟨d, b⟩⟩
theorem lay_strs : ∀ W : List Str, (∀ p ∈ W, okS p = true) → PyData.canLayAll0 (W.map PyData.str) = true ∧ PyData.depthAll (W.map PyData.str) = 0
  | [], _ => ⟨rfl, rfl⟩
  | p :: W, h => by
    obtain ⟨a, b⟩ := lay_strs W fun q m => h q (List.mem_cons_of_mem _ m)
    rw [List.map_cons, PyData.canLayAll0, PyData.depthAll, a, b, PyData.canLay0, show PyData.strOk p = true from h p List.mem_cons_self]
    exact ⟨rfl, rfl⟩
theorem sh_prs {W : List Pr} (h : ∀ p ∈ W, okP p = true) : SeqAt.shaped (.list (W.map prP)) = true := by
  obtain ⟨a, b⟩ := lay_list prP W fun p m => by
    have := sh_pr (h p m)
    exact ⟨SeqAt.canLay_of_shaped this, by simp [prP, PyData.depth, PyData.depthAll]⟩
  unfold SeqAt.shaped
  rw [PyData.canLay0, PyData.depth, a, Bool.true_and, decide_eq_true_eq]
  omega
theorem sh_strs {W : List Str} (h : ∀ p ∈ W, okS p = true) : SeqAt.shaped (.list (W.map PyData.str)) = true := by
  obtain ⟨a, b⟩ := lay_strs W h
  unfold SeqAt.shaped
  rw [PyData.canLay0, PyData.depth, a, b]
  rfl
theorem eqv_str (a b : Str) : PyData.eqv (.str a) (.str b) = decide (a = b) := by
  rw [PyData.eqv]
  by_cases h : a = b <;> simp [h]
theorem eqv_pr (p q : Pr) : PyData.eqv (prP p) (prP q) = decide (p = q) := by
  simp only [prP, PyData.eqv, PyData.eqvAll, Bool.and_true]
  rw [Bool.eq_iff_iff]
  simp [Prod.ext_iff]
theorem in_prs {p : Pr} {W : List Pr} (hp : okP p = true) (hW : ∀ q ∈ W, okP q = true) : inL (pr p) (W.map pr) = some (decide (p ∈ W)) := by
  unfold inL
  rw [show py (pr p) = some (prP p) from rfl, py_prs]
  dsimp only
  rw [if_pos ⟨sh_pr hp, sh_prs hW⟩]
  congr 1
  rw [Bool.eq_iff_iff, List.any_eq_true, decide_eq_true_eq]
  constructor
  · rintro ⟨y, m, e⟩
    obtain ⟨q, mq, rfl⟩ := List.mem_map.mp m
    rw [eqv_pr, decide_eq_true_eq] at e
    exact e ▸ mq
  · exact fun m => ⟨prP p, List.mem_map.mpr ⟨p, m, rfl⟩, by rw [eqv_pr]; exact decide_eq_true rfl⟩
theorem in_strs {p : Str} {W : List Str} (hp : okS p = true) (hW : ∀ q ∈ W, okS q = true) : inL (.str p) (W.map D.str) = some (decide (p ∈ W)) := by
  unfold inL
  rw [show py (.str p) = some (.str p) from rfl, py_strs]
  dsimp only
  rw [if_pos ⟨sh_str hp, sh_strs hW⟩]
  congr 1
  rw [Bool.eq_iff_iff, List.any_eq_true, decide_eq_true_eq]
  constructor
  · rintro ⟨y, m, e⟩
    obtain ⟨q, mq, rfl⟩ := List.mem_map.mp m
    rw [eqv_str, decide_eq_true_eq] at e
    exact e ▸ mq
  · exact fun m => ⟨.str p, List.mem_map.mpr ⟨p, m, rfl⟩, by rw [eqv_str]; exact decide_eq_true rfl⟩
theorem eq_strs {a b : Str} (ha : okS a = true) (hb : okS b = true) : eqD (.str a) (.str b) = some (decide (a = b)) := by
  rw [eqD_str ha hb]
  congr 1
theorem prs_nil {W : List Pr} (h : ∀ p ∈ W, okP p = true) (o o' : Bool) : eqD (.lst o (W.map pr)) (.lst o' []) = some W.isEmpty := by
  unfold eqD
  rw [show py (.lst o (W.map pr)) = some (.list (W.map prP)) by rw [py, py_prs]; rfl, show py (.lst o' []) = some (.list []) from rfl]
  dsimp only
  rw [if_pos ⟨sh_prs h, rfl⟩]
  cases W <;> rfl
theorem strs_nil {W : List Str} (h : ∀ p ∈ W, okS p = true) (o o' : Bool) : eqD (.lst o (W.map D.str)) (.lst o' []) = some W.isEmpty := by
  unfold eqD
  rw [show py (.lst o (W.map D.str)) = some (.list (W.map PyData.str)) by rw [py, py_strs]; rfl, show py (.lst o' []) = some (.list []) from rfl]
  dsimp only
  rw [if_pos ⟨sh_strs h, rfl⟩]
  cases W <;> rfl
theorem isF_prs : ∀ W : List Pr, isFL (W.map pr) = true
  | [] => rfl
  | p :: W => by rw [List.map_cons, isFL, isF_prs W]; rfl
theorem isF_strs : ∀ W : List Str, isFL (W.map D.str) = true
  | [] => rfl
  | p :: W => by rw [List.map_cons, isFL, isF_strs W]; rfl
end Pz

set_option Elab.async false
set_option linter.all false
set_option autoImplicit false
set_option maxRecDepth 100000
set_option maxHeartbeats 4000000
/-! P4: a drawn graph: its ties. -/
namespace Pz
open PySem PySem.Spec Z M
theorem at_strs {W : List Str} {m : Nat} (o : Bool) (h : m < W.length) : subD (.lst o (W.map D.str)) (.int (m : Int)) = some (.str W[m]) := by
  rw [subD]
  unfold L2.atI L2.ixN
  rw [if_pos (by omega), if_pos (by rw [List.length_map]; omega)]
  simp [h]
def gL1 (j : Nat) : Ss := .cons (.ap 5 (.tup (.cons (.subv 4 (.fn j (.bw 0 (.raw (.v 6) .nil)))) (.cons (.subv 4 (.v 6)) .nil)))) .nil
theorem gt1 (T : Tab) (j : Nat) (x1 x2 x3 x7 x8 : Option D) (a b c a' c' : Int) (W : List Str) (ps : List D) (k m : Nat) (hk : k < W.length) (hm : m < W.length) (hp : ps.length < 1000)
    (hT : T j [box a b c, .int k] = .ok (.int m) [some (box a' b c'), none]) :
    dSs T (gL1 j) [some (box a b c), x1, x2, x3, some (.lst true (W.map D.str)), some (.lst true ps), some (.int k), x7, x8] = .ok .nx [some (box a' b c'), x1, x2, x3, some (.lst true (W.map D.str)), some (.lst true (ps ++ [pr (W[m], W[k])])), some (.int k), x7, x8] := by
  have h1 := at_strs true hk
  have h2 := at_strs true hm
  have hb : ps.length < big := by unfold big; omega
  have hb2 : (2 : Nat) ≤ big := by decide
  unfold box at *
  simp [gL1, pr, dSs, dS, dE, dEs, R.bind, rd, isF, isL, takeB, putB, hT, h1, h2, args1, fz, ofO, hb, hb2]
def tie (W : List Str) (p : Nat × Nat) : Pr := (W.getD p.1 default, W.getD p.2 default)
theorem tie_at {W : List Str} {i j : Nat} (h : i < W.length) (g : j < W.length) : tie W (i, j) = (W[i], W[j]) := by
  unfold tie
  simp [List.getD_eq_getElem?_getD, h, g]
abbrev ties (W : List Str) (ps : List (Nat × Nat)) : List D := (ps.map (tie W)).map pr
/-- the first loop: a tie to each but the first -/
theorem gl1 (T : Tab) (j : Nat) (dr : Draws T j) (x1 x2 x3 x6 x7 x8 : Option D) (a b c : Int) (W : List Str) (h2 : 2 ≤ W.length) (h9 : W.length ≤ 9) (hb : 0 ≤ b ∧ b < 2 ^ 62) (hc : 0 ≤ c ∧ c < 900000) :
    ∃ (ps : List (Nat × Nat)) (a' c' : Int) (y : Option D), frL (.n 6) (dSs T (gL1 j)) ((List.range (W.length - 1)).map fun (k : Nat) => D.int (1 + Int.ofNat k)) [some (box a b c), x1, x2, x3, some (.lst true (W.map D.str)), some (.lst true []), x6, x7, x8] =
        .ok .nx [some (box a' b c'), x1, x2, x3, some (.lst true (W.map D.str)), some (.lst true (ties W ps)), y, x7, x8] ∧
      (∀ p ∈ ps, p.1 < p.2 ∧ p.2 < W.length) ∧ ps.length = W.length - 1 ∧ (∀ j, 1 ≤ j → j < W.length → ∃ p ∈ ps, p.2 = j) ∧ c ≤ c' ∧ c' ≤ c + 9 := by
  obtain ⟨e', lp, ps, a', c', y, rfl, g1, g2, g3, g4, g5⟩ := frL_by (tg := .n 6) (body := dSs T (gL1 j)) (fun i e => ∃ (ps : List (Nat × Nat)) (a' c' : Int) (y : Option D), e = [some (box a' b c'), x1, x2, x3, some (.lst true (W.map D.str)), some (.lst true (ties W ps)), y, x7, x8] ∧
      (∀ p ∈ ps, p.1 < p.2 ∧ p.2 < W.length) ∧ ps.length = i ∧ (∀ j, 1 ≤ j → j ≤ i → ∃ p ∈ ps, p.2 = j) ∧ c ≤ c' ∧ c' ≤ c + i)
    ((List.range (W.length - 1)).map fun (k : Nat) => D.int (1 + Int.ofNat k)) 0 [some (box a b c), x1, x2, x3, some (.lst true (W.map D.str)), some (.lst true []), x6, x7, x8]
    ⟨[], a, c, x6, rfl, fun p m => (nomatch m), rfl, fun j h g => by omega, Int.le_refl _, by omega⟩ fun k d hk e ⟨ps, a', c', y, e1, g1, g2, g3, g4, g5⟩ => by
      rw [Nat.zero_add] at g2 g3 g5
      have hkn : k < W.length - 1 := by
        have := (List.getElem?_eq_some_iff.mp hk).1
        simpa using this
      have hd : d = .int ((k + 1 : Nat) : Int) := by
        rw [List.getElem?_map, List.getElem?_range hkn] at hk
        have := Option.some.inj hk
        rw [← this]
        congr 1
        simp
        omega
      subst hd
      obtain ⟨q, a2, c2, hT, q1, q2, q3, q4⟩ := dr a' b c' ((k + 1 : Nat) : Int) (by omega) (by omega) hb (by omega)
      obtain ⟨m, rfl⟩ := Int.eq_ofNat_of_zero_le q1
      have hm : m < k + 1 := by omega
      have hl : (ties W ps).length < 1000 := by rw [List.length_map, List.length_map]; omega
      refine ⟨[some (box a' b c'), x1, x2, x3, some (.lst true (W.map D.str)), some (.lst true (ties W ps)), some (.int ((k + 1 : Nat) : Int)), x7, x8], _, by rw [e1]; rfl, gt1 T j x1 x2 x3 x7 x8 a' b c' a2 c2 W (ties W ps) (k + 1) m (by omega) (by omega) hl hT, ps ++ [(m, k + 1)], a2, c2, some (.int ((k + 1 : Nat) : Int)), ?_, ?_, by simp [g2], ?_, by omega, by omega⟩
      · rw [← tie_at (W := W) (i := m) (j := k + 1) (by omega) (by omega)]
        simp [ties]
      · intro p hp
        rcases List.mem_append.mp hp with hp | hp
        · exact g1 p hp
        · rw [List.mem_singleton.mp hp]
          exact ⟨by omega, by omega⟩
      · intro i h1 h3
        by_cases h : i ≤ k
        · obtain ⟨p, m, e⟩ := g3 i h1 h
          exact ⟨p, List.mem_append_left _ m, e⟩
        · exact ⟨(m, k + 1), by simp, by omega⟩
  rw [Nat.zero_add, List.length_map, List.length_range] at g2 g3 g5
  exact ⟨ps, a', c', y, lp, g1, g2, fun j h g => g3 j h (by omega), g4, by omega⟩
end Pz

set_option Elab.async false
set_option linter.all false
set_option autoImplicit false
set_option maxRecDepth 100000
set_option maxHeartbeats 4000000
/-! P5: a drawn graph: the second loop. -/
namespace Pz
open PySem PySem.Spec Z M
def nearE : E := .lc [8] (.n 8) (.var 5) (.cons (.val (.cmp .Eq (.subv 8 (.c (.int 0))) (.subv 4 (.v 6)))) .nil) (.v 8)
theorem near_run (T : Tab) (x0 x1 x2 x3 x7 x8 : Option D) (W : List Str) (Q : List Pr) (k : Nat) (hk : k < W.length) (hW : ∀ s ∈ W, okS s = true) (hQ : ∀ q ∈ Q, okP q = true) (hl : Q.length ≤ 1000) :
    dE T nearE [x0, x1, x2, x3, some (.lst true (W.map D.str)), some (.lst true (Q.map pr)), some (.int k), x7, x8] =
      .ok (.lst true ((Q.filter fun q => decide (q.1 = W[k])).map pr)) [x0, x1, x2, x3, some (.lst true (W.map D.str)), some (.lst true (Q.map pr)), some (.int k), x7, x8] := by
  have hat := at_strs true hk
  have okk := hW _ (List.getElem_mem hk)
  have hbig : (Q.map pr).length ≤ big := by rw [List.length_map]; unfold big; omega
  obtain ⟨e', lp, y, rfl⟩ := lcL_map (own := [8]) (tg := .n 8) (cs := dTs T (.cons (.val (.cmp .Eq (.subv 8 (.c (.int 0))) (.subv 4 (.v 6)))) .nil)) (elt := dE T (.v 8))
    (fun e => ∃ y, e = [x0, x1, x2, x3, some (.lst true (W.map D.str)), none, some (.int k), x7, y])
    (fun d => match d with | .tup [.str a, .str b] => if a = W[k] then some (pr (a, b)) else none | _ => none) (Q.map pr) []
    [x0, x1, x2, x3, some (.lst true (W.map D.str)), none, some (.int k), x7, x8] ⟨x8, rfl⟩ fun d m e ⟨y, he⟩ => by
      obtain ⟨q, mq, rfl⟩ := List.mem_map.mp m
      have okq := hQ q mq
      have ok1 : okS q.1 = true := by
        unfold okP at okq
        rw [Bool.and_eq_true] at okq
        exact okq.1
      subst he
      refine ⟨[x0, x1, x2, x3, some (.lst true (W.map D.str)), none, some (.int k), x7, some (pr q)], rfl, ?_⟩
      have ct : dTs T (.cons (.val (.cmp .Eq (.subv 8 (.c (.int 0))) (.subv 4 (.v 6)))) .nil) [x0, x1, x2, x3, some (.lst true (W.map D.str)), none, some (.int k), x7, some (pr q)] = .ok (decide (q.1 = W[k])) [x0, x1, x2, x3, some (.lst true (W.map D.str)), none, some (.int k), x7, some (pr q)] := by
        have e1 : subD (.tup [.str q.1, .str q.2]) (.int 0) = some (.str q.1) := rfl
        have e2 := eq_strs ok1 okk
        simp [dTs, dT, dE, R.bind, rd, pr, e1, hat, isF, isFL, fz, cmpD, e2, truth, ofO]
        by_cases h : q.1 = W[k] <;> simp [h]
      by_cases h : q.1 = W[k]
      · refine .inr ⟨_, pr q, [x0, x1, x2, x3, some (.lst true (W.map D.str)), none, some (.int k), x7, some (pr q)], ct.trans (by rw [decide_eq_true h]), by simp [dE, rd, pr, isF, isFL], by simp [pr, h], some (pr q), rfl⟩
      · exact .inl ⟨_, ct.trans (by rw [decide_eq_false h]), by simp [pr, h], _, rfl⟩
  have fm : (Q.map pr).filterMap (fun d => match d with | .tup [.str a, .str b] => if a = W[k] then some (pr (a, b)) else none | _ => none) = (Q.filter fun q => decide (q.1 = W[k])).map pr := by
    clear lp hbig hl hQ
    induction Q with
    | nil => rfl
    | cons q Q ih =>
      rw [List.map_cons, List.filterMap_cons, ih]
      by_cases h : q.1 = W[k]
      · simp [pr, h]
      · simp [pr, h]
  rw [List.nil_append, fm] at lp
  have hI : dIc T (.var 5) [x0, x1, x2, x3, some (.lst true (W.map D.str)), some (.lst true (Q.map pr)), some (.int k), x7, x8] = .ok (Q.map pr, some (5, .lst true (Q.map pr))) [x0, x1, x2, x3, some (.lst true (W.map D.str)), none, some (.int k), x7, x8] := by
    simp [dIc, rd, isF_prs]
  rw [nearE, dE, hI, M.bind_ok, if_pos hbig, lp]
  rfl
end Pz

set_option Elab.async false
set_option linter.all false
set_option autoImplicit false
set_option maxRecDepth 100000
set_option maxHeartbeats 8000000
/-! P6: a drawn graph: the second loop, turn by turn. -/
namespace Pz
open PySem PySem.Spec Z M
def condE (j : Nat) : Te := .or (.val (.cmp .Eq (.v 7) (.lst .nil))) (.val (.cmp .Eq (.fn j (.bw 0 (.raw (.c (.int 3)) .nil))) (.c (.int 0))))
def moreS (j : Nat) : S := .ap 5 (.tup (.cons (.subv 4 (.v 6)) (.cons (.subv 4 (.bin .Add (.bin .Add (.v 6) (.c (.int 1))) (.fn j (.bw 0 (.raw (.bin .Sub (.bin .Sub (.lenv 4) (.c (.int 1))) (.v 6)) .nil))))) .nil)))
def gL2 (j : Nat) : Ss := .cons (.as (.n 7) nearE) (.cons (.ite (condE j) (.cons (moreS j) .nil) .nil) .nil)
theorem cond_run (T : Tab) (j : Nat) (dr : Draws T j) (x1 x2 x3 x4 x5 x6 x8 : Option D) (a b c : Int) (N : List Pr) (hN : ∀ q ∈ N, okP q = true) (hb : 0 ≤ b ∧ b < 2 ^ 62) (hc : 0 ≤ c ∧ c < 900000) :
    ∃ (k : Bool) (a' c' : Int), dT T (condE j) [some (box a b c), x1, x2, x3, x4, x5, x6, some (.lst true (N.map pr)), x8] = .ok k [some (box a' b c'), x1, x2, x3, x4, x5, x6, some (.lst false (N.map pr)), x8] ∧ (N = [] → k = true) ∧ c ≤ c' ∧ c' ≤ c + 1 := by
  have e1 := prs_nil hN false false
  have f : isFL (N.map pr) = true := isF_prs N
  have ff : frzL (N.map pr) = N.map pr := isFL_frz f
  cases N with
  | nil =>
    refine ⟨true, a, c, ?_, fun _ => rfl, Int.le_refl _, by omega⟩
    rfl
  | cons p N =>
    obtain ⟨d, a', c', hT, q1, q2, q3, q4⟩ := dr a b c 3 (by decide) (by decide) hb (by omega)
    refine ⟨decide (d = 0), a', c', ?_, fun z => (nomatch z), q3, q4⟩
    have e2 : eqD (.int d) (.int 0) = some (d == 0) := eqD_int d 0
    have e3 : eqD (.lst false (pr p :: N.map pr)) (.lst false []) = some false := e1
    simp only [List.map_cons] at f ff
    simp only [List.map_cons, condE, dT, dE, dEs, R.bind, rd, List.getElem?_cons_succ, List.getElem?_cons_zero, Option.join_some]
    have fn : frzL ([] : List D) = [] := rfl
    simp [isF, frz, ff, f, fn, fz, args1, ofO, cmpD, e3, truth, takeB, putB, rd, hT, e2]
    by_cases h : d = 0 <;> simp [h]
/-- one tie more -/
theorem more_run (T : Tab) (j : Nat) (dr : Draws T j) (x1 x2 x3 x7 x8 : Option D) (a b c : Int) (W : List Str) (k : Nat) (hk : k + 1 < W.length) (h9 : W.length ≤ 9) (Q : List Pr) (hQ : Q.length ≤ 500) (hb : 0 ≤ b ∧ b < 2 ^ 62) (hc : 0 ≤ c ∧ c < 900000) :
    ∃ (m : Nat) (hm : k + 1 + m < W.length) (a' c' : Int), dS T (moreS j) [some (box a b c), x1, x2, x3, some (.lst true (W.map D.str)), some (.lst true (Q.map pr)), some (.int k), x7, x8] =
      .ok .nx [some (box a' b c'), x1, x2, x3, some (.lst true (W.map D.str)), some (.lst true ((Q ++ [(W[k], W[k + 1 + m])]).map pr)), some (.int k), x7, x8] ∧ c ≤ c' ∧ c' ≤ c + 1 := by
  obtain ⟨d, a', c', hT, q1, q2, q3, q4⟩ := dr a b c ((W.length : Int) - 1 - k) (by omega) (by omega) hb (by omega)
  obtain ⟨m, rfl⟩ := Int.eq_ofNat_of_zero_le q1
  have hm : k + 1 + m < W.length := by omega
  refine ⟨m, hm, a', c', ?_, q3, q4⟩
  have h1 := at_strs (W := W) (m := k) true (by omega)
  have h2 := at_strs true hm
  have h3 : subD (.lst true (W.map D.str)) (.int ((k : Int) + 1 + (m : Int))) = some (.str W[k + 1 + m]) := by
    rw [show ((k : Int) + 1 + (m : Int)) = ((k + 1 + m : Nat) : Int) by omega]
    exact h2
  have hb1 : (Q.map pr).length < big := by rw [List.length_map]; unfold big; omega
  have hb2 : (2 : Nat) ≤ big := by decide
  have hb3 : Q.length < big := by unfold big; omega
  unfold box at *
  simp [moreS, pr, dS, dE, dEs, R.bind, rd, isF, isL, takeB, putB, hT, h1, h3, args1, fz, ofO, hb1, hb2, hb3, binD, biD]
theorem as_ok {T : Tab} {i : Nat} {x : E} {e e1 : Ev} {d : D} (h : dE T x e = .ok d e1) (hl : i < e1.length) : dS T (.as (.n i) x) e = .ok .nx (e1.set i (some d)) := by
  rw [dS, h, M.bind_ok, setT, if_pos hl]
theorem seq_ok {T : Tab} {s : S} {r : Ss} {e e1 : Ev} {o : R Fl} (h : dS T s e = .ok .nx e1) (g : dSs T r e1 = o) : dSs T (.cons s r) e = o := by
  rw [dSs, h]
  exact g
theorem ite_ok {T : Tab} {t : Te} {a b : Ss} {e e1 : Ev} {k : Bool} {o : R Fl} (h : dT T t e = .ok k e1) (g : dSs T (if k = true then a else b) e1 = o) : dS T (.ite t a b) e = o := by
  rw [dS, h, M.bind_ok]
  cases k <;> exact g
theorem gt2 (T : Tab) (j : Nat) (dr : Draws T j) (x1 x2 x3 x7 x8 : Option D) (a b c : Int) (W : List Str) (k : Nat) (hk : k + 1 < W.length) (h9 : W.length ≤ 9) (hW : ∀ s ∈ W, okS s = true) (Q : List Pr) (hQ : ∀ q ∈ Q, okP q = true) (hl : Q.length ≤ 500) (hb : 0 ≤ b ∧ b < 2 ^ 62) (hc : 0 ≤ c ∧ c < 800000) :
    ∃ (Q' : List Pr) (a' c' : Int) (y : Option D), dSs T (gL2 j) [some (box a b c), x1, x2, x3, some (.lst true (W.map D.str)), some (.lst true (Q.map pr)), some (.int k), x7, x8] =
      .ok .nx [some (box a' b c'), x1, x2, x3, some (.lst true (W.map D.str)), some (.lst true (Q'.map pr)), some (.int k), y, x8] ∧
      (Q' = Q ∨ ∃ m, ∃ h : k + 1 + m < W.length, Q' = Q ++ [(W[k], W[k + 1 + m])]) ∧ (∃ q ∈ Q', q.1 = W[k]) ∧ c ≤ c' ∧ c' ≤ c + 2 := by
  have hk0 : k < W.length := by omega
  have r1 := near_run T (some (box a b c)) x1 x2 x3 x7 x8 W Q k hk0 hW hQ (by omega)
  have s1 := as_ok (i := 7) r1 (by show 7 < 9; decide)
  obtain ⟨t, a1, c1, r2, n1, n2, n3⟩ := cond_run T j dr x1 x2 x3 (some (.lst true (W.map D.str))) (some (.lst true (Q.map pr))) (some (.int k)) x8 a b c (Q.filter fun q => decide (q.1 = W[k])) (fun q m => hQ q (List.mem_filter.mp m).1) hb (by omega)
  cases t with
  | false =>
    refine ⟨Q, a1, c1, _, seq_ok s1 (seq_ok (ite_ok r2 rfl) rfl), .inl rfl, ?_, n2, by omega⟩
    cases hf : Q.filter (fun q => decide (q.1 = W[k])) with
    | nil => exact absurd (n1 hf) Bool.false_ne_true
    | cons q N =>
      have mq : q ∈ Q.filter fun q => decide (q.1 = W[k]) := by rw [hf]; exact List.mem_cons_self
      exact ⟨q, (List.mem_filter.mp mq).1, by simpa using (List.mem_filter.mp mq).2⟩
  | true =>
    obtain ⟨m, hm, a2, c2, r3, m1, m2⟩ := more_run T j dr x1 x2 x3 (some (.lst false ((Q.filter fun q => decide (q.1 = W[k])).map pr))) x8 a1 b c1 W k hk h9 Q hl hb (by omega)
    refine ⟨Q ++ [(W[k], W[k + 1 + m])], a2, c2, _, seq_ok s1 (seq_ok (ite_ok r2 (seq_ok r3 rfl)) rfl), .inr ⟨m, hm, rfl⟩, ⟨(W[k], W[k + 1 + m]), by simp, rfl⟩, by omega, by omega⟩
end Pz

set_option Elab.async false
set_option linter.all false
set_option autoImplicit false
set_option maxRecDepth 100000
set_option maxHeartbeats 8000000
/-! P7: a drawn graph, whole. -/
namespace Pz
open PySem PySem.Spec Z M
/-- each goes forth in W -/
def Fw (W : List Str) (Q : List Pr) : Prop := ∀ q ∈ Q, ∃ i j, ∃ (h : i < j) (g : j < W.length), q = (W[i], W[j])
theorem Fw.ok {W : List Str} {Q : List Pr} (h : Fw W Q) (hW : ∀ s ∈ W, okS s = true) : ∀ q ∈ Q, okP q = true := fun q m => by
  obtain ⟨i, j, h1, h2, rfl⟩ := h q m
  unfold okP
  rw [hW _ (List.getElem_mem _), hW _ (List.getElem_mem _)]
  rfl
theorem gl2 (T : Tab) (j : Nat) (dr : Draws T j) (x1 x2 x3 x6 x7 x8 : Option D) (a b c : Int) (W : List Str) (h2 : 2 ≤ W.length) (h9 : W.length ≤ 9) (hW : ∀ s ∈ W, okS s = true) (Q : List Pr) (fw : Fw W Q) (inn : ∀ l, 1 ≤ l → ∀ h : l < W.length, ∃ q ∈ Q, q.2 = W[l]) (hl : Q.length ≤ 9)
    (hb : 0 ≤ b ∧ b < 2 ^ 62) (hc : 0 ≤ c ∧ c < 700000) :
    ∃ (Q' : List Pr) (a' c' : Int) (y6 y7 : Option D), frL (.n 6) (dSs T (gL2 j)) ((List.range (W.length - 1)).map fun (k : Nat) => D.int (Int.ofNat k)) [some (box a b c), x1, x2, x3, some (.lst true (W.map D.str)), some (.lst true (Q.map pr)), x6, x7, x8] =
        .ok .nx [some (box a' b c'), x1, x2, x3, some (.lst true (W.map D.str)), some (.lst true (Q'.map pr)), y6, y7, x8] ∧
      Fw W Q' ∧ (∀ l, 1 ≤ l → ∀ h : l < W.length, ∃ q ∈ Q', q.2 = W[l]) ∧ (∀ l, ∀ h : l + 1 < W.length, ∃ q ∈ Q', q.1 = W[l]) ∧ Q'.length ≤ 20 ∧ c ≤ c' ∧ c' ≤ c + 20 := by
  obtain ⟨e', lp, Q', a', c', y6, y7, rfl, g1, g2, g3, g4, g5, g6⟩ := frL_by (tg := .n 6) (body := dSs T (gL2 j)) (fun i e => ∃ (Q' : List Pr) (a' c' : Int) (y6 y7 : Option D), e = [some (box a' b c'), x1, x2, x3, some (.lst true (W.map D.str)), some (.lst true (Q'.map pr)), y6, y7, x8] ∧
      Fw W Q' ∧ (∀ l, 1 ≤ l → ∀ h : l < W.length, ∃ q ∈ Q', q.2 = W[l]) ∧ (∀ l, l < i → ∀ h : l < W.length, ∃ q ∈ Q', q.1 = W[l]) ∧ Q'.length ≤ 9 + i ∧ c ≤ c' ∧ c' ≤ c + 2 * i)
    ((List.range (W.length - 1)).map fun (k : Nat) => D.int (Int.ofNat k)) 0 [some (box a b c), x1, x2, x3, some (.lst true (W.map D.str)), some (.lst true (Q.map pr)), x6, x7, x8]
    ⟨Q, a, c, x6, x7, rfl, fw, inn, fun l h => absurd h (Nat.not_lt_zero _), hl, Int.le_refl _, by omega⟩ fun k d hk e ⟨Q', a', c', y6, y7, e1, g1, g2, g3, g4, g5, g6⟩ => by
      rw [Nat.zero_add] at g3 g4 g6
      have hkn : k < W.length - 1 := by
        have := (List.getElem?_eq_some_iff.mp hk).1
        simpa using this
      have hd : d = .int (k : Int) := by
        rw [List.getElem?_map, List.getElem?_range hkn] at hk
        exact (Option.some.inj hk).symm
      subst hd
      obtain ⟨Q2, a2, c2, y, r, q1, q2, q3, q4⟩ := gt2 T j dr x1 x2 x3 y7 x8 a' b c' W k (by omega) h9 hW Q' (g1.ok hW) (by omega) hb (by omega)
      have sub : ∀ q ∈ Q', q ∈ Q2 := fun q m => by
        rcases q1 with e | ⟨m', hm', e⟩
        · rw [e]; exact m
        · rw [e]; exact List.mem_append_left _ m
      refine ⟨[some (box a' b c'), x1, x2, x3, some (.lst true (W.map D.str)), some (.lst true (Q'.map pr)), some (.int k), y7, x8], _, by rw [e1]; rfl, r, Q2, a2, c2, some (.int k), y, rfl, ?_, ?_, ?_, ?_, by omega, by omega⟩
      · intro q m
        rcases q1 with e | ⟨m', hm', e⟩
        · rw [e] at m; exact g1 q m
        · rw [e] at m
          rcases List.mem_append.mp m with m | m
          · exact g1 q m
          · rw [List.mem_singleton.mp m]
            exact ⟨k, k + 1 + m', by omega, hm', rfl⟩
      · intro l h1 h
        obtain ⟨q, m, e⟩ := g2 l h1 h
        exact ⟨q, sub q m, e⟩
      · intro l h1 h
        by_cases hlk : l < k
        · obtain ⟨q, m, e⟩ := g3 l hlk h
          exact ⟨q, sub q m, e⟩
        · have : l = k := by omega
          subst this
          exact q2
      · rcases q1 with e | ⟨m', hm', e⟩
        · rw [e]; omega
        · rw [e, List.length_append, List.length_singleton]; omega
  rw [Nat.zero_add, List.length_map, List.length_range] at g3 g4 g6
  exact ⟨Q', a', c', y6, y7, lp, g1, g2, fun l h => g3 l (by omega) (by omega), by omega, g5, by omega⟩
end Pz

set_option Elab.async false
set_option linter.all false
set_option maxRecDepth 100000
set_option maxHeartbeats 4000000
namespace K02
open PySem PySem.Spec PyProof.Rows L2 Z
def topS (i : Nat) : Stmt := PySem.Challenge.pw_runsbehind_k02_paths_and_runs_or_none.main.body.getD i (.Pass ⟨0, 0, 0, 0⟩)
def d0 : Df := ⟨"plain", topS 1, ["value", "part"], ["value"], [false], []⟩
def d1 : Df := ⟨"steps", topS 2, ["path", "at"], ["path"], [false], []⟩
def d2 : Df := ⟨"is_path", topS 4, ["graph", "thing", "edge"], ["graph", "thing"], [false, false], [["thing", "graph"]]⟩
def d3 : Df := ⟨"is_run", topS 5, ["graph", "thing"], ["graph", "thing"], [false, false], [["thing", "graph"]]⟩
def d4 : Df := ⟨"entry_of", topS 6, ["graph", "edge"], ["graph"], [false], []⟩
def d5 : Df := ⟨"exit_of", topS 7, ["graph", "edge"], ["graph"], [false], []⟩
def d6 : Df := ⟨"_law_box", topS 9, ["_law_script", "_law_k", "_law_cell"], ["_law_script", "_law_k"], [false, false], []⟩
def d7 : Df := ⟨"_law_take", topS 10, ["_law_box_here", "_law_wide_so", "_law_once", "_law_far", "_law_twice", "_law_drawn"], ["_law_box_here", "_law_wide_so"], [true, false], []⟩
def d8 : Df := ⟨"_law_cells", topS 11, ["_law_script", "_law_top_so", "_law_cells_here", "_law_k", "_law_cell", "_law_at_so"], ["_law_script", "_law_top_so"], [false, false], []⟩
def d9 : Df := ⟨"_law_of", topS 12, ["_law_box_here", "_law_goods_so"], ["_law_box_here", "_law_goods_so"], [true, false], []⟩
def d10 : Df := ⟨"_law_same", topS 13, ["_law_got", "_law_due", "_law_mine", "_law_its"], ["_law_got", "_law_due"], [false, false], []⟩
def d11 : Df := ⟨"_law_lists", topS 14, ["_law_matter_so", "_law_bit"], ["_law_matter_so"], [false], []⟩
def d12 : Df := ⟨"_law_pick", topS 15, ["_law_box_here", "_law_goods_so", "_law_size_so", "_law_turn", "_law_rest_so", "_law_found"], ["_law_box_here", "_law_goods_so", "_law_size_so"], [true, false, false], []⟩
def d13 : Df := ⟨"_law_graph", topS 16, ["_law_box_here", "_law_low_so", "_law_top_so", "_law_pool_so", "_law_tags_here", "_law_ties_so", "_law_k", "_law_near_so", "_law_own"], ["_law_box_here", "_law_low_so", "_law_top_so"], [true, false, false], []⟩
def d14 : Df := ⟨"_law_tags", topS 17, ["_law_web_so", "_law_own"], ["_law_web_so"], [false], []⟩
def d15 : Df := ⟨"_law_first", topS 18, ["_law_web_so", "_law_tag", "_law_own"], ["_law_web_so"], [false], []⟩
def d16 : Df := ⟨"_law_goes", topS 19, ["_law_web_so", "_law_matter_so", "_law_own", "_law_k"], ["_law_web_so", "_law_matter_so"], [false, false], []⟩
def d17 : Df := ⟨"_law_whole", topS 20, ["_law_web_so", "_law_matter_so", "_law_own"], ["_law_web_so", "_law_matter_so"], [false, false], []⟩
def d18 : Df := ⟨"_law_row", topS 21, ["_law_box_here", "_law_web_so", "_law_found", "_law_lap", "_law_next_so", "_law_own"], ["_law_box_here", "_law_web_so"], [true, false], []⟩
def d19 : Df := ⟨"_law_by_hand_right", topS 22, ["_law_fork_so", "_law_fine_so", "_law_odd_so", "_law_got", "_law_due", "_law_line_so", "_law_rows_so", "_law_soft", "_law_own", "_law_k"], [], [], []⟩
def d20 : Df := ⟨"_law_right", topS 23, ["_law_box_here", "_law_turn", "_law_web_so", "_law_got", "_law_due", "_law_soft", "_law_rows_so", "_law_own", "_law_lap"], ["_law_box_here"], [true], []⟩
def d21 : Df := ⟨"law", topS 24, ["_law_script", "_law_cells_here", "_law_k"], ["_law_script"], [false], []⟩
def xs : List Y.Xn := []
def ds : List Df := [d0, d1, d2, d3, d4, d5, d6, d7, d8, d9, d10, d11, d12, d13, d14, d15, d16, d17, d18, d19, d20, d21]
/- law: 21 -/
def b0 : Ss := Z.Ss.cons
  (Z.S.ite
    (Z.Te.val (Z.E.isi (Z.E.v 0) [Z.Ty.list, Z.Ty.tuple] false))
    (Z.Ss.cons
      (Z.S.ret
        (Z.E.gen
          (Z.Gk.tuple)
          [1]
          (Z.Tg.n 1)
          (Z.It.seq (Z.E.v 0))
          (Z.Tes.nil)
          (Z.E.fn 0 (Z.Es.raw (Z.E.v 1) (Z.Es.nil)))))
      (Z.Ss.nil))
    (Z.Ss.nil))
  (Z.Ss.cons (Z.S.ret (Z.E.mv 0)) (Z.Ss.nil))
def b1 : Ss := Z.Ss.cons
  (Z.S.ret
    (Z.E.lc
      [1]
      (Z.Tg.n 1)
      (Z.It.rng (Z.Es.cons (Z.E.bin (PySem.Operator.Sub) (Z.E.lenv 0) (Z.E.c (Z.D.int 1))) (Z.Es.nil)))
      (Z.Tes.nil)
      (Z.E.tup
        (Z.Es.cons
          (Z.E.subv 0 (Z.E.v 1))
          (Z.Es.cons (Z.E.subv 0 (Z.E.bin (PySem.Operator.Add) (Z.E.v 1) (Z.E.c (Z.D.int 1)))) (Z.Es.nil))))))
  (Z.Ss.nil)
def b2 : Ss := Z.Ss.cons
  (Z.S.as (Z.Tg.n 0) (Z.E.fn 0 (Z.Es.raw (Z.E.v 0) (Z.Es.nil))))
  (Z.Ss.cons
    (Z.S.ite
      (Z.Te.or
        (Z.Te.not (Z.Te.val (Z.E.isi (Z.E.v 1) [Z.Ty.tuple] true)))
        (Z.Te.val (Z.E.cmp (PySem.CmpOp.Lt) (Z.E.lenv 1) (Z.E.c (Z.D.int 2)))))
      (Z.Ss.cons (Z.S.ret (Z.E.c (Z.D.bl false))) (Z.Ss.nil))
      (Z.Ss.nil))
    (Z.Ss.cons
      (Z.S.ret
        (Z.E.bi
          (Z.Bi.all)
          (Z.Es.cons
            (Z.E.lc
              [2]
              (Z.Tg.n 2)
              (Z.It.seq (Z.E.fn 1 (Z.Es.raw (Z.E.v 1) (Z.Es.nil))))
              (Z.Tes.nil)
              (Z.E.cmp (PySem.CmpOp.In) (Z.E.v 2) (Z.E.v 0)))
            (Z.Es.nil))))
      (Z.Ss.nil)))
def b3 : Ss := Z.Ss.cons
  (Z.S.ret
    (Z.E.and
      (Z.E.fn 2 (Z.Es.raw (Z.E.v 0) (Z.Es.raw (Z.E.v 1) (Z.Es.nil))))
      (Z.E.and
        (Z.E.cmp (PySem.CmpOp.Eq) (Z.E.subv 1 (Z.E.c (Z.D.int 0))) (Z.E.fn 4 (Z.Es.raw (Z.E.v 0) (Z.Es.nil))))
        (Z.E.cmp
          (PySem.CmpOp.Eq)
          (Z.E.subv 1 (Z.E.neg (Z.E.c (Z.D.int 1))))
          (Z.E.fn 5 (Z.Es.raw (Z.E.v 0) (Z.Es.nil)))))))
  (Z.Ss.nil)
def b4 : Ss := Z.Ss.cons
  (Z.S.ret
    (Z.E.sub
      (Z.E.bi
        (Z.Bi.sorted)
        (Z.Es.cons
          (Z.E.bin
            (PySem.Operator.Sub)
            (Z.E.sc [1] (Z.Tg.n 1) (Z.It.seq (Z.E.v 0)) (Z.Tes.nil) (Z.E.subv 1 (Z.E.c (Z.D.int 0))))
            (Z.E.sc [1] (Z.Tg.n 1) (Z.It.seq (Z.E.v 0)) (Z.Tes.nil) (Z.E.subv 1 (Z.E.c (Z.D.int 1)))))
          (Z.Es.nil)))
      (Z.E.c (Z.D.int 0))))
  (Z.Ss.nil)
def b5 : Ss := Z.Ss.cons
  (Z.S.ret
    (Z.E.sub
      (Z.E.bi
        (Z.Bi.sorted)
        (Z.Es.cons
          (Z.E.bin
            (PySem.Operator.Sub)
            (Z.E.sc [1] (Z.Tg.n 1) (Z.It.seq (Z.E.v 0)) (Z.Tes.nil) (Z.E.subv 1 (Z.E.c (Z.D.int 1))))
            (Z.E.sc [1] (Z.Tg.n 1) (Z.It.seq (Z.E.v 0)) (Z.Tes.nil) (Z.E.subv 1 (Z.E.c (Z.D.int 0)))))
          (Z.Es.nil)))
      (Z.E.c (Z.D.int 0))))
  (Z.Ss.nil)
def b6 : Ss := Z.Ss.cons
  (Z.S.as
    (Z.Tg.n 2)
    (Z.E.ite (Z.Te.val (Z.E.cmp (PySem.CmpOp.Lt) (Z.E.v 1) (Z.E.lenv 0))) (Z.E.subv 0 (Z.E.v 1)) (Z.E.c (Z.D.int 0))))
  (Z.Ss.cons
    (Z.S.ret
      (Z.E.lst
        (Z.Es.raw
          (Z.E.bin
            (PySem.Operator.Mult)
            (Z.E.bi (Z.Bi.abs) (Z.Es.cons (Z.E.v 2) (Z.Es.nil)))
            (Z.E.bi
              (Z.Bi.int)
              (Z.Es.cons
                (Z.E.cmp
                  (PySem.CmpOp.GtE)
                  (Z.E.bi (Z.Bi.abs) (Z.Es.cons (Z.E.v 2) (Z.Es.nil)))
                  (Z.E.bin (PySem.Operator.Pow) (Z.E.c (Z.D.int 10)) (Z.E.c (Z.D.int 18))))
                (Z.Es.nil))))
          (Z.Es.raw
            (Z.E.bin
              (PySem.Operator.Add)
              (Z.E.bin
                (PySem.Operator.Add)
                (Z.E.bin
                  (PySem.Operator.Mod)
                  (Z.E.bi (Z.Bi.int) (Z.Es.cons (Z.E.v 2) (Z.Es.nil)))
                  (Z.E.c (Z.D.int 2305843009213693951)))
                (Z.E.bin (PySem.Operator.Mult) (Z.E.c (Z.D.int 39373)) (Z.E.v 1)))
              (Z.E.c (Z.D.int 1053102)))
            (Z.Es.raw (Z.E.c (Z.D.int 0)) (Z.Es.nil))))))
    (Z.Ss.nil))
def b7 : Ss := Z.Ss.cons
  (Z.S.ite
    (Z.Te.val (Z.E.cmp (PySem.CmpOp.Gt) (Z.E.subv 0 (Z.E.c (Z.D.int 0))) (Z.E.c (Z.D.int 0))))
    (Z.Ss.cons
      (Z.S.as
        (Z.Tg.n 5)
        (Z.E.bin
          (PySem.Operator.Mod)
          (Z.E.bi (Z.Bi.int) (Z.Es.cons (Z.E.subv 0 (Z.E.c (Z.D.int 0))) (Z.Es.nil)))
          (Z.E.v 1)))
      (Z.Ss.cons
        (Z.S.sset 0 (Z.E.c (Z.D.int 0)) (Z.E.bin (PySem.Operator.FloorDiv) (Z.E.subv 0 (Z.E.c (Z.D.int 0))) (Z.E.v 1)))
        (Z.Ss.cons (Z.S.ret (Z.E.mv 5)) (Z.Ss.nil))))
    (Z.Ss.nil))
  (Z.Ss.cons
    (Z.S.sset 0 (Z.E.c (Z.D.int 2)) (Z.E.bin (PySem.Operator.Add) (Z.E.subv 0 (Z.E.c (Z.D.int 2))) (Z.E.c (Z.D.int 1))))
    (Z.Ss.cons
      (Z.S.as
        (Z.Tg.n 2)
        (Z.E.bin
          (PySem.Operator.Mod)
          (Z.E.bi
            (Z.Bi.int)
            (Z.Es.cons
              (Z.E.bin
                (PySem.Operator.Mult)
                (Z.E.bin
                  (PySem.Operator.Add)
                  (Z.E.subv 0 (Z.E.c (Z.D.int 1)))
                  (Z.E.bin (PySem.Operator.Mult) (Z.E.c (Z.D.int 48271)) (Z.E.subv 0 (Z.E.c (Z.D.int 2)))))
                (Z.E.bin (PySem.Operator.Add) (Z.E.c (Z.D.int 39373)) (Z.E.subv 0 (Z.E.c (Z.D.int 2)))))
              (Z.Es.nil)))
          (Z.E.c (Z.D.int 2147483647))))
      (Z.Ss.cons
        (Z.S.as
          (Z.Tg.n 3)
          (Z.E.bin
            (PySem.Operator.Add)
            (Z.E.bin (PySem.Operator.Mod) (Z.E.bi (Z.Bi.int) (Z.Es.cons (Z.E.v 2) (Z.Es.nil))) (Z.E.c (Z.D.int 40009)))
            (Z.E.c (Z.D.int 7))))
        (Z.Ss.cons
          (Z.S.as
            (Z.Tg.n 4)
            (Z.E.bin
              (PySem.Operator.Mod)
              (Z.E.bi
                (Z.Bi.int)
                (Z.Es.cons
                  (Z.E.bin
                    (PySem.Operator.Mult)
                    (Z.E.bin
                      (PySem.Operator.Add)
                      (Z.E.bin (PySem.Operator.Add) (Z.E.v 2) (Z.E.subv 0 (Z.E.c (Z.D.int 2))))
                      (Z.E.bin (PySem.Operator.FloorDiv) (Z.E.subv 0 (Z.E.c (Z.D.int 1))) (Z.E.c (Z.D.int 1000003))))
                    (Z.E.v 3))
                  (Z.Es.nil)))
              (Z.E.c (Z.D.int 2147483629))))
          (Z.Ss.cons
            (Z.S.ret
              (Z.E.bin
                (PySem.Operator.Mod)
                (Z.E.bi
                  (Z.Bi.int)
                  (Z.Es.cons
                    (Z.E.bin
                      (PySem.Operator.FloorDiv)
                      (Z.E.bin
                        (PySem.Operator.Mod)
                        (Z.E.bi
                          (Z.Bi.int)
                          (Z.Es.cons
                            (Z.E.bin
                              (PySem.Operator.Add)
                              (Z.E.bin (PySem.Operator.Mult) (Z.E.v 4) (Z.E.c (Z.D.int 48271)))
                              (Z.E.v 2))
                            (Z.Es.nil)))
                        (Z.E.c (Z.D.int 2147483587)))
                      (Z.E.c (Z.D.int 64)))
                    (Z.Es.nil)))
                (Z.E.v 1)))
            (Z.Ss.nil))))))
def b8 : Ss := Z.Ss.cons
  (Z.S.as
    (Z.Tg.n 2)
    (Z.E.or
      (Z.E.bi (Z.Bi.list) (Z.Es.cons (Z.E.slc (Z.E.v 0) (Z.Oe.no) (Z.Oe.e (Z.E.v 1))) (Z.Es.nil)))
      (Z.E.lst (Z.Es.raw (Z.E.c (Z.D.int 0)) (Z.Es.nil)))))
  (Z.Ss.cons
    (Z.S.fr
      (Z.Tg.t (Z.Tgs.cons (Z.Tg.n 3) (Z.Tgs.cons (Z.Tg.n 4) (Z.Tgs.nil))))
      (Z.It.enm (Z.E.slc (Z.E.v 0) (Z.Oe.e (Z.E.v 1)) (Z.Oe.e (Z.E.c (Z.D.int 63)))))
      (Z.Ss.cons
        (Z.S.as
          (Z.Tg.n 5)
          (Z.E.bin (PySem.Operator.Mod) (Z.E.bi (Z.Bi.int) (Z.Es.cons (Z.E.v 3) (Z.Es.nil))) (Z.E.v 1)))
        (Z.Ss.cons
          (Z.S.sset
            2
            (Z.E.v 5)
            (Z.E.bin
              (PySem.Operator.Add)
              (Z.E.subv 2 (Z.E.v 5))
              (Z.E.bin (PySem.Operator.Mult) (Z.E.v 4) (Z.E.bin (PySem.Operator.Add) (Z.E.v 3) (Z.E.c (Z.D.int 2))))))
          (Z.Ss.nil))))
    (Z.Ss.cons (Z.S.ret (Z.E.mv 2)) (Z.Ss.nil)))
def b9 : Ss := Z.Ss.cons (Z.S.ret (Z.E.subv 1 (Z.E.fn 7 (Z.Es.bw 0 (Z.Es.raw (Z.E.lenv 1) (Z.Es.nil)))))) (Z.Ss.nil)
def b10 : Ss := Z.Ss.cons
  (Z.S.ite
    (Z.Te.val (Z.E.isi (Z.E.v 1) [Z.Ty.list, Z.Ty.tuple] false))
    (Z.Ss.cons
      (Z.S.ite
        (Z.Te.or
          (Z.Te.val
            (Z.E.cmp (PySem.CmpOp.NotEq) (Z.E.isi (Z.E.v 0) [Z.Ty.list] true) (Z.E.isi (Z.E.v 1) [Z.Ty.list] true)))
          (Z.Te.val
            (Z.E.cmp (PySem.CmpOp.NotEq) (Z.E.isi (Z.E.v 0) [Z.Ty.tuple] true) (Z.E.isi (Z.E.v 1) [Z.Ty.tuple] true))))
        (Z.Ss.cons (Z.S.ret (Z.E.c (Z.D.bl false))) (Z.Ss.nil))
        (Z.Ss.nil))
      (Z.Ss.cons
        (Z.S.ret
          (Z.E.and
            (Z.E.cmp (PySem.CmpOp.Eq) (Z.E.lenv 0) (Z.E.lenv 1))
            (Z.E.bi
              (Z.Bi.all)
              (Z.Es.cons
                (Z.E.lc
                  [2, 3]
                  (Z.Tg.t (Z.Tgs.cons (Z.Tg.n 2) (Z.Tgs.cons (Z.Tg.n 3) (Z.Tgs.nil))))
                  (Z.It.zip (Z.Es.cons (Z.E.v 0) (Z.Es.cons (Z.E.v 1) (Z.Es.nil))))
                  (Z.Tes.nil)
                  (Z.E.fn 10 (Z.Es.raw (Z.E.v 2) (Z.Es.raw (Z.E.v 3) (Z.Es.nil)))))
                (Z.Es.nil)))))
        (Z.Ss.nil)))
    (Z.Ss.nil))
  (Z.Ss.cons
    (Z.S.ite
      (Z.Te.or (Z.Te.val (Z.E.isN false (Z.E.v 1))) (Z.Te.val (Z.E.isi (Z.E.v 1) [Z.Ty.bool, Z.Ty.str] false)))
      (Z.Ss.cons
        (Z.S.ret
          (Z.E.and
            (Z.E.cmp (PySem.CmpOp.Eq) (Z.E.v 0) (Z.E.v 1))
            (Z.E.and
              (Z.E.cmp (PySem.CmpOp.Eq) (Z.E.isi (Z.E.v 0) [Z.Ty.bool] true) (Z.E.isi (Z.E.v 1) [Z.Ty.bool] true))
              (Z.E.cmp (PySem.CmpOp.Eq) (Z.E.isN false (Z.E.v 0)) (Z.E.isN false (Z.E.v 1))))))
        (Z.Ss.nil))
      (Z.Ss.nil))
    (Z.Ss.cons
      (Z.S.ret
        (Z.E.and
          (Z.E.isi (Z.E.v 0) [Z.Ty.int] true)
          (Z.E.and
            (Z.E.tst (Z.Te.not (Z.Te.val (Z.E.isi (Z.E.v 0) [Z.Ty.bool] true))))
            (Z.E.cmp (PySem.CmpOp.Eq) (Z.E.v 0) (Z.E.v 1)))))
      (Z.Ss.nil)))
def b11 : Ss := Z.Ss.cons
  (Z.S.ret
    (Z.E.ite
      (Z.Te.val (Z.E.isi (Z.E.v 0) [Z.Ty.list, Z.Ty.tuple] false))
      (Z.E.lc [1] (Z.Tg.n 1) (Z.It.var 0) (Z.Tes.nil) (Z.E.fn 11 (Z.Es.raw (Z.E.v 1) (Z.Es.nil))))
      (Z.E.v 0)))
  (Z.Ss.nil)
def b12 : Ss := Z.Ss.cons
  (Z.S.par
    [4, 5]
    (Z.Es.raw (Z.E.bi (Z.Bi.list) (Z.Es.cons (Z.E.v 1) (Z.Es.nil))) (Z.Es.raw (Z.E.lst (Z.Es.nil)) (Z.Es.nil))))
  (Z.Ss.cons
    (Z.S.fr
      (Z.Tg.n 3)
      (Z.It.rng (Z.Es.cons (Z.E.bi (Z.Bi.min) (Z.Es.cons (Z.E.v 2) (Z.Es.cons (Z.E.lenv 4) (Z.Es.nil)))) (Z.Es.nil)))
      (Z.Ss.cons (Z.S.ap 5 (Z.E.pop 4 (Z.Oe.e (Z.E.fn 7 (Z.Es.bw 0 (Z.Es.raw (Z.E.lenv 4) (Z.Es.nil))))))) (Z.Ss.nil)))
    (Z.Ss.cons (Z.S.ret (Z.E.mv 5)) (Z.Ss.nil)))
def b13 : Ss := Z.Ss.cons
  (Z.S.as
    (Z.Tg.n 3)
    (Z.E.lst
      (Z.Es.raw
        (Z.E.c (Z.D.str { cps := #[97] }))
        (Z.Es.raw
          (Z.E.c (Z.D.str { cps := #[97, 98] }))
          (Z.Es.raw
            (Z.E.c (Z.D.str { cps := #[98] }))
            (Z.Es.raw
              (Z.E.c (Z.D.str { cps := #[99] }))
              (Z.Es.raw
                (Z.E.c (Z.D.str { cps := #[109] }))
                (Z.Es.raw
                  (Z.E.c (Z.D.str { cps := #[115] }))
                  (Z.Es.raw
                    (Z.E.c (Z.D.str { cps := #[116] }))
                    (Z.Es.raw
                      (Z.E.c (Z.D.str { cps := #[122, 122] }))
                      (Z.Es.raw
                        (Z.E.c (Z.D.str { cps := #[122, 122, 122, 122, 122, 122, 122, 122] }))
                        (Z.Es.nil))))))))))))
  (Z.Ss.cons
    (Z.S.as
      (Z.Tg.n 4)
      (Z.E.fn
        12
        (Z.Es.bw
          0
          (Z.Es.raw
            (Z.E.v 3)
            (Z.Es.raw
              (Z.E.bin
                (PySem.Operator.Add)
                (Z.E.v 1)
                (Z.E.fn
                  7
                  (Z.Es.bw
                    0
                    (Z.Es.raw
                      (Z.E.bin
                        (PySem.Operator.Add)
                        (Z.E.bin (PySem.Operator.Sub) (Z.E.v 2) (Z.E.v 1))
                        (Z.E.c (Z.D.int 1)))
                      (Z.Es.nil)))))
              (Z.Es.nil))))))
    (Z.Ss.cons
      (Z.S.as (Z.Tg.n 5) (Z.E.lst (Z.Es.nil)))
      (Z.Ss.cons
        (Z.S.fr
          (Z.Tg.n 6)
          (Z.It.rng (Z.Es.cons (Z.E.c (Z.D.int 1)) (Z.Es.cons (Z.E.lenv 4) (Z.Es.nil))))
          (Z.Ss.cons
            (Z.S.ap
              5
              (Z.E.tup
                (Z.Es.cons
                  (Z.E.subv 4 (Z.E.fn 7 (Z.Es.bw 0 (Z.Es.raw (Z.E.v 6) (Z.Es.nil)))))
                  (Z.Es.cons (Z.E.subv 4 (Z.E.v 6)) (Z.Es.nil)))))
            (Z.Ss.nil)))
        (Z.Ss.cons
          (Z.S.fr
            (Z.Tg.n 6)
            (Z.It.rng (Z.Es.cons (Z.E.bin (PySem.Operator.Sub) (Z.E.lenv 4) (Z.E.c (Z.D.int 1))) (Z.Es.nil)))
            (Z.Ss.cons
              (Z.S.as
                (Z.Tg.n 7)
                (Z.E.lc
                  [8]
                  (Z.Tg.n 8)
                  (Z.It.var 5)
                  (Z.Tes.cons
                    (Z.Te.val (Z.E.cmp (PySem.CmpOp.Eq) (Z.E.subv 8 (Z.E.c (Z.D.int 0))) (Z.E.subv 4 (Z.E.v 6))))
                    (Z.Tes.nil))
                  (Z.E.v 8)))
              (Z.Ss.cons
                (Z.S.ite
                  (Z.Te.or
                    (Z.Te.val (Z.E.cmp (PySem.CmpOp.Eq) (Z.E.v 7) (Z.E.lst (Z.Es.nil))))
                    (Z.Te.val
                      (Z.E.cmp
                        (PySem.CmpOp.Eq)
                        (Z.E.fn 7 (Z.Es.bw 0 (Z.Es.raw (Z.E.c (Z.D.int 3)) (Z.Es.nil))))
                        (Z.E.c (Z.D.int 0)))))
                  (Z.Ss.cons
                    (Z.S.ap
                      5
                      (Z.E.tup
                        (Z.Es.cons
                          (Z.E.subv 4 (Z.E.v 6))
                          (Z.Es.cons
                            (Z.E.subv
                              4
                              (Z.E.bin
                                (PySem.Operator.Add)
                                (Z.E.bin (PySem.Operator.Add) (Z.E.v 6) (Z.E.c (Z.D.int 1)))
                                (Z.E.fn
                                  7
                                  (Z.Es.bw
                                    0
                                    (Z.Es.raw
                                      (Z.E.bin
                                        (PySem.Operator.Sub)
                                        (Z.E.bin (PySem.Operator.Sub) (Z.E.lenv 4) (Z.E.c (Z.D.int 1)))
                                        (Z.E.v 6))
                                      (Z.Es.nil))))))
                            (Z.Es.nil)))))
                    (Z.Ss.nil))
                  (Z.Ss.nil))
                (Z.Ss.nil))))
          (Z.Ss.cons
            (Z.S.ret
              (Z.E.bi
                (Z.Bi.tuple)
                (Z.Es.cons
                  (Z.E.bi (Z.Bi.sorted) (Z.Es.cons (Z.E.bi (Z.Bi.set) (Z.Es.cons (Z.E.v 5) (Z.Es.nil))) (Z.Es.nil)))
                  (Z.Es.nil))))
            (Z.Ss.nil))))))
def b14 : Ss := Z.Ss.cons
  (Z.S.ret
    (Z.E.bi
      (Z.Bi.sorted)
      (Z.Es.cons
        (Z.E.bi
          (Z.Bi.set)
          (Z.Es.cons
            (Z.E.bin
              (PySem.Operator.Add)
              (Z.E.lc [1] (Z.Tg.n 1) (Z.It.var 0) (Z.Tes.nil) (Z.E.subv 1 (Z.E.c (Z.D.int 0))))
              (Z.E.lc [1] (Z.Tg.n 1) (Z.It.var 0) (Z.Tes.nil) (Z.E.subv 1 (Z.E.c (Z.D.int 1)))))
            (Z.Es.nil)))
        (Z.Es.nil))))
  (Z.Ss.nil)
def b15 : Ss := Z.Ss.cons
  (Z.S.ret
    (Z.E.sub
      (Z.E.lc
        [1]
        (Z.Tg.n 1)
        (Z.It.seq (Z.E.fn 14 (Z.Es.raw (Z.E.v 0) (Z.Es.nil))))
        (Z.Tes.cons
          (Z.Te.val
            (Z.E.cmp
              (PySem.CmpOp.NotIn)
              (Z.E.v 1)
              (Z.E.lc [2] (Z.Tg.n 2) (Z.It.var 0) (Z.Tes.nil) (Z.E.subv 2 (Z.E.c (Z.D.int 1))))))
          (Z.Tes.nil))
        (Z.E.v 1))
      (Z.E.c (Z.D.int 0))))
  (Z.Ss.nil)
def b16 : Ss := Z.Ss.cons
  (Z.S.ite
    (Z.Te.or
      (Z.Te.not (Z.Te.val (Z.E.isi (Z.E.v 1) [Z.Ty.tuple] true)))
      (Z.Te.val (Z.E.cmp (PySem.CmpOp.Lt) (Z.E.lenv 1) (Z.E.c (Z.D.int 2)))))
    (Z.Ss.cons (Z.S.ret (Z.E.c (Z.D.bl false))) (Z.Ss.nil))
    (Z.Ss.nil))
  (Z.Ss.cons
    (Z.S.ite
      (Z.Te.val
        (Z.E.cmp
          (PySem.CmpOp.NotEq)
          (Z.E.lc
            [2]
            (Z.Tg.n 2)
            (Z.It.var 1)
            (Z.Tes.cons (Z.Te.not (Z.Te.val (Z.E.isi (Z.E.v 2) [Z.Ty.str] true))) (Z.Tes.nil))
            (Z.E.v 2))
          (Z.E.lst (Z.Es.nil))))
      (Z.Ss.cons (Z.S.ret (Z.E.c (Z.D.bl false))) (Z.Ss.nil))
      (Z.Ss.nil))
    (Z.Ss.cons
      (Z.S.ret
        (Z.E.cmp
          (PySem.CmpOp.Eq)
          (Z.E.lc
            [3]
            (Z.Tg.n 3)
            (Z.It.rng (Z.Es.cons (Z.E.c (Z.D.int 1)) (Z.Es.cons (Z.E.lenv 1) (Z.Es.nil))))
            (Z.Tes.cons
              (Z.Te.val
                (Z.E.cmp
                  (PySem.CmpOp.NotIn)
                  (Z.E.tup
                    (Z.Es.cons
                      (Z.E.subv 1 (Z.E.bin (PySem.Operator.Sub) (Z.E.v 3) (Z.E.c (Z.D.int 1))))
                      (Z.Es.cons (Z.E.subv 1 (Z.E.v 3)) (Z.Es.nil))))
                  (Z.E.v 0)))
              (Z.Tes.nil))
            (Z.E.v 3))
          (Z.E.lst (Z.Es.nil))))
      (Z.Ss.nil)))
def b17 : Ss := Z.Ss.cons
  (Z.S.ite
    (Z.Te.or
      (Z.Te.not (Z.Te.val (Z.E.fn 16 (Z.Es.raw (Z.E.v 0) (Z.Es.raw (Z.E.v 1) (Z.Es.nil))))))
      (Z.Te.val
        (Z.E.cmp (PySem.CmpOp.NotEq) (Z.E.subv 1 (Z.E.c (Z.D.int 0))) (Z.E.fn 15 (Z.Es.raw (Z.E.v 0) (Z.Es.nil))))))
    (Z.Ss.cons (Z.S.ret (Z.E.c (Z.D.bl false))) (Z.Ss.nil))
    (Z.Ss.nil))
  (Z.Ss.cons
    (Z.S.ret
      (Z.E.cmp
        (PySem.CmpOp.NotIn)
        (Z.E.subv 1 (Z.E.neg (Z.E.c (Z.D.int 1))))
        (Z.E.lc [2] (Z.Tg.n 2) (Z.It.var 0) (Z.Tes.nil) (Z.E.subv 2 (Z.E.c (Z.D.int 0))))))
    (Z.Ss.nil))
def b18 : Ss := Z.Ss.cons
  (Z.S.as
    (Z.Tg.n 2)
    (Z.E.lst
      (Z.Es.raw
        (Z.E.fn
          9
          (Z.Es.bw
            0
            (Z.Es.raw
              (Z.E.bin
                (PySem.Operator.Add)
                (Z.E.fn 14 (Z.Es.raw (Z.E.v 1) (Z.Es.nil)))
                (Z.E.bin
                  (PySem.Operator.Mult)
                  (Z.E.lst (Z.Es.raw (Z.E.fn 15 (Z.Es.raw (Z.E.v 1) (Z.Es.nil))) (Z.Es.nil)))
                  (Z.E.c (Z.D.int 6))))
              (Z.Es.nil))))
        (Z.Es.nil))))
  (Z.Ss.cons
    (Z.S.fr
      (Z.Tg.n 3)
      (Z.It.rng (Z.Es.cons (Z.E.fn 7 (Z.Es.bw 0 (Z.Es.raw (Z.E.c (Z.D.int 9)) (Z.Es.nil)))) (Z.Es.nil)))
      (Z.Ss.cons
        (Z.S.as
          (Z.Tg.n 4)
          (Z.E.lc
            [5]
            (Z.Tg.n 5)
            (Z.It.var 1)
            (Z.Tes.cons
              (Z.Te.val
                (Z.E.cmp (PySem.CmpOp.Eq) (Z.E.subv 5 (Z.E.c (Z.D.int 0))) (Z.E.subv 2 (Z.E.neg (Z.E.c (Z.D.int 1))))))
              (Z.Tes.nil))
            (Z.E.subv 5 (Z.E.c (Z.D.int 1)))))
        (Z.Ss.cons
          (Z.S.ite
            (Z.Te.or
              (Z.Te.val (Z.E.cmp (PySem.CmpOp.Eq) (Z.E.v 4) (Z.E.lst (Z.Es.nil))))
              (Z.Te.val
                (Z.E.cmp
                  (PySem.CmpOp.Eq)
                  (Z.E.fn 7 (Z.Es.bw 0 (Z.Es.raw (Z.E.c (Z.D.int 12)) (Z.Es.nil))))
                  (Z.E.c (Z.D.int 0)))))
            (Z.Ss.cons
              (Z.S.as
                (Z.Tg.n 4)
                (Z.E.ite
                  (Z.Te.val
                    (Z.E.cmp
                      (PySem.CmpOp.Eq)
                      (Z.E.fn 7 (Z.Es.bw 0 (Z.Es.raw (Z.E.c (Z.D.int 3)) (Z.Es.nil))))
                      (Z.E.c (Z.D.int 0))))
                  (Z.E.bin
                    (PySem.Operator.Add)
                    (Z.E.fn 14 (Z.Es.raw (Z.E.v 1) (Z.Es.nil)))
                    (Z.E.lst (Z.Es.raw (Z.E.c (Z.D.str { cps := #[113] })) (Z.Es.nil))))
                  (Z.E.lst (Z.Es.nil))))
              (Z.Ss.nil))
            (Z.Ss.nil))
          (Z.Ss.cons
            (Z.S.ite
              (Z.Te.val (Z.E.cmp (PySem.CmpOp.NotEq) (Z.E.v 4) (Z.E.lst (Z.Es.nil))))
              (Z.Ss.cons (Z.S.ap 2 (Z.E.fn 9 (Z.Es.bw 0 (Z.Es.raw (Z.E.v 4) (Z.Es.nil))))) (Z.Ss.nil))
              (Z.Ss.nil))
            (Z.Ss.nil)))))
    (Z.Ss.cons (Z.S.ret (Z.E.bi (Z.Bi.tuple) (Z.Es.cons (Z.E.v 2) (Z.Es.nil)))) (Z.Ss.nil)))
def b19 : Ss := Z.Ss.cons
  (Z.S.as
    (Z.Tg.n 0)
    (Z.E.tup
      (Z.Es.cons
        (Z.E.tup
          (Z.Es.cons (Z.E.c (Z.D.str { cps := #[97] })) (Z.Es.cons (Z.E.c (Z.D.str { cps := #[109] })) (Z.Es.nil))))
        (Z.Es.cons
          (Z.E.tup
            (Z.Es.cons (Z.E.c (Z.D.str { cps := #[98] })) (Z.Es.cons (Z.E.c (Z.D.str { cps := #[109] })) (Z.Es.nil))))
          (Z.Es.cons
            (Z.E.tup
              (Z.Es.cons (Z.E.c (Z.D.str { cps := #[99] })) (Z.Es.cons (Z.E.c (Z.D.str { cps := #[116] })) (Z.Es.nil))))
            (Z.Es.cons
              (Z.E.tup
                (Z.Es.cons
                  (Z.E.c (Z.D.str { cps := #[100] }))
                  (Z.Es.cons (Z.E.c (Z.D.str { cps := #[116] })) (Z.Es.nil))))
              (Z.Es.cons
                (Z.E.tup
                  (Z.Es.cons
                    (Z.E.c (Z.D.str { cps := #[109] }))
                    (Z.Es.cons (Z.E.c (Z.D.str { cps := #[99] })) (Z.Es.nil))))
                (Z.Es.cons
                  (Z.E.tup
                    (Z.Es.cons
                      (Z.E.c (Z.D.str { cps := #[109] }))
                      (Z.Es.cons (Z.E.c (Z.D.str { cps := #[100] })) (Z.Es.nil))))
                  (Z.Es.cons
                    (Z.E.tup
                      (Z.Es.cons
                        (Z.E.c (Z.D.str { cps := #[115] }))
                        (Z.Es.cons (Z.E.c (Z.D.str { cps := #[97] })) (Z.Es.nil))))
                    (Z.Es.cons
                      (Z.E.tup
                        (Z.Es.cons
                          (Z.E.c (Z.D.str { cps := #[115] }))
                          (Z.Es.cons (Z.E.c (Z.D.str { cps := #[98] })) (Z.Es.nil))))
                      (Z.Es.nil)))))))))))
  (Z.Ss.cons
    (Z.S.as
      (Z.Tg.n 1)
      (Z.E.lst
        (Z.Es.raw
          (Z.E.tup
            (Z.Es.cons (Z.E.c (Z.D.str { cps := #[97] })) (Z.Es.cons (Z.E.c (Z.D.str { cps := #[109] })) (Z.Es.nil))))
          (Z.Es.raw
            (Z.E.tup
              (Z.Es.cons (Z.E.c (Z.D.str { cps := #[115] })) (Z.Es.cons (Z.E.c (Z.D.str { cps := #[97] })) (Z.Es.nil))))
            (Z.Es.raw
              (Z.E.tup
                (Z.Es.cons
                  (Z.E.c (Z.D.str { cps := #[115] }))
                  (Z.Es.cons
                    (Z.E.c (Z.D.str { cps := #[97] }))
                    (Z.Es.cons (Z.E.c (Z.D.str { cps := #[109] })) (Z.Es.nil)))))
              (Z.Es.raw
                (Z.E.tup
                  (Z.Es.cons
                    (Z.E.c (Z.D.str { cps := #[97] }))
                    (Z.Es.cons
                      (Z.E.c (Z.D.str { cps := #[109] }))
                      (Z.Es.cons
                        (Z.E.c (Z.D.str { cps := #[100] }))
                        (Z.Es.cons (Z.E.c (Z.D.str { cps := #[116] })) (Z.Es.nil))))))
                (Z.Es.raw
                  (Z.E.tup
                    (Z.Es.cons
                      (Z.E.c (Z.D.str { cps := #[115] }))
                      (Z.Es.cons
                        (Z.E.c (Z.D.str { cps := #[98] }))
                        (Z.Es.cons
                          (Z.E.c (Z.D.str { cps := #[109] }))
                          (Z.Es.cons
                            (Z.E.c (Z.D.str { cps := #[99] }))
                            (Z.Es.cons (Z.E.c (Z.D.str { cps := #[116] })) (Z.Es.nil)))))))
                  (Z.Es.nil))))))))
    (Z.Ss.cons
      (Z.S.as
        (Z.Tg.n 2)
        (Z.E.lst
          (Z.Es.raw
            (Z.E.c (Z.D.non))
            (Z.Es.raw
              (Z.E.c (Z.D.int 1))
              (Z.Es.raw
                (Z.E.c (Z.D.bl true))
                (Z.Es.raw
                  (Z.E.c (Z.D.str { cps := #[] }))
                  (Z.Es.raw
                    (Z.E.c (Z.D.str { cps := #[97, 109] }))
                    (Z.Es.raw
                      (Z.E.c (Z.D.str { cps := #[97] }))
                      (Z.Es.raw
                        (Z.E.tup (Z.Es.nil))
                        (Z.Es.raw
                          (Z.E.tup (Z.Es.cons (Z.E.c (Z.D.str { cps := #[97] })) (Z.Es.nil)))
                          (Z.Es.raw
                            (Z.E.lst (Z.Es.nil))
                            (Z.Es.raw
                              (Z.E.lst
                                (Z.Es.raw
                                  (Z.E.c (Z.D.str { cps := #[97] }))
                                  (Z.Es.raw (Z.E.c (Z.D.str { cps := #[109] })) (Z.Es.nil))))
                              (Z.Es.raw
                                (Z.E.tup
                                  (Z.Es.cons
                                    (Z.E.c (Z.D.str { cps := #[109] }))
                                    (Z.Es.cons (Z.E.c (Z.D.str { cps := #[97] })) (Z.Es.nil))))
                                (Z.Es.raw
                                  (Z.E.tup
                                    (Z.Es.cons
                                      (Z.E.c (Z.D.str { cps := #[97] }))
                                      (Z.Es.cons (Z.E.c (Z.D.str { cps := #[98] })) (Z.Es.nil))))
                                  (Z.Es.raw
                                    (Z.E.tup
                                      (Z.Es.cons
                                        (Z.E.c (Z.D.str { cps := #[97] }))
                                        (Z.Es.cons (Z.E.c (Z.D.str { cps := #[99] })) (Z.Es.nil))))
                                    (Z.Es.nil))))))))))))))))
      (Z.Ss.cons
        (Z.S.ap
          2
          (Z.E.tup
            (Z.Es.cons
              (Z.E.c (Z.D.str { cps := #[97] }))
              (Z.Es.cons
                (Z.E.c (Z.D.str { cps := #[109] }))
                (Z.Es.cons (Z.E.c (Z.D.str { cps := #[109] })) (Z.Es.nil))))))
        (Z.Ss.cons
          (Z.S.as
            (Z.Tg.n 2)
            (Z.E.bin
              (PySem.Operator.Add)
              (Z.E.v 2)
              (Z.E.lst
                (Z.Es.raw
                  (Z.E.tup
                    (Z.Es.cons
                      (Z.E.c (Z.D.str { cps := #[97] }))
                      (Z.Es.cons
                        (Z.E.c (Z.D.str { cps := #[109] }))
                        (Z.Es.cons (Z.E.c (Z.D.str { cps := #[120] })) (Z.Es.nil)))))
                  (Z.Es.raw
                    (Z.E.tup
                      (Z.Es.cons
                        (Z.E.c (Z.D.str { cps := #[120] }))
                        (Z.Es.cons (Z.E.c (Z.D.str { cps := #[121] })) (Z.Es.nil))))
                    (Z.Es.raw
                      (Z.E.tup
                        (Z.Es.cons
                          (Z.E.tup
                            (Z.Es.cons
                              (Z.E.c (Z.D.str { cps := #[97] }))
                              (Z.Es.cons (Z.E.c (Z.D.str { cps := #[109] })) (Z.Es.nil))))
                          (Z.Es.nil)))
                      (Z.Es.raw
                        (Z.E.tup
                          (Z.Es.cons (Z.E.c (Z.D.str { cps := #[97] })) (Z.Es.cons (Z.E.c (Z.D.non)) (Z.Es.nil))))
                        (Z.Es.raw
                          (Z.E.tup (Z.Es.cons (Z.E.c (Z.D.int 1)) (Z.Es.cons (Z.E.c (Z.D.int 2)) (Z.Es.nil))))
                          (Z.Es.raw
                            (Z.E.tup
                              (Z.Es.cons
                                (Z.E.c (Z.D.str { cps := #[97] }))
                                (Z.Es.cons
                                  (Z.E.lst (Z.Es.raw (Z.E.c (Z.D.str { cps := #[109] })) (Z.Es.nil)))
                                  (Z.Es.nil))))
                            (Z.Es.raw
                              (Z.E.tup
                                (Z.Es.cons
                                  (Z.E.tup (Z.Es.cons (Z.E.c (Z.D.str { cps := #[97] })) (Z.Es.nil)))
                                  (Z.Es.cons
                                    (Z.E.tup (Z.Es.cons (Z.E.c (Z.D.str { cps := #[109] })) (Z.Es.nil)))
                                    (Z.Es.nil))))
                              (Z.Es.nil)))))))))))
          (Z.Ss.cons
            (Z.S.as
              (Z.Tg.n 2)
              (Z.E.bin
                (PySem.Operator.Add)
                (Z.E.v 2)
                (Z.E.lst
                  (Z.Es.raw
                    (Z.E.tup
                      (Z.Es.cons
                        (Z.E.c (Z.D.str { cps := #[115] }))
                        (Z.Es.cons
                          (Z.E.c (Z.D.str { cps := #[97] }))
                          (Z.Es.cons
                            (Z.E.c (Z.D.str { cps := #[109] }))
                            (Z.Es.cons
                              (Z.E.c (Z.D.str { cps := #[99] }))
                              (Z.Es.cons
                                (Z.E.c (Z.D.str { cps := #[116] }))
                                (Z.Es.cons (Z.E.c (Z.D.str { cps := #[115] })) (Z.Es.nil))))))))
                    (Z.Es.raw
                      (Z.E.tup
                        (Z.Es.cons
                          (Z.E.c (Z.D.str { cps := #[65] }))
                          (Z.Es.cons (Z.E.c (Z.D.str { cps := #[109] })) (Z.Es.nil))))
                      (Z.Es.raw
                        (Z.E.tup
                          (Z.Es.cons
                            (Z.E.c (Z.D.str { cps := #[97] }))
                            (Z.Es.cons (Z.E.c (Z.D.str { cps := #[109] })) (Z.Es.cons (Z.E.c (Z.D.int 3)) (Z.Es.nil)))))
                        (Z.Es.raw
                          (Z.E.tup
                            (Z.Es.cons
                              (Z.E.c (Z.D.str { cps := #[116] }))
                              (Z.Es.cons (Z.E.c (Z.D.str { cps := #[115] })) (Z.Es.nil))))
                          (Z.Es.nil))))))))
            (Z.Ss.cons
              (Z.S.as
                (Z.Tg.n 3)
                (Z.E.lst
                  (Z.Es.raw
                    (Z.E.lc
                      [8]
                      (Z.Tg.n 8)
                      (Z.It.var 1)
                      (Z.Tes.nil)
                      (Z.E.fn 2 (Z.Es.raw (Z.E.v 0) (Z.Es.raw (Z.E.v 8) (Z.Es.nil)))))
                    (Z.Es.raw
                      (Z.E.lc
                        [8]
                        (Z.Tg.n 8)
                        (Z.It.var 2)
                        (Z.Tes.nil)
                        (Z.E.fn 2 (Z.Es.raw (Z.E.v 0) (Z.Es.raw (Z.E.v 8) (Z.Es.nil)))))
                      (Z.Es.nil)))))
              (Z.Ss.cons
                (Z.S.as
                  (Z.Tg.n 3)
                  (Z.E.bin
                    (PySem.Operator.Add)
                    (Z.E.v 3)
                    (Z.E.lst
                      (Z.Es.raw
                        (Z.E.lc
                          [8]
                          (Z.Tg.n 8)
                          (Z.It.var 1)
                          (Z.Tes.nil)
                          (Z.E.fn 3 (Z.Es.raw (Z.E.v 0) (Z.Es.raw (Z.E.v 8) (Z.Es.nil)))))
                        (Z.Es.raw
                          (Z.E.lc
                            [8]
                            (Z.Tg.n 8)
                            (Z.It.var 2)
                            (Z.Tes.nil)
                            (Z.E.fn 3 (Z.Es.raw (Z.E.v 0) (Z.Es.raw (Z.E.v 8) (Z.Es.nil)))))
                          (Z.Es.nil))))))
                (Z.Ss.cons
                  (Z.S.as
                    (Z.Tg.n 4)
                    (Z.E.lst
                      (Z.Es.raw
                        (Z.E.bin
                          (PySem.Operator.Mult)
                          (Z.E.lst (Z.Es.raw (Z.E.c (Z.D.bl true)) (Z.Es.nil)))
                          (Z.E.c (Z.D.int 5)))
                        (Z.Es.raw
                          (Z.E.bin
                            (PySem.Operator.Mult)
                            (Z.E.lst (Z.Es.raw (Z.E.c (Z.D.bl false)) (Z.Es.nil)))
                            (Z.E.lenv 2))
                          (Z.Es.raw
                            (Z.E.bin
                              (PySem.Operator.Add)
                              (Z.E.bin
                                (PySem.Operator.Mult)
                                (Z.E.lst (Z.Es.raw (Z.E.c (Z.D.bl false)) (Z.Es.nil)))
                                (Z.E.c (Z.D.int 4)))
                              (Z.E.lst (Z.Es.raw (Z.E.c (Z.D.bl true)) (Z.Es.nil))))
                            (Z.Es.raw
                              (Z.E.bin
                                (PySem.Operator.Mult)
                                (Z.E.lst (Z.Es.raw (Z.E.c (Z.D.bl false)) (Z.Es.nil)))
                                (Z.E.lenv 2))
                              (Z.Es.nil)))))))
                  (Z.Ss.cons
                    (Z.S.as
                      (Z.Tg.n 5)
                      (Z.E.bi
                        (Z.Bi.tuple)
                        (Z.Es.cons
                          (Z.E.lc
                            [9]
                            (Z.Tg.n 9)
                            (Z.It.rng (Z.Es.cons (Z.E.c (Z.D.int 9)) (Z.Es.nil)))
                            (Z.Tes.nil)
                            (Z.E.tup
                              (Z.Es.cons
                                (Z.E.sub
                                  (Z.E.c (Z.D.str { cps := #[97, 98, 99, 100, 101, 102, 103, 104, 105, 106] }))
                                  (Z.E.v 9))
                                (Z.Es.cons
                                  (Z.E.sub
                                    (Z.E.c (Z.D.str { cps := #[97, 98, 99, 100, 101, 102, 103, 104, 105, 106] }))
                                    (Z.E.bin (PySem.Operator.Add) (Z.E.v 9) (Z.E.c (Z.D.int 1))))
                                  (Z.Es.nil)))))
                          (Z.Es.nil))))
                    (Z.Ss.cons
                      (Z.S.as
                        (Z.Tg.n 6)
                        (Z.E.lst
                          (Z.Es.raw
                            (Z.E.bi
                              (Z.Bi.tuple)
                              (Z.Es.cons
                                (Z.E.c (Z.D.str { cps := #[97, 98, 99, 100, 101, 102, 103, 104, 105, 106] }))
                                (Z.Es.nil)))
                            (Z.Es.raw
                              (Z.E.bi
                                (Z.Bi.tuple)
                                (Z.Es.cons
                                  (Z.E.c (Z.D.str { cps := #[97, 98, 99, 100, 101, 102, 103, 104, 105] }))
                                  (Z.Es.nil)))
                              (Z.Es.raw
                                (Z.E.bi
                                  (Z.Bi.tuple)
                                  (Z.Es.cons
                                    (Z.E.c (Z.D.str { cps := #[98, 99, 100, 101, 102, 103, 104, 105, 106] }))
                                    (Z.Es.nil)))
                                (Z.Es.raw
                                  (Z.E.bi (Z.Bi.tuple) (Z.Es.cons (Z.E.c (Z.D.str { cps := #[100, 101] })) (Z.Es.nil)))
                                  (Z.Es.raw
                                    (Z.E.bi
                                      (Z.Bi.tuple)
                                      (Z.Es.cons (Z.E.c (Z.D.str { cps := #[100, 102] })) (Z.Es.nil)))
                                    (Z.Es.nil))))))))
                      (Z.Ss.cons
                        (Z.S.as
                          (Z.Tg.n 3)
                          (Z.E.bin
                            (PySem.Operator.Add)
                            (Z.E.v 3)
                            (Z.E.lst
                              (Z.Es.raw
                                (Z.E.lc
                                  [8]
                                  (Z.Tg.n 8)
                                  (Z.It.var 6)
                                  (Z.Tes.nil)
                                  (Z.E.fn 3 (Z.Es.raw (Z.E.v 5) (Z.Es.raw (Z.E.v 8) (Z.Es.nil)))))
                                (Z.Es.raw
                                  (Z.E.lc
                                    [8]
                                    (Z.Tg.n 8)
                                    (Z.It.var 6)
                                    (Z.Tes.nil)
                                    (Z.E.fn 2 (Z.Es.raw (Z.E.v 5) (Z.Es.raw (Z.E.v 8) (Z.Es.nil)))))
                                  (Z.Es.nil))))))
                        (Z.Ss.cons
                          (Z.S.as
                            (Z.Tg.n 4)
                            (Z.E.bin
                              (PySem.Operator.Add)
                              (Z.E.v 4)
                              (Z.E.lst
                                (Z.Es.raw
                                  (Z.E.lst
                                    (Z.Es.raw
                                      (Z.E.c (Z.D.bl true))
                                      (Z.Es.raw
                                        (Z.E.c (Z.D.bl false))
                                        (Z.Es.raw
                                          (Z.E.c (Z.D.bl false))
                                          (Z.Es.raw
                                            (Z.E.c (Z.D.bl false))
                                            (Z.Es.raw (Z.E.c (Z.D.bl false)) (Z.Es.nil)))))))
                                  (Z.Es.raw
                                    (Z.E.bin
                                      (PySem.Operator.Add)
                                      (Z.E.bin
                                        (PySem.Operator.Mult)
                                        (Z.E.lst (Z.Es.raw (Z.E.c (Z.D.bl true)) (Z.Es.nil)))
                                        (Z.E.c (Z.D.int 4)))
                                      (Z.E.lst (Z.Es.raw (Z.E.c (Z.D.bl false)) (Z.Es.nil))))
                                    (Z.Es.nil))))))
                          (Z.Ss.cons
                            (Z.S.as (Z.Tg.n 7) (Z.E.fn 11 (Z.Es.raw (Z.E.v 0) (Z.Es.nil))))
                            (Z.Ss.cons
                              (Z.S.as
                                (Z.Tg.n 3)
                                (Z.E.bin
                                  (PySem.Operator.Add)
                                  (Z.E.v 3)
                                  (Z.E.lst
                                    (Z.Es.raw
                                      (Z.E.fnk
                                        2
                                        [1, 0]
                                        (Z.Es.raw
                                          (Z.E.tup
                                            (Z.Es.cons
                                              (Z.E.c (Z.D.str { cps := #[97] }))
                                              (Z.Es.cons (Z.E.c (Z.D.str { cps := #[109] })) (Z.Es.nil))))
                                          (Z.Es.raw (Z.E.v 7) (Z.Es.nil))))
                                      (Z.Es.raw
                                        (Z.E.fnk
                                          3
                                          [1, 0]
                                          (Z.Es.raw
                                            (Z.E.tup
                                              (Z.Es.cons
                                                (Z.E.c (Z.D.str { cps := #[115] }))
                                                (Z.Es.cons
                                                  (Z.E.c (Z.D.str { cps := #[97] }))
                                                  (Z.Es.cons
                                                    (Z.E.c (Z.D.str { cps := #[109] }))
                                                    (Z.Es.cons
                                                      (Z.E.c (Z.D.str { cps := #[100] }))
                                                      (Z.Es.cons (Z.E.c (Z.D.str { cps := #[116] })) (Z.Es.nil)))))))
                                            (Z.Es.raw (Z.E.v 7) (Z.Es.nil))))
                                        (Z.Es.nil))))))
                              (Z.Ss.cons
                                (Z.S.as
                                  (Z.Tg.n 3)
                                  (Z.E.bin
                                    (PySem.Operator.Add)
                                    (Z.E.v 3)
                                    (Z.E.lst
                                      (Z.Es.raw
                                        (Z.E.fn
                                          2
                                          (Z.Es.raw
                                            (Z.E.tup
                                              (Z.Es.cons
                                                (Z.E.lst
                                                  (Z.Es.raw
                                                    (Z.E.c (Z.D.str { cps := #[97] }))
                                                    (Z.Es.raw (Z.E.c (Z.D.str { cps := #[109] })) (Z.Es.nil))))
                                                (Z.Es.cons
                                                  (Z.E.lst
                                                    (Z.Es.raw
                                                      (Z.E.c (Z.D.str { cps := #[109] }))
                                                      (Z.Es.raw (Z.E.c (Z.D.str { cps := #[116] })) (Z.Es.nil))))
                                                  (Z.Es.nil))))
                                            (Z.Es.raw
                                              (Z.E.tup
                                                (Z.Es.cons
                                                  (Z.E.c (Z.D.str { cps := #[97] }))
                                                  (Z.Es.cons
                                                    (Z.E.c (Z.D.str { cps := #[109] }))
                                                    (Z.Es.cons (Z.E.c (Z.D.str { cps := #[116] })) (Z.Es.nil)))))
                                              (Z.Es.nil))))
                                        (Z.Es.raw
                                          (Z.E.fn
                                            3
                                            (Z.Es.raw
                                              (Z.E.tup
                                                (Z.Es.cons
                                                  (Z.E.lst
                                                    (Z.Es.raw
                                                      (Z.E.c (Z.D.str { cps := #[97] }))
                                                      (Z.Es.raw (Z.E.c (Z.D.str { cps := #[109] })) (Z.Es.nil))))
                                                  (Z.Es.cons
                                                    (Z.E.lst
                                                      (Z.Es.raw
                                                        (Z.E.c (Z.D.str { cps := #[109] }))
                                                        (Z.Es.raw (Z.E.c (Z.D.str { cps := #[116] })) (Z.Es.nil))))
                                                    (Z.Es.nil))))
                                              (Z.Es.raw
                                                (Z.E.tup
                                                  (Z.Es.cons
                                                    (Z.E.c (Z.D.str { cps := #[97] }))
                                                    (Z.Es.cons
                                                      (Z.E.c (Z.D.str { cps := #[109] }))
                                                      (Z.Es.cons (Z.E.c (Z.D.str { cps := #[116] })) (Z.Es.nil)))))
                                                (Z.Es.nil))))
                                          (Z.Es.nil))))))
                                (Z.Ss.cons
                                  (Z.S.as
                                    (Z.Tg.n 3)
                                    (Z.E.bin
                                      (PySem.Operator.Add)
                                      (Z.E.v 3)
                                      (Z.E.lst
                                        (Z.Es.raw
                                          (Z.E.fn
                                            3
                                            (Z.Es.raw
                                              (Z.E.tup
                                                (Z.Es.cons
                                                  (Z.E.tup
                                                    (Z.Es.cons
                                                      (Z.E.c (Z.D.str { cps := #[112] }))
                                                      (Z.Es.cons (Z.E.c (Z.D.str { cps := #[113] })) (Z.Es.nil))))
                                                  (Z.Es.nil)))
                                              (Z.Es.raw
                                                (Z.E.tup
                                                  (Z.Es.cons
                                                    (Z.E.c (Z.D.str { cps := #[112] }))
                                                    (Z.Es.cons (Z.E.c (Z.D.str { cps := #[113] })) (Z.Es.nil))))
                                                (Z.Es.nil))))
                                          (Z.Es.raw
                                            (Z.E.fn
                                              2
                                              (Z.Es.raw
                                                (Z.E.tup
                                                  (Z.Es.cons
                                                    (Z.E.tup
                                                      (Z.Es.cons
                                                        (Z.E.c (Z.D.str { cps := #[112] }))
                                                        (Z.Es.cons (Z.E.c (Z.D.str { cps := #[113] })) (Z.Es.nil))))
                                                    (Z.Es.nil)))
                                                (Z.Es.raw
                                                  (Z.E.tup
                                                    (Z.Es.cons
                                                      (Z.E.c (Z.D.str { cps := #[113] }))
                                                      (Z.Es.cons (Z.E.c (Z.D.str { cps := #[112] })) (Z.Es.nil))))
                                                  (Z.Es.nil))))
                                            (Z.Es.nil))))))
                                  (Z.Ss.cons
                                    (Z.S.ret
                                      (Z.E.fn
                                        10
                                        (Z.Es.raw
                                          (Z.E.v 3)
                                          (Z.Es.raw
                                            (Z.E.bin
                                              (PySem.Operator.Add)
                                              (Z.E.bin
                                                (PySem.Operator.Add)
                                                (Z.E.v 4)
                                                (Z.E.bin
                                                  (PySem.Operator.Mult)
                                                  (Z.E.lst (Z.Es.raw (Z.E.c (Z.D.bl true)) (Z.Es.nil)))
                                                  (Z.E.c (Z.D.int 5))))
                                              (Z.E.lst (Z.Es.raw (Z.E.c (Z.D.bl false)) (Z.Es.nil))))
                                            (Z.Es.nil)))))
                                    (Z.Ss.nil))))))))))))))))))
def b20 : Ss := Z.Ss.cons
  (Z.S.fr
    (Z.Tg.n 1)
    (Z.It.rng (Z.Es.cons (Z.E.c (Z.D.int 8)) (Z.Es.nil)))
    (Z.Ss.cons
      (Z.S.as
        (Z.Tg.n 2)
        (Z.E.fn 13 (Z.Es.bw 0 (Z.Es.raw (Z.E.c (Z.D.int 2)) (Z.Es.raw (Z.E.c (Z.D.int 9)) (Z.Es.nil))))))
      (Z.Ss.cons
        (Z.S.as
          (Z.Tg.t (Z.Tgs.cons (Z.Tg.n 5) (Z.Tgs.cons (Z.Tg.n 6) (Z.Tgs.nil))))
          (Z.E.tup
            (Z.Es.cons
              (Z.E.fn 11 (Z.Es.raw (Z.E.v 2) (Z.Es.nil)))
              (Z.Es.cons
                (Z.E.lc
                  [8]
                  (Z.Tg.n 8)
                  (Z.It.rng (Z.Es.cons (Z.E.c (Z.D.int 8)) (Z.Es.nil)))
                  (Z.Tes.nil)
                  (Z.E.fn 18 (Z.Es.bw 0 (Z.Es.raw (Z.E.v 2) (Z.Es.nil)))))
                (Z.Es.nil)))))
        (Z.Ss.cons
          (Z.S.as
            (Z.Tg.n 3)
            (Z.E.lc
              [7]
              (Z.Tg.n 7)
              (Z.It.var 6)
              (Z.Tes.nil)
              (Z.E.lst
                (Z.Es.raw
                  (Z.E.fn 2 (Z.Es.raw (Z.E.v 2) (Z.Es.raw (Z.E.v 7) (Z.Es.nil))))
                  (Z.Es.raw
                    (Z.E.fn 3 (Z.Es.raw (Z.E.v 2) (Z.Es.raw (Z.E.v 7) (Z.Es.nil))))
                    (Z.Es.raw
                      (Z.E.fn 2 (Z.Es.raw (Z.E.v 5) (Z.Es.raw (Z.E.v 7) (Z.Es.nil))))
                      (Z.Es.raw (Z.E.fn 3 (Z.Es.raw (Z.E.v 5) (Z.Es.raw (Z.E.v 7) (Z.Es.nil)))) (Z.Es.nil))))))))
          (Z.Ss.cons
            (Z.S.as
              (Z.Tg.n 4)
              (Z.E.lc
                [7]
                (Z.Tg.n 7)
                (Z.It.var 6)
                (Z.Tes.nil)
                (Z.E.bin
                  (PySem.Operator.Mult)
                  (Z.E.lst
                    (Z.Es.raw
                      (Z.E.fn 16 (Z.Es.raw (Z.E.v 2) (Z.Es.raw (Z.E.v 7) (Z.Es.nil))))
                      (Z.Es.raw (Z.E.fn 17 (Z.Es.raw (Z.E.v 2) (Z.Es.raw (Z.E.v 7) (Z.Es.nil)))) (Z.Es.nil))))
                  (Z.E.c (Z.D.int 2)))))
            (Z.Ss.cons
              (Z.S.ite
                (Z.Te.or
                  (Z.Te.not (Z.Te.val (Z.E.fn 10 (Z.Es.raw (Z.E.v 3) (Z.Es.raw (Z.E.v 4) (Z.Es.nil))))))
                  (Z.Te.val
                    (Z.E.cmp
                      (PySem.CmpOp.NotEq)
                      (Z.E.lc
                        [7]
                        (Z.Tg.n 7)
                        (Z.It.var 6)
                        (Z.Tes.cons
                          (Z.Te.val
                            (Z.E.fn
                              2
                              (Z.Es.raw
                                (Z.E.v 2)
                                (Z.Es.raw (Z.E.bi (Z.Bi.list) (Z.Es.cons (Z.E.v 7) (Z.Es.nil))) (Z.Es.nil)))))
                          (Z.Tes.nil))
                        (Z.E.v 7))
                      (Z.E.lst (Z.Es.nil)))))
                (Z.Ss.cons (Z.S.ret (Z.E.c (Z.D.bl false))) (Z.Ss.nil))
                (Z.Ss.nil))
              (Z.Ss.nil)))))))
  (Z.Ss.cons (Z.S.ret (Z.E.c (Z.D.bl true))) (Z.Ss.nil))
def b21 : Ss := Z.Ss.cons
  (Z.S.ite
    (Z.Te.not (Z.Te.val (Z.E.fn 19 (Z.Es.nil))))
    (Z.Ss.cons (Z.S.ret (Z.E.c (Z.D.bl false))) (Z.Ss.nil))
    (Z.Ss.nil))
  (Z.Ss.cons
    (Z.S.as (Z.Tg.n 1) (Z.E.fn 8 (Z.Es.raw (Z.E.v 0) (Z.Es.raw (Z.E.c (Z.D.int 3)) (Z.Es.nil)))))
    (Z.Ss.cons
      (Z.S.ret
        (Z.E.bi
          (Z.Bi.all)
          (Z.Es.cons
            (Z.E.lc
              [2]
              (Z.Tg.n 2)
              (Z.It.rng (Z.Es.cons (Z.E.lenv 1) (Z.Es.nil)))
              (Z.Tes.nil)
              (Z.E.fn 20 (Z.Es.raw (Z.E.fn 6 (Z.Es.raw (Z.E.v 1) (Z.Es.raw (Z.E.v 2) (Z.Es.nil)))) (Z.Es.nil))))
            (Z.Es.nil))))
      (Z.Ss.nil)))
def fs : List Fd := [⟨1, 2, [], b0⟩, ⟨1, 2, [], b1⟩, ⟨2, 3, [], b2⟩, ⟨2, 2, [], b3⟩, ⟨1, 2, [], b4⟩, ⟨1, 2, [], b5⟩, ⟨2, 3, [], b6⟩, ⟨2, 6, [0], b7⟩, ⟨2, 6, [], b8⟩, ⟨2, 2, [0], b9⟩, ⟨2, 4, [], b10⟩, ⟨1, 2, [], b11⟩, ⟨3, 6, [0], b12⟩, ⟨3, 9, [0], b13⟩, ⟨1, 2, [], b14⟩, ⟨1, 3, [], b15⟩, ⟨2, 4, [], b16⟩, ⟨2, 3, [], b17⟩, ⟨2, 6, [0], b18⟩, ⟨0, 10, [], b19⟩, ⟨1, 9, [0], b20⟩, ⟨1, 3, [], b21⟩]
theorem hc : cDs ds xs 60 ds = some fs := by kernel_rfl
end K02

set_option Elab.async false
set_option linter.all false
set_option autoImplicit false
set_option maxRecDepth 100000
set_option maxHeartbeats 8000000
/-! P8: law k02: the graph. -/
namespace K02
open PySem PySem.Spec Z M Pz
def poolS : List Str := ["a", "ab", "b", "c", "m", "s", "t", "zz", "zzzzzzzz"]
def s0 : S := match b13 with
  | .cons s _ => s
  | _ => .pass
def pickE : E := .fn 12 (.bw 0 (.raw (.v 3) (.raw (.bin .Add (.v 1) (.fn 7 (.bw 0 (.raw (.bin .Add (.bin .Sub (.v 2) (.v 1)) (.c (.int 1))) .nil)))) .nil)))
def finE : E := .bi .tuple (.cons (.bi .sorted (.cons (.bi .set (.cons (.v 5) .nil)) .nil)) .nil)
theorem b13_eq : b13 = .cons s0 (.cons (.as (.n 4) pickE) (.cons (.as (.n 5) (.lst .nil)) (.cons (.fr (.n 6) (.rng (.cons (.c (.int 1)) (.cons (.lenv 4) .nil))) (gL1 7)) (.cons (.fr (.n 6) (.rng (.cons (.bin .Sub (.lenv 4) (.c (.int 1))) .nil)) (gL2 7)) (.cons (.ret finE) .nil))))) := rfl
theorem s0_run (T : Tab) (x0 x1 x2 x3 x4 x5 x6 x7 x8 : Option D) : dS T s0 [x0, x1, x2, x3, x4, x5, x6, x7, x8] = .ok .nx [x0, x1, x2, some (.lst true (poolS.map D.str)), x4, x5, x6, x7, x8] := rfl
theorem b12_eq : b12 = bPick 7 := rfl
/-- the key of a pair of texts -/
def prK (q : Pr) : DK := .inr [.inr q.1, .inr q.2]
theorem keys_prs : ∀ Q : List Pr, keysD (Q.map pr) = some (Q.map prK)
  | [] => rfl
  | q :: Q => by rw [List.map_cons, keysD, keys_prs Q]; rfl
theorem sortable_prs (ks : List DK) (h : ∀ k ∈ ks, ∃ q, k = prK q) : Zs.sortableK ks = true := by
  unfold Zs.sortableK
  rw [Bool.and_eq_true, Bool.or_eq_true]
  refine ⟨List.all_eq_true.mpr fun a ha => List.all_eq_true.mpr fun b hb => ?_, .inl (List.all_eq_true.mpr fun a ha => ?_)⟩
  · obtain ⟨p, rfl⟩ := h a ha
    obtain ⟨q, rfl⟩ := h b hb
    simp [prK, Zs.kP, Zs.k1P, PySem.W.alike, PySem.W.alikeAll]
  · obtain ⟨p, rfl⟩ := h a ha
    rfl
theorem fin_run (T : Tab) (x0 x1 x2 x3 x4 x6 x7 x8 : Option D) (Q : List Pr) (hl : Q.length ≤ 20) (hn : Q ≠ []) : ∃ Wb : List Pr, (∀ q, q ∈ Wb ↔ q ∈ Q) ∧ Wb.Nodup ∧ Wb.length ≤ 20 ∧
    dE T finE [x0, x1, x2, x3, x4, some (.lst true (Q.map pr)), x6, x7, x8] = .ok (.tup (Wb.map pr)) [x0, x1, x2, x3, x4, some (.lst false (Q.map pr)), x6, x7, x8] := by
  have f : isFL (Q.map pr) = true := isF_prs Q
  have ff : frzL (Q.map pr) = Q.map pr := isFL_frz f
  have mem : ∀ k ∈ ddK [] (Q.map prK), ∃ q ∈ Q, prK q = k := fun k m => by
    rw [ddK_mem] at m
    exact List.mem_map.mp (m.resolve_left fun z => nomatch z)
  have so := sortable_prs (ddK [] (Q.map prK)) fun k m => let ⟨q, _, e⟩ := mem k m; ⟨q, e.symm⟩
  have pm := Zs.sortK_perm (ddK [] (Q.map prK))
  have nd := ddK_nodup (Q.map prK) [] List.nodup_nil
  have inj : ∀ p q : Pr, prK p = prK q → p = q := fun p q e => by
    unfold prK at e
    simp only [Sum.inr.injEq, List.cons.injEq, and_true] at e
    exact Prod.ext e.1 e.2
  have pre : ∀ l : List DK, (∀ k ∈ l, ∃ q, prK q = k) → ∃ L : List Pr, l = L.map prK := by
    intro l
    induction l with
    | nil => exact fun _ => ⟨[], rfl⟩
    | cons k l ih =>
      intro h
      obtain ⟨q, e⟩ := h k List.mem_cons_self
      obtain ⟨L, e2⟩ := ih fun k m => h k (List.mem_cons_of_mem _ m)
      exact ⟨q :: L, by rw [List.map_cons, e, e2]⟩
  obtain ⟨Wb, eW⟩ := pre (Zs.sortK (ddK [] (Q.map prK))) fun k m => let ⟨q, _, e⟩ := mem k (pm.mem_iff.mp m); ⟨q, e⟩
  have len := ddK_len (Q.map prK) []
  have lW : Wb.length ≤ 20 := by
    have := pm.length_eq
    rw [eW, List.length_map] at this
    simp only [List.length_nil, List.length_map] at len
    omega
  refine ⟨Wb, fun q => ?_, ?_, lW, ?_⟩
  · have h1 : prK q ∈ Wb.map prK ↔ prK q ∈ ddK [] (Q.map prK) := by rw [← eW]; exact pm.mem_iff
    constructor
    · intro m
      obtain ⟨p, mp, e⟩ := mem _ (h1.mp (List.mem_map.mpr ⟨q, m, rfl⟩))
      rw [← inj p q e]; exact mp
    · intro m
      have := h1.mpr ((ddK_mem _ _ _).mpr (.inr (List.mem_map.mpr ⟨q, m, rfl⟩)))
      obtain ⟨p, mp, e⟩ := List.mem_map.mp this
      rw [← inj p q e]; exact mp
  · have : (Wb.map prK).Nodup := by rw [← eW]; exact pm.nodup_iff.mpr nd
    exact List.Pairwise.of_map prK (fun a b hne e => hne (by rw [e])) this
  · have st : stD (Q.map pr) = some (.st true (ddK [] (Q.map prK))) := by
      unfold stD
      rw [keys_prs]
      have hq : headQ (Q.map prK) = true := by
        cases Q with
        | nil => exact absurd rfl hn
        | cons q Q => rfl
      have c1 : ((Q.map prK).all fun k => Zs.tupQ k == true) = true := List.all_eq_true.mpr fun k m => by
        obtain ⟨q, _, rfl⟩ := List.mem_map.mp m
        rfl
      have c2 : (Q.map prK).length < Zs.roomFor true := by
        rw [List.length_map]
        show Q.length < 64
        omega
      dsimp only
      rw [hq, if_pos ⟨c1, c2⟩]
    have kd : (Wb.map prK).map kD = Wb.map pr := by rw [List.map_map]; rfl
    have s1 : biD .set [.lst false (Q.map pr)] = some (.st true (ddK [] (Q.map prK))) := st
    have s2 : biD .sorted [.st false (ddK [] (Q.map prK))] = some (.lst true (Wb.map pr)) := by
      show (if Zs.sortableK (ddK [] (Q.map prK)) = true then some (D.lst true ((Zs.sortK (ddK [] (Q.map prK))).map kD)) else none) = _
      rw [if_pos so, eW, kd]
    have s3 : biD .tuple [.lst false (Wb.map pr)] = some (.tup (Wb.map pr)) := by
      rw [biD, if_pos (isF_prs Wb)]
    have fW : frzL (Wb.map pr) = Wb.map pr := isFL_frz (isF_prs Wb)
    simp [finE, dE, dEs, R.bind, rd, isF, frz, ff, f, fz, fW, isF_prs, args1, s1, s2, s3, ofO]
end K02

set_option Elab.async false
set_option linter.all false
set_option autoImplicit false
set_option maxRecDepth 100000
set_option maxHeartbeats 8000000
/-! P9: law k02: the graph as a call. -/
namespace K02
open PySem PySem.Spec Z M Pz
theorem draws (n : Nat) : Draws (tab fs (n + 1)) 7 := fun a b c w h1 h2 h3 h4 => take_fnJ (fs := fs) (jt := 7) rfl n a b c w h1 h2 h3 h4
theorem pick_fn (n : Nat) (a b c : Int) (pool : List D) (z : Nat) (hp : isFL pool = true) (hl : pool.length ≤ 100) (hz : z ≤ pool.length) (hb : 0 ≤ b ∧ b < 2 ^ 62) (hc : 0 ≤ c ∧ c < 900000) :
    ∃ (got rest : List D) (a' c' : Int), tab fs (n + 2) 12 [box a b c, .lst false pool, .int z] = .ok (.lst true got) [some (box a' b c'), none, none] ∧ got.length = z ∧ (got ++ rest).Perm pool ∧ c ≤ c' ∧ c' ≤ c + z := by
  obtain ⟨got, rest, a', c', e, h, hr, h1, h2, h3, h4⟩ := pick_run (tab fs (n + 1)) 7 (draws n) a b c pool false z hp hl hz hb hc
  refine ⟨got, rest, a', c', ?_, h1, h2, h3, h4⟩
  rw [tab, show fs[12]? = some ⟨3, 6, [0], bPick 7⟩ from rfl]
  refine (run_rt (F := ⟨3, 6, [0], bPick 7⟩) rfl h).trans ?_
  show R.ok (D.lst true got) [rd 0 e, none, none] = _
  rw [hr]
/-- what is true of a drawn graph -/
def Web (Wb : List Pr) : Prop := ∃ W : List Str, 2 ≤ W.length ∧ W.length ≤ 9 ∧ W.Nodup ∧ (∀ s ∈ W, okS s = true) ∧ Fw W Wb ∧ (∀ l, 1 ≤ l → ∀ h : l < W.length, ∃ q ∈ Wb, q.2 = W[l]) ∧ (∀ l, ∀ h : l + 1 < W.length, ∃ q ∈ Wb, q.1 = W[l]) ∧ Wb.length ≤ 20
theorem pool_ok : ∀ s ∈ poolS, okS s = true := by decide +kernel
theorem pool_nd : poolS.Nodup := by decide +kernel
theorem of_pool {got rest : List D} (h : (got ++ rest).Perm (poolS.map D.str)) : ∃ W : List Str, got = W.map D.str ∧ W.Nodup ∧ ∀ s ∈ W, s ∈ poolS := by
  have pre : ∀ l : List D, (∀ d ∈ l, ∃ s ∈ poolS, D.str s = d) → ∃ W : List Str, l = W.map D.str ∧ ∀ s ∈ W, s ∈ poolS := by
    intro l
    induction l with
    | nil => exact fun _ => ⟨[], rfl, fun s m => nomatch m⟩
    | cons d l ih =>
      intro h
      obtain ⟨s, ms, e⟩ := h d List.mem_cons_self
      obtain ⟨W, e2, h2⟩ := ih fun d m => h d (List.mem_cons_of_mem _ m)
      refine ⟨s :: W, by rw [List.map_cons, e, e2], fun t m => ?_⟩
      rcases List.mem_cons.mp m with e | m
      · rw [e]; exact ms
      · exact h2 t m
  obtain ⟨W, e, hW⟩ := pre got fun d m => List.mem_map.mp (h.mem_iff.mp (List.mem_append_left _ m))
  refine ⟨W, e, ?_, hW⟩
  have nd : (poolS.map D.str).Nodup := List.pairwise_map.mpr (pool_nd.imp fun hne e => hne (by injection e))
  have := (List.nodup_append.mp (h.nodup_iff.mpr nd)).1
  rw [e] at this
  exact List.Pairwise.of_map D.str (fun a b hne e => hne (by rw [e])) this
theorem fr_ok {T : Tab} {tg : Tg} {it : It} {b : Ss} {e e1 e2 : Ev} {l : List D} (h : dI T it e = .ok l e1) (g : frL tg (dSs T b) l e1 = .ok .nx e2) : dS T (.fr tg it b) e = .ok .nx e2 := by
  rw [dS, h, M.bind_ok]
  exact g
theorem rng_two (n : Nat) (h : n < 1000) : rngD (some [.int 1, .int (n : Int)]) = some ((List.range (n - 1)).map fun (k : Nat) => D.int (1 + Int.ofNat k)) := by
  have hb : (-((big : Nat) : Int) < (1 : Int) ∧ (1 : Int) < ((big : Nat) : Int) ∧ -((big : Nat) : Int) < (n : Int) ∧ (n : Int) < ((big : Nat) : Int)) := by
    have e : ((big : Nat) : Int) = 1000000 := rfl
    rw [e]
    omega
  rw [rngD, if_pos hb, show ((n : Int) - 1).toNat = n - 1 by omega]
theorem it1 (T : Tab) (x0 x1 x2 x3 x5 x6 x7 x8 : Option D) (W : List Str) (h9 : W.length ≤ 9) : dI T (.rng (.cons (.c (.int 1)) (.cons (.lenv 4) .nil))) [x0, x1, x2, x3, some (.lst true (W.map D.str)), x5, x6, x7, x8] =
    .ok ((List.range (W.length - 1)).map fun (k : Nat) => D.int (1 + Int.ofNat k)) [x0, x1, x2, x3, some (.lst true (W.map D.str)), x5, x6, x7, x8] := by
  have hd : dEs T (.cons (.c (.int 1)) (.cons (.lenv 4) .nil)) [x0, x1, x2, x3, some (.lst true (W.map D.str)), x5, x6, x7, x8] = .ok [.inl (.int 1), .inl (.int (W.length : Int))] [x0, x1, x2, x3, some (.lst true (W.map D.str)), x5, x6, x7, x8] := by
    simp [dEs, dE, R.bind, rd, biD, ofO, fz, isF]
  have a1 : args1 [.inl (.int 1), .inl (.int (W.length : Int))] = some [.int 1, .int (W.length : Int)] := rfl
  rw [dI, hd, M.bind_ok, a1, rng_two _ (by omega), ofO]
theorem it2 (T : Tab) (x0 x1 x2 x3 x5 x6 x7 x8 : Option D) (W : List Str) (h2 : 1 ≤ W.length) (h9 : W.length ≤ 9) : dI T (.rng (.cons (.bin .Sub (.lenv 4) (.c (.int 1))) .nil)) [x0, x1, x2, x3, some (.lst true (W.map D.str)), x5, x6, x7, x8] =
    .ok ((List.range (W.length - 1)).map fun (k : Nat) => D.int (Int.ofNat k)) [x0, x1, x2, x3, some (.lst true (W.map D.str)), x5, x6, x7, x8] := by
  have hd : dEs T (.cons (.bin .Sub (.lenv 4) (.c (.int 1))) .nil) [x0, x1, x2, x3, some (.lst true (W.map D.str)), x5, x6, x7, x8] = .ok [.inl (.int ((W.length - 1 : Nat) : Int))] [x0, x1, x2, x3, some (.lst true (W.map D.str)), x5, x6, x7, x8] := by
    rw [show ((W.length - 1 : Nat) : Int) = (W.length : Int) - 1 by omega]
    simp [dEs, dE, R.bind, rd, biD, ofO, fz, isF, binD]
  have a1 : args1 [.inl (.int ((W.length - 1 : Nat) : Int))] = some [.int ((W.length - 1 : Nat) : Int)] := rfl
  rw [dI, hd, M.bind_ok, a1, rng_at _ (by omega), ofO]
theorem graph_run (n : Nat) (a b c : Int) (hb : 0 ≤ b ∧ b < 2 ^ 62) (hc : 0 ≤ c ∧ c < 600000) : ∃ (Wb : List Pr) (a' c' : Int) (e : Ev), dSs (tab fs (n + 2)) b13 [some (box a b c), some (.int 2), some (.int 9), none, none, none, none, none, none] = .ok (.rt (.tup (Wb.map pr))) e ∧
    rd 0 e = some (box a' b c') ∧ Web Wb ∧ c ≤ c' ∧ c' ≤ c + 100 := by
  have T1 : ∀ x, tab fs (n + 2) = x → True := fun _ _ => trivial
  obtain ⟨d, a1, c1, hT, q1, q2, q3, q4⟩ := draws (n + 1) a b c 8 (by decide) (by decide) hb (by omega)
  obtain ⟨m, rfl⟩ := Int.eq_ofNat_of_zero_le q1
  have hm : m < 8 := by omega
  obtain ⟨got, rest, a2, c2, hP, p1, p2, p3, p4⟩ := pick_fn n a1 b c1 (poolS.map D.str) (m + 2) (isF_strs _) (by decide) (by show m + 2 ≤ 9; omega) hb (by omega)
  obtain ⟨W, rfl, nd, mW⟩ := of_pool p2
  rw [List.length_map] at p1
  have okW : ∀ s ∈ W, okS s = true := fun s m => pool_ok s (mW s m)
  have sPick : dE (tab fs (n + 2)) pickE [some (box a b c), some (.int 2), some (.int 9), some (.lst true (poolS.map D.str)), none, none, none, none, none] = .ok (.lst true (W.map D.str)) [some (box a2 b c2), some (.int 2), some (.int 9), some (.lst false (poolS.map D.str)), none, none, none, none, none] := by
    have f : isFL (poolS.map D.str) = true := isF_strs _
    have ff : frzL (poolS.map D.str) = poolS.map D.str := isFL_frz f
    have hP' : tab fs (n + 2) 12 [box a1 b c1, .lst false (poolS.map D.str), .int (2 + (m : Int))] = .ok (.lst true (W.map D.str)) [some (box a2 b c2), none, none] := by
      rw [show (2 + (m : Int)) = ((m + 2 : Nat) : Int) by omega]
      exact hP
    generalize poolS.map D.str = pl at f ff hP'
    generalize tab fs (n + 2) = T at hT hP'
    unfold box at *
    simp [pickE, dE, dEs, R.bind, rd, isF, frz, f, ff, ofO, binD, takeB, putB, hT, hP']
  obtain ⟨ps, a3, c3, y, l1, g1, g2, g3, g4, g5⟩ := gl1 (tab fs (n + 2)) 7 (draws (n + 1)) (some (.int 2)) (some (.int 9)) (some (.lst false (poolS.map D.str))) none none none a2 b c2 W (by omega) (by omega) hb (by omega)
  have fw : Fw W (ps.map (tie W)) := fun q mq => by
    obtain ⟨p, mp, rfl⟩ := List.mem_map.mp mq
    obtain ⟨h1, h2⟩ := g1 p mp
    exact ⟨p.1, p.2, h1, h2, tie_at (by omega) h2⟩
  have inn : ∀ l, 1 ≤ l → ∀ h : l < W.length, ∃ q ∈ ps.map (tie W), q.2 = W[l] := fun l h1 h => by
    obtain ⟨p, mp, e⟩ := g3 l h1 h
    subst e
    obtain ⟨h1, h2⟩ := g1 p mp
    exact ⟨tie W p, List.mem_map.mpr ⟨p, mp, rfl⟩, by rw [show tie W p = _ from tie_at (W := W) (i := p.1) (j := p.2) (by omega) h2]⟩
  obtain ⟨Q, a4, c4, y6, y7, l2, f1, f2, f3, f4, f5, f6⟩ := gl2 (tab fs (n + 2)) 7 (draws (n + 1)) (some (.int 2)) (some (.int 9)) (some (.lst false (poolS.map D.str))) y none none a3 b c3 W (by omega) (by omega) okW (ps.map (tie W)) fw inn (by rw [List.length_map]; omega) hb (by omega)
  have ne : Q ≠ [] := fun e => by
    obtain ⟨q, mq, _⟩ := f2 1 (Nat.le_refl _) (by omega)
    rw [e] at mq
    exact nomatch mq
  obtain ⟨Wb, w1, w2, w3, w4⟩ := fin_run (tab fs (n + 2)) (some (box a4 b c4)) (some (.int 2)) (some (.int 9)) (some (.lst false (poolS.map D.str))) (some (.lst true (W.map D.str))) y6 y7 none Q f4 ne
  refine ⟨Wb, a4, c4, [some (box a4 b c4), some (.int 2), some (.int 9), some (.lst false (poolS.map D.str)), some (.lst true (W.map D.str)), some (.lst false (Q.map pr)), y6, y7, none], ?_, rfl, ⟨W, by omega, by omega, nd, okW, fun q mq => f1 q ((w1 q).mp mq), fun l h1 h => ?_, fun l h => ?_, w3⟩, by omega, by omega⟩
  rotate_left
  · obtain ⟨q, mq, e⟩ := f2 l h1 h
    exact ⟨q, (w1 q).mpr mq, e⟩
  · obtain ⟨q, mq, e⟩ := f3 l h
    exact ⟨q, (w1 q).mpr mq, e⟩
  · rw [b13_eq]
    refine seq_ok (s0_run _ _ _ _ _ _ _ _ _ _) (seq_ok (as_ok (i := 4) sPick (by show 4 < 9; decide)) (seq_ok (as_ok (i := 5) (d := .lst true []) (e1 := [some (box a2 b c2), some (.int 2), some (.int 9), some (.lst false (poolS.map D.str)), some (.lst true (W.map D.str)), none, none, none, none]) rfl (by show 5 < 9; decide)) ?_))
    refine seq_ok (fr_ok (it1 _ _ _ _ _ _ _ _ _ W (by omega)) l1) (seq_ok (fr_ok (it2 _ _ _ _ _ _ _ _ _ W (by omega) (by omega)) l2) ?_)
    rw [dSs, dS, w4]
    rfl
/-- a graph drawn -/
theorem graph_fn (n : Nat) (a b c : Int) (hb : 0 ≤ b ∧ b < 2 ^ 62) (hc : 0 ≤ c ∧ c < 600000) : ∃ (Wb : List Pr) (a' c' : Int), tab fs (n + 3) 13 [box a b c, .int 2, .int 9] = .ok (.tup (Wb.map pr)) [some (box a' b c'), none, none] ∧ Web Wb ∧ c ≤ c' ∧ c' ≤ c + 100 := by
  obtain ⟨Wb, a', c', e, h, hr, h1, h2, h3⟩ := graph_run n a b c hb hc
  refine ⟨Wb, a', c', ?_, h1, h2, h3⟩
  rw [tab, show fs[13]? = some ⟨3, 9, [0], b13⟩ from rfl]
  refine (run_rt (F := ⟨3, 9, [0], b13⟩) rfl h).trans ?_
  show R.ok (D.tup (Wb.map pr)) [rd 0 e, none, none] = _
  rw [hr]
end K02

set_option Elab.async false
set_option linter.all false
set_option autoImplicit false
set_option maxRecDepth 100000
set_option maxHeartbeats 8000000
/-! P10: law k02: the tags of a graph, its first. -/
namespace K02
open PySem PySem.Spec Z M Pz
def colE (k : Int) : E := .lc [1] (.n 1) (.var 0) .nil (.subv 1 (.c (.int k)))
theorem col_run (T : Tab) (x1 : Option D) (Q : List Pr) (k : Int) (f : Pr → Str) (hf : ∀ q, subD (pr q) (.int k) = some (.str (f q))) (hl : Q.length ≤ 500) :
    dE T (colE k) [some (.tup (Q.map pr)), x1] = .ok (.lst true ((Q.map f).map D.str)) [some (.tup (Q.map pr)), x1] := by
  have hbig : (Q.map pr).length ≤ big := by rw [List.length_map]; unfold big; omega
  obtain ⟨e', lp, y, rfl⟩ := lcL_map (own := [1]) (tg := .n 1) (cs := dTs T .nil) (elt := dE T (.subv 1 (.c (.int k)))) (fun e => ∃ y, e = [some (.tup (Q.map pr)), y]) (fun d => subD d (.int k)) (Q.map pr) [] [some (.tup (Q.map pr)), x1] ⟨x1, rfl⟩ fun d m e ⟨y, he⟩ => by
    obtain ⟨q, mq, rfl⟩ := List.mem_map.mp m
    subst he
    refine ⟨[some (.tup (Q.map pr)), some (pr q)], rfl, .inr ⟨_, .str (f q), [some (.tup (Q.map pr)), some (pr q)], rfl, ?_, hf q, some (pr q), rfl⟩⟩
    simp [dE, R.bind, rd, hf, isF]
  have fm : (Q.map pr).filterMap (fun d => subD d (.int k)) = (Q.map f).map D.str := by
    clear lp hbig hl
    induction Q with
    | nil => rfl
    | cons q Q ih => rw [List.map_cons, List.filterMap_cons, hf, ih]; rfl
  rw [List.nil_append, fm] at lp
  have hI : dIc T (.var 0) [some (.tup (Q.map pr)), x1] = .ok (Q.map pr, none) [some (.tup (Q.map pr)), x1] := by
    simp [dIc, rd, isF, isF_prs, items, ofO]
  rw [colE, dE, hI, M.bind_ok, if_pos hbig, lp]
  rfl
theorem b14_eq : b14 = .cons (.ret (.bi .sorted (.cons (.bi .set (.cons (.bin .Add (colE 0) (colE 1)) .nil)) .nil))) .nil := rfl
def stK (s : Str) : DK := .inl (.inr s)
theorem keys_strs : ∀ Q : List Str, keysD (Q.map D.str) = some (Q.map stK)
  | [] => rfl
  | q :: Q => by rw [List.map_cons, keysD, keys_strs Q]; rfl
theorem sortable_strs (ks : List DK) (h : ∀ k ∈ ks, ∃ q, k = stK q) : Zs.sortableK ks = true := by
  unfold Zs.sortableK
  rw [Bool.and_eq_true, Bool.or_eq_true]
  refine ⟨List.all_eq_true.mpr fun a ha => List.all_eq_true.mpr fun b hb => ?_, .inr (List.all_eq_true.mpr fun a ha => ?_)⟩
  · obtain ⟨p, rfl⟩ := h a ha
    obtain ⟨q, rfl⟩ := h b hb
    rfl
  · obtain ⟨p, rfl⟩ := h a ha
    rfl
/-- texts, put in order -/
theorem order_strs (ks : List DK) (nd : ks.Nodup) (h : ∀ k ∈ ks, ∃ q, k = stK q) : ∃ L : List Str, Zs.sortK ks = L.map stK ∧ L.Nodup ∧ (∀ s, s ∈ L ↔ stK s ∈ ks) ∧ L.length = ks.length := by
  have pm := Zs.sortK_perm ks
  have pre : ∀ l : List DK, (∀ k ∈ l, ∃ q, k = stK q) → ∃ L : List Str, l = L.map stK := by
    intro l
    induction l with
    | nil => exact fun _ => ⟨[], rfl⟩
    | cons k l ih =>
      intro h
      obtain ⟨q, e⟩ := h k List.mem_cons_self
      obtain ⟨L, e2⟩ := ih fun k m => h k (List.mem_cons_of_mem _ m)
      exact ⟨q :: L, by rw [List.map_cons, e, e2]⟩
  obtain ⟨L, eL⟩ := pre (Zs.sortK ks) fun k m => h k (pm.mem_iff.mp m)
  have inj : ∀ a b : Str, stK a = stK b → a = b := fun a b e => by
    unfold stK at e
    simpa using e
  refine ⟨L, eL, ?_, fun s => ?_, ?_⟩
  · have : (L.map stK).Nodup := by rw [← eL]; exact pm.nodup_iff.mpr nd
    exact List.Pairwise.of_map stK (fun a b hne e => hne (by rw [e])) this
  · rw [← pm.mem_iff, eL]
    exact ⟨fun m => List.mem_map.mpr ⟨s, m, rfl⟩, fun m => let ⟨x, mx, e⟩ := List.mem_map.mp m; inj x s e ▸ mx⟩
  · rw [← pm.length_eq, eL, List.length_map]
theorem tags_fn (n : Nat) (Q : List Pr) (hl : Q.length ≤ 500) : ∃ L : List Str, tab fs (n + 1) 14 [.tup (Q.map pr)] = .ok (.lst true (L.map D.str)) [none] ∧ L.Nodup ∧ (∀ s, s ∈ L ↔ (∃ q ∈ Q, q.1 = s) ∨ ∃ q ∈ Q, q.2 = s) ∧ L.length ≤ 2 * Q.length := by
  have r0 := col_run (tab fs n) none Q 0 (·.1) (fun q => rfl) hl
  have r1 := col_run (tab fs n) none Q 1 (·.2) (fun q => rfl) hl
  obtain ⟨A, eA⟩ : ∃ A, A = Q.map (·.1) ++ Q.map (·.2) := ⟨_, rfl⟩
  have lA : A.length = 2 * Q.length := by rw [eA, List.length_append, List.length_map, List.length_map]; omega
  have mem : ∀ k ∈ ddK [] (A.map stK), ∃ s ∈ A, k = stK s := fun k m => by
    rw [ddK_mem] at m
    obtain ⟨s, ms, e⟩ := List.mem_map.mp (m.resolve_left fun z => nomatch z)
    exact ⟨s, ms, e.symm⟩
  obtain ⟨L, eL, nL, mL, lL⟩ := order_strs (ddK [] (A.map stK)) (ddK_nodup _ [] List.nodup_nil) fun k m => let ⟨s, _, e⟩ := mem k m; ⟨s, e⟩
  have so := sortable_strs (ddK [] (A.map stK)) fun k m => let ⟨s, _, e⟩ := mem k m; ⟨s, e⟩
  have len := ddK_len (A.map stK) []
  simp only [List.length_nil, List.length_map] at len
  refine ⟨L, ?_, nL, fun s => ?_, by omega⟩
  · have st : stD (A.map D.str) = some (.st true (ddK [] (A.map stK))) := by
      unfold stD
      rw [keys_strs]
      have hq : headQ (A.map stK) = false := by cases A <;> rfl
      have c1 : ((A.map stK).all fun k => Zs.tupQ k == false) = true := List.all_eq_true.mpr fun k m => by
        obtain ⟨q, _, rfl⟩ := List.mem_map.mp m
        rfl
      have c2 : (A.map stK).length < Zs.roomFor false := by
        rw [List.length_map]
        have : Zs.roomFor false = 4096 := rfl
        omega
      dsimp only
      rw [hq, if_pos ⟨c1, c2⟩]
    have ad : binD .Add (.lst true ((Q.map (·.1)).map D.str)) (.lst true ((Q.map (·.2)).map D.str)) = some (.lst true (A.map D.str)) := by
      rw [binD, if_pos (by simp; unfold big; omega), eA, List.map_append]
    have kd : (L.map stK).map kD = L.map D.str := by rw [List.map_map]; rfl
    have s1 : biD .set [.lst false (A.map D.str)] = some (.st true (ddK [] (A.map stK))) := st
    have s2 : biD .sorted [.st false (ddK [] (A.map stK))] = some (.lst true (L.map D.str)) := by
      show (if Zs.sortableK (ddK [] (A.map stK)) = true then some (D.lst true ((Zs.sortK (ddK [] (A.map stK))).map kD)) else none) = _
      rw [if_pos so, eL, kd]
    have fA : frzL (A.map D.str) = A.map D.str := isFL_frz (isF_strs A)
    rw [tab, show fs[14]? = some ⟨1, 2, [], b14⟩ from rfl]
    refine run_rt (F := ⟨1, 2, [], b14⟩) (e := [some (.tup (Q.map pr)), none]) rfl ?_
    show dSs (tab fs n) b14 [some (.tup (Q.map pr)), none] = _
    rw [b14_eq]
    generalize (Q.map (·.1)).map D.str = bs at r0 ad
    generalize (Q.map (·.2)).map D.str = cs at r1 ad
    generalize Q.map pr = qs at r0 r1
    have f : isFL (A.map D.str) = true := isF_strs A
    simp [dSs, dS, dE, dEs, r0, r1, ad, R.bind, fz, isF, frz, fA, args1, s1, s2, ofO]
  · rw [mL, ddK_mem]
    have inj : ∀ a b : Str, stK a = stK b → a = b := fun a b e => by
      unfold stK at e
      simpa using e
    constructor
    · intro m
      obtain ⟨x, mx, e⟩ := List.mem_map.mp (m.resolve_left fun z => nomatch z)
      have := inj x s e
      subst this
      rw [eA, List.mem_append] at mx
      exact mx.imp (fun m => let ⟨q, mq, e⟩ := List.mem_map.mp m; ⟨q, mq, e⟩) (fun m => let ⟨q, mq, e⟩ := List.mem_map.mp m; ⟨q, mq, e⟩)
    · intro m
      refine .inr (List.mem_map.mpr ⟨s, ?_, rfl⟩)
      rw [eA, List.mem_append]
      exact m.imp (fun ⟨q, mq, e⟩ => List.mem_map.mpr ⟨q, mq, e⟩) (fun ⟨q, mq, e⟩ => List.mem_map.mpr ⟨q, mq, e⟩)
end K02

set_option Elab.async false
set_option linter.all false
set_option autoImplicit false
set_option maxRecDepth 100000
set_option maxHeartbeats 8000000
/-! P11: law k02: the first of a graph. -/
namespace K02
open PySem PySem.Spec Z M Pz
def endsE : E := .lc [2] (.n 2) (.var 0) .nil (.subv 2 (.c (.int 1)))
theorem ends_run (T : Tab) (x1 x2 : Option D) (Q : List Pr) (hl : Q.length ≤ 500) :
    dE T endsE [some (.tup (Q.map pr)), x1, x2] = .ok (.lst true ((Q.map (·.2)).map D.str)) [some (.tup (Q.map pr)), x1, x2] := by
  have hbig : (Q.map pr).length ≤ big := by rw [List.length_map]; unfold big; omega
  obtain ⟨e', lp, y, rfl⟩ := lcL_map (own := [2]) (tg := .n 2) (cs := dTs T .nil) (elt := dE T (.subv 2 (.c (.int 1)))) (fun e => ∃ y, e = [some (.tup (Q.map pr)), x1, y]) (fun d => subD d (.int 1)) (Q.map pr) [] [some (.tup (Q.map pr)), x1, x2] ⟨x2, rfl⟩ fun d m e ⟨y, he⟩ => by
    obtain ⟨q, mq, rfl⟩ := List.mem_map.mp m
    subst he
    have hf : subD (pr q) (.int 1) = some (.str q.2) := rfl
    refine ⟨[some (.tup (Q.map pr)), x1, some (pr q)], rfl, .inr ⟨_, .str q.2, [some (.tup (Q.map pr)), x1, some (pr q)], rfl, ?_, hf, some (pr q), rfl⟩⟩
    simp [dE, R.bind, rd, hf, isF]
  have fm : (Q.map pr).filterMap (fun d => subD d (.int 1)) = (Q.map (·.2)).map D.str := by
    clear lp hbig hl
    induction Q with
    | nil => rfl
    | cons q Q ih => rw [List.map_cons, List.filterMap_cons, ih]; rfl
  rw [List.nil_append, fm] at lp
  have hI : dIc T (.var 0) [some (.tup (Q.map pr)), x1, x2] = .ok (Q.map pr, none) [some (.tup (Q.map pr)), x1, x2] := by
    simp [dIc, rd, isF, isF_prs, items, ofO]
  rw [endsE, dE, hI, M.bind_ok, if_pos hbig, lp]
  rfl
def leadE : E := .lc [1] (.n 1) (.seq (.fn 14 (.raw (.v 0) .nil))) (.cons (.val (.cmp .NotIn (.v 1) endsE)) .nil) (.v 1)
theorem b15_eq : b15 = .cons (.ret (.sub leadE (.c (.int 0)))) .nil := rfl
theorem first_fn (n : Nat) (Q : List Pr) (hl : Q.length ≤ 500) (hQ : ∀ q ∈ Q, okP q = true) (he : ∃ q ∈ Q, ∀ p ∈ Q, p.2 ≠ q.1) :
    ∃ s, tab fs (n + 2) 15 [.tup (Q.map pr)] = .ok (.str s) [none] ∧ (∃ q ∈ Q, q.1 = s) ∧ ∀ p ∈ Q, p.2 ≠ s := by
  obtain ⟨L, hT, nd, mL, lL⟩ := tags_fn n Q hl
  have okL : ∀ s ∈ L, okS s = true := fun s m => by
    rcases (mL s).mp m with ⟨q, mq, e⟩ | ⟨q, mq, e⟩
    · have := hQ q mq; unfold okP at this; rw [Bool.and_eq_true] at this; rw [← e]; exact this.1
    · have := hQ q mq; unfold okP at this; rw [Bool.and_eq_true] at this; rw [← e]; exact this.2
  have okE : ∀ s ∈ Q.map (·.2), okS s = true := fun s m => by
    obtain ⟨q, mq, e⟩ := List.mem_map.mp m
    have := hQ q mq; unfold okP at this; rw [Bool.and_eq_true] at this; rw [← e]; exact this.2
  have hbig : (L.map D.str).length ≤ big := by rw [List.length_map]; unfold big; omega
  obtain ⟨e', lp, y, rfl⟩ := lcL_map (own := [1]) (tg := .n 1) (cs := dTs (tab fs (n + 1)) (.cons (.val (.cmp .NotIn (.v 1) endsE)) .nil)) (elt := dE (tab fs (n + 1)) (.v 1)) (fun e => ∃ y, e = [some (.tup (Q.map pr)), y, none])
    (fun d => match d with | .str s => if s ∈ Q.map (·.2) then none else some (.str s) | _ => none) (L.map D.str) [] [some (.tup (Q.map pr)), none, none] ⟨none, rfl⟩ fun d m e ⟨y, he⟩ => by
    obtain ⟨s, ms, rfl⟩ := List.mem_map.mp m
    subst he
    have hin := in_strs (okL s ms) okE
    have r := ends_run (tab fs (n + 1)) (some (.str s)) none Q hl
    have fE : frzL ((Q.map (·.2)).map D.str) = (Q.map (·.2)).map D.str := isFL_frz (isF_strs _)
    have ct : dTs (tab fs (n + 1)) (.cons (.val (.cmp .NotIn (.v 1) endsE)) .nil) [some (.tup (Q.map pr)), some (.str s), none] = .ok (!decide (s ∈ Q.map (·.2))) [some (.tup (Q.map pr)), some (.str s), none] := by
      generalize Q.map pr = qs at r
      generalize hes : Q.map (·.2) = es at r hin fE
      have hc : cmpD .NotIn (.str s) (.lst false (es.map D.str)) = some (!decide (s ∈ es)) := by
        show (inL (.str s) (es.map D.str)).map (!·) = _
        rw [hin]
        rfl
      have i1 : isF (D.str s) = true := rfl
      have i2 : isF (D.lst true (es.map D.str)) = false := rfl
      simp only [dTs, dT, dE, rd, List.getElem?_cons_succ, List.getElem?_cons_zero, Option.join_some, i1, if_true, M.bind_ok, r, fz, i2, Bool.false_eq_true, if_false, frz, fE, hc, Option.map_some, ofO, truth]
      cases decide (s ∈ es) <;> rfl
    refine ⟨[some (.tup (Q.map pr)), some (.str s), none], rfl, ?_⟩
    by_cases h : s ∈ Q.map (·.2)
    · refine .inl ⟨[some (.tup (Q.map pr)), some (.str s), none], ct.trans (by rw [decide_eq_true h]; rfl), by simp only [if_pos h], some (.str s), rfl⟩
    · refine .inr ⟨[some (.tup (Q.map pr)), some (.str s), none], .str s, [some (.tup (Q.map pr)), some (.str s), none], ct.trans (by rw [decide_eq_false h]; rfl), rfl, by simp only [if_neg h], some (.str s), rfl⟩
  have fm : (L.map D.str).filterMap (fun d => match d with | .str s => if s ∈ Q.map (·.2) then none else some (.str s) | _ => none) = (L.filter fun s => !decide (s ∈ Q.map (·.2))).map D.str := by
    clear lp hbig okL mL lL nd hT
    induction L with
    | nil => rfl
    | cons s L ih =>
      rw [List.map_cons, List.filterMap_cons, ih]
      by_cases h : s ∈ Q.map (·.2)
      · simp only [if_pos h, List.filter_cons, decide_eq_true h]
        rfl
      · simp only [if_neg h, List.filter_cons, decide_eq_false h]
        rfl
  rw [List.nil_append, fm] at lp
  obtain ⟨q0, m0, h0⟩ := he
  cases hF : L.filter (fun s => !decide (s ∈ Q.map (·.2))) with
  | nil =>
    exfalso
    have : q0.1 ∈ L.filter fun s => !decide (s ∈ Q.map (·.2)) := by
      rw [List.mem_filter]
      refine ⟨(mL _).mpr (.inl ⟨q0, m0, rfl⟩), ?_⟩
      rw [Bool.not_eq_true', decide_eq_false_iff_not]
      intro m
      obtain ⟨p, mp, e⟩ := List.mem_map.mp m
      exact h0 p mp e
    rw [hF] at this
    exact nomatch this
  | cons s R1 =>
    rw [hF] at lp
    have ms : s ∈ L.filter fun s => !decide (s ∈ Q.map (·.2)) := by rw [hF]; exact List.mem_cons_self
    obtain ⟨m1, m2⟩ := List.mem_filter.mp ms
    rw [Bool.not_eq_true', decide_eq_false_iff_not] at m2
    refine ⟨s, ?_, ?_, fun p mp e => m2 (List.mem_map.mpr ⟨p, mp, e⟩)⟩
    · have hI : dIc (tab fs (n + 1)) (.seq (.fn 14 (.raw (.v 0) .nil))) [some (.tup (Q.map pr)), none, none] = .ok (L.map D.str, none) [some (.tup (Q.map pr)), none, none] := by
        have f : isFL (Q.map pr) = true := isF_prs Q
        have fL : frzL (L.map D.str) = L.map D.str := isFL_frz (isF_strs L)
        generalize Q.map pr = qs at hT f
        generalize tab fs (n + 1) = T at hT
        simp [dIc, dE, dEs, R.bind, rd, isF, f, takeB, putB, hT, fz, frz, fL, items, ofO]
      have rL : dE (tab fs (n + 1)) leadE [some (.tup (Q.map pr)), none, none] = .ok (.lst true ((s :: R1).map D.str)) [some (.tup (Q.map pr)), none, none] := by
        rw [leadE, dE, hI, M.bind_ok, if_pos hbig, lp]
        rfl
      rw [tab, show fs[15]? = some ⟨1, 3, [], b15⟩ from rfl]
      refine run_rt (F := ⟨1, 3, [], b15⟩) (e := [some (.tup (Q.map pr)), none, none]) rfl ?_
      show dSs (tab fs (n + 1)) b15 [some (.tup (Q.map pr)), none, none] = _
      rw [b15_eq, dSs, dS, dE, rL]
      have fR : frzL ((s :: R1).map D.str) = (s :: R1).map D.str := isFL_frz (isF_strs _)
      have i2 : fz (D.lst true ((s :: R1).map D.str)) = .lst false ((s :: R1).map D.str) := by
        rw [fz_eq, frz, fR]
      have at0 : subD (.lst false ((s :: R1).map D.str)) (.int 0) = some (.str s) := at_strs (W := s :: R1) (m := 0) false (by simp)
      simp only [M.bind_ok, dE, i2, at0, ofO]
    · rcases (mL s).mp m1 with h | ⟨q, mq, e⟩
      · exact h
      · exact absurd (List.mem_map.mpr ⟨q, mq, e⟩) m2
end K02

set_option Elab.async false
set_option linter.all false
set_option autoImplicit false
set_option maxRecDepth 100000
set_option maxHeartbeats 8000000
/-! P12: law k02: entry and exit, of tuples and of lists. -/
namespace K02
open PySem PySem.Spec Z M Pz
/-- the pairs of a graph, however they are laid -/
structure Laid (g : D) (rows : List D) (Q : List Pr) : Prop where
  fr : isF g = true
  it : items g = some rows
  at0 : rows.map (fun d => subD d (.int 0)) = Q.map fun q => some (.str q.1)
  at1 : rows.map (fun d => subD d (.int 1)) = Q.map fun q => some (.str q.2)
def setE (k : Int) : E := .sc [1] (.n 1) (.seq (.v 0)) .nil (.subv 1 (.c (.int k)))
theorem stD_strs {A : List Str} (h : A.length < 4096) : stD (A.map D.str) = some (.st true (ddK [] (A.map stK))) := by
  unfold stD
  rw [keys_strs]
  have hq : headQ (A.map stK) = false := by cases A <;> rfl
  have c1 : ((A.map stK).all fun k => Zs.tupQ k == false) = true := List.all_eq_true.mpr fun k m => by
    obtain ⟨q, _, rfl⟩ := List.mem_map.mp m
    rfl
  have c2 : (A.map stK).length < Zs.roomFor false := by
    rw [List.length_map]
    exact h
  dsimp only
  rw [hq, if_pos ⟨c1, c2⟩]
theorem set_run (T : Tab) (x1 : Option D) (g : D) (rows : List D) (A : List Str) (k : Int) (fr : isF g = true) (it : items g = some rows) (at_ : rows.map (fun d => subD d (.int k)) = A.map fun s => some (.str s)) (hl : A.length ≤ 500) :
    dE T (setE k) [some g, x1] = .ok (.st true (ddK [] (A.map stK))) [some g, x1] := by
  have lr : rows.length = A.length := by
    have := congrArg List.length at_
    simpa using this
  have hbig : rows.length ≤ big := by unfold big; omega
  have each : ∀ d ∈ rows, ∃ s, subD d (.int k) = some (.str s) := fun d m => by
    have : subD d (.int k) ∈ rows.map (fun d => subD d (.int k)) := List.mem_map.mpr ⟨d, m, rfl⟩
    rw [at_] at this
    obtain ⟨s, _, e⟩ := List.mem_map.mp this
    exact ⟨s, e.symm⟩
  obtain ⟨e', lp, y, rfl⟩ := lcL_map (own := [1]) (tg := .n 1) (cs := dTs T .nil) (elt := fun e => (dE T (.subv 1 (.c (.int k))) e).bind fun d e => .ok (fz d) e) (fun e => ∃ y, e = [some g, y]) (fun d => subD d (.int k)) rows [] [some g, x1] ⟨x1, rfl⟩ fun d m e ⟨y, he⟩ => by
    obtain ⟨s, hs⟩ := each d m
    subst he
    refine ⟨[some g, some d], rfl, .inr ⟨_, .str s, [some g, some d], rfl, ?_, hs, some d, rfl⟩⟩
    simp [dE, R.bind, rd, hs, isF, fz]
  have fm : rows.filterMap (fun d => subD d (.int k)) = A.map D.str := by
    clear lp hbig hl each it
    induction rows generalizing A with
    | nil =>
      cases A with
      | nil => rfl
      | cons _ _ => cases lr
    | cons d rows ih =>
      cases A with
      | nil => cases lr
      | cons s A =>
        rw [List.map_cons, List.map_cons] at at_
        injection at_ with e1 e2
        rw [List.filterMap_cons, e1, ih A e2 (Nat.succ.inj lr)]
        rfl
  rw [List.nil_append, fm] at lp
  have hI : dI T (.seq (.v 0)) [some g, x1] = .ok rows [some g, x1] := by
    have f2 : fz g = g := by unfold fz; rw [if_pos fr]
    simp [dI, dE, R.bind, rd, fr, f2, it, ofO]
  rw [setE, dE, hI, M.bind_ok, if_pos hbig, lp]
  dsimp only
  rw [stD_strs (by omega)]
  rfl
theorem nodup_sub {α : Type} [DecidableEq α] : ∀ {a b : List α}, a.Nodup → (∀ x ∈ a, x ∈ b) → a.length ≤ b.length
  | [], _, _, _ => Nat.zero_le _
  | x :: a, b, n, h => by
    obtain ⟨n1, n2⟩ := List.nodup_cons.mp n
    have hx := h x List.mem_cons_self
    have ih := nodup_sub (b := b.erase x) n2 fun y m => (List.mem_erase_of_ne fun e => n1 (by rw [← e]; exact m)).mpr (h y (List.mem_cons_of_mem _ m))
    have e := List.length_erase_of_mem hx
    have p := List.length_pos_of_mem hx
    rw [List.length_cons]
    omega
theorem mem_dd {A : List Str} {s : Str} : stK s ∈ ddK [] (A.map stK) ↔ s ∈ A := by
  rw [ddK_mem]
  constructor
  · intro m
    obtain ⟨x, mx, e⟩ := List.mem_map.mp (m.resolve_left fun z => nomatch z)
    unfold stK at e
    simp only [Sum.inl.injEq, Sum.inr.injEq] at e
    rw [← e]; exact mx
  · exact fun m => .inr (List.mem_map.mpr ⟨s, m, rfl⟩)
/-- the one that is among A and not among B -/
theorem odd_run (T : Tab) (k k' : Int) (g : D) (rows : List D) (A B : List Str) (fr : isF g = true) (it : items g = some rows) (hA : rows.map (fun d => subD d (.int k)) = A.map fun s => some (.str s)) (hB : rows.map (fun d => subD d (.int k')) = B.map fun s => some (.str s)) (lA : A.length ≤ 500) (lB : B.length ≤ 500)
    (s : Str) (sA : s ∈ A) (sB : s ∉ B) (one : ∀ x ∈ A, x ∉ B → x = s) (ne : B ≠ []) :
    dSs T (.cons (.ret (.sub (.bi .sorted (.cons (.bin .Sub (setE k) (setE k')) .nil)) (.c (.int 0)))) .nil) [some g, none] = .ok (.rt (.str s)) [some g, none] := by
  have r0 := set_run T none g rows A k fr it hA lA
  have r1 := set_run T none g rows B k' fr it hB lB
  have flat : ∀ C : List Str, ((ddK [] (C.map stK)).all fun k => !Zs.tupQ k) = true := fun C => List.all_eq_true.mpr fun j m => by
    rw [ddK_mem] at m
    obtain ⟨x, _, rfl⟩ := List.mem_map.mp (m.resolve_left fun z => nomatch z)
    rfl
  have nA := ddK_nodup (A.map stK) [] List.nodup_nil
  have nB := ddK_nodup (B.map stK) [] List.nodup_nil
  have lAB : (ddK [] (A.map stK)).length ≤ (stK s :: ddK [] (B.map stK)).length := nodup_sub nA fun j m => by
    have m' := m
    rw [ddK_mem] at m'
    obtain ⟨x, mx, rfl⟩ := List.mem_map.mp (m'.resolve_left fun z => nomatch z)
    by_cases h : x ∈ B
    · exact List.mem_cons_of_mem _ (mem_dd.mpr h)
    · rw [one x mx h]; exact List.mem_cons_self
  have lB1 : 1 ≤ (ddK [] (B.map stK)).length := by
    cases B with
    | nil => exact absurd rfl ne
    | cons b B => exact List.length_pos_of_mem (mem_dd.mpr List.mem_cons_self)
  rw [List.length_cons] at lAB
  have dif : (ddK [] (A.map stK)).filter (fun k => !Zs.hasK (ddK [] (B.map stK)) k) = [stK s] := by
    have nF : ((ddK [] (A.map stK)).filter fun k => !Zs.hasK (ddK [] (B.map stK)) k).Nodup := nA.filter _
    have mF : ∀ j, j ∈ (ddK [] (A.map stK)).filter (fun k => !Zs.hasK (ddK [] (B.map stK)) k) ↔ j = stK s := fun j => by
      rw [List.mem_filter]
      constructor
      · rintro ⟨m, h⟩
        have m' := m
        rw [ddK_mem] at m'
        obtain ⟨x, mx, rfl⟩ := List.mem_map.mp (m'.resolve_left fun z => nomatch z)
        rw [one x mx fun hx => ?_]
        rw [Zs.hasK_iff.mpr (mem_dd.mpr hx)] at h
        exact nomatch h
      · rintro rfl
        refine ⟨mem_dd.mpr sA, ?_⟩
        cases e : Zs.hasK (ddK [] (B.map stK)) (stK s) with
        | false => rfl
        | true => exact absurd (mem_dd.mp (Zs.hasK_iff.mp e)) sB
    match h : (ddK [] (A.map stK)).filter (fun k => !Zs.hasK (ddK [] (B.map stK)) k), nF, mF with
    | [], _, mF => exact absurd ((mF (stK s)).mpr rfl) (by simp)
    | [x], _, mF => rw [(mF x).mp List.mem_cons_self]
    | x :: y :: r, nF, mF =>
      have e1 := (mF x).mp List.mem_cons_self
      have e2 := (mF y).mp (List.mem_cons_of_mem _ List.mem_cons_self)
      rw [e1, e2] at nF
      exact absurd nF (by simp)
  have sb : binD .Sub (.st true (ddK [] (A.map stK))) (.st true (ddK [] (B.map stK))) = some (.st true [stK s]) := by
    rw [binD, if_pos ⟨flat A, flat B, by omega⟩, dif]
  have s2 : biD .sorted [.st false [stK s]] = some (.lst true [.str s]) := rfl
  have at0 : subD (.lst false [.str s]) (.int 0) = some (.str s) := rfl
  generalize ddK [] (A.map stK) = ka at r0 sb
  generalize ddK [] (B.map stK) = kb at r1 sb
  simp [dSs, dS, dE, dEs, r0, r1, sb, R.bind, fz, isF, isFL, frz, frzL, args1, s2, at0, ofO]
end K02

set_option Elab.async false
set_option linter.all false
set_option autoImplicit false
set_option maxRecDepth 100000
set_option maxHeartbeats 8000000
/-! P13: law k02: what a drawn graph's ends are. -/
namespace K02
open PySem PySem.Spec Z M Pz
structure Ends (Q : List Pr) (s t : Str) : Prop where
  ok : ∀ q ∈ Q, okP q = true
  len : Q.length ≤ 20
  sA : s ∈ Q.map (·.1)
  sB : s ∉ Q.map (·.2)
  s1 : ∀ x ∈ Q.map (·.1), x ∉ Q.map (·.2) → x = s
  tA : t ∈ Q.map (·.2)
  tB : t ∉ Q.map (·.1)
  t1 : ∀ x ∈ Q.map (·.2), x ∉ Q.map (·.1) → x = t
theorem nodup_at {W : List Str} (nd : W.Nodup) {i j : Nat} (hi : i < W.length) (hj : j < W.length) (e : W[i] = W[j]) : i = j := by
  have hx : W[i]? = W[j]? := by rw [List.getElem?_eq_getElem hi, List.getElem?_eq_getElem hj, e]
  exact (List.getElem?_inj hi nd).mp hx
theorem web_ends {Q : List Pr} (h : Web Q) : ∃ s t, Ends Q s t := by
  obtain ⟨W, h2, h9, nd, okW, fw, inn, out, hl⟩ := h
  have mem1 : ∀ x, x ∈ Q.map (·.1) ↔ ∃ q ∈ Q, q.1 = x := fun x => ⟨fun m => let ⟨q, mq, e⟩ := List.mem_map.mp m; ⟨q, mq, e⟩, fun ⟨q, mq, e⟩ => List.mem_map.mpr ⟨q, mq, e⟩⟩
  have mem2 : ∀ x, x ∈ Q.map (·.2) ↔ ∃ q ∈ Q, q.2 = x := fun x => ⟨fun m => let ⟨q, mq, e⟩ := List.mem_map.mp m; ⟨q, mq, e⟩, fun ⟨q, mq, e⟩ => List.mem_map.mpr ⟨q, mq, e⟩⟩
  have h0 : 0 < W.length := by omega
  have hn : W.length - 1 < W.length := by omega
  refine ⟨W[0], W[W.length - 1], fw.ok okW, hl, (mem1 _).mpr (out 0 (by omega)), fun m => ?_, fun x m no => ?_, (mem2 _).mpr (inn (W.length - 1) (by omega) hn), fun m => ?_, fun x m no => ?_⟩
  · obtain ⟨q, mq, e⟩ := (mem2 _).mp m
    obtain ⟨i, j, hij, hj, rfl⟩ := fw q mq
    have := nodup_at nd hj h0 e
    omega
  · obtain ⟨q, mq, rfl⟩ := (mem1 _).mp m
    obtain ⟨i, j, hij, hj, rfl⟩ := fw q mq
    by_cases hi : i = 0
    · subst hi; rfl
    · exact absurd ((mem2 _).mpr (inn i (by omega) (by omega))) no
  · obtain ⟨q, mq, e⟩ := (mem1 _).mp m
    obtain ⟨i, j, hij, hj, rfl⟩ := fw q mq
    have := nodup_at nd (show i < W.length by omega) hn e
    omega
  · obtain ⟨q, mq, rfl⟩ := (mem2 _).mp m
    obtain ⟨i, j, hij, hj, rfl⟩ := fw q mq
    by_cases hi : j = W.length - 1
    · subst hi; rfl
    · exact absurd ((mem1 _).mpr (out j (by omega))) no
theorem entry_fn (n : Nat) {Q : List Pr} {s t : Str} (E : Ends Q s t) {g : D} {rows : List D} (L : Laid g rows Q) : tab fs (n + 1) 4 [g] = .ok (.str s) [none] := by
  rw [tab, show fs[4]? = some ⟨1, 2, [], b4⟩ from rfl]
  have l := E.len
  refine run_rt (F := ⟨1, 2, [], b4⟩) (e := [some g, none]) rfl (odd_run (tab fs n) 0 1 g rows (Q.map (·.1)) (Q.map (·.2)) L.fr L.it (by rw [L.at0, List.map_map]; rfl) (by rw [L.at1, List.map_map]; rfl) (by rw [List.length_map]; omega) (by rw [List.length_map]; omega) s E.sA E.sB E.s1 fun z => ?_)
  have := E.tA
  rw [z] at this
  exact nomatch this
theorem exit_fn (n : Nat) {Q : List Pr} {s t : Str} (E : Ends Q s t) {g : D} {rows : List D} (L : Laid g rows Q) : tab fs (n + 1) 5 [g] = .ok (.str t) [none] := by
  rw [tab, show fs[5]? = some ⟨1, 2, [], b5⟩ from rfl]
  have l := E.len
  refine run_rt (F := ⟨1, 2, [], b5⟩) (e := [some g, none]) rfl (odd_run (tab fs n) 1 0 g rows (Q.map (·.2)) (Q.map (·.1)) L.fr L.it (by rw [L.at1, List.map_map]; rfl) (by rw [L.at0, List.map_map]; rfl) (by rw [List.length_map]; omega) (by rw [List.length_map]; omega) t E.tA E.tB E.t1 fun z => ?_)
  have := E.sA
  rw [z] at this
  exact nomatch this
/-- a graph as tuples, as lists -/
def prL (q : Pr) : D := .lst false [.str q.1, .str q.2]
theorem laidT (Q : List Pr) : Laid (.tup (Q.map pr)) (Q.map pr) Q where
  fr := by rw [isF, isF_prs]
  it := rfl
  at0 := by rw [List.map_map]; rfl
  at1 := by rw [List.map_map]; rfl
theorem isF_prLs : ∀ W : List Pr, isFL (W.map prL) = true
  | [] => rfl
  | p :: W => by rw [List.map_cons, isFL, isF_prLs W]; rfl
theorem laidL (Q : List Pr) : Laid (.lst false (Q.map prL)) (Q.map prL) Q where
  fr := by rw [isF, isF_prLs]; rfl
  it := rfl
  at0 := by rw [List.map_map]; rfl
  at1 := by rw [List.map_map]; rfl
end K02

set_option Elab.async false
set_option linter.all false
set_option autoImplicit false
set_option maxRecDepth 100000
set_option maxHeartbeats 8000000
/-! P14: law k02: plain, steps. -/
namespace K02
open PySem PySem.Spec Z M Pz
theorem plain_str (n : Nat) (s : Str) : tab fs (n + 1) 0 [.str s] = .ok (.str s) [none] := by
  rw [tab, show fs[0]? = some ⟨1, 2, [], b0⟩ from rfl]
  refine run_rt (F := ⟨1, 2, [], b0⟩) (e := [none, none]) rfl ?_
  rfl
def plE : E := .gen .tuple [1] (.n 1) (.seq (.v 0)) .nil (.fn 0 (.raw (.v 1) .nil))
theorem b0_eq : b0 = .cons (.ite (.val (.isi (.v 0) [.list, .tuple] false)) (.cons (.ret plE) .nil) .nil) (.cons (.ret (.mv 0)) .nil) := rfl
theorem plain_seq (n : Nat) (g : D) (rows : List D) (f : D → D) (hg : g = .tup rows ∨ g = .lst false rows) (fr : isFL rows = true) (hl : rows.length ≤ 500) (h : ∀ d ∈ rows, isF d = true ∧ isF (f d) = true ∧ tab fs n 0 [d] = .ok (f d) [none]) :
    tab fs (n + 1) 0 [g] = .ok (.tup (rows.map f)) [none] := by
  have hbig : rows.length ≤ big := by unfold big; omega
  have gF : isF g = true := by rcases hg with e | e <;> rw [e, isF, fr] <;> rfl
  have gi : items g = some rows := by rcases hg with e | e <;> rw [e] <;> rfl
  have gt : tyAny g [.list, .tuple] = some true := by rcases hg with e | e <;> rw [e] <;> rfl
  have gz : fz g = g := by unfold fz; rw [if_pos gF]
  obtain ⟨e', lp, y, rfl⟩ := lcL_map (own := [1]) (tg := .n 1) (cs := dTs (tab fs n) .nil) (elt := fun e => (dE (tab fs n) (.fn 0 (.raw (.v 1) .nil)) e).bind fun d e => .ok (fz d) e) (fun e => ∃ y, e = [some g, y]) (fun d => some (f d)) rows [] [some g, none] ⟨none, rfl⟩ fun d m e ⟨y, he⟩ => by
    obtain ⟨h1, h2, h3⟩ := h d m
    subst he
    have h4 : fz (f d) = f d := by unfold fz; rw [if_pos h2]
    refine ⟨[some g, some d], rfl, .inr ⟨_, f d, [some g, some d], rfl, ?_, rfl, some d, rfl⟩⟩
    generalize tab fs n = T at h3
    simp [dE, dEs, R.bind, rd, h1, takeB, putB, h3, h4]
  have fm : rows.filterMap (fun d => some (f d)) = rows.map f := by
    clear lp hbig hl h hg fr gi
    induction rows with
    | nil => rfl
    | cons d rows ih => rw [List.filterMap_cons, ih]; rfl
  rw [List.nil_append, fm] at lp
  have hI : dI (tab fs n) (.seq (.v 0)) [some g, none] = .ok rows [some g, none] := by
    simp [dI, dE, R.bind, rd, gF, gz, gi, ofO]
  have hG : dE (tab fs n) plE [some g, none] = .ok (.tup (rows.map f)) [some g, none] := by
    rw [plE, dE, hI, M.bind_ok, if_pos hbig, lp]
    rfl
  rw [tab, show fs[0]? = some ⟨1, 2, [], b0⟩ from rfl]
  refine run_rt (F := ⟨1, 2, [], b0⟩) (e := [some g, none]) rfl ?_
  show dSs (tab fs n) b0 [some g, none] = _
  rw [b0_eq]
  have ht : dT (tab fs n) (.val (.isi (.v 0) [.list, .tuple] false)) [some g, none] = .ok true [some g, none] := by
    simp [dT, dE, R.bind, rd, gF, gt, ofO, truth]
  have hi := ite_ok (a := .cons (.ret plE) .nil) (b := .nil) ht (o := .ok (.rt (.tup (rows.map f))) [some g, none]) (by
    rw [if_pos rfl, dSs, dS, hG]
    rfl)
  rw [dSs, hi]
theorem plain_web (n : Nat) (Q : List Pr) (hl : Q.length ≤ 500) (o : Bool) : tab fs (n + 3) 0 [if o = true then .tup (Q.map pr) else .lst false (Q.map prL)] = .ok (.tup (Q.map pr)) [none] := by
  have pair : ∀ (q : Pr) (g : D), g = .tup [.str q.1, .str q.2] ∨ g = .lst false [.str q.1, .str q.2] → tab fs (n + 2) 0 [g] = .ok (pr q) [none] := fun q g hg => by
    have := plain_seq (n + 1) g [.str q.1, .str q.2] id hg rfl (by simp) fun d m => by
      rcases List.mem_cons.mp m with e | m
      · rw [e]; exact ⟨rfl, rfl, plain_str n _⟩
      · rw [List.mem_singleton.mp m]; exact ⟨rfl, rfl, plain_str n _⟩
    rw [List.map_id] at this
    exact this
  cases o with
  | true =>
    have := plain_seq (n + 2) (.tup (Q.map pr)) (Q.map pr) id (.inl rfl) (isF_prs Q) (by rw [List.length_map]; exact hl) fun d m => by
      obtain ⟨q, _, rfl⟩ := List.mem_map.mp m
      exact ⟨rfl, rfl, pair q _ (.inl rfl)⟩
    rw [List.map_id] at this
    exact this
  | false =>
    have := plain_seq (n + 2) (.lst false (Q.map prL)) (Q.map prL) (fun d => match d with | .lst _ xs => .tup xs | d => d) (.inr rfl) (isF_prLs Q) (by rw [List.length_map]; exact hl) fun d m => by
      obtain ⟨q, _, rfl⟩ := List.mem_map.mp m
      exact ⟨rfl, rfl, pair q _ (.inr rfl)⟩
    rw [List.map_map] at this
    exact this
/-- the steps of a row -/
def pairs : List Str → List Pr
  | a :: b :: r => (a, b) :: pairs (b :: r)
  | _ => []
end K02

set_option Elab.async false
set_option linter.all false
set_option autoImplicit false
set_option maxRecDepth 100000
set_option maxHeartbeats 8000000
/-! P15: law k02: the steps of a row. -/
namespace K02
open PySem PySem.Spec Z M Pz
theorem pairs_len : ∀ W : List Str, (pairs W).length = W.length - 1
  | [] => rfl
  | [_] => rfl
  | a :: b :: r => by rw [pairs, List.length_cons, pairs_len (b :: r)]; rfl
theorem pairs_at : ∀ (W : List Str) (k : Nat) (h : k + 1 < W.length), (pairs W)[k]? = some (W[k], W[k + 1])
  | [], k, h => by simp at h
  | [_], k, h => by simp at h
  | a :: b :: r, 0, h => rfl
  | a :: b :: r, k + 1, h => by
    rw [pairs, List.getElem?_cons_succ, pairs_at (b :: r) k (by simpa using h)]
    rfl
theorem tup_strs {W : List Str} {m : Nat} (h : m < W.length) : subD (.tup (W.map D.str)) (.int (m : Int)) = some (.str W[m]) := by
  rw [subD]
  unfold L2.atI L2.ixN
  rw [if_pos (by omega), if_pos (by rw [List.length_map]; omega)]
  simp [h]
def stpE : E := .tup (.cons (.subv 0 (.v 1)) (.cons (.subv 0 (.bin .Add (.v 1) (.c (.int 1)))) .nil))
def stpI : It := .rng (.cons (.bin .Sub (.lenv 0) (.c (.int 1))) .nil)
theorem b1_eq : b1 = .cons (.ret (.lc [1] (.n 1) stpI .nil stpE)) .nil := rfl
theorem stp_at (T : Tab) (W : List Str) (k : Nat) (h : k + 1 < W.length) : dE T stpE [some (.tup (W.map D.str)), some (.int k)] = .ok (pr (W[k], W[k + 1])) [some (.tup (W.map D.str)), some (.int k)] := by
  have h0 := tup_strs (W := W) (m := k) (by omega)
  have h1 := tup_strs (W := W) (m := k + 1) h
  rw [show ((k + 1 : Nat) : Int) = (k : Int) + 1 from rfl] at h1
  have fr : isFL (W.map D.str) = true := isF_strs W
  have hb2 : (2 : Nat) ≤ big := by decide
  simp [stpE, dE, dEs, R.bind, rd, h0, h1, ofO, isF, fr, fz, pr, isFL, hb2, binD, args1]
theorem steps_fn (n : Nat) (W : List Str) (h1 : 1 ≤ W.length) (hl : W.length ≤ 20) : tab fs (n + 1) 1 [.tup (W.map D.str)] = .ok (.lst true ((pairs W).map pr)) [none] := by
  have hI : dIc (tab fs n) stpI [some (.tup (W.map D.str)), none] = .ok ((List.range (W.length - 1)).map (fun (k : Nat) => D.int (Int.ofNat k)), none) [some (.tup (W.map D.str)), none] := by
    have r := rng_at (W.length - 1) (by omega)
    have e : ((W.length - 1 : Nat) : Int) = (W.length : Int) - 1 := by omega
    rw [e] at r
    have hd : dEs (tab fs n) (.cons (.bin .Sub (.lenv 0) (.c (.int 1))) .nil) [some (.tup (W.map D.str)), none] = .ok [.inl (.int ((W.length : Int) - 1))] [some (.tup (W.map D.str)), none] := by
      simp [dEs, dE, R.bind, rd, isF, isF_strs, fz, ofO, binD, biD, args1]
    rw [stpI, dIc, hd, M.bind_ok, show args1 [.inl (D.int ((W.length : Int) - 1))] = some [.int ((W.length : Int) - 1)] from rfl, r]
    rfl
  obtain ⟨acc, e', lp, hacc, y, rfl⟩ := lcL_by (own := [1]) (tg := .n 1) (cs := dTs (tab fs n) .nil) (elt := dE (tab fs n) stpE)
    (fun i acc e => acc = ((pairs W).take i).map pr ∧ ∃ y, e = [some (.tup (W.map D.str)), y]) ((List.range (W.length - 1)).map (fun (k : Nat) => D.int (Int.ofNat k))) 0 [] [some (.tup (W.map D.str)), none] ⟨rfl, none, rfl⟩
    fun k d hk acc e ⟨ha, y, he⟩ => by
      rw [Nat.zero_add] at ha
      rw [Nat.zero_add]
      have hk2 : k < W.length - 1 := by
        have := (List.getElem?_eq_some_iff.mp hk).1
        simpa using this
      have hd : d = .int (k : Int) := by
        rw [List.getElem?_map, List.getElem?_range hk2] at hk
        exact (Option.some.inj hk).symm
      subst hd he ha
      refine ⟨[some (.tup (W.map D.str)), some (.int k)], rfl, .inr ⟨_, pr (W[k], W[k + 1]), [some (.tup (W.map D.str)), some (.int k)], rfl, ?_, ?_, some (.int k), rfl⟩⟩
      · exact stp_at _ W k (by omega)
      · rw [List.take_succ, pairs_at W k (by omega), Option.toList_some, List.map_append]
        rfl
  rw [Nat.zero_add, List.length_map, List.length_range, ← pairs_len W, List.take_length] at hacc
  rw [hacc] at lp
  have hbig : ((List.range (W.length - 1)).map (fun (k : Nat) => D.int (Int.ofNat k))).length ≤ big := by rw [List.length_map, List.length_range]; unfold big; omega
  have hG : dE (tab fs n) (.lc [1] (.n 1) stpI .nil stpE) [some (.tup (W.map D.str)), none] = .ok (.lst true ((pairs W).map pr)) [some (.tup (W.map D.str)), none] := by
    rw [dE, hI, M.bind_ok]
    dsimp only
    rw [if_pos hbig]
    first
    | (rw [lp]; rfl)
  rw [tab, show fs[1]? = some ⟨1, 2, [], b1⟩ from rfl]
  refine run_rt (F := ⟨1, 2, [], b1⟩) (e := [some (.tup (W.map D.str)), none]) rfl ?_
  show dSs (tab fs n) b1 [some (.tup (W.map D.str)), none] = _
  rw [b1_eq, dSs, dS, hG]
  rfl
end K02

set_option Elab.async false
set_option linter.all false
set_option autoImplicit false
set_option maxRecDepth 100000
set_option maxHeartbeats 8000000
/-! P16: law k02: is a row a path. -/
namespace K02
open PySem PySem.Spec Z M Pz
def shortT : Te := .or (.not (.val (.isi (.v 1) [.tuple] true))) (.val (.cmp .Lt (.lenv 1) (.c (.int 2))))
theorem short_run (T : Tab) (W : List Str) (x0 : Option D) (r : Ev) : dT T shortT (x0 :: some (.tup (W.map D.str)) :: r) = .ok (decide (W.length < 2)) (x0 :: some (.tup (W.map D.str)) :: r) := by
  have fr : isF (.tup (W.map D.str)) = true := by rw [isF]; exact isF_strs W
  have ty : tyAny (.tup (W.map D.str)) [.tuple] = some true := rfl
  have h1 : dE T (.v 1) (x0 :: some (.tup (W.map D.str)) :: r) = .ok (.tup (W.map D.str)) (x0 :: some (.tup (W.map D.str)) :: r) := by simp [dE, rd, fr]
  have h2 : dE T (.isi (.v 1) [.tuple] true) (x0 :: some (.tup (W.map D.str)) :: r) = .ok (.bl true) (x0 :: some (.tup (W.map D.str)) :: r) := by
    simp [dE, R.bind, rd, fr, fz, ty, ofO]
  have h3 : dE T (.lenv 1) (x0 :: some (.tup (W.map D.str)) :: r) = .ok (.int W.length) (x0 :: some (.tup (W.map D.str)) :: r) := by
    simp [dE, rd, biD, ofO]
  have h4 : dE T (.cmp .Lt (.lenv 1) (.c (.int 2))) (x0 :: some (.tup (W.map D.str)) :: r) = .ok (.bl (decide (W.length < 2))) (x0 :: some (.tup (W.map D.str)) :: r) := by
    have : decide ((W.length : Int) < 2) = decide (W.length < 2) := by
      rw [decide_eq_decide]
      omega
    rw [dE, h3, M.bind_ok]
    simp [dE, R.bind, cmpD, ofO, fz, isF, this]
  rw [shortT, dT, dT, dT, h2, M.bind_ok]
  show (R.ok (!true) _ |>.bind _) = _
  rw [M.bind_ok]
  show dT T (.val (.cmp .Lt (.lenv 1) (.c (.int 2)))) _ = _
  rw [dT, h4, M.bind_ok]
  rfl
theorem bls_map : ∀ l : List Bool, blsD (l.map D.bl) = some l
  | [] => rfl
  | b :: l => by rw [List.map_cons, blsD, bls_map l]; rfl
theorem pairs_mem : ∀ (W : List Str) (p : Pr), p ∈ pairs W → p.1 ∈ W ∧ p.2 ∈ W
  | [], p, m => nomatch m
  | [_], p, m => nomatch m
  | a :: b :: r, p, m => by
    rw [pairs, List.mem_cons] at m
    rcases m with e | m
    · subst e
      exact ⟨List.mem_cons_self, List.mem_cons_of_mem _ List.mem_cons_self⟩
    · obtain ⟨h1, h2⟩ := pairs_mem (b :: r) p m
      exact ⟨List.mem_cons_of_mem _ h1, List.mem_cons_of_mem _ h2⟩
theorem pairs_ok {W : List Str} (h : ∀ s ∈ W, okS s = true) : ∀ p ∈ pairs W, okP p = true := fun p m => by
  obtain ⟨a, b⟩ := pairs_mem W p m
  unfold okP
  rw [h _ a, h _ b]
  rfl
def isPath (Q : List Pr) (W : List Str) : Bool := decide (2 ≤ W.length) && (pairs W).all fun p => decide (p ∈ Q)
def inE : E := .bi .all (.cons (.lc [2] (.n 2) (.seq (.fn 1 (.raw (.v 1) .nil))) .nil (.cmp .In (.v 2) (.v 0))) .nil)
theorem b2_eq : b2 = .cons (.as (.n 0) (.fn 0 (.raw (.v 0) .nil))) (.cons (.ite shortT (.cons (.ret (.c (.bl false))) .nil) .nil) (.cons (.ret inE) .nil)) := rfl
theorem in_run (n : Nat) (Q : List Pr) (W : List Str) (okQ : ∀ q ∈ Q, okP q = true) (okW : ∀ s ∈ W, okS s = true) (h1 : 1 ≤ W.length) (hl : W.length ≤ 20) (x2 : Option D) :
    dE (tab fs (n + 1)) inE [some (.tup (Q.map pr)), some (.tup (W.map D.str)), x2] = .ok (.bl ((pairs W).all fun p => decide (p ∈ Q))) [some (.tup (Q.map pr)), some (.tup (W.map D.str)), x2] := by
  have st := steps_fn n W h1 hl
  generalize tab fs (n + 1) = T at st
  have frW : isF (.tup (W.map D.str)) = true := by rw [isF]; exact isF_strs W
  have frQ : isF (.tup (Q.map pr)) = true := by rw [isF]; exact isF_prs Q
  have frP : isFL ((pairs W).map pr) = true := isF_prs _
  have hI : dIc T (.seq (.fn 1 (.raw (.v 1) .nil))) [some (.tup (Q.map pr)), some (.tup (W.map D.str)), x2] = .ok ((pairs W).map pr, none) [some (.tup (Q.map pr)), some (.tup (W.map D.str)), x2] := by
    have hfz : fz (.lst true ((pairs W).map pr)) = .lst false ((pairs W).map pr) := by
      unfold fz
      rw [if_neg (by simp [isF]), frz, isFL_frz frP]
    have fzW : fz (.tup (W.map D.str)) = .tup (W.map D.str) := by unfold fz; rw [if_pos frW]
    simp [dIc, dE, dEs, R.bind, rd, frW, takeB, putB, st, fzW, hfz, items, ofO]
  obtain ⟨e', lp, y, rfl⟩ := lcL_map (own := [2]) (tg := .n 2) (cs := dTs T .nil) (elt := dE T (.cmp .In (.v 2) (.v 0))) (fun e => ∃ y, e = [some (.tup (Q.map pr)), some (.tup (W.map D.str)), y])
    (fun d => match d with | .tup [.str a, .str b] => some (.bl (decide ((a, b) ∈ Q))) | _ => none) ((pairs W).map pr) [] [some (.tup (Q.map pr)), some (.tup (W.map D.str)), x2] ⟨x2, rfl⟩ fun d m e ⟨y, he⟩ => by
    obtain ⟨q, mq, rfl⟩ := List.mem_map.mp m
    subst he
    refine ⟨[some (.tup (Q.map pr)), some (.tup (W.map D.str)), some (pr q)], rfl, .inr ⟨_, .bl (decide (q ∈ Q)), [some (.tup (Q.map pr)), some (.tup (W.map D.str)), some (pr q)], rfl, ?_, rfl, some (pr q), rfl⟩⟩
    have hin := in_prs (pairs_ok okW q mq) okQ
    have fp : isF (pr q) = true := rfl
    have fzP : fz (pr q) = pr q := by unfold fz; rw [if_pos fp]
    have fzQ : fz (.tup (Q.map pr)) = .tup (Q.map pr) := by unfold fz; rw [if_pos frQ]
    have hcm : cmpD .In (pr q) (.tup (Q.map pr)) = some (decide (q ∈ Q)) := hin
    simp [dE, R.bind, rd, fp, frQ, fzP, fzQ, hcm, ofO]
  have fm : ((pairs W).map pr).filterMap (fun d => match d with | .tup [.str a, .str b] => some (D.bl (decide ((a, b) ∈ Q))) | _ => none) = ((pairs W).map fun p => decide (p ∈ Q)).map D.bl := by
    generalize pairs W = P
    induction P with
    | nil => rfl
    | cons p P ih => rw [List.map_cons, List.filterMap_cons, List.map_cons, List.map_cons, ← ih]; rfl
  rw [List.nil_append, fm] at lp
  have hbig : ((pairs W).map pr).length ≤ big := by rw [List.length_map, pairs_len]; unfold big; omega
  have hL : dE T (.lc [2] (.n 2) (.seq (.fn 1 (.raw (.v 1) .nil))) .nil (.cmp .In (.v 2) (.v 0))) [some (.tup (Q.map pr)), some (.tup (W.map D.str)), x2] = .ok (.lst true (((pairs W).map fun p => decide (p ∈ Q)).map D.bl)) [some (.tup (Q.map pr)), some (.tup (W.map D.str)), x2] := by
    rw [dE, hI, M.bind_ok]
    dsimp only
    rw [if_pos hbig, lp]
    rfl
  have fb : ∀ l : List Bool, isFL (l.map D.bl) = true := fun l => by
    induction l with
    | nil => rfl
    | cons b l ih => rw [List.map_cons, isFL, ih]; rfl
  have bl := bls_map ((pairs W).map fun p => decide (p ∈ Q))
  have hA : dEs T (.cons (.lc [2] (.n 2) (.seq (.fn 1 (.raw (.v 1) .nil))) .nil (.cmp .In (.v 2) (.v 0))) .nil) [some (.tup (Q.map pr)), some (.tup (W.map D.str)), x2] = .ok [.inl (.lst false (((pairs W).map fun p => decide (p ∈ Q)).map D.bl))] [some (.tup (Q.map pr)), some (.tup (W.map D.str)), x2] := by
    rw [dEs, hL, M.bind_ok]
    have hfz : fz (.lst true (((pairs W).map fun p => decide (p ∈ Q)).map D.bl)) = .lst false (((pairs W).map fun p => decide (p ∈ Q)).map D.bl) := by
      unfold fz
      rw [if_neg (by simp [isF]), frz, isFL_frz (fb _)]
    rw [dEs, M.bind_ok, hfz]
  rw [inE, dE, hA, M.bind_ok]
  show ofO (biD .all [.lst false _]) _ = _
  rw [biD, bl]
  simp [ofO, List.all_map]
/-- a graph in either form -/
def gW (o : Bool) (Q : List Pr) : D := if o = true then .tup (Q.map pr) else .lst false (Q.map prL)
theorem isF_gW (o : Bool) (Q : List Pr) : isF (gW o Q) = true := by
  cases o
  · show (!false && isFL (Q.map prL)) = true
    rw [isF_prLs]
    rfl
  · show isFL (Q.map pr) = true
    exact isF_prs Q
theorem is_path_fn (n : Nat) (o : Bool) (Q : List Pr) (W : List Str) (hQ : Q.length ≤ 500) (okQ : ∀ q ∈ Q, okP q = true) (okW : ∀ s ∈ W, okS s = true) (h1 : 1 ≤ W.length) (hl : W.length ≤ 20) :
    tab fs (n + 4) 2 [gW o Q, .tup (W.map D.str)] = .ok (.bl (isPath Q W)) [none, none] := by
  have pw := plain_web n Q hQ o
  have ir := in_run (n + 2) Q W okQ okW h1 hl none
  change tab fs (n + 3) 0 [gW o Q] = _ at pw
  rw [tab, show fs[2]? = some ⟨2, 3, [], b2⟩ from rfl]
  refine run_rt (F := ⟨2, 3, [], b2⟩) (e := [some (.tup (Q.map pr)), some (.tup (W.map D.str)), none]) rfl ?_
  show dSs (tab fs (n + 3)) b2 [some (gW o Q), some (.tup (W.map D.str)), none] = _
  generalize tab fs (n + 3) = T at pw ir
  have fg := isF_gW o Q
  have zg : fz (gW o Q) = gW o Q := by unfold fz; rw [if_pos fg]
  have p0 : dE T (.fn 0 (.raw (.v 0) .nil)) [some (gW o Q), some (.tup (W.map D.str)), none] = .ok (.tup (Q.map pr)) [some (gW o Q), some (.tup (W.map D.str)), none] := by
    simp [dE, dEs, R.bind, rd, fg, zg, takeB, putB, pw]
  rw [b2_eq]
  refine seq_ok (as_ok (i := 0) p0 (by show 0 < 3; decide)) ?_
  show dSs T _ [some (.tup (Q.map pr)), some (.tup (W.map D.str)), none] = _
  have sr := short_run T W (some (.tup (Q.map pr))) [none]
  by_cases hs : W.length < 2
  · have hi := ite_ok (a := .cons (.ret (.c (.bl false))) .nil) (b := .nil) sr (o := .ok (.rt (.bl false)) [some (.tup (Q.map pr)), some (.tup (W.map D.str)), none]) (by
      rw [decide_eq_true hs]
      rfl)
    rw [dSs, hi, isPath, decide_eq_false (show ¬ 2 ≤ W.length by omega)]
    rfl
  · have hi := ite_ok (a := .cons (.ret (.c (.bl false))) .nil) (b := .nil) sr (o := .ok .nx [some (.tup (Q.map pr)), some (.tup (W.map D.str)), none]) (by
      rw [decide_eq_false hs]
      rfl)
    refine seq_ok hi ?_
    rw [dSs, dS, ir, isPath, decide_eq_true (show 2 ≤ W.length by omega)]
    rfl
end K02

set_option Elab.async false
set_option linter.all false
set_option autoImplicit false
set_option maxRecDepth 100000
set_option maxHeartbeats 8000000
/-! P17: law k02: does a row go on. -/
namespace K02
open PySem PySem.Spec Z M Pz
theorem ints_py : ∀ l : List Int, pyL (l.map D.int) = some (l.map PyData.int)
  | [] => rfl
  | p :: l => by rw [List.map_cons, pyL, ints_py l]; rfl
theorem lay_ints : ∀ l : List Int, PyData.canLayAll0 (l.map PyData.int) = true ∧ PyData.depthAll (l.map PyData.int) = 0
  | [] => ⟨rfl, rfl⟩
  | p :: l => by
    obtain ⟨a, b⟩ := lay_ints l
    rw [List.map_cons, PyData.canLayAll0, PyData.depthAll, a, b]
    exact ⟨rfl, rfl⟩
theorem ints_nil (l : List Int) (o o' : Bool) : eqD (.lst o (l.map D.int)) (.lst o' []) = some l.isEmpty := by
  obtain ⟨a, b⟩ := lay_ints l
  have sh : SeqAt.shaped (.list (l.map PyData.int)) = true := by
    unfold SeqAt.shaped
    rw [PyData.canLay0, PyData.depth, a, b]
    rfl
  unfold eqD
  rw [show py (.lst o (l.map D.int)) = some (.list (l.map PyData.int)) by rw [py, ints_py]; rfl, show py (.lst o' []) = some (.list []) from rfl]
  dsimp only
  rw [if_pos ⟨sh, rfl⟩]
  cases l <;> rfl
def oddT : Te := .val (.cmp .NotEq (.lc [2] (.n 2) (.var 1) (.cons (.not (.val (.isi (.v 2) [.str] true))) .nil) (.v 2)) (.lst .nil))
theorem odd_strs (T : Tab) (x0 x2 x3 : Option D) (W : List Str) (hl : W.length ≤ 20) : ∃ x, dT T oddT [x0, some (.tup (W.map D.str)), x2, x3] = .ok false [x0, some (.tup (W.map D.str)), x, x3] := by
  have fr : isF (.tup (W.map D.str)) = true := by rw [isF]; exact isF_strs W
  have hI : dIc T (.var 1) [x0, some (.tup (W.map D.str)), x2, x3] = .ok (W.map D.str, none) [x0, some (.tup (W.map D.str)), x2, x3] := by
    simp [dIc, rd, fr, items, ofO]
  obtain ⟨e', lp, y, rfl⟩ := lcL_map (own := [2]) (tg := .n 2) (cs := dTs T (.cons (.not (.val (.isi (.v 2) [.str] true))) .nil)) (elt := dE T (.v 2)) (fun e => ∃ y, e = [x0, some (.tup (W.map D.str)), y, x3]) (fun _ => none) (W.map D.str) [] [x0, some (.tup (W.map D.str)), x2, x3] ⟨x2, rfl⟩ fun d m e ⟨y, he⟩ => by
    obtain ⟨s, ms, rfl⟩ := List.mem_map.mp m
    subst he
    refine ⟨[x0, some (.tup (W.map D.str)), some (.str s), x3], rfl, .inl ⟨[x0, some (.tup (W.map D.str)), some (.str s), x3], ?_, rfl, some (.str s), rfl⟩⟩
    have ty : tyAny (.str s) [.str] = some true := rfl
    have fs : isF (.str s) = true := rfl
    have zs : fz (.str s) = .str s := rfl
    simp [dTs, dT, dE, R.bind, rd, fs, zs, ty, ofO, truth]
  have fm : (W.map D.str).filterMap (fun _ => (none : Option D)) = [] := by simp
  rw [List.nil_append, fm] at lp
  have hbig : (W.map D.str).length ≤ big := by rw [List.length_map]; unfold big; omega
  refine ⟨x2, ?_⟩
  have hL : dE T (.lc [2] (.n 2) (.var 1) (.cons (.not (.val (.isi (.v 2) [.str] true))) .nil) (.v 2)) [x0, some (.tup (W.map D.str)), x2, x3] = .ok (.lst true []) [x0, some (.tup (W.map D.str)), x2, x3] := by
    rw [dE, hI, M.bind_ok]
    dsimp only
    rw [if_pos hbig, lp]
    rfl
  rw [oddT, dT, dE, hL, M.bind_ok]
  have e1 := ints_nil [] false false
  rw [List.map_nil] at e1
  first
  | (simp [dE, dEs, R.bind, args1, fz, isF, frz, frzL, cmpD, e1, ofO, truth]; done)
end K02

set_option Elab.async false
set_option linter.all false
set_option autoImplicit false
set_option maxRecDepth 100000
set_option maxHeartbeats 8000000
/-! P18: law k02: goes. -/
namespace K02
open PySem PySem.Spec Z M Pz
def gapI : It := .rng (.cons (.c (.int 1)) (.cons (.lenv 1) .nil))
def gapC : E := .cmp .NotIn (.tup (.cons (.subv 1 (.bin .Sub (.v 3) (.c (.int 1)))) (.cons (.subv 1 (.v 3)) .nil))) (.v 0)
def gapL : E := .lc [3] (.n 3) gapI (.cons (.val gapC) .nil) (.v 3)
theorem b16_eq : b16 = .cons (.ite shortT (.cons (.ret (.c (.bl false))) .nil) .nil) (.cons (.ite oddT (.cons (.ret (.c (.bl false))) .nil) .nil) (.cons (.ret (.cmp .Eq gapL (.lst .nil))) .nil)) := rfl
theorem gap_at (T : Tab) (Q : List Pr) (W : List Str) (okQ : ∀ q ∈ Q, okP q = true) (okW : ∀ s ∈ W, okS s = true) (x2 : Option D) (k : Nat) (h : k + 1 < W.length) :
    dE T gapC [some (.tup (Q.map pr)), some (.tup (W.map D.str)), x2, some (.int (1 + Int.ofNat k))] = .ok (.bl (!decide ((W[k], W[k + 1]) ∈ Q))) [some (.tup (Q.map pr)), some (.tup (W.map D.str)), x2, some (.int (1 + Int.ofNat k))] := by
  have h0 := tup_strs (W := W) (m := k) (by omega)
  have h1 := tup_strs (W := W) (m := k + 1) h
  have e0 : (1 + Int.ofNat k) - 1 = (k : Int) := by
    show (1 + (k : Int)) - 1 = (k : Int)
    omega
  have e1 : ((k + 1 : Nat) : Int) = 1 + Int.ofNat k := by
    show ((k + 1 : Nat) : Int) = 1 + (k : Int)
    omega
  rw [e1] at h1
  have m : (W[k], W[k + 1]) ∈ pairs W := List.mem_of_getElem? (pairs_at W k h)
  have hin := in_prs (pairs_ok okW _ m) okQ
  have frQ : isF (.tup (Q.map pr)) = true := by rw [isF]; exact isF_prs Q
  have fzQ : fz (.tup (Q.map pr)) = .tup (Q.map pr) := by unfold fz; rw [if_pos frQ]
  have hcm : cmpD .NotIn (.tup [.str W[k], .str W[k + 1]]) (.tup (Q.map pr)) = some (!decide ((W[k], W[k + 1]) ∈ Q)) := by
    show (inL (pr (W[k], W[k + 1])) (Q.map pr)).map (!·) = _
    rw [hin]
    rfl
  have hb2 : (2 : Nat) ≤ big := by decide
  obtain ⟨z, hz⟩ : ∃ z, z = Int.ofNat k := ⟨_, rfl⟩
  rw [← hz] at h1 e0 ⊢
  have fi : isF (.int (1 + z)) = true := rfl
  have zi : fz (.int (1 + z)) = .int (1 + z) := rfl
  have zj : fz (.int 1) = .int 1 := rfl
  have zs : ∀ s, fz (.str s) = .str s := fun s => rfl
  have fst : ∀ s, isF (.str s) = true := fun s => rfl
  have zp : fz (.tup [.str W[k], .str W[k + 1]]) = .tup [.str W[k], .str W[k + 1]] := rfl
  have hT : dE T (.tup (.cons (.subv 1 (.bin .Sub (.v 3) (.c (.int 1)))) (.cons (.subv 1 (.v 3)) .nil))) [some (.tup (Q.map pr)), some (.tup (W.map D.str)), x2, some (.int (1 + z))] = .ok (.tup [.str W[k], .str W[k + 1]]) [some (.tup (Q.map pr)), some (.tup (W.map D.str)), x2, some (.int (1 + z))] := by
    simp [dE, dEs, R.bind, rd, fi, zi, zj, binD, e0, h0, h1, fst, zs, ofO, args1, hb2]
  have h9 : dE T (.v 0) [some (.tup (Q.map pr)), some (.tup (W.map D.str)), x2, some (.int (1 + z))] = .ok (.tup (Q.map pr)) [some (.tup (Q.map pr)), some (.tup (W.map D.str)), x2, some (.int (1 + z))] := by
    simp [dE, rd, frQ]
  rw [gapC, dE, hT, M.bind_ok, h9, M.bind_ok, zp, fzQ, hcm]
  rfl
theorem all_take (Q : List Pr) (P : List Pr) (k : Nat) (p : Pr) (h : P[k]? = some p) : ((P.take (k + 1)).all fun p => decide (p ∈ Q)) = (((P.take k).all fun p => decide (p ∈ Q)) && decide (p ∈ Q)) := by
  rw [List.take_succ, h, Option.toList_some, List.all_append]
  simp
theorem gap_run (T : Tab) (Q : List Pr) (W : List Str) (okQ : ∀ q ∈ Q, okP q = true) (okW : ∀ s ∈ W, okS s = true) (h1 : 1 ≤ W.length) (hl : W.length ≤ 20) (x2 x3 : Option D) :
    ∃ l : List Int, dE T gapL [some (.tup (Q.map pr)), some (.tup (W.map D.str)), x2, x3] = .ok (.lst true (l.map D.int)) [some (.tup (Q.map pr)), some (.tup (W.map D.str)), x2, x3] ∧ l.isEmpty = (pairs W).all fun p => decide (p ∈ Q) := by
  have frW : isF (.tup (W.map D.str)) = true := by rw [isF]; exact isF_strs W
  have hI : dIc T gapI [some (.tup (Q.map pr)), some (.tup (W.map D.str)), x2, x3] = .ok ((List.range (W.length - 1)).map (fun (k : Nat) => D.int (1 + Int.ofNat k)), none) [some (.tup (Q.map pr)), some (.tup (W.map D.str)), x2, x3] := by
    have r := rng_two W.length (by omega)
    have hd : dEs T (.cons (.c (.int 1)) (.cons (.lenv 1) .nil)) [some (.tup (Q.map pr)), some (.tup (W.map D.str)), x2, x3] = .ok [.inl (.int 1), .inl (.int W.length)] [some (.tup (Q.map pr)), some (.tup (W.map D.str)), x2, x3] := by
      simp [dEs, dE, R.bind, rd, isF, fz, ofO, biD]
    rw [gapI, dIc, hd, M.bind_ok, show args1 [.inl (D.int 1), .inl (D.int (W.length : Int))] = some [.int 1, .int (W.length : Int)] from rfl, r]
    rfl
  obtain ⟨acc, e', lp, ⟨l, hacc, hemp⟩, y, rfl⟩ := lcL_by (own := [3]) (tg := .n 3) (cs := dTs T (.cons (.val gapC) .nil)) (elt := dE T (.v 3))
    (fun i acc e => (∃ l : List Int, acc = l.map D.int ∧ l.isEmpty = (((pairs W).take i).all fun p => decide (p ∈ Q))) ∧ ∃ y, e = [some (.tup (Q.map pr)), some (.tup (W.map D.str)), x2, y]) ((List.range (W.length - 1)).map (fun (k : Nat) => D.int (1 + Int.ofNat k))) 0 [] [some (.tup (Q.map pr)), some (.tup (W.map D.str)), x2, x3] ⟨⟨[], rfl, rfl⟩, x3, rfl⟩
    fun k d hk acc e ⟨⟨l, ha, hm⟩, y, he⟩ => by
      rw [Nat.zero_add] at hm
      rw [Nat.zero_add]
      have hk2 : k < W.length - 1 := by
        have := (List.getElem?_eq_some_iff.mp hk).1
        simpa using this
      have hd : d = .int (1 + Int.ofNat k) := by
        rw [List.getElem?_map, List.getElem?_range hk2] at hk
        exact (Option.some.inj hk).symm
      subst hd he ha
      have ga := gap_at T Q W okQ okW x2 k (by omega)
      have at_ := all_take Q (pairs W) k _ (pairs_at W k (by omega))
      refine ⟨[some (.tup (Q.map pr)), some (.tup (W.map D.str)), x2, some (.int (1 + Int.ofNat k))], rfl, ?_⟩
      have hcs : dTs T (.cons (.val gapC) .nil) [some (.tup (Q.map pr)), some (.tup (W.map D.str)), x2, some (.int (1 + Int.ofNat k))] = .ok (!decide ((W[k], W[k + 1]) ∈ Q)) [some (.tup (Q.map pr)), some (.tup (W.map D.str)), x2, some (.int (1 + Int.ofNat k))] := by
        rw [dTs, dT, ga, M.bind_ok]
        show (R.ok (!decide ((W[k], W[k + 1]) ∈ Q)) _ |>.bind _) = _
        rw [M.bind_ok]
        cases decide ((W[k], W[k + 1]) ∈ Q) <;> rfl
      by_cases hq : (W[k], W[k + 1]) ∈ Q
      · refine .inl ⟨_, by rw [hcs, decide_eq_true hq]; rfl, ⟨l, rfl, ?_⟩, _, rfl⟩
        rw [at_, hm, decide_eq_true hq, Bool.and_true]
      · refine .inr ⟨_, .int (1 + Int.ofNat k), _, by rw [hcs, decide_eq_false hq]; rfl, rfl, ⟨l ++ [1 + Int.ofNat k], by rw [List.map_append]; rfl, ?_⟩, _, rfl⟩
        rw [at_, decide_eq_false hq, Bool.and_false]
        cases l <;> rfl
  rw [Nat.zero_add, List.length_map, List.length_range, ← pairs_len W, List.take_length] at hemp
  rw [hacc] at lp
  have hbig : ((List.range (W.length - 1)).map (fun (k : Nat) => D.int (1 + Int.ofNat k))).length ≤ big := by rw [List.length_map, List.length_range]; unfold big; omega
  refine ⟨l, ?_, hemp⟩
  rw [gapL, dE, hI, M.bind_ok]
  dsimp only
  rw [if_pos hbig]
  rw [lp]
  rfl
theorem goes_fn (n : Nat) (Q : List Pr) (W : List Str) (okQ : ∀ q ∈ Q, okP q = true) (okW : ∀ s ∈ W, okS s = true) (h1 : 1 ≤ W.length) (hl : W.length ≤ 20) :
    tab fs (n + 1) 16 [.tup (Q.map pr), .tup (W.map D.str)] = .ok (.bl (isPath Q W)) [none, none] := by
  rw [tab, show fs[16]? = some ⟨2, 4, [], b16⟩ from rfl]
  have sr := short_run (tab fs n) W (some (.tup (Q.map pr))) [none, none]
  obtain ⟨x, ho⟩ := odd_strs (tab fs n) (some (.tup (Q.map pr))) none none W hl
  obtain ⟨l, hg, hemp⟩ := gap_run (tab fs n) Q W okQ okW h1 hl x none
  by_cases hs : W.length < 2
  · refine run_rt (F := ⟨2, 4, [], b16⟩) (e := [some (.tup (Q.map pr)), some (.tup (W.map D.str)), none, none]) rfl ?_
    show dSs (tab fs n) b16 [some (.tup (Q.map pr)), some (.tup (W.map D.str)), none, none] = _
    rw [b16_eq]
    have hi := ite_ok (a := .cons (.ret (.c (.bl false))) .nil) (b := .nil) sr (o := .ok (.rt (.bl false)) [some (.tup (Q.map pr)), some (.tup (W.map D.str)), none, none]) (by
      rw [decide_eq_true hs]
      rfl)
    rw [dSs, hi, isPath, decide_eq_false (show ¬ 2 ≤ W.length by omega)]
    rfl
  · refine run_rt (F := ⟨2, 4, [], b16⟩) (e := [some (.tup (Q.map pr)), some (.tup (W.map D.str)), x, none]) rfl ?_
    show dSs (tab fs n) b16 [some (.tup (Q.map pr)), some (.tup (W.map D.str)), none, none] = _
    rw [b16_eq]
    have hi := ite_ok (a := .cons (.ret (.c (.bl false))) .nil) (b := .nil) sr (o := .ok .nx [some (.tup (Q.map pr)), some (.tup (W.map D.str)), none, none]) (by
      rw [decide_eq_false hs]
      rfl)
    refine seq_ok hi (seq_ok (ite_ok ho rfl) ?_)
    have e1 := ints_nil l false false
    have fl : isFL (l.map D.int) = true := by
      clear e1 hemp hg
      induction l with
      | nil => rfl
      | cons b l ih => rw [List.map_cons, isFL, ih]; rfl
    have hfz : fz (.lst true (l.map D.int)) = .lst false (l.map D.int) := by
      unfold fz
      rw [if_neg (by simp [isF]), frz, isFL_frz fl]
    have hE : dE (tab fs n) (.cmp .Eq gapL (.lst .nil)) [some (.tup (Q.map pr)), some (.tup (W.map D.str)), x, none] = .ok (.bl l.isEmpty) [some (.tup (Q.map pr)), some (.tup (W.map D.str)), x, none] := by
      rw [dE, hg, M.bind_ok, hfz]
      simp [dE, dEs, R.bind, args1, fz, isF, frz, frzL, cmpD, e1, ofO]
    rw [dSs, dS, hE, hemp, isPath, decide_eq_true (show 2 ≤ W.length by omega)]
    rfl
end K02

set_option Elab.async false
set_option linter.all false
set_option autoImplicit false
set_option maxRecDepth 100000
set_option maxHeartbeats 8000000
/-! P19: law k02: is a row a run. -/
namespace K02
open PySem PySem.Spec Z M Pz
theorem last_strs {W : List Str} (h : 0 < W.length) : subD (.tup (W.map D.str)) (.int (-1)) = some (.str W[W.length - 1]) := by
  rw [subD]
  unfold L2.atI L2.ixN
  rw [List.length_map, if_neg (by omega), if_pos (by omega)]
  have e : ((-1 : Int) + (W.length : Int)).toNat = W.length - 1 := by omega
  have e2 : ((W.length : Int) + -1).toNat = W.length - 1 := by omega
  simp [e, e2]
def isRun (Q : List Pr) (s t : Str) (W : List Str) (h : 0 < W.length) : Bool := isPath Q W && (decide (W[0] = s) && decide (W[W.length - 1] = t))
def runE : E := .and (.fn 2 (.raw (.v 0) (.raw (.v 1) .nil))) (.and (.cmp .Eq (.subv 1 (.c (.int 0))) (.fn 4 (.raw (.v 0) .nil))) (.cmp .Eq (.subv 1 (.neg (.c (.int 1)))) (.fn 5 (.raw (.v 0) .nil))))
theorem b3_eq : b3 = .cons (.ret runE) .nil := rfl
theorem okW_at {W : List Str} (okW : ∀ s ∈ W, okS s = true) {m : Nat} (h : m < W.length) : okS W[m] = true := okW _ (List.getElem_mem h)
theorem okP_1 {q : Pr} (h : okP q = true) : okS q.1 = true := by
  unfold okP at h
  rw [Bool.and_eq_true] at h
  exact h.1
theorem okP_2 {q : Pr} (h : okP q = true) : okS q.2 = true := by
  unfold okP at h
  rw [Bool.and_eq_true] at h
  exact h.2
theorem Ends.okS {Q : List Pr} {s t : Str} (E : Ends Q s t) : Pz.okS s = true := by
  obtain ⟨q, m, e⟩ := List.mem_map.mp E.sA
  exact e ▸ okP_1 (E.ok q m)
theorem Ends.okT {Q : List Pr} {s t : Str} (E : Ends Q s t) : Pz.okS t = true := by
  obtain ⟨q, m, e⟩ := List.mem_map.mp E.tA
  exact e ▸ okP_2 (E.ok q m)
theorem is_run_fn (n : Nat) (o : Bool) {Q : List Pr} {s t : Str} (E : Ends Q s t) (W : List Str) (okW : ∀ s ∈ W, okS s = true) (h1 : 0 < W.length) (hl : W.length ≤ 20) :
    tab fs (n + 5) 3 [gW o Q, .tup (W.map D.str)] = .ok (.bl (isRun Q s t W h1)) [none, none] := by
  have ip := is_path_fn n o Q W (by have := E.len; omega) E.ok okW h1 hl
  have en : tab fs (n + 4) 4 [gW o Q] = .ok (.str s) [none] := by
    cases o
    · exact entry_fn (n + 3) E (laidL Q)
    · exact entry_fn (n + 3) E (laidT Q)
  have ex : tab fs (n + 4) 5 [gW o Q] = .ok (.str t) [none] := by
    cases o
    · exact exit_fn (n + 3) E (laidL Q)
    · exact exit_fn (n + 3) E (laidT Q)
  have fg := isF_gW o Q
  have zg : fz (gW o Q) = gW o Q := by unfold fz; rw [if_pos fg]
  have frW : isF (.tup (W.map D.str)) = true := by rw [isF]; exact isF_strs W
  have fzW : fz (.tup (W.map D.str)) = .tup (W.map D.str) := by unfold fz; rw [if_pos frW]
  have a0 := tup_strs (W := W) (m := 0) h1
  change subD (.tup (W.map D.str)) (.int 0) = _ at a0
  have a1 := last_strs h1
  have q0 := eq_strs (okW_at okW h1) E.okS
  have q1 := eq_strs (okW_at okW (show W.length - 1 < W.length by omega)) E.okT
  have zs : ∀ s, fz (.str s) = .str s := fun s => rfl
  have fst : ∀ s, isF (.str s) = true := fun s => rfl
  have zi : ∀ i, fz (.int i) = .int i := fun s => rfl
  rw [tab, show fs[3]? = some ⟨2, 2, [], b3⟩ from rfl]
  refine run_rt (F := ⟨2, 2, [], b3⟩) (e := [some (gW o Q), some (.tup (W.map D.str))]) rfl ?_
  show dSs (tab fs (n + 4)) b3 [some (gW o Q), some (.tup (W.map D.str))] = _
  generalize tab fs (n + 4) = T at ip en ex
  generalize gW o Q = g at *
  have c0 : dE T (.fn 2 (.raw (.v 0) (.raw (.v 1) .nil))) [some g, some (.tup (W.map D.str))] = .ok (.bl (isPath Q W)) [some g, some (.tup (W.map D.str))] := by
    simp [dE, dEs, R.bind, rd, fg, zg, frW, fzW, takeB, putB, ip]
  have c1 : dE T (.cmp .Eq (.subv 1 (.c (.int 0))) (.fn 4 (.raw (.v 0) .nil))) [some g, some (.tup (W.map D.str))] = .ok (.bl (decide (W[0] = s))) [some g, some (.tup (W.map D.str))] := by
    simp [dE, dEs, R.bind, rd, fg, zg, frW, fzW, takeB, putB, en, a0, fst, zs, cmpD, q0, ofO]
  have c2 : dE T (.cmp .Eq (.subv 1 (.neg (.c (.int 1)))) (.fn 5 (.raw (.v 0) .nil))) [some g, some (.tup (W.map D.str))] = .ok (.bl (decide (W[W.length - 1] = t))) [some g, some (.tup (W.map D.str))] := by
    simp [dE, dEs, R.bind, rd, fg, zg, frW, fzW, takeB, putB, ex, a1, fst, zs, cmpD, q1, ofO]
  have hE : dE T runE [some g, some (.tup (W.map D.str))] = .ok (.bl (isRun Q s t W h1)) [some g, some (.tup (W.map D.str))] := by
    rw [runE, dE, c0, M.bind_ok, isRun]
    cases isPath Q W with
    | false => rfl
    | true =>
      show dE T (.and _ _) _ = _
      rw [dE, c1, M.bind_ok]
      cases decide (W[0] = s) with
      | false => rfl
      | true => exact c2
  rw [b3_eq, dSs, dS, hE]
  rfl
end K02

set_option Elab.async false
set_option linter.all false
set_option autoImplicit false
set_option maxRecDepth 100000
set_option maxHeartbeats 8000000
/-! P20: law k02: whole. -/
namespace K02
open PySem PySem.Spec Z M Pz
def begE : E := .lc [2] (.n 2) (.var 0) .nil (.subv 2 (.c (.int 0)))
theorem beg_run (T : Tab) (x1 x2 : Option D) (Q : List Pr) (hl : Q.length ≤ 500) :
    dE T begE [some (.tup (Q.map pr)), x1, x2] = .ok (.lst true ((Q.map (·.1)).map D.str)) [some (.tup (Q.map pr)), x1, x2] := by
  have hbig : (Q.map pr).length ≤ big := by rw [List.length_map]; unfold big; omega
  obtain ⟨e', lp, y, rfl⟩ := lcL_map (own := [2]) (tg := .n 2) (cs := dTs T .nil) (elt := dE T (.subv 2 (.c (.int 0)))) (fun e => ∃ y, e = [some (.tup (Q.map pr)), x1, y]) (fun d => subD d (.int 0)) (Q.map pr) [] [some (.tup (Q.map pr)), x1, x2] ⟨x2, rfl⟩ fun d m e ⟨y, he⟩ => by
    obtain ⟨q, mq, rfl⟩ := List.mem_map.mp m
    subst he
    have hf : subD (pr q) (.int 0) = some (.str q.1) := rfl
    refine ⟨[some (.tup (Q.map pr)), x1, some (pr q)], rfl, .inr ⟨_, .str q.1, [some (.tup (Q.map pr)), x1, some (pr q)], rfl, ?_, hf, some (pr q), rfl⟩⟩
    simp [dE, R.bind, rd, hf, isF]
  have fm : (Q.map pr).filterMap (fun d => subD d (.int 0)) = (Q.map (·.1)).map D.str := by
    clear lp hbig hl
    induction Q with
    | nil => rfl
    | cons q Q ih => rw [List.map_cons, List.filterMap_cons, ih]; rfl
  rw [List.nil_append, fm] at lp
  have hI : dIc T (.var 0) [some (.tup (Q.map pr)), x1, x2] = .ok (Q.map pr, none) [some (.tup (Q.map pr)), x1, x2] := by
    simp [dIc, rd, isF, isF_prs, items, ofO]
  rw [begE, dE, hI, M.bind_ok, if_pos hbig, lp]
  rfl
def notT : Te := .or (.not (.val (.fn 16 (.raw (.v 0) (.raw (.v 1) .nil))))) (.val (.cmp .NotEq (.subv 1 (.c (.int 0))) (.fn 15 (.raw (.v 0) .nil))))
def outE : E := .cmp .NotIn (.subv 1 (.neg (.c (.int 1)))) begE
theorem b17_eq : b17 = .cons (.ite notT (.cons (.ret (.c (.bl false))) .nil) .nil) (.cons (.ret outE) .nil) := rfl
theorem last_pair : ∀ (W : List Str) (h : 2 ≤ W.length), ∃ p ∈ pairs W, p.2 = W[W.length - 1]
  | [], h => by simp at h
  | [_], h => by simp at h
  | [a, b], h => ⟨(a, b), by simp [pairs], rfl⟩
  | a :: b :: c :: r, h => by
    obtain ⟨p, m, e⟩ := last_pair (b :: c :: r) (by simp)
    exact ⟨p, List.mem_cons_of_mem _ m, by rw [e]; simp⟩
theorem whole_fn (n : Nat) {Q : List Pr} {s t : Str} (E : Ends Q s t) (W : List Str) (okW : ∀ s ∈ W, okS s = true) (h1 : 0 < W.length) (hl : W.length ≤ 20) :
    tab fs (n + 3) 17 [.tup (Q.map pr), .tup (W.map D.str)] = .ok (.bl (isRun Q s t W h1)) [none, none] := by
  have lQ := E.len
  have go := goes_fn (n + 1) Q W E.ok okW h1 hl
  have he : ∃ q ∈ Q, ∀ p ∈ Q, p.2 ≠ q.1 := by
    obtain ⟨q, m, e⟩ := List.mem_map.mp E.sA
    refine ⟨q, m, fun p mp ep => E.sB ?_⟩
    exact List.mem_map.mpr ⟨p, mp, by rw [ep, e]⟩
  obtain ⟨s', fi, ⟨q, mq, eq⟩, no⟩ := first_fn n Q (by omega) E.ok he
  have es : s' = s := E.s1 s' (List.mem_map.mpr ⟨q, mq, eq⟩) fun m => by
    obtain ⟨p, mp, ep⟩ := List.mem_map.mp m
    exact no p mp ep
  subst es
  have frQ : isF (.tup (Q.map pr)) = true := by rw [isF]; exact isF_prs Q
  have fzQ : fz (.tup (Q.map pr)) = .tup (Q.map pr) := by unfold fz; rw [if_pos frQ]
  have frW : isF (.tup (W.map D.str)) = true := by rw [isF]; exact isF_strs W
  have fzW : fz (.tup (W.map D.str)) = .tup (W.map D.str) := by unfold fz; rw [if_pos frW]
  have a0 := tup_strs (W := W) (m := 0) h1
  change subD (.tup (W.map D.str)) (.int 0) = _ at a0
  have a1 := last_strs h1
  have q0 := eq_strs (okW_at okW h1) E.okS
  have zs : ∀ s, fz (.str s) = .str s := fun s => rfl
  have fst : ∀ s, isF (.str s) = true := fun s => rfl
  rw [tab, show fs[17]? = some ⟨2, 3, [], b17⟩ from rfl]
  refine run_rt (F := ⟨2, 3, [], b17⟩) (e := [some (.tup (Q.map pr)), some (.tup (W.map D.str)), none]) rfl ?_
  show dSs (tab fs (n + 2)) b17 [some (.tup (Q.map pr)), some (.tup (W.map D.str)), none] = _
  generalize tab fs (n + 2) = T at go fi
  have c0 : dE T (.fn 16 (.raw (.v 0) (.raw (.v 1) .nil))) [some (.tup (Q.map pr)), some (.tup (W.map D.str)), none] = .ok (.bl (isPath Q W)) [some (.tup (Q.map pr)), some (.tup (W.map D.str)), none] := by
    simp [dE, dEs, R.bind, rd, frQ, fzQ, frW, fzW, takeB, putB, go]
  have c1 : dE T (.cmp .NotEq (.subv 1 (.c (.int 0))) (.fn 15 (.raw (.v 0) .nil))) [some (.tup (Q.map pr)), some (.tup (W.map D.str)), none] = .ok (.bl (!decide (W[0] = s'))) [some (.tup (Q.map pr)), some (.tup (W.map D.str)), none] := by
    simp [dE, dEs, R.bind, rd, frQ, fzQ, frW, fzW, takeB, putB, fi, a0, fst, zs, cmpD, q0, ofO]
  have cT : dT T notT [some (.tup (Q.map pr)), some (.tup (W.map D.str)), none] = .ok (!(isPath Q W && decide (W[0] = s'))) [some (.tup (Q.map pr)), some (.tup (W.map D.str)), none] := by
    rw [notT, dT, dT, dT, c0, M.bind_ok]
    show ((R.ok (isPath Q W) _ |>.bind _).bind _) = _
    rw [M.bind_ok, M.bind_ok]
    cases isPath Q W with
    | false => rfl
    | true =>
      show dT T (.val _) _ = _
      rw [dT, c1, M.bind_ok, Bool.true_and]
      rfl
  have br := beg_run T (some (.tup (W.map D.str))) none Q (by omega)
  have hin := in_strs (p := W[W.length - 1]) (W := Q.map (·.1)) (okW_at okW (by omega)) fun x m => by
    obtain ⟨q, mq, e⟩ := List.mem_map.mp m
    exact e ▸ okP_1 (E.ok q mq)
  have zb : fz (.lst true ((Q.map (·.1)).map D.str)) = .lst false ((Q.map (·.1)).map D.str) := by
    unfold fz
    rw [if_neg (by simp [isF]), frz, isFL_frz (isF_strs _)]
  have c2 : dE T outE [some (.tup (Q.map pr)), some (.tup (W.map D.str)), none] = .ok (.bl (!decide (W[W.length - 1] ∈ Q.map (·.1)))) [some (.tup (Q.map pr)), some (.tup (W.map D.str)), none] := by
    have cl : dE T (.subv 1 (.neg (.c (.int 1)))) [some (.tup (Q.map pr)), some (.tup (W.map D.str)), none] = .ok (.str W[W.length - 1]) [some (.tup (Q.map pr)), some (.tup (W.map D.str)), none] := by
      simp [dE, R.bind, rd, a1, fst]
    have hcm : cmpD .NotIn (.str W[W.length - 1]) (.lst false ((Q.map (·.1)).map D.str)) = some (!decide (W[W.length - 1] ∈ Q.map (·.1))) := by
      show (inL _ _).map (!·) = _
      rw [hin]
      rfl
    rw [outE, dE, cl, M.bind_ok, br, M.bind_ok, zs, zb, hcm]
    rfl
  rw [b17_eq]
  by_cases hp : (isPath Q W && decide (W[0] = s')) = true
  · have hi := ite_ok (a := .cons (.ret (.c (.bl false))) .nil) (b := .nil) cT (o := .ok .nx [some (.tup (Q.map pr)), some (.tup (W.map D.str)), none]) (by
      rw [hp]
      rfl)
    refine seq_ok hi ?_
    rw [Bool.and_eq_true] at hp
    obtain ⟨hp1, hp2⟩ := hp
    have hv : (!decide (W[W.length - 1] ∈ Q.map (·.1))) = isRun Q s' t W h1 := by
      rw [isRun, hp1, hp2, Bool.true_and, Bool.true_and]
      unfold isPath at hp1
      rw [Bool.and_eq_true, decide_eq_true_eq, List.all_eq_true] at hp1
      obtain ⟨p, mp, ep⟩ := last_pair W hp1.1
      have mQ : p ∈ Q := of_decide_eq_true (hp1.2 p mp)
      have m2 : W[W.length - 1] ∈ Q.map (·.2) := List.mem_map.mpr ⟨p, mQ, ep⟩
      by_cases hb : W[W.length - 1] ∈ Q.map (·.1)
      · rw [decide_eq_true hb, decide_eq_false (fun e : W[W.length - 1] = t => E.tB (e ▸ hb))]
        rfl
      · rw [decide_eq_false hb, decide_eq_true (E.t1 _ m2 hb)]
        rfl
    rw [dSs, dS, c2, hv]
    rfl
  · have hp' : (isPath Q W && decide (W[0] = s')) = false := by simpa using hp
    have hi := ite_ok (a := .cons (.ret (.c (.bl false))) .nil) (b := .nil) cT (o := .ok (.rt (.bl false)) [some (.tup (Q.map pr)), some (.tup (W.map D.str)), none]) (by
      rw [hp']
      rfl)
    have hv : isRun Q s' t W h1 = false := by
      rw [isRun, ← Bool.and_assoc, hp']
      rfl
    rw [dSs, hi, hv]
end K02

set_option Elab.async false
set_option linter.all false
set_option autoImplicit false
set_option maxRecDepth 100000
set_option maxHeartbeats 8000000
/-! P21: law k02: lists. -/
namespace K02
open PySem PySem.Spec Z M Pz
def isT : Te := .val (.isi (.v 0) [.list, .tuple] false)
def lsE : E := .lc [1] (.n 1) (.var 0) .nil (.fn 11 (.raw (.v 1) .nil))
theorem b11_eq : b11 = .cons (.ret (.ite isT lsE (.v 0))) .nil := rfl
theorem lists_str (n : Nat) (s : Str) : tab fs (n + 1) 11 [.str s] = .ok (.str s) [none] := by
  rw [tab, show fs[11]? = some ⟨1, 2, [], b11⟩ from rfl]
  refine run_rt (F := ⟨1, 2, [], b11⟩) (e := [some (.str s), none]) rfl ?_
  rfl
theorem lists_seq (n : Nat) (rows : List D) (f : D → D) (fr : isFL rows = true) (hl : rows.length ≤ 500) (h : ∀ d ∈ rows, isF d = true ∧ tab fs n 11 [d] = .ok (f d) [none]) :
    tab fs (n + 1) 11 [.tup rows] = .ok (.lst true (rows.map f)) [none] := by
  have hbig : rows.length ≤ big := by unfold big; omega
  have gF : isF (.tup rows) = true := fr
  have gt : tyAny (.tup rows) [.list, .tuple] = some true := rfl
  have gz : fz (.tup rows) = .tup rows := by unfold fz; rw [if_pos gF]
  obtain ⟨e', lp, y, rfl⟩ := lcL_map (own := [1]) (tg := .n 1) (cs := dTs (tab fs n) .nil) (elt := dE (tab fs n) (.fn 11 (.raw (.v 1) .nil))) (fun e => ∃ y, e = [some (.tup rows), y]) (fun d => some (f d)) rows [] [some (.tup rows), none] ⟨none, rfl⟩ fun d m e ⟨y, he⟩ => by
    obtain ⟨h1, h3⟩ := h d m
    subst he
    refine ⟨[some (.tup rows), some d], rfl, .inr ⟨_, f d, [some (.tup rows), some d], rfl, ?_, rfl, some d, rfl⟩⟩
    have zd : fz d = d := by unfold fz; rw [if_pos h1]
    generalize tab fs n = T at h3
    simp [dE, dEs, R.bind, rd, h1, zd, takeB, putB, h3]
  have fm : rows.filterMap (fun d => some (f d)) = rows.map f := by
    clear lp hbig hl h fr gF gt gz
    induction rows with
    | nil => rfl
    | cons d rows ih => rw [List.filterMap_cons, ih]; rfl
  rw [List.nil_append, fm] at lp
  have hI : dIc (tab fs n) (.var 0) [some (.tup rows), none] = .ok (rows, none) [some (.tup rows), none] := by
    simp [dIc, rd, gF, items, ofO]
  have hL : dE (tab fs n) lsE [some (.tup rows), none] = .ok (.lst true (rows.map f)) [some (.tup rows), none] := by
    rw [lsE, dE, hI, M.bind_ok]
    dsimp only
    rw [if_pos hbig, lp]
    rfl
  have hT : dT (tab fs n) isT [some (.tup rows), none] = .ok true [some (.tup rows), none] := by
    simp [isT, dT, dE, R.bind, rd, gF, gz, gt, ofO, truth]
  rw [tab, show fs[11]? = some ⟨1, 2, [], b11⟩ from rfl]
  refine run_rt (F := ⟨1, 2, [], b11⟩) (e := [some (.tup rows), none]) rfl ?_
  show dSs (tab fs n) b11 [some (.tup rows), none] = _
  rw [b11_eq, dSs, dS, dE, hT, M.bind_ok]
  dsimp only
  rw [hL]
  rfl
def prO (q : Pr) : D := .lst true [.str q.1, .str q.2]
theorem lists_fn (n : Nat) (Q : List Pr) (hl : Q.length ≤ 500) : tab fs (n + 3) 11 [.tup (Q.map pr)] = .ok (.lst true (Q.map prO)) [none] := by
  have := lists_seq (n + 2) (Q.map pr) (fun d => match d with | .tup xs => .lst true xs | d => d) (isF_prs Q) (by rw [List.length_map]; exact hl) fun d m => by
    obtain ⟨q, _, rfl⟩ := List.mem_map.mp m
    refine ⟨rfl, ?_⟩
    have := lists_seq (n + 1) [.str q.1, .str q.2] id rfl (by simp) fun d m => by
      rcases List.mem_cons.mp m with e | m
      · rw [e]; exact ⟨rfl, lists_str n _⟩
      · rw [List.mem_singleton.mp m]; exact ⟨rfl, lists_str n _⟩
    rw [List.map_id] at this
    exact this
  rw [List.map_map] at this
  exact this
theorem frz_prO : ∀ Q : List Pr, frzL (Q.map prO) = Q.map prL
  | [] => rfl
  | q :: Q => by rw [List.map_cons, frzL, frz_prO Q]; rfl
/-- is a row, made a list, a path: never -/
theorem is_path_lst (n : Nat) (Q : List Pr) (W : List Str) (hQ : Q.length ≤ 500) :
    tab fs (n + 4) 2 [.tup (Q.map pr), .lst false (W.map D.str)] = .ok (.bl false) [none, none] := by
  have pw := plain_web n Q hQ true
  change tab fs (n + 3) 0 [.tup (Q.map pr)] = _ at pw
  rw [tab, show fs[2]? = some ⟨2, 3, [], b2⟩ from rfl]
  refine run_rt (F := ⟨2, 3, [], b2⟩) (e := [some (.tup (Q.map pr)), some (.lst false (W.map D.str)), none]) rfl ?_
  show dSs (tab fs (n + 3)) b2 [some (.tup (Q.map pr)), some (.lst false (W.map D.str)), none] = _
  generalize tab fs (n + 3) = T at pw
  have frQ : isF (.tup (Q.map pr)) = true := by rw [isF]; exact isF_prs Q
  have fzQ : fz (.tup (Q.map pr)) = .tup (Q.map pr) := by unfold fz; rw [if_pos frQ]
  have frW : isF (.lst false (W.map D.str)) = true := by
    show (!false && isFL (W.map D.str)) = true
    rw [isF_strs]
    rfl
  have fzW : fz (.lst false (W.map D.str)) = .lst false (W.map D.str) := by unfold fz; rw [if_pos frW]
  have p0 : dE T (.fn 0 (.raw (.v 0) .nil)) [some (.tup (Q.map pr)), some (.lst false (W.map D.str)), none] = .ok (.tup (Q.map pr)) [some (.tup (Q.map pr)), some (.lst false (W.map D.str)), none] := by
    simp [dE, dEs, R.bind, rd, frQ, fzQ, takeB, putB, pw]
  rw [b2_eq]
  refine seq_ok (as_ok (i := 0) p0 (by show 0 < 3; decide)) ?_
  show dSs T _ [some (.tup (Q.map pr)), some (.lst false (W.map D.str)), none] = _
  have ty : tyAny (.lst false (W.map D.str)) [.tuple] = some false := rfl
  have sr : dT T shortT [some (.tup (Q.map pr)), some (.lst false (W.map D.str)), none] = .ok true [some (.tup (Q.map pr)), some (.lst false (W.map D.str)), none] := by
    have h2 : dE T (.isi (.v 1) [.tuple] true) [some (.tup (Q.map pr)), some (.lst false (W.map D.str)), none] = .ok (.bl false) [some (.tup (Q.map pr)), some (.lst false (W.map D.str)), none] := by
      simp [dE, R.bind, rd, frW, fzW, ty, ofO]
    rw [shortT, dT, dT, dT, h2, M.bind_ok]
    rfl
  have hi := ite_ok (a := .cons (.ret (.c (.bl false))) .nil) (b := .nil) sr (o := .ok (.rt (.bl false)) [some (.tup (Q.map pr)), some (.lst false (W.map D.str)), none]) (by rw [if_pos rfl]; rfl)
  rw [dSs, hi]
end K02

set_option Elab.async false
set_option linter.all false
set_option autoImplicit false
set_option maxRecDepth 100000
set_option maxHeartbeats 8000000
/-! P22: law k02: a row. -/
namespace K02
open PySem PySem.Spec Z M Pz
theorem of_strs (n : Nat) (o : Bool) (a b c : Int) (W : List Str) (hl : 0 < W.length ∧ W.length < 100) (hb : 0 ≤ b ∧ b < 2 ^ 62) (hc : 0 ≤ c ∧ c < 1000000) :
    ∃ s a' c', s ∈ W ∧ tab fs (n + 2) 9 [box a b c, .lst o (W.map D.str)] = .ok (.str s) [some (box a' b c'), none] ∧ c ≤ c' ∧ c' ≤ c + 1 := by
  obtain ⟨d, a', c', hT, k1, k2, k3, k4⟩ := draws n a b c W.length (by omega) (by omega) hb hc
  obtain ⟨m, rfl⟩ := Int.eq_ofNat_of_zero_le k1
  have hm : m < W.length := by omega
  have hs := at_strs (W := W) o hm
  refine ⟨W[m], a', c', List.getElem_mem hm, ?_, k3, k4⟩
  rw [tab, show fs[9]? = some ⟨2, 2, [0], b9⟩ from rfl]
  refine run_rt (F := ⟨2, 2, [0], b9⟩) (e := [some (box a' b c'), some (.lst o (W.map D.str))]) rfl ?_
  show dSs (tab fs (n + 1)) b9 [some (box a b c), some (.lst o (W.map D.str))] = _
  generalize tab fs (n + 1) = T at hT
  have fr : isFL (W.map D.str) = true := isF_strs W
  unfold box at *
  simp [b9, dSs, dS, dE, dEs, R.bind, rd, isF, fr, fz, ofO, biD, takeB, putB, hT, hs]
def nextE : E := .lc [5] (.n 5) (.var 1) (.cons (.val (.cmp .Eq (.subv 5 (.c (.int 0))) (.subv 2 (.neg (.c (.int 1)))))) .nil) (.subv 5 (.c (.int 1)))
def stopT : Te := .or (.val (.cmp .Eq (.v 4) (.lst .nil))) (.val (.cmp .Eq (.fn 7 (.bw 0 (.raw (.c (.int 12)) .nil))) (.c (.int 0))))
def elseS : S := .as (.n 4) (.ite (.val (.cmp .Eq (.fn 7 (.bw 0 (.raw (.c (.int 3)) .nil))) (.c (.int 0)))) (.bin .Add (.fn 14 (.raw (.v 1) .nil)) (.lst (.raw (.c (.str { cps := #[113] })) .nil))) (.lst .nil))
def addS : S := .ite (.val (.cmp .NotEq (.v 4) (.lst .nil))) (.cons (.ap 2 (.fn 9 (.bw 0 (.raw (.v 4) .nil)))) .nil) .nil
def begS : S := .as (.n 2) (.lst (.raw (.fn 9 (.bw 0 (.raw (.bin .Add (.fn 14 (.raw (.v 1) .nil)) (.bin .Mult (.lst (.raw (.fn 15 (.raw (.v 1) .nil)) .nil)) (.c (.int 6)))) .nil))) .nil))
def rowL : Ss := .cons (.as (.n 4) nextE) (.cons (.ite stopT (.cons elseS .nil) .nil) (.cons addS .nil))
theorem b18_eq : b18 = .cons begS (.cons (.fr (.n 3) (.rng (.cons (.fn 7 (.bw 0 (.raw (.c (.int 9)) .nil))) .nil)) rowL) (.cons (.ret (.bi .tuple (.cons (.v 2) .nil))) .nil)) := rfl
end K02

set_option Elab.async false
set_option linter.all false
set_option autoImplicit false
set_option maxRecDepth 100000
set_option maxHeartbeats 8000000
/-! P23: law k02: a row's turn. -/
namespace K02
open PySem PySem.Spec Z M Pz
def OfS (T : Tab) : Prop := ∀ (o : Bool) (a b c : Int) (W : List Str), (0 < W.length ∧ W.length < 100) → (0 ≤ b ∧ b < 2 ^ 62) → (0 ≤ c ∧ c < 1000000) →
    ∃ s a' c', s ∈ W ∧ T 9 [box a b c, .lst o (W.map D.str)] = .ok (.str s) [some (box a' b c'), none] ∧ c ≤ c' ∧ c' ≤ c + 1
def TgS (T : Tab) (Q : List Pr) : Prop := ∃ L : List Str, T 14 [.tup (Q.map pr)] = .ok (.lst true (L.map D.str)) [none] ∧ (∀ s ∈ L, okS s = true) ∧ L.length ≤ 40
theorem last_lst {W : List Str} (o : Bool) (h : 0 < W.length) : subD (.lst o (W.map D.str)) (.int (-1)) = some (.str W[W.length - 1]) := last_strs h
theorem next_run (T : Tab) (g : D) (x3 x4 x5 : Option D) (Q : List Pr) (hl : Q.length ≤ 20) (okQ : ∀ q ∈ Q, okP q = true) (W : List Str) (okW : ∀ s ∈ W, okS s = true) (h1 : 0 < W.length) :
    ∃ N : List Str, dE T nextE [some g, some (.tup (Q.map pr)), some (.lst true (W.map D.str)), x3, x4, x5] = .ok (.lst true (N.map D.str)) [some g, some (.tup (Q.map pr)), some (.lst true (W.map D.str)), x3, x4, x5] ∧ (∀ s ∈ N, okS s = true) ∧ N.length ≤ 20 := by
  have frQ : isF (.tup (Q.map pr)) = true := by rw [isF]; exact isF_prs Q
  have a1 := last_lst true h1
  have hbig : (Q.map pr).length ≤ big := by rw [List.length_map]; unfold big; omega
  have hI : dIc T (.var 1) [some g, some (.tup (Q.map pr)), some (.lst true (W.map D.str)), x3, x4, x5] = .ok (Q.map pr, none) [some g, some (.tup (Q.map pr)), some (.lst true (W.map D.str)), x3, x4, x5] := by
    simp [dIc, rd, frQ, items, ofO]
  obtain ⟨e', lp, y, rfl⟩ := lcL_map (own := [5]) (tg := .n 5) (cs := dTs T (.cons (.val (.cmp .Eq (.subv 5 (.c (.int 0))) (.subv 2 (.neg (.c (.int 1)))))) .nil)) (elt := dE T (.subv 5 (.c (.int 1)))) (fun e => ∃ y, e = [some g, some (.tup (Q.map pr)), some (.lst true (W.map D.str)), x3, x4, y])
    (fun d => match d with | .tup [.str a, .str b] => if a = W[W.length - 1] then some (.str b) else none | _ => none) (Q.map pr) [] [some g, some (.tup (Q.map pr)), some (.lst true (W.map D.str)), x3, x4, x5] ⟨x5, rfl⟩ fun d m e ⟨y, he⟩ => by
    obtain ⟨q, mq, rfl⟩ := List.mem_map.mp m
    subst he
    refine ⟨[some g, some (.tup (Q.map pr)), some (.lst true (W.map D.str)), x3, x4, some (pr q)], rfl, ?_⟩
    have e0 : subD (pr q) (.int 0) = some (.str q.1) := rfl
    have e1 : subD (pr q) (.int 1) = some (.str q.2) := rfl
    have q0 := eq_strs (okP_1 (okQ q mq)) (okW_at okW (show W.length - 1 < W.length by omega))
    have zs : ∀ s, fz (.str s) = .str s := fun s => rfl
    have fst : ∀ s, isF (.str s) = true := fun s => rfl
    have hc : dE T (.cmp .Eq (.subv 5 (.c (.int 0))) (.subv 2 (.neg (.c (.int 1))))) [some g, some (.tup (Q.map pr)), some (.lst true (W.map D.str)), x3, x4, some (pr q)] = .ok (.bl (decide (q.1 = W[W.length - 1]))) [some g, some (.tup (Q.map pr)), some (.lst true (W.map D.str)), x3, x4, some (pr q)] := by
      simp [dE, R.bind, rd, e0, a1, fst, zs, cmpD, q0, ofO]
    have hcs : dTs T (.cons (.val (.cmp .Eq (.subv 5 (.c (.int 0))) (.subv 2 (.neg (.c (.int 1)))))) .nil) [some g, some (.tup (Q.map pr)), some (.lst true (W.map D.str)), x3, x4, some (pr q)] = .ok (decide (q.1 = W[W.length - 1])) [some g, some (.tup (Q.map pr)), some (.lst true (W.map D.str)), x3, x4, some (pr q)] := by
      rw [dTs, dT, hc, M.bind_ok]
      cases decide (q.1 = W[W.length - 1]) <;> rfl
    by_cases h : q.1 = W[W.length - 1]
    · refine .inr ⟨_, .str q.2, _, by rw [hcs, decide_eq_true h], ?_, if_pos h, some (pr q), rfl⟩
      simp [dE, R.bind, rd, e1, fst]
    · exact .inl ⟨_, by rw [hcs, decide_eq_false h], if_neg h, some (pr q), rfl⟩
  obtain ⟨r, hr⟩ : ∃ r, r = W[W.length - 1] := ⟨_, rfl⟩
  rw [← hr] at lp
  have fm : (Q.map pr).filterMap (fun d => match d with | .tup [.str a, .str b] => if a = r then some (D.str b) else none | _ => none) = ((Q.filter fun q => decide (q.1 = r)).map (·.2)).map D.str := by
    clear lp hbig hl hI frQ okQ
    induction Q with
    | nil => rfl
    | cons q Q ih =>
      rw [List.map_cons, List.filterMap_cons]
      by_cases h : q.1 = r
      · rw [List.filter_cons_of_pos (by simpa using h), List.map_cons, List.map_cons, ← ih hr]
        simp [pr, h]
      · rw [List.filter_cons_of_neg (by simpa using h), ← ih hr]
        simp [pr, h]
  refine ⟨(Q.filter fun q => decide (q.1 = r)).map (·.2), ?_, fun s m => ?_, ?_⟩
  · rw [nextE, dE, hI, M.bind_ok]
    dsimp only
    rw [if_pos hbig, lp, List.nil_append, fm]
    rfl
  · obtain ⟨q, mq, e⟩ := List.mem_map.mp m
    exact e ▸ okP_2 (okQ q (List.mem_filter.mp mq).1)
  · rw [List.length_map]
    exact Nat.le_trans (List.length_filter_le _ _) hl
theorem stop_run (T : Tab) (dr : Draws T 7) (x1 x2 x3 x5 : Option D) (a b c : Int) (N : List Str) (hN : ∀ q ∈ N, okS q = true) (hb : 0 ≤ b ∧ b < 2 ^ 62) (hc : 0 ≤ c ∧ c < 900000) :
    ∃ (k : Bool) (a' c' : Int), dT T stopT [some (box a b c), x1, x2, x3, some (.lst true (N.map D.str)), x5] = .ok k [some (box a' b c'), x1, x2, x3, some (.lst false (N.map D.str)), x5] ∧ (N = [] → k = true) ∧ c ≤ c' ∧ c' ≤ c + 1 := by
  have e1 := strs_nil hN false false
  have f : isFL (N.map D.str) = true := isF_strs N
  have ff : frzL (N.map D.str) = N.map D.str := isFL_frz f
  cases N with
  | nil =>
    refine ⟨true, a, c, ?_, fun _ => rfl, Int.le_refl _, by omega⟩
    rfl
  | cons p N =>
    obtain ⟨d, a', c', hT, q1, q2, q3, q4⟩ := dr a b c 12 (by decide) (by decide) hb (by omega)
    refine ⟨decide (d = 0), a', c', ?_, fun z => (nomatch z), q3, q4⟩
    have e2 : eqD (.int d) (.int 0) = some (d == 0) := eqD_int d 0
    have e3 : eqD (.lst false (D.str p :: N.map D.str)) (.lst false []) = some false := e1
    simp only [List.map_cons] at f ff
    simp only [List.map_cons, stopT, dT, dE, dEs, R.bind, rd, List.getElem?_cons_succ, List.getElem?_cons_zero, Option.join_some]
    have fn : frzL ([] : List D) = [] := rfl
    simp [isF, frz, ff, f, fn, fz, args1, ofO, cmpD, e3, truth, takeB, putB, rd, hT, e2]
    by_cases h : d = 0 <;> simp [h]
end K02

set_option Elab.async false
set_option linter.all false
set_option autoImplicit false
set_option maxRecDepth 100000
set_option maxHeartbeats 8000000
/-! P24: law k02: a row's turn, whole. -/
namespace K02
open PySem PySem.Spec Z M Pz
def qS : Str := { cps := #[113] }
theorem okS_q : okS qS = true := by decide +kernel
theorem else_run (T : Tab) (dr : Draws T 7) (Q : List Pr) (tg : TgS T Q) (x2 x3 x4 x5 : Option D) (a b c : Int) (hb : 0 ≤ b ∧ b < 2 ^ 62) (hc : 0 ≤ c ∧ c < 900000) :
    ∃ (N : List Str) (a' c' : Int), dS T elseS [some (box a b c), some (.tup (Q.map pr)), x2, x3, x4, x5] = .ok .nx [some (box a' b c'), some (.tup (Q.map pr)), x2, x3, some (.lst true (N.map D.str)), x5] ∧ (∀ s ∈ N, okS s = true) ∧ N.length ≤ 41 ∧ c ≤ c' ∧ c' ≤ c + 1 := by
  obtain ⟨d, a', c', hT, q1, q2, q3, q4⟩ := dr a b c 3 (by decide) (by decide) hb (by omega)
  obtain ⟨L, hL, okL, lL⟩ := tg
  have e2 : eqD (.int d) (.int 0) = some (d == 0) := eqD_int d 0
  have frQ : isF (.tup (Q.map pr)) = true := by rw [isF]; exact isF_prs Q
  have fzQ : fz (.tup (Q.map pr)) = .tup (Q.map pr) := by unfold fz; rw [if_pos frQ]
  have ct : dT T (.val (.cmp .Eq (.fn 7 (.bw 0 (.raw (.c (.int 3)) .nil))) (.c (.int 0)))) [some (box a b c), some (.tup (Q.map pr)), x2, x3, x4, x5] = .ok (decide (d = 0)) [some (box a' b c'), some (.tup (Q.map pr)), x2, x3, x4, x5] := by
    simp [dT, dE, dEs, R.bind, rd, isF, fz, takeB, putB, hT, cmpD, e2, ofO, truth]
    try (by_cases h : d = 0 <;> simp [h])
  by_cases h : d = 0
  · have hA : dE T (.bin .Add (.fn 14 (.raw (.v 1) .nil)) (.lst (.raw (.c (.str { cps := #[113] })) .nil))) [some (box a' b c'), some (.tup (Q.map pr)), x2, x3, x4, x5] = .ok (.lst true ((L ++ [qS]).map D.str)) [some (box a' b c'), some (.tup (Q.map pr)), x2, x3, x4, x5] := by
      have hb1 : L.length + 1 ≤ big := by unfold big; omega
      have fq : isF (.str qS) = true := rfl
      have zq : fz (.str qS) = .str qS := rfl
      have c1 : dE T (.fn 14 (.raw (.v 1) .nil)) [some (box a' b c'), some (.tup (Q.map pr)), x2, x3, x4, x5] = .ok (.lst true (L.map D.str)) [some (box a' b c'), some (.tup (Q.map pr)), x2, x3, x4, x5] := by
        simp [dE, dEs, R.bind, rd, frQ, fzQ, takeB, putB, hL]
      have c2 : dE T (.lst (.raw (.c (.str { cps := #[113] })) .nil)) [some (box a' b c'), some (.tup (Q.map pr)), x2, x3, x4, x5] = .ok (.lst true [.str qS]) [some (box a' b c'), some (.tup (Q.map pr)), x2, x3, x4, x5] := rfl
      have c3 : binD .Add (.lst true (L.map D.str)) (.lst true [.str qS]) = some (.lst true ((L ++ [qS]).map D.str)) := by
        have hb2 : (L.map D.str).length + [D.str qS].length ≤ big := by simp; exact hb1
        simp only [binD]
        rw [if_pos hb2, List.map_append]
        rfl
      rw [dE, c1, M.bind_ok, c2, M.bind_ok, c3]
      rfl
    refine ⟨L ++ [qS], a', c', ?_, fun s m => ?_, by simp; omega, q3, q4⟩
    · rw [elseS]
      refine (as_ok (i := 4) (e1 := [some (box a' b c'), some (.tup (Q.map pr)), x2, x3, x4, x5]) (d := .lst true ((L ++ [qS]).map D.str)) ?_ (by show 4 < 6; decide)).trans rfl
      rw [dE, ct, M.bind_ok, decide_eq_true h]
      exact hA
    · rcases List.mem_append.mp m with m | m
      · exact okL s m
      · rw [List.mem_singleton.mp m]
        exact okS_q
  · refine ⟨[], a', c', ?_, (fun s m => nomatch m), Nat.zero_le _, q3, q4⟩
    rw [elseS]
    refine (as_ok (i := 4) (e1 := [some (box a' b c'), some (.tup (Q.map pr)), x2, x3, x4, x5]) (d := .lst true []) ?_ (by show 4 < 6; decide)).trans rfl
    rw [dE, ct, M.bind_ok, decide_eq_false h]
    rfl
theorem add_run (T : Tab) (of : OfS T) (x1 x3 x5 : Option D) (o : Bool) (a b c : Int) (W N : List Str) (hW : W.length < 1000) (hN : ∀ q ∈ N, okS q = true) (hl : N.length ≤ 60) (hb : 0 ≤ b ∧ b < 2 ^ 62) (hc : 0 ≤ c ∧ c < 900000) :
    ∃ (Y : List Str) (a' c' : Int), dS T addS [some (box a b c), x1, some (.lst true (W.map D.str)), x3, some (.lst o (N.map D.str)), x5] = .ok .nx [some (box a' b c'), x1, some (.lst true ((W ++ Y).map D.str)), x3, some (.lst false (N.map D.str)), x5] ∧ (∀ s ∈ Y, s ∈ N) ∧ Y.length ≤ 1 ∧ c ≤ c' ∧ c' ≤ c + 1 := by
  have e1 := strs_nil hN false false
  have f : isFL (N.map D.str) = true := isF_strs N
  have ff : frzL (N.map D.str) = N.map D.str := isFL_frz f
  have fn : frzL ([] : List D) = [] := rfl
  have ct : dT T (.val (.cmp .NotEq (.v 4) (.lst .nil))) [some (box a b c), x1, some (.lst true (W.map D.str)), x3, some (.lst o (N.map D.str)), x5] = .ok (!N.isEmpty) [some (box a b c), x1, some (.lst true (W.map D.str)), x3, some (.lst false (N.map D.str)), x5] := by
    cases o <;> simp [dT, dE, dEs, R.bind, rd, isF, frz, f, ff, fz, fn, args1, cmpD, e1, ofO, truth]
  cases N with
  | nil =>
    refine ⟨[], a, c, ?_, (fun s m => nomatch m), Nat.zero_le _, Int.le_refl _, by omega⟩
    rw [List.append_nil]
    exact ite_ok ct rfl
  | cons p N =>
    obtain ⟨s, a', c', ms, hT, q3, q4⟩ := of false a b c (p :: N) ⟨by simp, by omega⟩ hb (by omega)
    refine ⟨[s], a', c', ite_ok ct ?_, fun t m => List.mem_singleton.mp m ▸ ms, by simp, q3, q4⟩
    show dSs T (.cons (.ap 2 (.fn 9 (.bw 0 (.raw (.v 4) .nil)))) .nil) _ = _
    have hb1 : W.length < big := by unfold big; omega
    have hg : isF (.lst false ((p :: N).map D.str)) = true := by
      show (!false && isFL _) = true
      rw [f]
      rfl
    have hz : fz (.lst false ((p :: N).map D.str)) = .lst false ((p :: N).map D.str) := by unfold fz; rw [if_pos hg]
    have zs : fz (.str s) = .str s := rfl
    generalize D.lst false ((p :: N).map D.str) = g at *
    generalize hbx : box a b c = bx at *
    simp [dSs, dS, dE, dEs, R.bind, rd, hg, hz, isL, takeB, putB, hT, hb1, zs]
end K02

set_option Elab.async false
set_option linter.all false
set_option autoImplicit false
set_option maxRecDepth 100000
set_option maxHeartbeats 8000000
/-! P25: law k02: row. -/
namespace K02
open PySem PySem.Spec Z M Pz
theorem row_turn (T : Tab) (dr : Draws T 7) (of : OfS T) (Q : List Pr) (tg : TgS T Q) (hl : Q.length ≤ 20) (okQ : ∀ q ∈ Q, okP q = true) (x3 x4 x5 : Option D) (a b c : Int) (W : List Str) (okW : ∀ s ∈ W, okS s = true) (h1 : 0 < W.length) (hW : W.length ≤ 20) (hb : 0 ≤ b ∧ b < 2 ^ 62) (hc : 0 ≤ c ∧ c < 800000) :
    ∃ (Y : List Str) (a' c' : Int) (y : Option D), dSs T rowL [some (box a b c), some (.tup (Q.map pr)), some (.lst true (W.map D.str)), x3, x4, x5] = .ok .nx [some (box a' b c'), some (.tup (Q.map pr)), some (.lst true ((W ++ Y).map D.str)), x3, y, x5] ∧ (∀ s ∈ Y, okS s = true) ∧ Y.length ≤ 1 ∧ c ≤ c' ∧ c' ≤ c + 3 := by
  obtain ⟨N, r1, okN, lN⟩ := next_run T (box a b c) x3 x4 x5 Q hl okQ W okW h1
  have s1 := as_ok (i := 4) r1 (by show 4 < 6; decide)
  obtain ⟨k, a1, c1, r2, n1, n2, n3⟩ := stop_run T dr (some (.tup (Q.map pr))) (some (.lst true (W.map D.str))) x3 x5 a b c N okN hb (by omega)
  cases k with
  | false =>
    obtain ⟨Y, a2, c2, r3, m1, m2, m3, m4⟩ := add_run T of (some (.tup (Q.map pr))) x3 x5 false a1 b c1 W N (by omega) okN (by omega) hb (by omega)
    exact ⟨Y, a2, c2, _, seq_ok s1 (seq_ok (ite_ok r2 rfl) (seq_ok r3 rfl)), fun s m => okN s (m1 s m), m2, by omega, by omega⟩
  | true =>
    obtain ⟨N2, a2, c2, r3, okN2, lN2, m3, m4⟩ := else_run T dr Q tg (some (.lst true (W.map D.str))) x3 (some (.lst false (N.map D.str))) x5 a1 b c1 hb (by omega)
    obtain ⟨Y, a3, c3, r4, p1, p2, p3, p4⟩ := add_run T of (some (.tup (Q.map pr))) x3 x5 true a2 b c2 W N2 (by omega) okN2 (by omega) hb (by omega)
    exact ⟨Y, a3, c3, _, seq_ok s1 (seq_ok (ite_ok r2 (seq_ok r3 rfl)) (seq_ok r4 rfl)), fun s m => okN2 s (p1 s m), p2, by omega, by omega⟩
theorem beg_row (T : Tab) (of : OfS T) (Q : List Pr) (tg : TgS T Q) (s : Str) (hs : T 15 [.tup (Q.map pr)] = .ok (.str s) [none]) (okS_s : okS s = true) (x2 x3 x4 x5 : Option D) (a b c : Int) (hb : 0 ≤ b ∧ b < 2 ^ 62) (hc : 0 ≤ c ∧ c < 900000) :
    ∃ (r : Str) (a' c' : Int), dS T begS [some (box a b c), some (.tup (Q.map pr)), x2, x3, x4, x5] = .ok .nx [some (box a' b c'), some (.tup (Q.map pr)), some (.lst true ([r].map D.str)), x3, x4, x5] ∧ okS r = true ∧ c ≤ c' ∧ c' ≤ c + 1 := by
  obtain ⟨L, hL, okL, lL⟩ := tg
  obtain ⟨r, a', c', mr, hT, q3, q4⟩ := of true a b c (L ++ List.replicate 6 s) ⟨by simp, by simp; omega⟩ hb (by omega)
  have frQ : isF (.tup (Q.map pr)) = true := by rw [isF]; exact isF_prs Q
  have fzQ : fz (.tup (Q.map pr)) = .tup (Q.map pr) := by unfold fz; rw [if_pos frQ]
  have c1 : dE T (.fn 14 (.raw (.v 1) .nil)) [some (box a b c), some (.tup (Q.map pr)), x2, x3, x4, x5] = .ok (.lst true (L.map D.str)) [some (box a b c), some (.tup (Q.map pr)), x2, x3, x4, x5] := by
    simp [dE, dEs, R.bind, rd, frQ, fzQ, takeB, putB, hL]
  have c2 : dE T (.fn 15 (.raw (.v 1) .nil)) [some (box a b c), some (.tup (Q.map pr)), x2, x3, x4, x5] = .ok (.str s) [some (box a b c), some (.tup (Q.map pr)), x2, x3, x4, x5] := by
    simp [dE, dEs, R.bind, rd, frQ, fzQ, takeB, putB, hs]
  have c3 : dE T (.lst (.raw (.fn 15 (.raw (.v 1) .nil)) .nil)) [some (box a b c), some (.tup (Q.map pr)), x2, x3, x4, x5] = .ok (.lst true [.str s]) [some (box a b c), some (.tup (Q.map pr)), x2, x3, x4, x5] := by
    have zs : fz (.str s) = .str s := rfl
    rw [dE, dEs, c2, M.bind_ok]
    rfl
  have c4 : dE T (.bin .Mult (.lst (.raw (.fn 15 (.raw (.v 1) .nil)) .nil)) (.c (.int 6))) [some (box a b c), some (.tup (Q.map pr)), x2, x3, x4, x5] = .ok (.lst true ((List.replicate 6 s).map D.str)) [some (box a b c), some (.tup (Q.map pr)), x2, x3, x4, x5] := by
    rw [dE, c3, M.bind_ok]
    rfl
  have c5 : dE T (.bin .Add (.fn 14 (.raw (.v 1) .nil)) (.bin .Mult (.lst (.raw (.fn 15 (.raw (.v 1) .nil)) .nil)) (.c (.int 6)))) [some (box a b c), some (.tup (Q.map pr)), x2, x3, x4, x5] = .ok (.lst true ((L ++ List.replicate 6 s).map D.str)) [some (box a b c), some (.tup (Q.map pr)), x2, x3, x4, x5] := by
    have hb2 : (L.map D.str).length + ((List.replicate 6 s).map D.str).length ≤ big := by simp; unfold big; omega
    rw [dE, c1, M.bind_ok, c4, M.bind_ok]
    simp only [binD]
    rw [if_pos hb2, List.map_append]
    rfl
  have c6 : dE T (.fn 9 (.bw 0 (.raw (.bin .Add (.fn 14 (.raw (.v 1) .nil)) (.bin .Mult (.lst (.raw (.fn 15 (.raw (.v 1) .nil)) .nil)) (.c (.int 6)))) .nil))) [some (box a b c), some (.tup (Q.map pr)), x2, x3, x4, x5] = .ok (.str r) [some (box a' b c'), some (.tup (Q.map pr)), x2, x3, x4, x5] := by
    generalize E.bin .Add (.fn 14 (.raw (.v 1) .nil)) (.bin .Mult (.lst (.raw (.fn 15 (.raw (.v 1) .nil)) .nil)) (.c (.int 6))) = X at c5
    generalize D.lst true ((L ++ List.replicate 6 s).map D.str) = g at *
    generalize hbx : box a b c = bx at *
    simp [dE, dEs, R.bind, rd, c5, takeB, putB, hT]
  refine ⟨r, a', c', ?_, ?_, q3, q4⟩
  · rw [begS]
    refine (as_ok (i := 2) (e1 := [some (box a' b c'), some (.tup (Q.map pr)), x2, x3, x4, x5]) (d := .lst true [.str r]) ?_ (by show 2 < 6; decide)).trans rfl
    rw [dE, dEs, c6, M.bind_ok]
    rfl
  · rcases List.mem_append.mp mr with m | m
    · exact okL r m
    · rw [(List.mem_replicate.mp m).2]
      exact okS_s
end K02

set_option Elab.async false
set_option linter.all false
set_option autoImplicit false
set_option maxRecDepth 100000
set_option maxHeartbeats 8000000
/-! P26: law k02: row, whole. -/
namespace K02
open PySem PySem.Spec Z M Pz
theorem row_run (T : Tab) (dr : Draws T 7) (of : OfS T) (Q : List Pr) (tg : TgS T Q) (s : Str) (hs : T 15 [.tup (Q.map pr)] = .ok (.str s) [none]) (okS_s : okS s = true) (hl : Q.length ≤ 20) (okQ : ∀ q ∈ Q, okP q = true) (a b c : Int) (hb : 0 ≤ b ∧ b < 2 ^ 62) (hc : 0 ≤ c ∧ c < 700000) :
    ∃ (W : List Str) (a' c' : Int) (e : Ev), dSs T b18 [some (box a b c), some (.tup (Q.map pr)), none, none, none, none] = .ok (.rt (.tup (W.map D.str))) e ∧ rd 0 e = some (box a' b c') ∧ (∀ s ∈ W, okS s = true) ∧ 0 < W.length ∧ W.length ≤ 9 ∧ c ≤ c' ∧ c' ≤ c + 40 := by
  obtain ⟨r, a1, c1, r1, okr, b1, b2⟩ := beg_row T of Q tg s hs okS_s none none none none a b c hb (by omega)
  obtain ⟨d, a2, c2, hT, q1, q2, q3, q4⟩ := dr a1 b c1 9 (by decide) (by decide) hb (by omega)
  obtain ⟨m, rfl⟩ := Int.eq_ofNat_of_zero_le q1
  have hm : m < 9 := by omega
  have hI : dI T (.rng (.cons (.fn 7 (.bw 0 (.raw (.c (.int 9)) .nil))) .nil)) [some (box a1 b c1), some (.tup (Q.map pr)), some (.lst true ([r].map D.str)), none, none, none] =
      .ok ((List.range m).map fun (k : Nat) => D.int (Int.ofNat k)) [some (box a2 b c2), some (.tup (Q.map pr)), some (.lst true ([r].map D.str)), none, none, none] := by
    have hd : dEs T (.cons (.fn 7 (.bw 0 (.raw (.c (.int 9)) .nil))) .nil) [some (box a1 b c1), some (.tup (Q.map pr)), some (.lst true ([r].map D.str)), none, none, none] = .ok [.inl (.int (m : Int))] [some (box a2 b c2), some (.tup (Q.map pr)), some (.lst true ([r].map D.str)), none, none, none] := by
      have zi : ∀ i, fz (.int i) = .int i := fun s => rfl
      generalize box a1 b c1 = bx at *
      simp [dEs, dE, R.bind, rd, takeB, putB, hT, zi]
    have ar : args1 [.inl (.int (m : Int))] = some [.int (m : Int)] := rfl
    rw [dI, hd, M.bind_ok, ar, rng_at m (by omega), ofO]
  have loop := frL_by (tg := .n 3) (body := dSs T rowL) (fun i e => ∃ (W : List Str) (a' c' : Int) (t y : Option D), e = [some (box a' b c'), some (.tup (Q.map pr)), some (.lst true (W.map D.str)), t, y, none] ∧ (∀ s ∈ W, okS s = true) ∧ 0 < W.length ∧ W.length ≤ 1 + i ∧ c2 ≤ c' ∧ c' ≤ c2 + 3 * i)
    ((List.range m).map fun (k : Nat) => D.int (Int.ofNat k)) 0 [some (box a2 b c2), some (.tup (Q.map pr)), some (.lst true ([r].map D.str)), none, none, none] ⟨[r], a2, c2, none, none, rfl, fun s m => List.mem_singleton.mp m ▸ okr, by simp, by simp, Int.le_refl _, by omega⟩
    fun k d hk e ⟨W, a', c', t, y, e1, h1, h2, h3, h4, h5⟩ => by
      rw [Nat.zero_add] at h3 h5
      rw [Nat.zero_add]
      have hkz : k < m := by
        have := (List.getElem?_eq_some_iff.mp hk).1
        simpa using this
      obtain ⟨Y, a3, c3, y2, rt, p1, p2, p3, p4⟩ := row_turn T dr of Q tg hl okQ (some d) y none a' b c' W h1 h2 (by omega) hb (by omega)
      refine ⟨[some (box a' b c'), some (.tup (Q.map pr)), some (.lst true (W.map D.str)), some d, y, none], _, by rw [e1]; rfl, rt, W ++ Y, a3, c3, some d, y2, rfl, fun s ms => ?_, by rw [List.length_append]; omega, by rw [List.length_append]; omega, by omega, by omega⟩
      rcases List.mem_append.mp ms with ms | ms
      · exact h1 s ms
      · exact p1 s ms
  rw [Nat.zero_add, List.length_map, List.length_range] at loop
  obtain ⟨e', lp, W, a', c', t, y, e1, h1, h2, h3, h4, h5⟩ := loop
  subst e1
  have fin : ∃ e, dSs T (.cons (.ret (.bi .tuple (.cons (.v 2) .nil))) .nil) [some (box a' b c'), some (.tup (Q.map pr)), some (.lst true (W.map D.str)), t, y, none] = .ok (.rt (.tup (W.map D.str))) e ∧ rd 0 e = some (box a' b c') := by
    have fr : isFL (W.map D.str) = true := isF_strs W
    have ff : frzL (W.map D.str) = W.map D.str := isFL_frz fr
    generalize box a' b c' = bx
    refine ⟨[some bx, some (.tup (Q.map pr)), some (.lst false (W.map D.str)), t, y, none], ?_, rfl⟩
    simp [dSs, dS, dE, dEs, R.bind, rd, isF, frz, ff, fr, fz, args1, biD, ofO]
  obtain ⟨e, fe, re⟩ := fin
  refine ⟨W, a', c', e, ?_, re, h1, h2, by omega, by omega, by omega⟩
  rw [b18_eq]
  exact seq_ok r1 (seq_ok (fr_ok hI lp) fe)
theorem row_fn (n : Nat) {Q : List Pr} {s t : Str} (E : Ends Q s t) (a b c : Int) (hb : 0 ≤ b ∧ b < 2 ^ 62) (hc : 0 ≤ c ∧ c < 700000) :
    ∃ (W : List Str) (a' c' : Int), tab fs (n + 3) 18 [box a b c, .tup (Q.map pr)] = .ok (.tup (W.map D.str)) [some (box a' b c'), none] ∧ (∀ s ∈ W, okS s = true) ∧ 0 < W.length ∧ W.length ≤ 9 ∧ c ≤ c' ∧ c' ≤ c + 40 := by
  have lQ := E.len
  have he : ∃ q ∈ Q, ∀ p ∈ Q, p.2 ≠ q.1 := by
    obtain ⟨q, m, e⟩ := List.mem_map.mp E.sA
    exact ⟨q, m, fun p mp ep => E.sB (List.mem_map.mpr ⟨p, mp, by rw [ep, e]⟩)⟩
  obtain ⟨s', fi, ⟨q, mq, eq⟩, no⟩ := first_fn n Q (by omega) E.ok he
  have oks : okS s' = true := eq ▸ okP_1 (E.ok q mq)
  obtain ⟨L, hL, nd, mL, lL⟩ := tags_fn (n + 1) Q (by omega)
  have tg : TgS (tab fs (n + 2)) Q := ⟨L, hL, fun x m => by
    rcases (mL x).mp m with ⟨q, mq, e⟩ | ⟨q, mq, e⟩
    · exact e ▸ okP_1 (E.ok q mq)
    · exact e ▸ okP_2 (E.ok q mq), by omega⟩
  obtain ⟨W, a', c', e, h, hr, h1, h2, h3, h4, h5⟩ := row_run (tab fs (n + 2)) (draws (n + 1)) (of_strs n) Q tg s' fi oks lQ E.ok a b c hb hc
  refine ⟨W, a', c', ?_, h1, h2, h3, h4, h5⟩
  rw [tab, show fs[18]? = some ⟨2, 6, [0], b18⟩ from rfl]
  refine (run_rt (F := ⟨2, 6, [0], b18⟩) rfl h).trans ?_
  show R.ok (D.tup (W.map D.str)) [rd 0 e, none] = _
  rw [hr]
end K02

set_option Elab.async false
set_option linter.all false
set_option autoImplicit false
set_option maxRecDepth 100000
set_option maxHeartbeats 8000000
/-! P27: law k02: what a turn of the drawn question calls. -/
namespace K02
open PySem PySem.Spec Z M Pz
theorem is_path_own (n : Nat) (Q : List Pr) (W : List Str) (hQ : Q.length ≤ 500) :
    tab fs (n + 4) 2 [.tup (Q.map pr), .lst true (W.map D.str)] = .ok (.bl false) [none, none] := by
  have pw := plain_web n Q hQ true
  change tab fs (n + 3) 0 [.tup (Q.map pr)] = _ at pw
  rw [tab, show fs[2]? = some ⟨2, 3, [], b2⟩ from rfl]
  refine run_rt (F := ⟨2, 3, [], b2⟩) (e := [some (.tup (Q.map pr)), some (.lst false (W.map D.str)), none]) rfl ?_
  show dSs (tab fs (n + 3)) b2 [some (.tup (Q.map pr)), some (.lst true (W.map D.str)), none] = _
  generalize tab fs (n + 3) = T at pw
  have frQ : isF (.tup (Q.map pr)) = true := by rw [isF]; exact isF_prs Q
  have fzQ : fz (.tup (Q.map pr)) = .tup (Q.map pr) := by unfold fz; rw [if_pos frQ]
  have fl : isFL (W.map D.str) = true := isF_strs W
  have frW : isF (.lst false (W.map D.str)) = true := by
    show (!false && isFL (W.map D.str)) = true
    rw [fl]
    rfl
  have frN : isF (.lst true (W.map D.str)) = false := rfl
  have frz1 : frz (.lst true (W.map D.str)) = .lst false (W.map D.str) := by rw [frz, isFL_frz fl]
  have fzW : fz (.lst false (W.map D.str)) = .lst false (W.map D.str) := by unfold fz; rw [if_pos frW]
  have p0 : dE T (.fn 0 (.raw (.v 0) .nil)) [some (.tup (Q.map pr)), some (.lst true (W.map D.str)), none] = .ok (.tup (Q.map pr)) [some (.tup (Q.map pr)), some (.lst true (W.map D.str)), none] := by
    simp [dE, dEs, R.bind, rd, frQ, fzQ, takeB, putB, pw]
  rw [b2_eq]
  refine seq_ok (as_ok (i := 0) p0 (by show 0 < 3; decide)) ?_
  show dSs T _ [some (.tup (Q.map pr)), some (.lst true (W.map D.str)), none] = _
  have ty : tyAny (.lst false (W.map D.str)) [.tuple] = some false := rfl
  have sr : dT T shortT [some (.tup (Q.map pr)), some (.lst true (W.map D.str)), none] = .ok true [some (.tup (Q.map pr)), some (.lst false (W.map D.str)), none] := by
    have h2 : dE T (.isi (.v 1) [.tuple] true) [some (.tup (Q.map pr)), some (.lst true (W.map D.str)), none] = .ok (.bl false) [some (.tup (Q.map pr)), some (.lst false (W.map D.str)), none] := by
      simp [dE, R.bind, rd, frN, frz1, fzW, ty, ofO]
    rw [shortT, dT, dT, dT, h2, M.bind_ok]
    rfl
  have hi := ite_ok (a := .cons (.ret (.c (.bl false))) .nil) (b := .nil) sr (o := .ok (.rt (.bl false)) [some (.tup (Q.map pr)), some (.lst false (W.map D.str)), none]) (by rw [if_pos rfl]; rfl)
  rw [dSs, hi]
abbrev Row := List Str
def rowD (W : Row) : D := .tup (W.map D.str)
def okR (W : Row) : Prop := (∀ s ∈ W, okS s = true) ∧ 0 < W.length ∧ W.length ≤ 9
def rv (Q : List Pr) (s t : Str) (W : Row) : Bool := if h : 0 < W.length then isRun Q s t W h else false
/-- what is asked of the table -/
structure Has (T : Tab) : Prop where
  gr : ∀ a b c : Int, 0 ≤ b ∧ b < 2 ^ 62 → 0 ≤ c ∧ c < 600000 → ∃ (Q : List Pr) (a' c' : Int), T 13 [box a b c, .int 2, .int 9] = .ok (.tup (Q.map pr)) [some (box a' b c'), none, none] ∧ Web Q ∧ c ≤ c' ∧ c' ≤ c + 100
  ls : ∀ Q : List Pr, Q.length ≤ 500 → T 11 [.tup (Q.map pr)] = .ok (.lst true (Q.map prO)) [none]
  rw_ : ∀ (Q : List Pr) (s t : Str), Ends Q s t → ∀ a b c : Int, 0 ≤ b ∧ b < 2 ^ 62 → 0 ≤ c ∧ c < 700000 → ∃ (W : Row) (a' c' : Int), T 18 [box a b c, .tup (Q.map pr)] = .ok (rowD W) [some (box a' b c'), none] ∧ okR W ∧ c ≤ c' ∧ c' ≤ c + 40
  ip : ∀ (o : Bool) (Q : List Pr) (s t : Str), Ends Q s t → ∀ W : Row, okR W → T 2 [gW o Q, rowD W] = .ok (.bl (isPath Q W)) [none, none]
  ir : ∀ (o : Bool) (Q : List Pr) (s t : Str), Ends Q s t → ∀ W : Row, okR W → T 3 [gW o Q, rowD W] = .ok (.bl (rv Q s t W)) [none, none]
  il : ∀ (Q : List Pr) (W : Row), Q.length ≤ 500 → T 2 [.tup (Q.map pr), .lst true (W.map D.str)] = .ok (.bl false) [none, none]
  go : ∀ (Q : List Pr) (s t : Str), Ends Q s t → ∀ W : Row, okR W → T 16 [.tup (Q.map pr), rowD W] = .ok (.bl (isPath Q W)) [none, none]
  wh : ∀ (Q : List Pr) (s t : Str), Ends Q s t → ∀ W : Row, okR W → T 17 [.tup (Q.map pr), rowD W] = .ok (.bl (rv Q s t W)) [none, none]
  sm : ∀ l : List D, pl 2 (.lst false l) = true → T 10 [.lst false l, .lst false l] = .ok (.bl true) [none, none]
theorem has (n : Nat) : Has (tab fs (n + 5)) where
  gr := fun a b c hb hc => graph_fn (n + 2) a b c hb hc
  ls := fun Q h => lists_fn (n + 2) Q h
  rw_ := fun Q s t E a b c hb hc => by
    obtain ⟨W, a', c', h1, h2, h3, h4, h5, h6⟩ := row_fn (n + 2) E a b c hb hc
    exact ⟨W, a', c', h1, ⟨h2, h3, h4⟩, h5, h6⟩
  ip := fun o Q s t E W ok => is_path_fn (n + 1) o Q W (by have := E.len; omega) E.ok ok.1 ok.2.1 (by have := ok.2.2; omega)
  ir := fun o Q s t E W ok => by
    rw [rv, dif_pos ok.2.1]
    exact is_run_fn n o E W ok.1 ok.2.1 (by have := ok.2.2; omega)
  il := fun Q W h => is_path_own (n + 1) Q W h
  go := fun Q s t E W ok => goes_fn (n + 4) Q W E.ok ok.1 ok.2.1 (by have := ok.2.2; omega)
  wh := fun Q s t E W ok => by
    rw [rv, dif_pos ok.2.1]
    exact whole_fn (n + 2) E W ok.1 ok.2.1 (by have := ok.2.2; omega)
  sm := fun l h => same_refl_lst (fs := fs) (j := 10) rfl 1 false false l h (n + 4) (by omega)
end K02

set_option Elab.async false
set_option linter.all false
set_option autoImplicit false
set_option maxRecDepth 100000
set_option maxHeartbeats 8000000
/-! P28: law k02: a turn of the drawn question, its pieces. -/
namespace K02
open PySem PySem.Spec Z M Pz
def rowsE : E := .lc [8] (.n 8) (.rng (.cons (.c (.int 8)) .nil)) .nil (.fn 18 (.bw 0 (.raw (.v 2) .nil)))
def splitS : S := .as (.t (.cons (.n 5) (.cons (.n 6) .nil))) (.tup (.cons (.fn 11 (.raw (.v 2) .nil)) (.cons rowsE .nil)))
def q4E : E := .lst (.raw (.fn 2 (.raw (.v 2) (.raw (.v 7) .nil))) (.raw (.fn 3 (.raw (.v 2) (.raw (.v 7) .nil))) (.raw (.fn 2 (.raw (.v 5) (.raw (.v 7) .nil))) (.raw (.fn 3 (.raw (.v 5) (.raw (.v 7) .nil))) .nil))))
def gotE : E := .lc [7] (.n 7) (.var 6) .nil q4E
def q2E : E := .bin .Mult (.lst (.raw (.fn 16 (.raw (.v 2) (.raw (.v 7) .nil))) (.raw (.fn 17 (.raw (.v 2) (.raw (.v 7) .nil))) .nil))) (.c (.int 2))
def wantE : E := .lc [7] (.n 7) (.var 6) .nil q2E
def badE : E := .lc [7] (.n 7) (.var 6) (.cons (.val (.fn 2 (.raw (.v 2) (.raw (.bi .list (.cons (.v 7) .nil)) .nil)))) .nil) (.v 7)
def wrongT : Te := .or (.not (.val (.fn 10 (.raw (.v 3) (.raw (.v 4) .nil))))) (.val (.cmp .NotEq badE (.lst .nil)))
def drawE : E := .fn 13 (.bw 0 (.raw (.c (.int 2)) (.raw (.c (.int 9)) .nil)))
def rightL : Ss := .cons (.as (.n 2) drawE) (.cons splitS (.cons (.as (.n 3) gotE) (.cons (.as (.n 4) wantE) (.cons (.ite wrongT (.cons (.ret (.c (.bl false))) .nil) .nil) .nil))))
theorem b20_eq : b20 = .cons (.fr (.n 1) (.rng (.cons (.c (.int 8)) .nil)) rightL) (.cons (.ret (.c (.bl true))) .nil) := rfl
theorem isF_rowD (W : Row) : isF (rowD W) = true := by rw [rowD, isF]; exact isF_strs W
theorem fz_rowD (W : Row) : fz (rowD W) = rowD W := by unfold fz; rw [if_pos (isF_rowD W)]
theorem isF_rows : ∀ Ws : List Row, isFL (Ws.map rowD) = true
  | [] => rfl
  | W :: Ws => by rw [List.map_cons, isFL, isF_rows Ws, isF_rowD]; rfl
theorem isF_tQ (Q : List Pr) : isF (.tup (Q.map pr)) = true := by rw [isF]; exact isF_prs Q
theorem fz_tQ (Q : List Pr) : fz (.tup (Q.map pr)) = .tup (Q.map pr) := by unfold fz; rw [if_pos (isF_tQ Q)]
theorem draw_run (T : Tab) (H : Has T) (x1 x2 x3 x4 x5 x6 x7 x8 : Option D) (a b c : Int) (hb : 0 ≤ b ∧ b < 2 ^ 62) (hc : 0 ≤ c ∧ c < 600000) :
    ∃ (Q : List Pr) (a' c' : Int), dE T drawE [some (box a b c), x1, x2, x3, x4, x5, x6, x7, x8] = .ok (.tup (Q.map pr)) [some (box a' b c'), x1, x2, x3, x4, x5, x6, x7, x8] ∧ Web Q ∧ c ≤ c' ∧ c' ≤ c + 100 := by
  obtain ⟨Q, a', c', hT, hw, h1, h2⟩ := H.gr a b c hb hc
  refine ⟨Q, a', c', ?_, hw, h1, h2⟩
  generalize box a b c = bx at *
  simp [drawE, dE, dEs, R.bind, rd, takeB, putB, hT]
theorem rows_run (T : Tab) (H : Has T) {Q : List Pr} {s t : Str} (E : Ends Q s t) (x1 x3 x4 x5 x6 x7 x8 : Option D) (a b c : Int) (hb : 0 ≤ b ∧ b < 2 ^ 62) (hc : 0 ≤ c ∧ c < 600500) :
    ∃ (Ws : List Row) (a' c' : Int), dE T rowsE [some (box a b c), x1, some (.tup (Q.map pr)), x3, x4, x5, x6, x7, x8] = .ok (.lst true (Ws.map rowD)) [some (box a' b c'), x1, some (.tup (Q.map pr)), x3, x4, x5, x6, x7, x8] ∧ (∀ W ∈ Ws, okR W) ∧ Ws.length = 8 ∧ c ≤ c' ∧ c' ≤ c + 320 := by
  have hI : dIc T (.rng (.cons (.c (.int 8)) .nil)) [some (box a b c), x1, some (.tup (Q.map pr)), x3, x4, x5, x6, x7, x8] = .ok ((List.range 8).map (fun (k : Nat) => D.int (Int.ofNat k)), none) [some (box a b c), x1, some (.tup (Q.map pr)), x3, x4, x5, x6, x7, x8] := by
    have r := rng_at 8 (by decide)
    change rngD (some [.int 8]) = _ at r
    have hd : dEs T (.cons (.c (.int 8)) .nil) [some (box a b c), x1, some (.tup (Q.map pr)), x3, x4, x5, x6, x7, x8] = .ok [.inl (.int 8)] [some (box a b c), x1, some (.tup (Q.map pr)), x3, x4, x5, x6, x7, x8] := rfl
    rw [dIc, hd, M.bind_ok, show args1 [.inl (D.int 8)] = some [.int 8] from rfl, r]
    rfl
  obtain ⟨acc, e', lp, Ws, a', c', y, hacc, he, hw, hn, h3, h4⟩ := lcL_by (own := [8]) (tg := .n 8) (cs := dTs T .nil) (elt := dE T (.fn 18 (.bw 0 (.raw (.v 2) .nil))))
    (fun i acc e => ∃ (Ws : List Row) (a' c' : Int) (y : Option D), acc = Ws.map rowD ∧ e = [some (box a' b c'), x1, some (.tup (Q.map pr)), x3, x4, x5, x6, x7, y] ∧ (∀ W ∈ Ws, okR W) ∧ Ws.length = i ∧ c ≤ c' ∧ c' ≤ c + 40 * i)
    ((List.range 8).map (fun (k : Nat) => D.int (Int.ofNat k))) 0 [] [some (box a b c), x1, some (.tup (Q.map pr)), x3, x4, x5, x6, x7, x8] ⟨[], a, c, x8, rfl, rfl, (fun W m => nomatch m), rfl, Int.le_refl _, by omega⟩
    fun k d hk acc e ⟨Ws, a', c', y, ha, he, hw, hn, h3, h4⟩ => by
      rw [Nat.zero_add] at hn h4
      rw [Nat.zero_add]
      have hk8 : k < 8 := by
        have := (List.getElem?_eq_some_iff.mp hk).1
        simpa using this
      obtain ⟨W, a2, c2, hT, ok, p1, p2⟩ := H.rw_ Q s t E a' b c' hb (by omega)
      refine ⟨[some (box a' b c'), x1, some (.tup (Q.map pr)), x3, x4, x5, x6, x7, some d], by rw [he]; rfl, .inr ⟨_, rowD W, [some (box a2 b c2), x1, some (.tup (Q.map pr)), x3, x4, x5, x6, x7, some d], rfl, ?_, Ws ++ [W], a2, c2, some d, by rw [ha, List.map_append]; rfl, rfl, fun V m => ?_, by rw [List.length_append, hn]; rfl, by omega, by omega⟩⟩
      · have f := isF_tQ Q
        have z := fz_tQ Q
        generalize box a' b c' = bx at *
        generalize D.tup (Q.map pr) = g at *
        simp [dE, dEs, R.bind, rd, f, z, takeB, putB, hT]
      · rcases List.mem_append.mp m with m | m
        · exact hw V m
        · exact List.mem_singleton.mp m ▸ ok
  rw [Nat.zero_add, List.length_map, List.length_range] at hn h4
  refine ⟨Ws, a', c', ?_, hw, hn, h3, by omega⟩
  subst he hacc
  rw [rowsE, dE, hI, M.bind_ok]
  dsimp only
  rw [if_pos (by decide), lp]
  rfl
theorem split_run (T : Tab) (H : Has T) {Q : List Pr} {s t : Str} (E : Ends Q s t) (x1 x3 x4 x5 x6 x7 x8 : Option D) (a b c : Int) (hb : 0 ≤ b ∧ b < 2 ^ 62) (hc : 0 ≤ c ∧ c < 600500) :
    ∃ (Ws : List Row) (a' c' : Int), dS T splitS [some (box a b c), x1, some (.tup (Q.map pr)), x3, x4, x5, x6, x7, x8] = .ok .nx [some (box a' b c'), x1, some (.tup (Q.map pr)), x3, x4, some (gW false Q), some (.lst false (Ws.map rowD)), x7, x8] ∧ (∀ W ∈ Ws, okR W) ∧ Ws.length = 8 ∧ c ≤ c' ∧ c' ≤ c + 320 := by
  obtain ⟨Ws, a', c', hr, hw, hn, h3, h4⟩ := rows_run T H E x1 x3 x4 x5 x6 x7 x8 a b c hb hc
  refine ⟨Ws, a', c', ?_, hw, hn, h3, h4⟩
  have hl := H.ls Q (by have := E.len; omega)
  have c1 : dE T (.fn 11 (.raw (.v 2) .nil)) [some (box a b c), x1, some (.tup (Q.map pr)), x3, x4, x5, x6, x7, x8] = .ok (.lst true (Q.map prO)) [some (box a b c), x1, some (.tup (Q.map pr)), x3, x4, x5, x6, x7, x8] := by
    have f := isF_tQ Q
    have z := fz_tQ Q
    generalize D.tup (Q.map pr) = g at *
    simp [dE, dEs, R.bind, rd, f, z, takeB, putB, hl]
  have z1 : fz (.lst true (Q.map prO)) = gW false Q := by
    unfold fz
    rw [if_neg (by simp [isF]), frz, frz_prO]
    rfl
  have z2 : fz (.lst true (Ws.map rowD)) = .lst false (Ws.map rowD) := by
    unfold fz
    rw [if_neg (by simp [isF]), frz, isFL_frz (isF_rows Ws)]
  have z3 : fz (gW false Q) = gW false Q := by unfold fz; rw [if_pos (isF_gW false Q)]
  have z4 : fz (.lst false (Ws.map rowD)) = .lst false (Ws.map rowD) := by
    unfold fz
    rw [if_pos (by show (!false && isFL _) = true; rw [isF_rows]; rfl)]
  have c2 : dE T (.tup (.cons (.fn 11 (.raw (.v 2) .nil)) (.cons rowsE .nil))) [some (box a b c), x1, some (.tup (Q.map pr)), x3, x4, x5, x6, x7, x8] = .ok (.tup [gW false Q, .lst false (Ws.map rowD)]) [some (box a' b c'), x1, some (.tup (Q.map pr)), x3, x4, x5, x6, x7, x8] := by
    have hb2 : (2 : Nat) ≤ big := by decide
    rw [dE, dEs, c1, M.bind_ok, dEs, hr, M.bind_ok, dEs, M.bind_ok, M.bind_ok, M.bind_ok, z1, z2]
    simp [args1, hb2, z3, z4, ofO]
  rw [splitS, dS, c2, M.bind_ok]
  rfl
end K02

set_option Elab.async false
set_option linter.all false
set_option autoImplicit false
set_option maxRecDepth 100000
set_option maxHeartbeats 8000000
/-! P29: law k02: right. -/
namespace K02
open PySem PySem.Spec Z M Pz
def ans (o : Bool) (Q : List Pr) (s t : Str) (W : Row) : D := .lst o [.bl (isPath Q W), .bl (rv Q s t W), .bl (isPath Q W), .bl (rv Q s t W)]
theorem rows_big {Ws : List Row} (hn : Ws.length = 8) : (Ws.map rowD).length ≤ big := by rw [List.length_map, hn]; decide
theorem rows_it (T : Tab) (x0 x1 x2 x3 x4 x5 x7 x8 : Option D) (Ws : List Row) : dIc T (.var 6) [x0, x1, x2, x3, x4, x5, some (.lst false (Ws.map rowD)), x7, x8] = .ok (Ws.map rowD, none) [x0, x1, x2, x3, x4, x5, some (.lst false (Ws.map rowD)), x7, x8] := by
  have f : isF (.lst false (Ws.map rowD)) = true := by show (!false && isFL _) = true; rw [isF_rows]; rfl
  simp [dIc, rd, f, items, ofO]
/-- a comprehension over the rows -/
theorem over_rows (T : Tab) (x : E) (g : Row → D) (x0 x1 x2 x3 x4 x5 x7 x8 : Option D) (Ws : List Row) (hn : Ws.length = 8)
    (h : ∀ W ∈ Ws, dE T x [x0, x1, x2, x3, x4, x5, some (.lst false (Ws.map rowD)), some (rowD W), x8] = .ok (g W) [x0, x1, x2, x3, x4, x5, some (.lst false (Ws.map rowD)), some (rowD W), x8]) :
    dE T (.lc [7] (.n 7) (.var 6) .nil x) [x0, x1, x2, x3, x4, x5, some (.lst false (Ws.map rowD)), x7, x8] = .ok (.lst true (Ws.map g)) [x0, x1, x2, x3, x4, x5, some (.lst false (Ws.map rowD)), x7, x8] := by
  obtain ⟨acc, e', lp, hacc, y, rfl⟩ := lcL_by (own := [7]) (tg := .n 7) (cs := dTs T .nil) (elt := dE T x) (fun i acc e => acc = (Ws.take i).map g ∧ ∃ y, e = [x0, x1, x2, x3, x4, x5, some (.lst false (Ws.map rowD)), y, x8]) (Ws.map rowD) 0 [] [x0, x1, x2, x3, x4, x5, some (.lst false (Ws.map rowD)), x7, x8] ⟨rfl, x7, rfl⟩ fun k d hk acc e ⟨ha, y, he⟩ => by
    rw [Nat.zero_add] at ha
    rw [Nat.zero_add]
    rw [List.getElem?_map] at hk
    obtain ⟨W, hW, rfl⟩ := Option.map_eq_some_iff.mp hk
    subst he ha
    refine ⟨[x0, x1, x2, x3, x4, x5, some (.lst false (Ws.map rowD)), some (rowD W), x8], rfl, .inr ⟨_, g W, _, rfl, h W (List.mem_of_getElem? hW), ?_, some (rowD W), rfl⟩⟩
    rw [List.take_succ, hW, Option.toList_some, List.map_append]
    rfl
  rw [Nat.zero_add, List.length_map, List.take_length] at hacc
  rw [hacc] at lp
  rw [dE, rows_it, M.bind_ok]
  dsimp only
  rw [if_pos (rows_big hn), lp]
  rfl
theorem got_at (T : Tab) (H : Has T) {Q : List Pr} {s t : Str} (E : Ends Q s t) (W : Row) (ok : okR W) (x0 x1 x3 x4 x6 x8 : Option D) :
    dE T q4E [x0, x1, some (.tup (Q.map pr)), x3, x4, some (gW false Q), x6, some (rowD W), x8] = .ok (ans true Q s t W) [x0, x1, some (.tup (Q.map pr)), x3, x4, some (gW false Q), x6, some (rowD W), x8] := by
  have a1 := H.ip true Q s t E W ok
  have a2 := H.ir true Q s t E W ok
  have a3 := H.ip false Q s t E W ok
  have a4 := H.ir false Q s t E W ok
  change T 2 [.tup (Q.map pr), rowD W] = _ at a1
  change T 3 [.tup (Q.map pr), rowD W] = _ at a2
  have f := isF_tQ Q
  have z := fz_tQ Q
  have f2 := isF_gW false Q
  have z2 : fz (gW false Q) = gW false Q := by unfold fz; rw [if_pos f2]
  have f3 := isF_rowD W
  have z3 := fz_rowD W
  have hb2 : (4 : Nat) ≤ big := by decide
  have zb : ∀ b, fz (.bl b) = .bl b := fun b => rfl
  unfold ans
  generalize D.tup (Q.map pr) = g at *
  generalize gW false Q = g2 at *
  generalize rowD W = r at *
  simp [q4E, dE, dEs, R.bind, rd, f, z, f2, z2, f3, z3, takeB, putB, a1, a2, a3, a4, args1, hb2, zb, ofO]
theorem want_at (T : Tab) (H : Has T) {Q : List Pr} {s t : Str} (E : Ends Q s t) (W : Row) (ok : okR W) (x0 x1 x3 x4 x5 x6 x8 : Option D) :
    dE T q2E [x0, x1, some (.tup (Q.map pr)), x3, x4, x5, x6, some (rowD W), x8] = .ok (ans true Q s t W) [x0, x1, some (.tup (Q.map pr)), x3, x4, x5, x6, some (rowD W), x8] := by
  have a1 := H.go Q s t E W ok
  have a2 := H.wh Q s t E W ok
  have f := isF_tQ Q
  have z := fz_tQ Q
  have f3 := isF_rowD W
  have z3 := fz_rowD W
  have hb2 : (2 : Nat) ≤ big := by decide
  have zb : ∀ b, fz (.bl b) = .bl b := fun b => rfl
  have c1 : dE T (.lst (.raw (.fn 16 (.raw (.v 2) (.raw (.v 7) .nil))) (.raw (.fn 17 (.raw (.v 2) (.raw (.v 7) .nil))) .nil))) [x0, x1, some (.tup (Q.map pr)), x3, x4, x5, x6, some (rowD W), x8] = .ok (.lst true [.bl (isPath Q W), .bl (rv Q s t W)]) [x0, x1, some (.tup (Q.map pr)), x3, x4, x5, x6, some (rowD W), x8] := by
    generalize D.tup (Q.map pr) = g at *
    generalize rowD W = r at *
    simp [dE, dEs, R.bind, rd, f, z, f3, z3, takeB, putB, a1, a2, args1, hb2, zb, ofO]
  rw [q2E, dE, c1, M.bind_ok]
  rfl
theorem frz_ans (Q : List Pr) (s t : Str) (W : Row) : frz (ans true Q s t W) = ans false Q s t W := rfl
end K02

set_option Elab.async false
set_option linter.all false
set_option autoImplicit false
set_option maxRecDepth 100000
set_option maxHeartbeats 8000000
/-! P30: law k02: right, whole; the law's value. -/
namespace K02
open PySem PySem.Spec Z M Pz
theorem frz_map (Q : List Pr) (s t : Str) : ∀ Ws : List Row, frzL (Ws.map (ans true Q s t)) = Ws.map (ans false Q s t)
  | [] => rfl
  | W :: Ws => by rw [List.map_cons, frzL, frz_map Q s t Ws]; rfl
theorem pl_ans (Q : List Pr) (s t : Str) (Ws : List Row) (hn : Ws.length = 8) : pl 2 (.lst false (Ws.map (ans false Q s t))) = true := by
  simp only [pl, Bool.and_eq_true, decide_eq_true_eq]
  refine ⟨⟨rfl, by rw [List.length_map, hn]; decide⟩, List.all_eq_true.mpr fun d m => ?_⟩
  obtain ⟨W, _, rfl⟩ := List.mem_map.mp m
  rfl
theorem bad_run (T : Tab) (H : Has T) (Q : List Pr) (hQ : Q.length ≤ 500) (x0 x1 x3 x4 x5 x7 x8 : Option D) (Ws : List Row) (hn : Ws.length = 8) :
    dE T badE [x0, x1, some (.tup (Q.map pr)), x3, x4, x5, some (.lst false (Ws.map rowD)), x7, x8] = .ok (.lst true []) [x0, x1, some (.tup (Q.map pr)), x3, x4, x5, some (.lst false (Ws.map rowD)), x7, x8] := by
  obtain ⟨e', lp, y, rfl⟩ := lcL_map (own := [7]) (tg := .n 7) (cs := dTs T (.cons (.val (.fn 2 (.raw (.v 2) (.raw (.bi .list (.cons (.v 7) .nil)) .nil)))) .nil)) (elt := dE T (.v 7)) (fun e => ∃ y, e = [x0, x1, some (.tup (Q.map pr)), x3, x4, x5, some (.lst false (Ws.map rowD)), y, x8]) (fun _ => none) (Ws.map rowD) [] [x0, x1, some (.tup (Q.map pr)), x3, x4, x5, some (.lst false (Ws.map rowD)), x7, x8] ⟨x7, rfl⟩ fun d m e ⟨y, he⟩ => by
    obtain ⟨W, mW, rfl⟩ := List.mem_map.mp m
    subst he
    refine ⟨[x0, x1, some (.tup (Q.map pr)), x3, x4, x5, some (.lst false (Ws.map rowD)), some (rowD W), x8], rfl, .inl ⟨[x0, x1, some (.tup (Q.map pr)), x3, x4, x5, some (.lst false (Ws.map rowD)), some (rowD W), x8], ?_, rfl, some (rowD W), rfl⟩⟩
    have il := H.il Q W hQ
    have f := isF_tQ Q
    have z := fz_tQ Q
    have f3 := isF_rowD W
    have z3 := fz_rowD W
    have hb : biD .list [rowD W] = some (.lst true (W.map D.str)) := rfl
    have tr : truth (.bl false) = some false := rfl
    generalize D.tup (Q.map pr) = g at *
    simp [dTs, dT, dE, dEs, R.bind, rd, f, z, f3, z3, args1, hb, ofO, takeB, putB, il, tr]
  have fm : (Ws.map rowD).filterMap (fun _ => (none : Option D)) = [] := by simp
  rw [List.nil_append, fm] at lp
  rw [badE, dE, rows_it, M.bind_ok]
  dsimp only
  rw [if_pos (rows_big hn), lp]
  rfl
theorem right_turn (T : Tab) (H : Has T) (x1 x2 x3 x4 x5 x6 x7 x8 : Option D) (a b c : Int) (hb : 0 ≤ b ∧ b < 2 ^ 62) (hc : 0 ≤ c ∧ c < 500000) :
    ∃ (a' c' : Int) (y2 y3 y4 y5 y6 : Option D), dSs T rightL [some (box a b c), x1, x2, x3, x4, x5, x6, x7, x8] = .ok .nx [some (box a' b c'), x1, y2, y3, y4, y5, y6, x7, x8] ∧ c ≤ c' ∧ c' ≤ c + 420 := by
  obtain ⟨Q, a1, c1, r1, web, p1, p2⟩ := draw_run T H x1 x2 x3 x4 x5 x6 x7 x8 a b c hb (by omega)
  obtain ⟨s, t, E⟩ := web_ends web
  have s1 := as_ok (i := 2) r1 (by show 2 < 9; decide)
  obtain ⟨Ws, a2, c2, s2, hw, hn, p3, p4⟩ := split_run T H E x1 x3 x4 x5 x6 x7 x8 a1 b c1 hb (by omega)
  have g1 : dE T gotE [some (box a2 b c2), x1, some (.tup (Q.map pr)), x3, x4, some (gW false Q), some (.lst false (Ws.map rowD)), x7, x8] = _ := over_rows T q4E (ans true Q s t) _ _ _ _ _ _ _ _ Ws hn fun W m => got_at T H E W (hw W m) _ _ _ _ _ _
  have s3 := as_ok (i := 3) g1 (by show 3 < 9; decide)
  have g2 : dE T wantE [some (box a2 b c2), x1, some (.tup (Q.map pr)), some (.lst true (Ws.map (ans true Q s t))), x4, some (gW false Q), some (.lst false (Ws.map rowD)), x7, x8] = _ := over_rows T q2E (ans true Q s t) _ _ _ _ _ _ _ _ Ws hn fun W m => want_at T H E W (hw W m) _ _ _ _ _ _ _
  have s4 := as_ok (i := 4) g2 (by show 4 < 9; decide)
  have g3 := bad_run T H Q (by have := E.len; omega) (some (box a2 b c2)) x1 (some (.lst false (Ws.map (ans false Q s t)))) (some (.lst false (Ws.map (ans false Q s t)))) (some (gW false Q)) x7 x8 Ws hn
  have sm := H.sm (Ws.map (ans false Q s t)) (pl_ans Q s t Ws hn)
  have hm := frz_map Q s t Ws
  have frz1 : frz (.lst true (Ws.map (ans true Q s t))) = .lst false (Ws.map (ans false Q s t)) := by rw [frz, hm]
  have isA : isF (.lst false (Ws.map (ans false Q s t))) = true := isF_pl 2 _ (pl_ans Q s t Ws hn)
  have fzA : fz (.lst false (Ws.map (ans false Q s t))) = .lst false (Ws.map (ans false Q s t)) := by unfold fz; rw [if_pos isA]
  have isB : isF (.lst true (Ws.map (ans true Q s t))) = false := rfl
  have cf : dE T (.fn 10 (.raw (.v 3) (.raw (.v 4) .nil))) [some (box a2 b c2), x1, some (.tup (Q.map pr)), some (.lst true (Ws.map (ans true Q s t))), some (.lst true (Ws.map (ans true Q s t))), some (gW false Q), some (.lst false (Ws.map rowD)), x7, x8] =
      .ok (.bl true) [some (box a2 b c2), x1, some (.tup (Q.map pr)), some (.lst false (Ws.map (ans false Q s t))), some (.lst false (Ws.map (ans false Q s t))), some (gW false Q), some (.lst false (Ws.map rowD)), x7, x8] := by
    generalize D.lst true (Ws.map (ans true Q s t)) = l1 at *
    generalize D.lst false (Ws.map (ans false Q s t)) = l2 at *
    simp [dE, dEs, R.bind, rd, isB, frz1, fzA, isA, takeB, putB, sm]
  have cw : dT T wrongT [some (box a2 b c2), x1, some (.tup (Q.map pr)), some (.lst true (Ws.map (ans true Q s t))), some (.lst true (Ws.map (ans true Q s t))), some (gW false Q), some (.lst false (Ws.map rowD)), x7, x8] =
      .ok false [some (box a2 b c2), x1, some (.tup (Q.map pr)), some (.lst false (Ws.map (ans false Q s t))), some (.lst false (Ws.map (ans false Q s t))), some (gW false Q), some (.lst false (Ws.map rowD)), x7, x8] := by
    rw [wrongT, dT, dT, dT, cf, M.bind_ok]
    show dT T (.val (.cmp .NotEq badE (.lst .nil))) _ = _
    rw [dT, dE, g3, M.bind_ok]
    rfl
  refine ⟨a2, c2, _, _, _, _, _, seq_ok s1 (seq_ok s2 (seq_ok s3 (seq_ok s4 (seq_ok (ite_ok cw rfl) rfl)))), by omega, by omega⟩
theorem right_run (T : Tab) (H : Has T) (a b : Int) (hb : 0 ≤ b ∧ b < 2 ^ 62) : ∃ e, dSs T b20 [some (box a b 0), none, none, none, none, none, none, none, none] = .ok (.rt (.bl true)) e := by
  have hI : dI T (.rng (.cons (.c (.int 8)) .nil)) [some (box a b 0), none, none, none, none, none, none, none, none] = .ok ((List.range 8).map (fun (k : Nat) => D.int (Int.ofNat k))) [some (box a b 0), none, none, none, none, none, none, none, none] := by
    have r := rng_at 8 (by decide)
    change rngD (some [.int 8]) = _ at r
    have hd : dEs T (.cons (.c (.int 8)) .nil) [some (box a b 0), none, none, none, none, none, none, none, none] = .ok [.inl (.int 8)] [some (box a b 0), none, none, none, none, none, none, none, none] := rfl
    rw [dI, hd, M.bind_ok, show args1 [.inl (D.int 8)] = some [.int 8] from rfl, r]
    rfl
  have loop := frL_by (tg := .n 1) (body := dSs T rightL) (fun i e => ∃ (a' c' : Int) (y1 y2 y3 y4 y5 y6 : Option D), e = [some (box a' b c'), y1, y2, y3, y4, y5, y6, none, none] ∧ 0 ≤ c' ∧ c' ≤ 420 * i)
    ((List.range 8).map (fun (k : Nat) => D.int (Int.ofNat k))) 0 [some (box a b 0), none, none, none, none, none, none, none, none] ⟨a, 0, none, none, none, none, none, none, rfl, Int.le_refl _, by omega⟩
    fun k d hk e ⟨a', c', y1, y2, y3, y4, y5, y6, e1, h4, h5⟩ => by
      rw [Nat.zero_add] at h5
      rw [Nat.zero_add]
      have hk8 : k < 8 := by
        have := (List.getElem?_eq_some_iff.mp hk).1
        simpa using this
      obtain ⟨a2, c2, z2, z3, z4, z5, z6, r, p1, p2⟩ := right_turn T H (some d) y2 y3 y4 y5 y6 none none a' b c' hb (by omega)
      exact ⟨[some (box a' b c'), some d, y2, y3, y4, y5, y6, none, none], _, by rw [e1]; rfl, r, a2, c2, some d, z2, z3, z4, z5, z6, rfl, by omega, by omega⟩
  obtain ⟨e', lp, a', c', y1, y2, y3, y4, y5, y6, e1, h4, h5⟩ := loop
  refine ⟨e', ?_⟩
  rw [b20_eq]
  exact seq_ok (fr_ok hI lp) rfl
theorem right_fn (n : Nat) (a b : Int) (hb : 0 ≤ b ∧ b < 2 ^ 62) : ∃ p, tab fs (n + 6) 20 [box a b 0] = .ok (.bl true) [p] := by
  obtain ⟨e, h⟩ := right_run (tab fs (n + 5)) (has n) a b hb
  refine ⟨rd 0 e, ?_⟩
  rw [tab, show fs[20]? = some ⟨1, 9, [0], b20⟩ from rfl]
  exact run_rt (F := ⟨1, 9, [0], b20⟩) rfl h
end K02

set_option Elab.async false
set_option linter.all false
set_option autoImplicit false
set_option maxRecDepth 100000
set_option maxHeartbeats 4000000
/-! N02a: law k02, what is by hand. -/
namespace K02
open PySem PySem.Spec Z
def isTrue : R D → Bool
  | .ok (.bl b) _ => b
  | _ => false
theorem isTrue_ok {r : R D} (h : isTrue r = true) : ∃ ps, r = .ok (.bl true) ps := by
  match r, h with
  | .ok (.bl b) ps, h => exact ⟨ps, by rw [show b = true from h]⟩
theorem hand : isTrue (tab fs 8 19 []) = true := by decide +kernel
end K02

set_option Elab.async false
set_option linter.all false
set_option autoImplicit false
set_option maxRecDepth 100000
set_option maxHeartbeats 8000000
/-! P31: law k02: the law's value. -/
namespace K02
open PySem PySem.Spec Z M Pz
def isTrue0 : R D → Bool
  | .ok (.bl b) [] => b
  | _ => false
theorem isTrue0_ok {r : R D} (h : isTrue0 r = true) : r = .ok (.bl true) [] := by
  match r, h with
  | .ok (.bl b) [], h => rw [show b = true from h]
theorem hand0 : isTrue0 (tab fs 8 19 []) = true := by decide +kernel
theorem b21_eq : b21 = bLawJ 19 8 6 20 := rfl
theorem b8_eq : b8 = bCells := rfl
theorem b6_eq : b6 = bBoxK 1053102 := rfl
theorem value (ns : List Int) (h63 : ns.length ≤ 63) : ∃ ps, tab fs 9 21 [.lck (ns.map D.int)] = .ok (.bl true) ps :=
  law_whole (fs := fs) (jh := 19) (jc := 8) (jb := 6) (jr := 20) (jl := 21) (n := 7) (K := 1053102) (by decide) rfl rfl rfl (isTrue0_ok hand0) (fun a b hb => right_fn 2 a b hb) ns h63
end K02

set_option Elab.async false
set_option linter.all false
set_option maxRecDepth 100000
set_option maxHeartbeats 4000000
namespace K02
open PySem PySem.Spec PyProof.Rows L2 Z
theorem hl0 : ∀ d ∈ ds, d.kws ≠ [] → d.ps ≠ [] := by decide +kernel
def clS (i j : Nat) : Stmt := match topS i with
  | .ClassDef _ _ _ b _ _ _ _ _ _ _ => b.getD j (.Pass ⟨0, 0, 0, 0⟩)
  | s => s
set_option maxHeartbeats 0 in
theorem all_mk {l : PySem.W.OpenLaw} {w : World} {K : PySem.W.Frag} {h : Heap} {mg : Str → Option Value} {fa : Addr} {rec : Str → Bool} (X : K.In h) (G : h.Ns mainGlobals mg) (hfa : mg "law" = some (.ref fa))
    (own : ∀ (nm : Str) (f c P : Addr) (fd : FuncData) (oc : Value) (od : Option Addr) (osl : Array (Option Value)) (co : Obj), rec nm = true → mg nm = some (.ref f) → K.lookup f = some ⟨oc, od, .func fd, osl⟩ → fd.code = .ref c → K.lookup c = some co → codeB co = some P → h.get? P = some { cls := .none, data := .fields #[] })
    {f0 cc0 P0 f1 cc1 P1 f2 cc2 P2 f3 cc3 P3 f4 cc4 P4 f5 cc5 P5 f6 cc6 P6 f7 cc7 P7 f8 cc8 P8 f9 cc9 P9 f10 cc10 P10 f11 cc11 P11 f12 cc12 P12 f13 cc13 P13 f14 cc14 P14 f15 cc15 P15 f16 cc16 P16 f17 cc17 P17 f18 cc18 P18 f19 cc19 P19 f20 cc20 P20 f21 cc21 P21 : Addr} {jo0 jo1 jo2 jo3 jo4 jo5 jo6 jo7 jo8 jo9 jo10 jo11 jo12 jo13 jo14 jo15 jo16 jo17 jo18 jo19 jo20 jo21 : Obj}
    {od0 an0 od1 an1 od2 an2 od3 an3 od4 an4 od5 an5 od6 an6 od7 an7 od8 an8 od9 an9 od10 an10 od11 an11 od12 an12 od13 an13 od14 an14 od15 an15 od16 an16 od17 an17 od18 an18 od19 an19 od20 an20 od21 an21 : Option Addr} {sl0 sl1 sl2 sl3 sl4 sl5 sl6 sl7 sl8 sl9 sl10 sl11 sl12 sl13 sl14 sl15 sl16 sl17 sl18 sl19 sl20 sl21 : Array (Option Value)} {oc0 kV0 dc0 pm0 ct0 oc1 kV1 dc1 pm1 ct1 oc2 kV2 dc2 pm2 ct2 oc3 kV3 dc3 pm3 ct3 oc4 kV4 dc4 pm4 ct4 oc5 kV5 dc5 pm5 ct5 oc6 kV6 dc6 pm6 ct6 oc7 kV7 dc7 pm7 ct7 oc8 kV8 dc8 pm8 ct8 oc9 kV9 dc9 pm9 ct9 oc10 kV10 dc10 pm10 ct10 oc11 kV11 dc11 pm11 ct11 oc12 kV12 dc12 pm12 ct12 oc13 kV13 dc13 pm13 ct13 oc14 kV14 dc14 pm14 ct14 oc15 kV15 dc15 pm15 ct15 oc16 kV16 dc16 pm16 ct16 oc17 kV17 dc17 pm17 ct17 oc18 kV18 dc18 pm18 ct18 oc19 kV19 dc19 pm19 ct19 oc20 kV20 dc20 pm20 ct20 oc21 kV21 dc21 pm21 ct21 : Value}
    (a0 : PySem.W.nsIn K mainGlobals "plain" = some (some (.ref f0)))
    (l0 : K.lookup f0 = some ⟨oc0, od0, .func (PySem.W.fnOf "plain" "plain" (defArgs (topS 1)) (defBody (topS 1)) (defScope (topS 1)) .none kV0 dc0 pm0 an0 (.ref cc0) ct0), sl0⟩)
    (c0 : PySem.W.codeIn K (.ref cc0) "plain" = true)
    (k0 : PySem.W.keepIn K (.ref f0) = true)
    (j0 : K.lookup cc0 = some jo0)
    (b0_ : codeB jo0 = some P0)
    (p0 : K.lookup P0 = none)
    (e0 : cc0 ≠ P0)
    (r0 : rec "plain" = true)
    (a1 : PySem.W.nsIn K mainGlobals "steps" = some (some (.ref f1)))
    (l1 : K.lookup f1 = some ⟨oc1, od1, .func (PySem.W.fnOf "steps" "steps" (defArgs (topS 2)) (defBody (topS 2)) (defScope (topS 2)) .none kV1 dc1 pm1 an1 (.ref cc1) ct1), sl1⟩)
    (c1 : PySem.W.codeIn K (.ref cc1) "steps" = true)
    (k1 : PySem.W.keepIn K (.ref f1) = true)
    (j1 : K.lookup cc1 = some jo1)
    (b1_ : codeB jo1 = some P1)
    (p1 : K.lookup P1 = none)
    (e1 : cc1 ≠ P1)
    (r1 : rec "steps" = true)
    (a2 : PySem.W.nsIn K mainGlobals "is_path" = some (some (.ref f2)))
    (l2 : K.lookup f2 = some ⟨oc2, od2, .func (PySem.W.fnOf "is_path" "is_path" (defArgs (topS 4)) (defBody (topS 4)) (defScope (topS 4)) .none kV2 dc2 pm2 an2 (.ref cc2) ct2), sl2⟩)
    (c2 : PySem.W.codeIn K (.ref cc2) "is_path" = true)
    (k2 : PySem.W.keepIn K (.ref f2) = true)
    (j2 : K.lookup cc2 = some jo2)
    (b2_ : codeB jo2 = some P2)
    (p2 : K.lookup P2 = none)
    (e2 : cc2 ≠ P2)
    (r2 : rec "is_path" = true)
    (a3 : PySem.W.nsIn K mainGlobals "is_run" = some (some (.ref f3)))
    (l3 : K.lookup f3 = some ⟨oc3, od3, .func (PySem.W.fnOf "is_run" "is_run" (defArgs (topS 5)) (defBody (topS 5)) (defScope (topS 5)) .none kV3 dc3 pm3 an3 (.ref cc3) ct3), sl3⟩)
    (c3 : PySem.W.codeIn K (.ref cc3) "is_run" = true)
    (k3 : PySem.W.keepIn K (.ref f3) = true)
    (j3 : K.lookup cc3 = some jo3)
    (b3_ : codeB jo3 = some P3)
    (p3 : K.lookup P3 = none)
    (e3 : cc3 ≠ P3)
    (r3 : rec "is_run" = true)
    (a4 : PySem.W.nsIn K mainGlobals "entry_of" = some (some (.ref f4)))
    (l4 : K.lookup f4 = some ⟨oc4, od4, .func (PySem.W.fnOf "entry_of" "entry_of" (defArgs (topS 6)) (defBody (topS 6)) (defScope (topS 6)) .none kV4 dc4 pm4 an4 (.ref cc4) ct4), sl4⟩)
    (c4 : PySem.W.codeIn K (.ref cc4) "entry_of" = true)
    (k4 : PySem.W.keepIn K (.ref f4) = true)
    (j4 : K.lookup cc4 = some jo4)
    (b4_ : codeB jo4 = some P4)
    (p4 : K.lookup P4 = none)
    (e4 : cc4 ≠ P4)
    (r4 : rec "entry_of" = true)
    (a5 : PySem.W.nsIn K mainGlobals "exit_of" = some (some (.ref f5)))
    (l5 : K.lookup f5 = some ⟨oc5, od5, .func (PySem.W.fnOf "exit_of" "exit_of" (defArgs (topS 7)) (defBody (topS 7)) (defScope (topS 7)) .none kV5 dc5 pm5 an5 (.ref cc5) ct5), sl5⟩)
    (c5 : PySem.W.codeIn K (.ref cc5) "exit_of" = true)
    (k5 : PySem.W.keepIn K (.ref f5) = true)
    (j5 : K.lookup cc5 = some jo5)
    (b5_ : codeB jo5 = some P5)
    (p5 : K.lookup P5 = none)
    (e5 : cc5 ≠ P5)
    (r5 : rec "exit_of" = true)
    (a6 : PySem.W.nsIn K mainGlobals "_law_box" = some (some (.ref f6)))
    (l6 : K.lookup f6 = some ⟨oc6, od6, .func (PySem.W.fnOf "_law_box" "_law_box" (defArgs (topS 9)) (defBody (topS 9)) (defScope (topS 9)) .none kV6 dc6 pm6 an6 (.ref cc6) ct6), sl6⟩)
    (c6 : PySem.W.codeIn K (.ref cc6) "_law_box" = true)
    (k6 : PySem.W.keepIn K (.ref f6) = true)
    (j6 : K.lookup cc6 = some jo6)
    (b6_ : codeB jo6 = some P6)
    (p6 : K.lookup P6 = none)
    (e6 : cc6 ≠ P6)
    (r6 : rec "_law_box" = true)
    (a7 : PySem.W.nsIn K mainGlobals "_law_take" = some (some (.ref f7)))
    (l7 : K.lookup f7 = some ⟨oc7, od7, .func (PySem.W.fnOf "_law_take" "_law_take" (defArgs (topS 10)) (defBody (topS 10)) (defScope (topS 10)) .none kV7 dc7 pm7 an7 (.ref cc7) ct7), sl7⟩)
    (c7 : PySem.W.codeIn K (.ref cc7) "_law_take" = true)
    (k7 : PySem.W.keepIn K (.ref f7) = true)
    (j7 : K.lookup cc7 = some jo7)
    (b7_ : codeB jo7 = some P7)
    (p7 : K.lookup P7 = none)
    (e7 : cc7 ≠ P7)
    (r7 : rec "_law_take" = true)
    (a8 : PySem.W.nsIn K mainGlobals "_law_cells" = some (some (.ref f8)))
    (l8 : K.lookup f8 = some ⟨oc8, od8, .func (PySem.W.fnOf "_law_cells" "_law_cells" (defArgs (topS 11)) (defBody (topS 11)) (defScope (topS 11)) .none kV8 dc8 pm8 an8 (.ref cc8) ct8), sl8⟩)
    (c8 : PySem.W.codeIn K (.ref cc8) "_law_cells" = true)
    (k8 : PySem.W.keepIn K (.ref f8) = true)
    (j8 : K.lookup cc8 = some jo8)
    (b8_ : codeB jo8 = some P8)
    (p8 : K.lookup P8 = none)
    (e8 : cc8 ≠ P8)
    (r8 : rec "_law_cells" = true)
    (a9 : PySem.W.nsIn K mainGlobals "_law_of" = some (some (.ref f9)))
    (l9 : K.lookup f9 = some ⟨oc9, od9, .func (PySem.W.fnOf "_law_of" "_law_of" (defArgs (topS 12)) (defBody (topS 12)) (defScope (topS 12)) .none kV9 dc9 pm9 an9 (.ref cc9) ct9), sl9⟩)
    (c9 : PySem.W.codeIn K (.ref cc9) "_law_of" = true)
    (k9 : PySem.W.keepIn K (.ref f9) = true)
    (j9 : K.lookup cc9 = some jo9)
    (b9_ : codeB jo9 = some P9)
    (p9 : K.lookup P9 = none)
    (e9 : cc9 ≠ P9)
    (r9 : rec "_law_of" = true)
    (a10 : PySem.W.nsIn K mainGlobals "_law_same" = some (some (.ref f10)))
    (l10 : K.lookup f10 = some ⟨oc10, od10, .func (PySem.W.fnOf "_law_same" "_law_same" (defArgs (topS 13)) (defBody (topS 13)) (defScope (topS 13)) .none kV10 dc10 pm10 an10 (.ref cc10) ct10), sl10⟩)
    (c10 : PySem.W.codeIn K (.ref cc10) "_law_same" = true)
    (k10 : PySem.W.keepIn K (.ref f10) = true)
    (j10 : K.lookup cc10 = some jo10)
    (b10_ : codeB jo10 = some P10)
    (p10 : K.lookup P10 = none)
    (e10 : cc10 ≠ P10)
    (r10 : rec "_law_same" = true)
    (a11 : PySem.W.nsIn K mainGlobals "_law_lists" = some (some (.ref f11)))
    (l11 : K.lookup f11 = some ⟨oc11, od11, .func (PySem.W.fnOf "_law_lists" "_law_lists" (defArgs (topS 14)) (defBody (topS 14)) (defScope (topS 14)) .none kV11 dc11 pm11 an11 (.ref cc11) ct11), sl11⟩)
    (c11 : PySem.W.codeIn K (.ref cc11) "_law_lists" = true)
    (k11 : PySem.W.keepIn K (.ref f11) = true)
    (j11 : K.lookup cc11 = some jo11)
    (b11_ : codeB jo11 = some P11)
    (p11 : K.lookup P11 = none)
    (e11 : cc11 ≠ P11)
    (r11 : rec "_law_lists" = true)
    (a12 : PySem.W.nsIn K mainGlobals "_law_pick" = some (some (.ref f12)))
    (l12 : K.lookup f12 = some ⟨oc12, od12, .func (PySem.W.fnOf "_law_pick" "_law_pick" (defArgs (topS 15)) (defBody (topS 15)) (defScope (topS 15)) .none kV12 dc12 pm12 an12 (.ref cc12) ct12), sl12⟩)
    (c12 : PySem.W.codeIn K (.ref cc12) "_law_pick" = true)
    (k12 : PySem.W.keepIn K (.ref f12) = true)
    (j12 : K.lookup cc12 = some jo12)
    (b12_ : codeB jo12 = some P12)
    (p12 : K.lookup P12 = none)
    (e12 : cc12 ≠ P12)
    (r12 : rec "_law_pick" = true)
    (a13 : PySem.W.nsIn K mainGlobals "_law_graph" = some (some (.ref f13)))
    (l13 : K.lookup f13 = some ⟨oc13, od13, .func (PySem.W.fnOf "_law_graph" "_law_graph" (defArgs (topS 16)) (defBody (topS 16)) (defScope (topS 16)) .none kV13 dc13 pm13 an13 (.ref cc13) ct13), sl13⟩)
    (c13 : PySem.W.codeIn K (.ref cc13) "_law_graph" = true)
    (k13 : PySem.W.keepIn K (.ref f13) = true)
    (j13 : K.lookup cc13 = some jo13)
    (b13_ : codeB jo13 = some P13)
    (p13 : K.lookup P13 = none)
    (e13 : cc13 ≠ P13)
    (r13 : rec "_law_graph" = true)
    (a14 : PySem.W.nsIn K mainGlobals "_law_tags" = some (some (.ref f14)))
    (l14 : K.lookup f14 = some ⟨oc14, od14, .func (PySem.W.fnOf "_law_tags" "_law_tags" (defArgs (topS 17)) (defBody (topS 17)) (defScope (topS 17)) .none kV14 dc14 pm14 an14 (.ref cc14) ct14), sl14⟩)
    (c14 : PySem.W.codeIn K (.ref cc14) "_law_tags" = true)
    (k14 : PySem.W.keepIn K (.ref f14) = true)
    (j14 : K.lookup cc14 = some jo14)
    (b14_ : codeB jo14 = some P14)
    (p14 : K.lookup P14 = none)
    (e14 : cc14 ≠ P14)
    (r14 : rec "_law_tags" = true)
    (a15 : PySem.W.nsIn K mainGlobals "_law_first" = some (some (.ref f15)))
    (l15 : K.lookup f15 = some ⟨oc15, od15, .func (PySem.W.fnOf "_law_first" "_law_first" (defArgs (topS 18)) (defBody (topS 18)) (defScope (topS 18)) .none kV15 dc15 pm15 an15 (.ref cc15) ct15), sl15⟩)
    (c15 : PySem.W.codeIn K (.ref cc15) "_law_first" = true)
    (k15 : PySem.W.keepIn K (.ref f15) = true)
    (j15 : K.lookup cc15 = some jo15)
    (b15_ : codeB jo15 = some P15)
    (p15 : K.lookup P15 = none)
    (e15 : cc15 ≠ P15)
    (r15 : rec "_law_first" = true)
    (a16 : PySem.W.nsIn K mainGlobals "_law_goes" = some (some (.ref f16)))
    (l16 : K.lookup f16 = some ⟨oc16, od16, .func (PySem.W.fnOf "_law_goes" "_law_goes" (defArgs (topS 19)) (defBody (topS 19)) (defScope (topS 19)) .none kV16 dc16 pm16 an16 (.ref cc16) ct16), sl16⟩)
    (c16 : PySem.W.codeIn K (.ref cc16) "_law_goes" = true)
    (k16 : PySem.W.keepIn K (.ref f16) = true)
    (j16 : K.lookup cc16 = some jo16)
    (b16_ : codeB jo16 = some P16)
    (p16 : K.lookup P16 = none)
    (e16 : cc16 ≠ P16)
    (r16 : rec "_law_goes" = true)
    (a17 : PySem.W.nsIn K mainGlobals "_law_whole" = some (some (.ref f17)))
    (l17 : K.lookup f17 = some ⟨oc17, od17, .func (PySem.W.fnOf "_law_whole" "_law_whole" (defArgs (topS 20)) (defBody (topS 20)) (defScope (topS 20)) .none kV17 dc17 pm17 an17 (.ref cc17) ct17), sl17⟩)
    (c17 : PySem.W.codeIn K (.ref cc17) "_law_whole" = true)
    (k17 : PySem.W.keepIn K (.ref f17) = true)
    (j17 : K.lookup cc17 = some jo17)
    (b17_ : codeB jo17 = some P17)
    (p17 : K.lookup P17 = none)
    (e17 : cc17 ≠ P17)
    (r17 : rec "_law_whole" = true)
    (a18 : PySem.W.nsIn K mainGlobals "_law_row" = some (some (.ref f18)))
    (l18 : K.lookup f18 = some ⟨oc18, od18, .func (PySem.W.fnOf "_law_row" "_law_row" (defArgs (topS 21)) (defBody (topS 21)) (defScope (topS 21)) .none kV18 dc18 pm18 an18 (.ref cc18) ct18), sl18⟩)
    (c18 : PySem.W.codeIn K (.ref cc18) "_law_row" = true)
    (k18 : PySem.W.keepIn K (.ref f18) = true)
    (j18 : K.lookup cc18 = some jo18)
    (b18_ : codeB jo18 = some P18)
    (p18 : K.lookup P18 = none)
    (e18 : cc18 ≠ P18)
    (r18 : rec "_law_row" = true)
    (a19 : PySem.W.nsIn K mainGlobals "_law_by_hand_right" = some (some (.ref f19)))
    (l19 : K.lookup f19 = some ⟨oc19, od19, .func (PySem.W.fnOf "_law_by_hand_right" "_law_by_hand_right" (defArgs (topS 22)) (defBody (topS 22)) (defScope (topS 22)) .none kV19 dc19 pm19 an19 (.ref cc19) ct19), sl19⟩)
    (c19 : PySem.W.codeIn K (.ref cc19) "_law_by_hand_right" = true)
    (k19 : PySem.W.keepIn K (.ref f19) = true)
    (j19 : K.lookup cc19 = some jo19)
    (b19_ : codeB jo19 = some P19)
    (p19 : K.lookup P19 = none)
    (e19 : cc19 ≠ P19)
    (r19 : rec "_law_by_hand_right" = true)
    (a20 : PySem.W.nsIn K mainGlobals "_law_right" = some (some (.ref f20)))
    (l20 : K.lookup f20 = some ⟨oc20, od20, .func (PySem.W.fnOf "_law_right" "_law_right" (defArgs (topS 23)) (defBody (topS 23)) (defScope (topS 23)) .none kV20 dc20 pm20 an20 (.ref cc20) ct20), sl20⟩)
    (c20 : PySem.W.codeIn K (.ref cc20) "_law_right" = true)
    (k20 : PySem.W.keepIn K (.ref f20) = true)
    (j20 : K.lookup cc20 = some jo20)
    (b20_ : codeB jo20 = some P20)
    (p20 : K.lookup P20 = none)
    (e20 : cc20 ≠ P20)
    (r20 : rec "_law_right" = true)
    (a21 : PySem.W.nsIn K mainGlobals "law" = some (some (.ref f21)))
    (l21 : K.lookup f21 = some ⟨oc21, od21, .func (PySem.W.fnOf "law" "law" (defArgs (topS 24)) (defBody (topS 24)) (defScope (topS 24)) .none kV21 dc21 pm21 an21 (.ref cc21) ct21), sl21⟩)
    (c21 : PySem.W.codeIn K (.ref cc21) "law" = true)
    (k21 : PySem.W.keepIn K (.ref f21) = true)
    (j21 : K.lookup cc21 = some jo21)
    (b21_ : codeB jo21 = some P21)
    (p21 : K.lookup P21 = none)
    (e21 : cc21 ≠ P21)
    (r21 : rec "law" = true)
    (z0 : PySem.W.nsIn K mainGlobals "len" = some none)
    (z1 : PySem.W.nsIn K mainGlobals "abs" = some none)
    (z2 : PySem.W.nsIn K mainGlobals "int" = some none)
    (z3 : PySem.W.nsIn K mainGlobals "bool" = some none)
    (z4 : PySem.W.nsIn K mainGlobals "sum" = some none)
    (z5 : PySem.W.nsIn K mainGlobals "min" = some none)
    (z6 : PySem.W.nsIn K mainGlobals "max" = some none)
    (z7 : PySem.W.nsIn K mainGlobals "sorted" = some none)
    (z8 : PySem.W.nsIn K mainGlobals "list" = some none)
    (z9 : PySem.W.nsIn K mainGlobals "tuple" = some none)
    (z10 : PySem.W.nsIn K mainGlobals "all" = some none)
    (z11 : PySem.W.nsIn K mainGlobals "any" = some none)
    (z12 : PySem.W.nsIn K mainGlobals "set" = some none)
    (z13 : PySem.W.nsIn K mainGlobals "str" = some none)
    (z14 : PySem.W.nsIn K mainGlobals "isinstance" = some none)
    (z15 : PySem.W.nsIn K mainGlobals "range" = some none)
    (z16 : PySem.W.nsIn K mainGlobals "enumerate" = some none)
    (z17 : PySem.W.nsIn K mainGlobals "zip" = some none)
    (z18 : PySem.W.nsIn K mainGlobals "dict" = some none)
    (z19 : PySem.W.nsIn K mainGlobals "reversed" = some none)
    (z20 : PySem.W.nsIn K mainGlobals "LookupError" = some none)
    (z21 : PySem.W.nsIn K mainGlobals "ValueError" = some none)
    (z22 : PySem.W.nsIn K mainGlobals "KeyError" = some none)
    (z23 : PySem.W.nsIn K mainGlobals "IndexError" = some none)
    (ndT : ([P0, P1, P2, P3, P4, P5, P6, P7, P8, P9, P10, P11, P12, P13, P14, P15, P16, P17, P18, P19, P20, P21] : List Addr).Nodup)
    : LamX.LawAtS l w K CX0 74 63 "_law_script" mg fa h := by
  have e := hfa.symm.trans (PySem.W.mg_of X G a21)
  cases e
  letI T : Tbs := ⟨[P0, P1, P2, P3, P4, P5, P6, P7, P8, P9, P10, P11, P12, P13, P14, P15, P16, P17, P18, P19, P20, P21], l.prog, w⟩
  have bt : ∀ x ∈ bNames, mg x = none := List.forall_mem_cons.2 ⟨PySem.W.mg_none_of X G z0, List.forall_mem_cons.2 ⟨PySem.W.mg_none_of X G z1, List.forall_mem_cons.2 ⟨PySem.W.mg_none_of X G z2, List.forall_mem_cons.2 ⟨PySem.W.mg_none_of X G z3, List.forall_mem_cons.2 ⟨PySem.W.mg_none_of X G z4, List.forall_mem_cons.2 ⟨PySem.W.mg_none_of X G z5, List.forall_mem_cons.2 ⟨PySem.W.mg_none_of X G z6, List.forall_mem_cons.2 ⟨PySem.W.mg_none_of X G z7, List.forall_mem_cons.2 ⟨PySem.W.mg_none_of X G z8, List.forall_mem_cons.2 ⟨PySem.W.mg_none_of X G z9, List.forall_mem_cons.2 ⟨PySem.W.mg_none_of X G z10, List.forall_mem_cons.2 ⟨PySem.W.mg_none_of X G z11, List.forall_mem_cons.2 ⟨PySem.W.mg_none_of X G z12, List.forall_mem_cons.2 ⟨PySem.W.mg_none_of X G z13, List.forall_mem_cons.2 ⟨PySem.W.mg_none_of X G z14, List.forall_mem_cons.2 ⟨PySem.W.mg_none_of X G z15, List.forall_mem_cons.2 ⟨PySem.W.mg_none_of X G z16, List.forall_mem_cons.2 ⟨PySem.W.mg_none_of X G z17, List.forall_mem_cons.2 ⟨PySem.W.mg_none_of X G z18, List.forall_mem_cons.2 ⟨PySem.W.mg_none_of X G z19, List.forall_mem_cons.2 ⟨PySem.W.mg_none_of X G z20, List.forall_mem_cons.2 ⟨PySem.W.mg_none_of X G z21, List.forall_mem_cons.2 ⟨PySem.W.mg_none_of X G z22, List.forall_mem_cons.2 ⟨PySem.W.mg_none_of X G z23, List.forall_mem_nil _⟩⟩⟩⟩⟩⟩⟩⟩⟩⟩⟩⟩⟩⟩⟩⟩⟩⟩⟩⟩⟩⟩⟩⟩
  refine ⟨PySem.W.fnOf "law" "law" (defArgs (topS 24)) (defBody (topS 24)) (defScope (topS 24)) .none kV21 dc21 pm21 an21 (.ref cc21) ct21, [(cc0, P0), (cc1, P1), (cc2, P2), (cc3, P3), (cc4, P4), (cc5, P5), (cc6, P6), (cc7, P7), (cc8, P8), (cc9, P9), (cc10, P10), (cc11, P11), (cc12, P12), (cc13, P13), (cc14, P14), (cc15, P15), (cc16, P16), (cc17, P17), (cc18, P18), (cc19, P19), (cc20, P20), (cc21, P21)], spLaw 63 K, ?T, ?N, ?C, fun s v => .of_eq rfl, ?S, fun base KB GB TB => ?F⟩
  case T => exact List.forall_mem_cons.2 ⟨own "plain" _ cc0 P0 _ _ _ _ _ r0 (PySem.W.mg_of X G a0) l0 rfl j0 b0_, List.forall_mem_cons.2 ⟨own "steps" _ cc1 P1 _ _ _ _ _ r1 (PySem.W.mg_of X G a1) l1 rfl j1 b1_, List.forall_mem_cons.2 ⟨own "is_path" _ cc2 P2 _ _ _ _ _ r2 (PySem.W.mg_of X G a2) l2 rfl j2 b2_, List.forall_mem_cons.2 ⟨own "is_run" _ cc3 P3 _ _ _ _ _ r3 (PySem.W.mg_of X G a3) l3 rfl j3 b3_, List.forall_mem_cons.2 ⟨own "entry_of" _ cc4 P4 _ _ _ _ _ r4 (PySem.W.mg_of X G a4) l4 rfl j4 b4_, List.forall_mem_cons.2 ⟨own "exit_of" _ cc5 P5 _ _ _ _ _ r5 (PySem.W.mg_of X G a5) l5 rfl j5 b5_, List.forall_mem_cons.2 ⟨own "_law_box" _ cc6 P6 _ _ _ _ _ r6 (PySem.W.mg_of X G a6) l6 rfl j6 b6_, List.forall_mem_cons.2 ⟨own "_law_take" _ cc7 P7 _ _ _ _ _ r7 (PySem.W.mg_of X G a7) l7 rfl j7 b7_, List.forall_mem_cons.2 ⟨own "_law_cells" _ cc8 P8 _ _ _ _ _ r8 (PySem.W.mg_of X G a8) l8 rfl j8 b8_, List.forall_mem_cons.2 ⟨own "_law_of" _ cc9 P9 _ _ _ _ _ r9 (PySem.W.mg_of X G a9) l9 rfl j9 b9_, List.forall_mem_cons.2 ⟨own "_law_same" _ cc10 P10 _ _ _ _ _ r10 (PySem.W.mg_of X G a10) l10 rfl j10 b10_, List.forall_mem_cons.2 ⟨own "_law_lists" _ cc11 P11 _ _ _ _ _ r11 (PySem.W.mg_of X G a11) l11 rfl j11 b11_, List.forall_mem_cons.2 ⟨own "_law_pick" _ cc12 P12 _ _ _ _ _ r12 (PySem.W.mg_of X G a12) l12 rfl j12 b12_, List.forall_mem_cons.2 ⟨own "_law_graph" _ cc13 P13 _ _ _ _ _ r13 (PySem.W.mg_of X G a13) l13 rfl j13 b13_, List.forall_mem_cons.2 ⟨own "_law_tags" _ cc14 P14 _ _ _ _ _ r14 (PySem.W.mg_of X G a14) l14 rfl j14 b14_, List.forall_mem_cons.2 ⟨own "_law_first" _ cc15 P15 _ _ _ _ _ r15 (PySem.W.mg_of X G a15) l15 rfl j15 b15_, List.forall_mem_cons.2 ⟨own "_law_goes" _ cc16 P16 _ _ _ _ _ r16 (PySem.W.mg_of X G a16) l16 rfl j16 b16_, List.forall_mem_cons.2 ⟨own "_law_whole" _ cc17 P17 _ _ _ _ _ r17 (PySem.W.mg_of X G a17) l17 rfl j17 b17_, List.forall_mem_cons.2 ⟨own "_law_row" _ cc18 P18 _ _ _ _ _ r18 (PySem.W.mg_of X G a18) l18 rfl j18 b18_, List.forall_mem_cons.2 ⟨own "_law_by_hand_right" _ cc19 P19 _ _ _ _ _ r19 (PySem.W.mg_of X G a19) l19 rfl j19 b19_, List.forall_mem_cons.2 ⟨own "_law_right" _ cc20 P20 _ _ _ _ _ r20 (PySem.W.mg_of X G a20) l20 rfl j20 b20_, List.forall_mem_cons.2 ⟨own "law" _ cc21 P21 _ _ _ _ _ r21 (PySem.W.mg_of X G a21) l21 rfl j21 b21_, List.forall_mem_nil _⟩⟩⟩⟩⟩⟩⟩⟩⟩⟩⟩⟩⟩⟩⟩⟩⟩⟩⟩⟩⟩⟩
  case N => exact List.forall_mem_cons.2 ⟨p0, List.forall_mem_cons.2 ⟨p1, List.forall_mem_cons.2 ⟨p2, List.forall_mem_cons.2 ⟨p3, List.forall_mem_cons.2 ⟨p4, List.forall_mem_cons.2 ⟨p5, List.forall_mem_cons.2 ⟨p6, List.forall_mem_cons.2 ⟨p7, List.forall_mem_cons.2 ⟨p8, List.forall_mem_cons.2 ⟨p9, List.forall_mem_cons.2 ⟨p10, List.forall_mem_cons.2 ⟨p11, List.forall_mem_cons.2 ⟨p12, List.forall_mem_cons.2 ⟨p13, List.forall_mem_cons.2 ⟨p14, List.forall_mem_cons.2 ⟨p15, List.forall_mem_cons.2 ⟨p16, List.forall_mem_cons.2 ⟨p17, List.forall_mem_cons.2 ⟨p18, List.forall_mem_cons.2 ⟨p19, List.forall_mem_cons.2 ⟨p20, List.forall_mem_cons.2 ⟨p21, List.forall_mem_nil _⟩⟩⟩⟩⟩⟩⟩⟩⟩⟩⟩⟩⟩⟩⟩⟩⟩⟩⟩⟩⟩⟩
  case C => exact List.forall_mem_cons.2 ⟨codeHd_of X j0 b0_ e0, List.forall_mem_cons.2 ⟨codeHd_of X j1 b1_ e1, List.forall_mem_cons.2 ⟨codeHd_of X j2 b2_ e2, List.forall_mem_cons.2 ⟨codeHd_of X j3 b3_ e3, List.forall_mem_cons.2 ⟨codeHd_of X j4 b4_ e4, List.forall_mem_cons.2 ⟨codeHd_of X j5 b5_ e5, List.forall_mem_cons.2 ⟨codeHd_of X j6 b6_ e6, List.forall_mem_cons.2 ⟨codeHd_of X j7 b7_ e7, List.forall_mem_cons.2 ⟨codeHd_of X j8 b8_ e8, List.forall_mem_cons.2 ⟨codeHd_of X j9 b9_ e9, List.forall_mem_cons.2 ⟨codeHd_of X j10 b10_ e10, List.forall_mem_cons.2 ⟨codeHd_of X j11 b11_ e11, List.forall_mem_cons.2 ⟨codeHd_of X j12 b12_ e12, List.forall_mem_cons.2 ⟨codeHd_of X j13 b13_ e13, List.forall_mem_cons.2 ⟨codeHd_of X j14 b14_ e14, List.forall_mem_cons.2 ⟨codeHd_of X j15 b15_ e15, List.forall_mem_cons.2 ⟨codeHd_of X j16 b16_ e16, List.forall_mem_cons.2 ⟨codeHd_of X j17 b17_ e17, List.forall_mem_cons.2 ⟨codeHd_of X j18 b18_ e18, List.forall_mem_cons.2 ⟨codeHd_of X j19 b19_ e19, List.forall_mem_cons.2 ⟨codeHd_of X j20 b20_ e20, List.forall_mem_cons.2 ⟨codeHd_of X j21 b21_ e21, List.forall_mem_nil _⟩⟩⟩⟩⟩⟩⟩⟩⟩⟩⟩⟩⟩⟩⟩⟩⟩⟩⟩⟩⟩⟩
  case S => exact fun H a ns hl _ hT hS => ⟨a, ns, rfl, hl, fun P hP => (by
    obtain ⟨p, hp, rfl⟩ := List.mem_map.mp (show P ∈ List.map (·.2) [(cc0, P0), (cc1, P1), (cc2, P2), (cc3, P3), (cc4, P4), (cc5, P5), (cc6, P6), (cc7, P7), (cc8, P8), (cc9, P9), (cc10, P10), (cc11, P11), (cc12, P12), (cc13, P13), (cc14, P14), (cc15, P15), (cc16, P16), (cc17, P17), (cc18, P18), (cc19, P19), (cc20, P20), (cc21, P21)] from hP)
    exact ⟨#[], hT p hp, trivial⟩), hS, fun _ _ e => e⟩
  have T0 := TB
  have M0 : ∀ P ∈ ([P0, P1, P2, P3, P4, P5, P6, P7, P8, P9, P10, P11, P12, P13, P14, P15, P16, P17, P18, P19, P20, P21] : List Addr), P ∈ Tbs.tb := fun _ h => h
  have t0 := (List.forall_mem_cons.1 T0).1
  have T1 := (List.forall_mem_cons.1 T0).2
  have m0 := (List.forall_mem_cons.1 M0).1
  have M1 := (List.forall_mem_cons.1 M0).2
  have n0 := kn_mk (d := d0) X G a0 l0 c0 k0 (fun us hl => match us, hl with | [_], _ => rfl) (scopeC (by decide +kernel)) (List.forall_mem_nil _) ⟨t0.code, t0.bm, t0.gP⟩ m0
  have t1 := (List.forall_mem_cons.1 T1).1
  have T2 := (List.forall_mem_cons.1 T1).2
  have m1 := (List.forall_mem_cons.1 M1).1
  have M2 := (List.forall_mem_cons.1 M1).2
  have n1 := kn_mk (d := d1) X G a1 l1 c1 k1 (fun us hl => match us, hl with | [_], _ => rfl) (scopeC (by decide +kernel)) (List.forall_mem_nil _) ⟨t1.code, t1.bm, t1.gP⟩ m1
  have t2 := (List.forall_mem_cons.1 T2).1
  have T3 := (List.forall_mem_cons.1 T2).2
  have m2 := (List.forall_mem_cons.1 M2).1
  have M3 := (List.forall_mem_cons.1 M2).2
  have n2 := kn_mk (d := d2) X G a2 l2 c2 k2 (fun us hl => match us, hl with | [_, _], _ => rfl) (scopeC (by decide +kernel)) (List.forall_mem_cons.2 ⟨fun ws hl => match ws, hl with | [_, _], _ => rfl, List.forall_mem_nil _⟩) ⟨t2.code, t2.bm, t2.gP⟩ m2
  have t3 := (List.forall_mem_cons.1 T3).1
  have T4 := (List.forall_mem_cons.1 T3).2
  have m3 := (List.forall_mem_cons.1 M3).1
  have M4 := (List.forall_mem_cons.1 M3).2
  have n3 := kn_mk (d := d3) X G a3 l3 c3 k3 (fun us hl => match us, hl with | [_, _], _ => rfl) (scopeC (by decide +kernel)) (List.forall_mem_cons.2 ⟨fun ws hl => match ws, hl with | [_, _], _ => rfl, List.forall_mem_nil _⟩) ⟨t3.code, t3.bm, t3.gP⟩ m3
  have t4 := (List.forall_mem_cons.1 T4).1
  have T5 := (List.forall_mem_cons.1 T4).2
  have m4 := (List.forall_mem_cons.1 M4).1
  have M5 := (List.forall_mem_cons.1 M4).2
  have n4 := kn_mk (d := d4) X G a4 l4 c4 k4 (fun us hl => match us, hl with | [_], _ => rfl) (scopeC (by decide +kernel)) (List.forall_mem_nil _) ⟨t4.code, t4.bm, t4.gP⟩ m4
  have t5 := (List.forall_mem_cons.1 T5).1
  have T6 := (List.forall_mem_cons.1 T5).2
  have m5 := (List.forall_mem_cons.1 M5).1
  have M6 := (List.forall_mem_cons.1 M5).2
  have n5 := kn_mk (d := d5) X G a5 l5 c5 k5 (fun us hl => match us, hl with | [_], _ => rfl) (scopeC (by decide +kernel)) (List.forall_mem_nil _) ⟨t5.code, t5.bm, t5.gP⟩ m5
  have t6 := (List.forall_mem_cons.1 T6).1
  have T7 := (List.forall_mem_cons.1 T6).2
  have m6 := (List.forall_mem_cons.1 M6).1
  have M7 := (List.forall_mem_cons.1 M6).2
  have n6 := kn_mk (d := d6) X G a6 l6 c6 k6 (fun us hl => match us, hl with | [_, _], _ => rfl) (scopeC (by decide +kernel)) (List.forall_mem_nil _) ⟨t6.code, t6.bm, t6.gP⟩ m6
  have t7 := (List.forall_mem_cons.1 T7).1
  have T8 := (List.forall_mem_cons.1 T7).2
  have m7 := (List.forall_mem_cons.1 M7).1
  have M8 := (List.forall_mem_cons.1 M7).2
  have n7 := kn_mk (d := d7) X G a7 l7 c7 k7 (fun us hl => match us, hl with | [_, _], _ => rfl) (scopeC (by decide +kernel)) (List.forall_mem_nil _) ⟨t7.code, t7.bm, t7.gP⟩ m7
  have t8 := (List.forall_mem_cons.1 T8).1
  have T9 := (List.forall_mem_cons.1 T8).2
  have m8 := (List.forall_mem_cons.1 M8).1
  have M9 := (List.forall_mem_cons.1 M8).2
  have n8 := kn_mk (d := d8) X G a8 l8 c8 k8 (fun us hl => match us, hl with | [_, _], _ => rfl) (scopeC (by decide +kernel)) (List.forall_mem_nil _) ⟨t8.code, t8.bm, t8.gP⟩ m8
  have t9 := (List.forall_mem_cons.1 T9).1
  have T10 := (List.forall_mem_cons.1 T9).2
  have m9 := (List.forall_mem_cons.1 M9).1
  have M10 := (List.forall_mem_cons.1 M9).2
  have n9 := kn_mk (d := d9) X G a9 l9 c9 k9 (fun us hl => match us, hl with | [_, _], _ => rfl) (scopeC (by decide +kernel)) (List.forall_mem_nil _) ⟨t9.code, t9.bm, t9.gP⟩ m9
  have t10 := (List.forall_mem_cons.1 T10).1
  have T11 := (List.forall_mem_cons.1 T10).2
  have m10 := (List.forall_mem_cons.1 M10).1
  have M11 := (List.forall_mem_cons.1 M10).2
  have n10 := kn_mk (d := d10) X G a10 l10 c10 k10 (fun us hl => match us, hl with | [_, _], _ => rfl) (scopeC (by decide +kernel)) (List.forall_mem_nil _) ⟨t10.code, t10.bm, t10.gP⟩ m10
  have t11 := (List.forall_mem_cons.1 T11).1
  have T12 := (List.forall_mem_cons.1 T11).2
  have m11 := (List.forall_mem_cons.1 M11).1
  have M12 := (List.forall_mem_cons.1 M11).2
  have n11 := kn_mk (d := d11) X G a11 l11 c11 k11 (fun us hl => match us, hl with | [_], _ => rfl) (scopeC (by decide +kernel)) (List.forall_mem_nil _) ⟨t11.code, t11.bm, t11.gP⟩ m11
  have t12 := (List.forall_mem_cons.1 T12).1
  have T13 := (List.forall_mem_cons.1 T12).2
  have m12 := (List.forall_mem_cons.1 M12).1
  have M13 := (List.forall_mem_cons.1 M12).2
  have n12 := kn_mk (d := d12) X G a12 l12 c12 k12 (fun us hl => match us, hl with | [_, _, _], _ => rfl) (scopeC (by decide +kernel)) (List.forall_mem_nil _) ⟨t12.code, t12.bm, t12.gP⟩ m12
  have t13 := (List.forall_mem_cons.1 T13).1
  have T14 := (List.forall_mem_cons.1 T13).2
  have m13 := (List.forall_mem_cons.1 M13).1
  have M14 := (List.forall_mem_cons.1 M13).2
  have n13 := kn_mk (d := d13) X G a13 l13 c13 k13 (fun us hl => match us, hl with | [_, _, _], _ => rfl) (scopeC (by decide +kernel)) (List.forall_mem_nil _) ⟨t13.code, t13.bm, t13.gP⟩ m13
  have t14 := (List.forall_mem_cons.1 T14).1
  have T15 := (List.forall_mem_cons.1 T14).2
  have m14 := (List.forall_mem_cons.1 M14).1
  have M15 := (List.forall_mem_cons.1 M14).2
  have n14 := kn_mk (d := d14) X G a14 l14 c14 k14 (fun us hl => match us, hl with | [_], _ => rfl) (scopeC (by decide +kernel)) (List.forall_mem_nil _) ⟨t14.code, t14.bm, t14.gP⟩ m14
  have t15 := (List.forall_mem_cons.1 T15).1
  have T16 := (List.forall_mem_cons.1 T15).2
  have m15 := (List.forall_mem_cons.1 M15).1
  have M16 := (List.forall_mem_cons.1 M15).2
  have n15 := kn_mk (d := d15) X G a15 l15 c15 k15 (fun us hl => match us, hl with | [_], _ => rfl) (scopeC (by decide +kernel)) (List.forall_mem_nil _) ⟨t15.code, t15.bm, t15.gP⟩ m15
  have t16 := (List.forall_mem_cons.1 T16).1
  have T17 := (List.forall_mem_cons.1 T16).2
  have m16 := (List.forall_mem_cons.1 M16).1
  have M17 := (List.forall_mem_cons.1 M16).2
  have n16 := kn_mk (d := d16) X G a16 l16 c16 k16 (fun us hl => match us, hl with | [_, _], _ => rfl) (scopeC (by decide +kernel)) (List.forall_mem_nil _) ⟨t16.code, t16.bm, t16.gP⟩ m16
  have t17 := (List.forall_mem_cons.1 T17).1
  have T18 := (List.forall_mem_cons.1 T17).2
  have m17 := (List.forall_mem_cons.1 M17).1
  have M18 := (List.forall_mem_cons.1 M17).2
  have n17 := kn_mk (d := d17) X G a17 l17 c17 k17 (fun us hl => match us, hl with | [_, _], _ => rfl) (scopeC (by decide +kernel)) (List.forall_mem_nil _) ⟨t17.code, t17.bm, t17.gP⟩ m17
  have t18 := (List.forall_mem_cons.1 T18).1
  have T19 := (List.forall_mem_cons.1 T18).2
  have m18 := (List.forall_mem_cons.1 M18).1
  have M19 := (List.forall_mem_cons.1 M18).2
  have n18 := kn_mk (d := d18) X G a18 l18 c18 k18 (fun us hl => match us, hl with | [_, _], _ => rfl) (scopeC (by decide +kernel)) (List.forall_mem_nil _) ⟨t18.code, t18.bm, t18.gP⟩ m18
  have t19 := (List.forall_mem_cons.1 T19).1
  have T20 := (List.forall_mem_cons.1 T19).2
  have m19 := (List.forall_mem_cons.1 M19).1
  have M20 := (List.forall_mem_cons.1 M19).2
  have n19 := kn_mk (d := d19) X G a19 l19 c19 k19 (fun us hl => match us, hl with | [], _ => rfl) (scopeC (by decide +kernel)) (List.forall_mem_nil _) ⟨t19.code, t19.bm, t19.gP⟩ m19
  have t20 := (List.forall_mem_cons.1 T20).1
  have T21 := (List.forall_mem_cons.1 T20).2
  have m20 := (List.forall_mem_cons.1 M20).1
  have M21 := (List.forall_mem_cons.1 M20).2
  have n20 := kn_mk (d := d20) X G a20 l20 c20 k20 (fun us hl => match us, hl with | [_], _ => rfl) (scopeC (by decide +kernel)) (List.forall_mem_nil _) ⟨t20.code, t20.bm, t20.gP⟩ m20
  have t21 := (List.forall_mem_cons.1 T21).1
  have T22 := (List.forall_mem_cons.1 T21).2
  have m21 := (List.forall_mem_cons.1 M21).1
  have M22 := (List.forall_mem_cons.1 M21).2
  have n21 := kn_mk (d := d21) X G a21 l21 c21 k21 (fun us hl => match us, hl with | [_], _ => rfl) (scopeC (by decide +kernel)) (List.forall_mem_nil _) ⟨t21.code, t21.bm, t21.gP⟩ m21
  have kn : ∀ d ∈ ds, Know K mg base d := List.forall_mem_cons.2 ⟨⟨_, _, n0⟩, List.forall_mem_cons.2 ⟨⟨_, _, n1⟩, List.forall_mem_cons.2 ⟨⟨_, _, n2⟩, List.forall_mem_cons.2 ⟨⟨_, _, n3⟩, List.forall_mem_cons.2 ⟨⟨_, _, n4⟩, List.forall_mem_cons.2 ⟨⟨_, _, n5⟩, List.forall_mem_cons.2 ⟨⟨_, _, n6⟩, List.forall_mem_cons.2 ⟨⟨_, _, n7⟩, List.forall_mem_cons.2 ⟨⟨_, _, n8⟩, List.forall_mem_cons.2 ⟨⟨_, _, n9⟩, List.forall_mem_cons.2 ⟨⟨_, _, n10⟩, List.forall_mem_cons.2 ⟨⟨_, _, n11⟩, List.forall_mem_cons.2 ⟨⟨_, _, n12⟩, List.forall_mem_cons.2 ⟨⟨_, _, n13⟩, List.forall_mem_cons.2 ⟨⟨_, _, n14⟩, List.forall_mem_cons.2 ⟨⟨_, _, n15⟩, List.forall_mem_cons.2 ⟨⟨_, _, n16⟩, List.forall_mem_cons.2 ⟨⟨_, _, n17⟩, List.forall_mem_cons.2 ⟨⟨_, _, n18⟩, List.forall_mem_cons.2 ⟨⟨_, _, n19⟩, List.forall_mem_cons.2 ⟨⟨_, _, n20⟩, List.forall_mem_cons.2 ⟨⟨_, _, n21⟩, List.forall_mem_nil _⟩⟩⟩⟩⟩⟩⟩⟩⟩⟩⟩⟩⟩⟩⟩⟩⟩⟩⟩⟩⟩⟩
  have hx : ∀ x ∈ xs, Y.XOk l.prog w K mg base xs x := fun x h => nomatch h
  exact law_of (n := 8) (i := 21) (P := l.prog) (w := w) ⟨rfl, rfl⟩ ndT hc hx bt kn hl0 rfl n21 rfl value
end K02
open PySem PySem.W PyProof.Rows
open K02
set_option maxHeartbeats 0 in
theorem PySem.Challenge.cw_runsbehind_k02_paths_and_runs_or_none_holds : PySem.Challenge.rw_runsbehind_k02_paths_and_runs_or_none.Holds := by
  w_on; o_law; k_head; (case hw => w_witness2)
  k_fill
  refine Z.walk_ofDefs (l := PySem.Challenge.rw_runsbehind_k02_paths_and_runs_or_none) (n := 63) (k := 74) (x := "_law_script") (CX := fun _ => L2.CX0) rfl (by decide) rfl ⟨rfl, by decide, by decide⟩ (fun w h Y => PySem.W.kIn_of Y) ?F (fun _ _ _ _ _ h => h)
  case F =>
    intro w mg fa h KX G hmg own
    refine' all_mk KX G hmg own ?a0 ?l0 ?c0 ?k0 ?j0 ?b0_ ?p0 ?e0 ?r0 ?a1 ?l1 ?c1 ?k1 ?j1 ?b1_ ?p1 ?e1 ?r1 ?a2 ?l2 ?c2 ?k2 ?j2 ?b2_ ?p2 ?e2 ?r2 ?a3 ?l3 ?c3 ?k3 ?j3 ?b3_ ?p3 ?e3 ?r3 ?a4 ?l4 ?c4 ?k4 ?j4 ?b4_ ?p4 ?e4 ?r4 ?a5 ?l5 ?c5 ?k5 ?j5 ?b5_ ?p5 ?e5 ?r5 ?a6 ?l6 ?c6 ?k6 ?j6 ?b6_ ?p6 ?e6 ?r6 ?a7 ?l7 ?c7 ?k7 ?j7 ?b7_ ?p7 ?e7 ?r7 ?a8 ?l8 ?c8 ?k8 ?j8 ?b8_ ?p8 ?e8 ?r8 ?a9 ?l9 ?c9 ?k9 ?j9 ?b9_ ?p9 ?e9 ?r9 ?a10 ?l10 ?c10 ?k10 ?j10 ?b10_ ?p10 ?e10 ?r10 ?a11 ?l11 ?c11 ?k11 ?j11 ?b11_ ?p11 ?e11 ?r11 ?a12 ?l12 ?c12 ?k12 ?j12 ?b12_ ?p12 ?e12 ?r12 ?a13 ?l13 ?c13 ?k13 ?j13 ?b13_ ?p13 ?e13 ?r13 ?a14 ?l14 ?c14 ?k14 ?j14 ?b14_ ?p14 ?e14 ?r14 ?a15 ?l15 ?c15 ?k15 ?j15 ?b15_ ?p15 ?e15 ?r15 ?a16 ?l16 ?c16 ?k16 ?j16 ?b16_ ?p16 ?e16 ?r16 ?a17 ?l17 ?c17 ?k17 ?j17 ?b17_ ?p17 ?e17 ?r17 ?a18 ?l18 ?c18 ?k18 ?j18 ?b18_ ?p18 ?e18 ?r18 ?a19 ?l19 ?c19 ?k19 ?j19 ?b19_ ?p19 ?e19 ?r19 ?a20 ?l20 ?c20 ?k20 ?j20 ?b20_ ?p20 ?e20 ?r20 ?a21 ?l21 ?c21 ?k21 ?j21 ?b21_ ?p21 ?e21 ?r21 ?z0 ?z1 ?z2 ?z3 ?z4 ?z5 ?z6 ?z7 ?z8 ?z9 ?z10 ?z11 ?z12 ?z13 ?z14 ?z15 ?z16 ?z17 ?z18 ?z19 ?z20 ?z21 ?z22 ?z23 ?ndT
    (case a0 => k_is); (case l0 => k_is); (case c0 => k_is); (case k0 => k_is); (case j0 => k_is); (case b0_ => rfl)
    (case p0 => kernel_rfl); (case e0 => decide); (case r0 => kernel_rfl); (case a1 => k_is); (case l1 => k_is); (case c1 => k_is)
    (case k1 => k_is); (case j1 => k_is); (case b1_ => rfl); (case p1 => kernel_rfl); (case e1 => decide); (case r1 => kernel_rfl)
    (case a2 => k_is); (case l2 => k_is); (case c2 => k_is); (case k2 => k_is); (case j2 => k_is); (case b2_ => rfl)
    (case p2 => kernel_rfl); (case e2 => decide); (case r2 => kernel_rfl); (case a3 => k_is); (case l3 => k_is); (case c3 => k_is)
    (case k3 => k_is); (case j3 => k_is); (case b3_ => rfl); (case p3 => kernel_rfl); (case e3 => decide); (case r3 => kernel_rfl)
    (case a4 => k_is); (case l4 => k_is); (case c4 => k_is); (case k4 => k_is); (case j4 => k_is); (case b4_ => rfl)
    (case p4 => kernel_rfl); (case e4 => decide); (case r4 => kernel_rfl); (case a5 => k_is); (case l5 => k_is); (case c5 => k_is)
    (case k5 => k_is); (case j5 => k_is); (case b5_ => rfl); (case p5 => kernel_rfl); (case e5 => decide); (case r5 => kernel_rfl)
    (case a6 => k_is); (case l6 => k_is); (case c6 => k_is); (case k6 => k_is); (case j6 => k_is); (case b6_ => rfl)
    (case p6 => kernel_rfl); (case e6 => decide); (case r6 => kernel_rfl); (case a7 => k_is); (case l7 => k_is); (case c7 => k_is)
    (case k7 => k_is); (case j7 => k_is); (case b7_ => rfl); (case p7 => kernel_rfl); (case e7 => decide); (case r7 => kernel_rfl)
    (case a8 => k_is); (case l8 => k_is); (case c8 => k_is); (case k8 => k_is); (case j8 => k_is); (case b8_ => rfl)
    (case p8 => kernel_rfl); (case e8 => decide); (case r8 => kernel_rfl); (case a9 => k_is); (case l9 => k_is); (case c9 => k_is)
    (case k9 => k_is); (case j9 => k_is); (case b9_ => rfl); (case p9 => kernel_rfl); (case e9 => decide); (case r9 => kernel_rfl)
    (case a10 => k_is); (case l10 => k_is); (case c10 => k_is); (case k10 => k_is); (case j10 => k_is); (case b10_ => rfl)
    (case p10 => kernel_rfl); (case e10 => decide); (case r10 => kernel_rfl); (case a11 => k_is); (case l11 => k_is); (case c11 => k_is)
    (case k11 => k_is); (case j11 => k_is); (case b11_ => rfl); (case p11 => kernel_rfl); (case e11 => decide); (case r11 => kernel_rfl)
    (case a12 => k_is); (case l12 => k_is); (case c12 => k_is); (case k12 => k_is); (case j12 => k_is); (case b12_ => rfl)
    (case p12 => kernel_rfl); (case e12 => decide); (case r12 => kernel_rfl); (case a13 => k_is); (case l13 => k_is); (case c13 => k_is)
    (case k13 => k_is); (case j13 => k_is); (case b13_ => rfl); (case p13 => kernel_rfl); (case e13 => decide); (case r13 => kernel_rfl)
    (case a14 => k_is); (case l14 => k_is); (case c14 => k_is); (case k14 => k_is); (case j14 => k_is); (case b14_ => rfl)
    (case p14 => kernel_rfl); (case e14 => decide); (case r14 => kernel_rfl); (case a15 => k_is); (case l15 => k_is); (case c15 => k_is)
    (case k15 => k_is); (case j15 => k_is); (case b15_ => rfl); (case p15 => kernel_rfl); (case e15 => decide); (case r15 => kernel_rfl)
    (case a16 => k_is); (case l16 => k_is); (case c16 => k_is); (case k16 => k_is); (case j16 => k_is); (case b16_ => rfl)
    (case p16 => kernel_rfl); (case e16 => decide); (case r16 => kernel_rfl); (case a17 => k_is); (case l17 => k_is); (case c17 => k_is)
    (case k17 => k_is); (case j17 => k_is); (case b17_ => rfl); (case p17 => kernel_rfl); (case e17 => decide); (case r17 => kernel_rfl)
    (case a18 => k_is); (case l18 => k_is); (case c18 => k_is); (case k18 => k_is); (case j18 => k_is); (case b18_ => rfl)
    (case p18 => kernel_rfl); (case e18 => decide); (case r18 => kernel_rfl); (case a19 => k_is); (case l19 => k_is); (case c19 => k_is)
    (case k19 => k_is); (case j19 => k_is); (case b19_ => rfl); (case p19 => kernel_rfl); (case e19 => decide); (case r19 => kernel_rfl)
    (case a20 => k_is); (case l20 => k_is); (case c20 => k_is); (case k20 => k_is); (case j20 => k_is); (case b20_ => rfl)
    (case p20 => kernel_rfl); (case e20 => decide); (case r20 => kernel_rfl); (case a21 => k_is); (case l21 => k_is); (case c21 => k_is)
    (case k21 => k_is); (case j21 => k_is); (case b21_ => rfl); (case p21 => kernel_rfl); (case e21 => decide); (case r21 => kernel_rfl)
    (case z0 => k_is); (case z1 => k_is); (case z2 => k_is); (case z3 => k_is); (case z4 => k_is); (case z5 => k_is)
    (case z6 => k_is); (case z7 => k_is); (case z8 => k_is); (case z9 => k_is); (case z10 => k_is); (case z11 => k_is)
    (case z12 => k_is); (case z13 => k_is); (case z14 => k_is); (case z15 => k_is); (case z16 => k_is); (case z17 => k_is)
    (case z18 => k_is); (case z19 => k_is); (case z20 => k_is); (case z21 => k_is); (case z22 => k_is); (case z23 => k_is)
    (case ndT => decide)

