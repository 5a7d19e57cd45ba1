import PyProof.Rows.All
import Wide.All
import OpenK.AllK
import Wide.FinOn
import HandS.ForMost
import HandS.ExcInit
import HandS.ExcField
import HandS.ExcIs
import KE.KExcIs
import KE.KExcInit
import PyProof.ExcBaseAll.LookupError
import HandS.TupAny
import HandS.TupMul
import HandS.Flow
import HandS.Deep
import HandS.IsInst
import HandS.Style
import HandS.Walk
import HandS.Zip
import PySem.Challenge.RW_runsbehind_k00_errors_by_themselves
set_option Elab.async false
set_option linter.all false
set_option autoImplicit false
set_option maxRecDepth 100000
set_option maxHeartbeats 2000000
/-! Z1: plain data with marks of ownership, what stands for them in the tracked heap, roots. -/
namespace Z
open PySem PySem.Spec PyProof.Rows L2

abbrev DK := Sum Key (List Key)

/-- data; a list or dict bears true where one root alone holds it -/
inductive D where
  | non | bl (b : Bool) | int (i : Int) | str (s : Str)
  | tup (xs : List D) | lck (xs : List D) | lst (o : Bool) (xs : List D) | dic (o : Bool) (kvs : List (DK × D)) | st (ks : List DK)
  | ob (c : Str) | obf (c f : Str) (x : D)

mutual
  def frz : D → D
    | .tup xs => .tup (frzL xs)
    | .lck xs => .lck (frzL xs)
    | .lst _ xs => .lst false (frzL xs)
    | .dic _ kvs => .dic false (frzK kvs)
    | .non => .non
    | .bl b => .bl b
    | .int i => .int i
    | .str s => .str s
    | .st ks => .st ks
    | .ob c => .ob c
    | .obf c f x => .obf c f (frz x)
  def frzL : List D → List D
    | [] => []
    | x :: r => frz x :: frzL r
  def frzK : List (DK × D) → List (DK × D)
    | [] => []
    | (k, x) :: r => (k, frz x) :: frzK r
end

/-- a dict's entries, as the layer tracks them: plain keys, or tuples of plain keys -/
inductive Ent : List (DK × V) → HO → Prop where
  | plain (kvs : List (Key × V)) : Ent (kvs.map fun p => (Sum.inl p.1, p.2)) (.dK kvs)
  | tuple (kvs : List (List Key × V)) : Ent (kvs.map fun p => (Sum.inr p.1, p.2)) (.dT kvs)

/-- the class of that name -/
def Cls (K : PySem.W.Frag) (c : Str) (C : Addr) : Prop := PySem.W.nsIn K mainGlobals c = some (some (.ref C))
mutual
  /-- v stands for d, whose objects stand in Hk and stay -/
  inductive Sh (K : PySem.W.Frag) (Hk : Hp) : V → D → Prop where
    | non : Sh K Hk .non .non
    | bl (b) : Sh K Hk (.bl b) (.bl b)
    | int (i) : Sh K Hk (.int i) (.int i)
    | str (s) : Sh K Hk (.str s) (.str s)
    | tup {a vs ds} : SqT K Hk a vs → ShL K Hk vs ds → Sh K Hk (.ref a) (.tup ds)
    | lck {a vs ds} : SqL K Hk a vs → ShL K Hk vs ds → Sh K Hk (.ref a) (.lck ds)
    | lst {a vs ds} : Hk a = some (.lst vs) → ShL K Hk vs ds → Sh K Hk (.ref a) (.lst false ds)
    | dic {a o kvs ds} : Hk a = some o → Ent kvs o → ShK K Hk kvs ds → Sh K Hk (.ref a) (.dic false ds)
    | ob {a C c} : Cls K c C → Hk a = some (exo a C none) → Sh K Hk (.ref a) (.ob c)
    | obf {a C dx c f v d} : Cls K c C → Hk a = some (exo a C (some dx)) → Hk dx = some (exd dx [(f, v)]) → Sh K Hk v d → Sh K Hk (.ref a) (.obf c f d)
  inductive ShL (K : PySem.W.Frag) (Hk : Hp) : List V → List D → Prop where
    | nil : ShL K Hk [] []
    | cons {v d vs ds} : Sh K Hk v d → ShL K Hk vs ds → ShL K Hk (v :: vs) (d :: ds)
  inductive ShK (K : PySem.W.Frag) (Hk : Hp) : List (DK × V) → List (DK × D) → Prop where
    | nil : ShK K Hk [] []
    | cons {k v d vs ds} : Sh K Hk v d → ShK K Hk vs ds → ShK K Hk ((k, v) :: vs) ((k, d) :: ds)
end

mutual
  /-- v stands for d in H; fp: the objects that are its own -/
  inductive Ow (K : PySem.W.Frag) (H Hk : Hp) : V → D → List Addr → Prop where
    | sh {v d} : Sh K Hk v d → Ow K H Hk v d []
    | lst {a vs ds fp} : H a = some (.lst vs) → OwL K H Hk vs ds fp → Ow K H Hk (.ref a) (.lst true ds) (a :: fp)
    | dic {a o kvs ds fp} : H a = some o → Ent kvs o → OwK K H Hk kvs ds fp → Ow K H Hk (.ref a) (.dic true ds) (a :: fp)
  inductive OwL (K : PySem.W.Frag) (H Hk : Hp) : List V → List D → List Addr → Prop where
    | nil : OwL K H Hk [] [] []
    | cons {v d f vs ds g} : Ow K H Hk v d f → OwL K H Hk vs ds g → OwL K H Hk (v :: vs) (d :: ds) (f ++ g)
  inductive OwK (K : PySem.W.Frag) (H Hk : Hp) : List (DK × V) → List (DK × D) → List Addr → Prop where
    | nil : OwK K H Hk [] [] []
    | cons {k v d f vs ds g} : Ow K H Hk v d f → OwK K H Hk vs ds g → OwK K H Hk ((k, v) :: vs) ((k, d) :: ds) (f ++ g)
end

def Sub (H H' : Hp) : Prop := ∀ a o, H a = some o → H' a = some o
theorem Sub.rfl {H : Hp} : Sub H H := fun _ _ h => h
theorem Sub.tr {H H1 H2 : Hp} (p : Sub H H1) (q : Sub H1 H2) : Sub H H2 := fun a o h => q a o (p a o h)
theorem Sub.rd {H H' : Hp} {a : Addr} {o : HO} (p : Sub H H') (h : Rd H a o) : Rd H' a o :=
  h.elim (fun z => .inl (p a _ z)) fun ⟨u, z⟩ => .inr ⟨u, p a _ z⟩
theorem Sub.lst {K : PySem.W.Frag} {H H' : Hp} {a : Addr} {vs : List V} (p : Sub H H') (h : SqL K H a vs) : SqL K H' a vs :=
  h.elim (fun z => .inl (p.rd z)) .inr
theorem Sub.tup {K : PySem.W.Frag} {H H' : Hp} {a : Addr} {vs : List V} (p : Sub H H') (h : SqT K H a vs) : SqT K H' a vs :=
  h.elim (fun z => .inl (p.rd z)) .inr

section
variable {K : PySem.W.Frag} {H H' Hk Hk' : Hp}
mutual
  theorem Sh.sub (p : Sub Hk Hk') : ∀ {v d}, Sh K Hk v d → Sh K Hk' v d
    | _, _, .non => .non
    | _, _, .bl b => .bl b
    | _, _, .int i => .int i
    | _, _, .str s => .str s
    | _, _, .tup h r => .tup (p.tup h) (r.sub p)
    | _, _, .lck h r => .lck (p.lst h) (r.sub p)
    | _, _, .lst h r => .lst (p _ _ h) (r.sub p)
    | _, _, .dic h e r => .dic (p _ _ h) e (r.sub p)
    | _, _, .ob c h => .ob c (p _ _ h)
    | _, _, .obf c h h2 r => .obf c (p _ _ h) (p _ _ h2) (r.sub p)
  theorem ShL.sub (p : Sub Hk Hk') : ∀ {v d}, ShL K Hk v d → ShL K Hk' v d
    | _, _, .nil => .nil
    | _, _, .cons h r => .cons (h.sub p) (r.sub p)
  theorem ShK.sub (p : Sub Hk Hk') : ∀ {v d}, ShK K Hk v d → ShK K Hk' v d
    | _, _, .nil => .nil
    | _, _, .cons h r => .cons (h.sub p) (r.sub p)
end
mutual
  theorem Ow.sub (p : Sub Hk Hk') : ∀ {v d fp}, (∀ a ∈ fp, H' a = H a) → Ow K H Hk v d fp → Ow K H' Hk' v d fp
    | _, _, _, _, .sh h => .sh (h.sub p)
    | _, _, _, q, .lst h r => .lst ((q _ List.mem_cons_self).trans h) (r.sub p fun b z => q b (List.mem_cons_of_mem _ z))
    | _, _, _, q, .dic h e r => .dic ((q _ List.mem_cons_self).trans h) e (r.sub p fun b z => q b (List.mem_cons_of_mem _ z))
  theorem OwL.sub (p : Sub Hk Hk') : ∀ {v d fp}, (∀ a ∈ fp, H' a = H a) → OwL K H Hk v d fp → OwL K H' Hk' v d fp
    | _, _, _, _, .nil => .nil
    | _, _, _, q, .cons h r => .cons (h.sub p fun b z => q b (List.mem_append_left _ z)) (r.sub p fun b z => q b (List.mem_append_right _ z))
  theorem OwK.sub (p : Sub Hk Hk') : ∀ {v d fp}, (∀ a ∈ fp, H' a = H a) → OwK K H Hk v d fp → OwK K H' Hk' v d fp
    | _, _, _, _, .nil => .nil
    | _, _, _, q, .cons h r => .cons (h.sub p fun b z => q b (List.mem_append_left _ z)) (r.sub p fun b z => q b (List.mem_append_right _ z))
end
/-! what is one's own stands in H -/
mutual
  theorem Ow.there : ∀ {v d fp}, Ow K H Hk v d fp → ∀ a ∈ fp, ∃ o, H a = some o
    | _, _, _, .sh _, _, z => nomatch z
    | _, _, _, .lst h r, b, z => (List.mem_cons.mp z).elim (fun e => e ▸ ⟨_, h⟩) (r.there b)
    | _, _, _, .dic h _ r, b, z => (List.mem_cons.mp z).elim (fun e => e ▸ ⟨_, h⟩) (r.there b)
  theorem OwL.there : ∀ {v d fp}, OwL K H Hk v d fp → ∀ a ∈ fp, ∃ o, H a = some o
    | _, _, _, .nil, _, z => nomatch z
    | _, _, _, .cons h r, b, z => (List.mem_append.mp z).elim (h.there b) (r.there b)
  theorem OwK.there : ∀ {v d fp}, OwK K H Hk v d fp → ∀ a ∈ fp, ∃ o, H a = some o
    | _, _, _, .nil, _, z => nomatch z
    | _, _, _, .cons h r, b, z => (List.mem_append.mp z).elim (h.there b) (r.there b)
end
mutual
  theorem Sh.frz : ∀ {v d}, Sh K Hk v d → frz d = d
    | _, _, .non => rfl
    | _, _, .bl b => rfl
    | _, _, .int i => rfl
    | _, _, .str s => rfl
    | _, _, .tup _ r => congrArg D.tup r.frz
    | _, _, .lck _ r => congrArg D.lck r.frz
    | _, _, .lst _ r => congrArg (D.lst false) r.frz
    | _, _, .dic _ _ r => congrArg (D.dic false) r.frz
    | _, _, .ob _ _ => rfl
    | _, _, .obf _ _ _ r => congrArg (D.obf _ _) r.frz
  theorem ShL.frz : ∀ {v d}, ShL K Hk v d → frzL d = d
    | _, _, .nil => rfl
    | _, _, .cons (ds := ds) h r => (show Z.frz _ :: frzL ds = _ by rw [h.frz, r.frz])
  theorem ShK.frz : ∀ {v d}, ShK K Hk v d → frzK d = d
    | _, _, .nil => rfl
    | _, _, .cons (k := k) (ds := ds) h r => (show (k, Z.frz _) :: frzK ds = _ by rw [h.frz, r.frz])
end
/-! frozen: its own objects go over to those that stay -/
mutual
  theorem Ow.froz (p : Sub Hk Hk') : ∀ {v d fp}, (∀ a ∈ fp, Hk' a = H a) → Ow K H Hk v d fp → Sh K Hk' v (frz d)
    | _, _, _, _, .sh h => by rw [h.frz]; exact h.sub p
    | _, _, _, q, .lst h r => .lst ((q _ List.mem_cons_self).trans h) (r.froz p fun b z => q b (List.mem_cons_of_mem _ z))
    | _, _, _, q, .dic h e r => .dic ((q _ List.mem_cons_self).trans h) e (r.froz p fun b z => q b (List.mem_cons_of_mem _ z))
  theorem OwL.froz (p : Sub Hk Hk') : ∀ {v d fp}, (∀ a ∈ fp, Hk' a = H a) → OwL K H Hk v d fp → ShL K Hk' v (frzL d)
    | _, _, _, _, .nil => .nil
    | _, _, _, q, .cons h r => .cons (h.froz p fun b z => q b (List.mem_append_left _ z)) (r.froz p fun b z => q b (List.mem_append_right _ z))
  theorem OwK.froz (p : Sub Hk Hk') : ∀ {v d fp}, (∀ a ∈ fp, Hk' a = H a) → OwK K H Hk v d fp → ShK K Hk' v (frzK d)
    | _, _, _, _, .nil => .nil
    | _, _, _, q, .cons h r => .cons (h.froz p fun b z => q b (List.mem_append_left _ z)) (r.froz p fun b z => q b (List.mem_append_right _ z))
end
end

/-! ### roots -/
abbrev Rt := List (V × D)
inductive OwR (K : PySem.W.Frag) (H Hk : Hp) : Rt → List Addr → Prop where
  | nil : OwR K H Hk [] []
  | cons {v d f rs g} : Ow K H Hk v d f → OwR K H Hk rs g → OwR K H Hk ((v, d) :: rs) (f ++ g)
/-- the roots stand, each apart from all others -/
def Rel (K : PySem.W.Frag) (H : Hp) (rs : Rt) : Prop := ∃ Hk fp, Sub Hk H ∧ OwR K H Hk rs fp ∧ fp.Nodup ∧ ∀ a ∈ fp, Hk a = none

section
variable {K : PySem.W.Frag} {H H' Hk Hk' : Hp} {rs rs' : Rt}
theorem OwR.sub (p : Sub Hk Hk') : ∀ {rs : Rt} {fp}, (∀ a ∈ fp, H' a = H a) → OwR K H Hk rs fp → OwR K H' Hk' rs fp
  | _, _, _, .nil => .nil
  | _, _, q, .cons h r => .cons (h.sub p fun b z => q b (List.mem_append_left _ z)) (r.sub p fun b z => q b (List.mem_append_right _ z))
theorem OwR.there : ∀ {rs : Rt} {fp}, OwR K H Hk rs fp → ∀ a ∈ fp, ∃ o, H a = some o
  | _, _, .nil, _, z => nomatch z
  | _, _, .cons h r, b, z => (List.mem_append.mp z).elim (h.there b) (r.there b)
theorem OwR.perm {rs rs' : Rt} (q : rs.Perm rs') : ∀ {fp}, OwR K H Hk rs fp → ∃ fp', fp.Perm fp' ∧ OwR K H Hk rs' fp' := by
  induction q with
  | nil => intro fp h; exact ⟨fp, .refl _, h⟩
  | cons x _ ih =>
    intro fp h
    cases h with
    | cons h r =>
      obtain ⟨g, pg, r'⟩ := ih r
      exact ⟨_, List.Perm.append_left _ pg, .cons h r'⟩
  | swap x y l =>
    intro fp h
    cases h with
    | cons h r =>
      cases r with
      | cons h2 r2 =>
        refine ⟨_, ?_, .cons h2 (.cons h r2)⟩
        rw [← List.append_assoc, ← List.append_assoc]
        exact List.Perm.append_right _ List.perm_append_comm
  | trans _ _ i1 i2 =>
    intro fp h
    obtain ⟨g, p1, r1⟩ := i1 h
    obtain ⟨g', p2, r2⟩ := i2 r1
    exact ⟨g', p1.trans p2, r2⟩
theorem Rel.perm (h : Rel K H rs) (q : rs.Perm rs') : Rel K H rs' := by
  obtain ⟨Hk, fp, s, o, n, k⟩ := h
  obtain ⟨fp', p, o'⟩ := o.perm q
  exact ⟨Hk, fp', s, o', p.nodup n, fun a z => k a (p.symm.subset z)⟩
theorem Rel.tail {x} (h : Rel K H (x :: rs)) : Rel K H rs := by
  obtain ⟨Hk, fp, s, o, n, k⟩ := h
  cases o with
  | cons h r => exact ⟨Hk, _, s, r, (List.nodup_append.mp n).2.1, fun a z => k a (List.mem_append_right _ z)⟩
/-- what is frozen is shared -/
theorem Ow.shared {v d f} (h : Ow K H Hk v d f) (e : frz d = d) : f = [] ∧ Sh K Hk v d := by
  cases h with
  | sh h => exact ⟨rfl, h⟩
  | lst h r => simp [frz] at e
  | dic h _ r => simp [frz] at e
/-- the first root frozen -/
theorem Rel.froz {v d} (h : Rel K H ((v, d) :: rs)) : Rel K H ((v, frz d) :: rs) := by
  obtain ⟨Hk, fp, s, o, n, k⟩ := h
  cases o with
  | @cons _ _ f _ g h r =>
    have nd := List.nodup_append.mp n
    have nk : ∀ a o, Hk a = some o → a ∉ f := fun a o e z => by
      rw [k a (List.mem_append_left _ z)] at e
      cases e
    have up : Sub Hk fun a => if a ∈ f then H a else Hk a := fun a o e => (if_neg (nk a o e)).trans e
    refine ⟨fun a => if a ∈ f then H a else Hk a, g, fun a o e => ?_, .cons (f := []) (.sh (h.froz up fun a z => if_pos z)) (r.sub up fun _ _ => rfl), nd.2.1, fun a z => ?_⟩
    · replace e : (if a ∈ f then H a else Hk a) = some o := e
      by_cases z : a ∈ f
      · rw [if_pos z] at e
        exact e
      · rw [if_neg z] at e
        exact s a o e
    · exact (if_neg fun z' => nd.2.2 a z' a z rfl).trans (k a (List.mem_append_right _ z))
/-- a second name of a frozen root -/
theorem Rel.dup {v d} (h : Rel K H ((v, d) :: rs)) (e : frz d = d) : Rel K H ((v, d) :: (v, d) :: rs) := by
  obtain ⟨Hk, fp, s, o, n, k⟩ := h
  cases o with
  | cons h r =>
    obtain ⟨rfl, q⟩ := h.shared e
    exact ⟨Hk, _, s, .cons (.sh q) (.cons (.sh q) r), n, k⟩
/-- a new object that no root knows -/
theorem Rel.new {p : Addr} {o : HO} (h : Rel K H rs) (n : H p = none) : Rel K (upd H p o) rs := by
  obtain ⟨Hk, fp, s, r, nd, k⟩ := h
  refine ⟨Hk, fp, fun a u e => ?_, r.sub Sub.rfl fun a z => ?_, nd, k⟩
  · rw [upd_ne (ne_of_none (s a u e) n)]
    exact s a u e
  · obtain ⟨u, e⟩ := r.there a z
    exact upd_ne (ne_of_none e n)
end
end Z

set_option Elab.async false
set_option linter.all false
set_option autoImplicit false
set_option maxRecDepth 100000
set_option maxHeartbeats 4000000
/-! Y1: own exceptions as values: the first field stored. -/
namespace Y
open PySem PySem.Spec PySem.W PySem.Calls PyProof.Rows PySem.HandSPX
section
open Builtin Builtin.ObjectAttr
variable {prog : Program} {w : World} {A : Around} {R : Result → Shared → Prop} {hp : Heap} {g : Array GenState} {dr : Drawn} {tt : Nat} {os : OsState}
theorem first_set {K : W.Frag} {fld : Str} {ft : Tok} {val : Value} {me C : Addr} {fv : Array Value} {cd : ClassData} {B : String} {tl : List Value} (SF : StoreFacts B tl "object.__setattr__" "object") (X : K.In hp) (hme : hp.get? me = some { cls := .ref C, data := .fields fv })
    (hc : W.clsIn K C = some cd) (hm : cd.mro = .ref C :: tl) (hd : cd.hasDict = true) (nof : W.findIn K (.ref C) fld = some none)
    (out : ∀ h2 t2 dx, (∀ b o, b ≠ me → hp.get? b = some o → h2.get? b = some o) → hp.objs.size ≤ dx → dx ≠ me → h2.get? me = some { cls := .ref C, dict := some dx, data := .fields fv } →
      h2.Ns1 dx (fun y => if y = fld then some val else none) → R (.ok (.ret .none)) ⟨h2, g, dr, t2, os⟩) :
    codeAny (model prog w) A (.call (.builtin "object.__setattr__") ⟨[.ref me, .str fld ft, val], []⟩) R ⟨hp, g, dr, tt, os⟩ := by
  have at_ : W.InstAt hp me { cls := .ref C, data := .fields fv } C none := ⟨hme, rfl, rfl, trivial⟩
  have SO := F.store_object
  have nid : me ≠ hp.objs.size := Nat.ne_of_lt (Heap.lt_size hme)
  have isO : W.mroIn K C (.type "object") = some true := by
    unfold W.mroIn
    rw [hc, Option.bind_some, hm, if_neg (by simp), List.contains_cons, SF.hasOwner, Bool.or_true]
  have lkO : W.Looks (model prog w) hp (isInstance (.ref me) (.type "object")) true := at_.type.andThen (W.looks_mroIn X isO)
  have lkM : W.Looks (model prog w) hp (mroOf (.ref C)) cd.mro := (W.looks_clsIn X hc).andThen .now
  have lkC : W.Looks (model prog w) hp (classData C) cd := W.looks_clsIn X hc
  have lkT : W.Looks (model prog w) hp (storeTaker? none) none := .now
  refine codeAny_call_builtin SO.slot.plain SO.entry (W.check_slot (s := ⟨hp, g, dr, tt, os⟩) SO.kind SO.split lkO (SO.args (.ref me) (.str fld ft) val) ?_)
  rw [W.osa_eq, refuse_eq]
  refine wpAny_bind (wpAny_bind (at_.type.at (wpAny_bind (lkM.at ?_))))
  rw [hm, refuseLoop_ref, SF.passes]
  refine wpAny_pure (wpAny_bind (at_.type.at (wpAny_bind ((W.looks_findIn X nof).at (wpAny_bind (lkT.at ?_))))))
  show wpAny _ _ (storeInOwnDict (.ref me) (.ref C) (.str fld ft) fld val false) _ _ _
  obtain ⟨c1, c2, c3, c4, c5, c6, c7, c8, c9, c10, c11⟩ := cd
  dsimp only at hd
  subst hd
  unfold storeInOwnDict ownDictForStores
  repeat (first | with_reducible refine store_in_new ?_ ?_ | with_reducible refine wpAny_loadPart_at hme ?_ | with_reducible refine lkC.at ?_ | wp_step)
  · exact ⟨_, #[], _, (Heap.get?_update_ne _ _ _ _ nid.symm).trans (Heap.get?_push_at rfl rfl), rfl, fun e he => absurd he (by simp), fun _ => rfl⟩
  · intro h2 t2 ns sb
    have m1 : (hp.push { cls := .type "dict", data := .dict #[] }).get? me = some { cls := .ref C, data := .fields fv } := Heap.get?_push_of_some _ hme
    have keep : ∀ b o, b ≠ me → hp.get? b = some o → h2.get? b = some o := fun b o nb hb => by
      rw [sb.2 b (Nat.ne_of_lt (Heap.lt_size hb)), Heap.get?_update_ne _ _ _ _ nb]
      exact Heap.get?_push_of_some _ hb
    have mine : h2.get? me = some { cls := .ref C, dict := some hp.objs.size, data := .fields fv } := by
      rw [sb.2 me nid]
      exact Heap.get?_update_self _ m1 rfl
    exact out h2 t2 hp.objs.size keep (Nat.le_refl _) nid.symm mine ns
end
end Y

set_option Elab.async false
set_option linter.all false
set_option autoImplicit false
set_option maxRecDepth 100000
set_option maxHeartbeats 4000000
/-! Y2: own exceptions as values: the class, its __init__. -/
namespace Y
open PySem PySem.Spec PyProof.Rows L2 Z
/-- the built-in class it stands over -/
structure Bs (K : PySem.W.Frag) (B newId initId : String) (tl : List Value) : Prop where
  f : ExcBaseFacts B newId initId tl
  s : PySem.StoreFacts B tl "object.__setattr__" "object"
  b : bootBuiltins (Str.ofString B) = some (.type B)
  t : typeOf (.type B) = pure (.type "type")
  st : Manifest.isStub B = false
  i : PySem.W.findCls K (.type B) (.type "type") "__init__" = some (.val (.builtin initId))
  hd : PySem.W.handedIn (.builtin initId) = true
  nm : (Str.ofString B == ("__name__" : Str)) = false
  db : (Str.ofString B == ("__debug__" : Str)) = false
/-- an own class straight over it -/
structure Xc (K : PySem.W.Frag) (C : Addr) (newId : String) (tl : List Value) : Prop where
  cls : ∃ nm q N bs sn sub ab col dd k0 k1 k2 k3 k5, K.lookup C = some (excClassObj nm q C N bs tl true sn sub ab col dd k0 k1 k2 k3 k5 newId)
  sa : PySem.W.findIn K (.ref C) "__setattr__" = some (some (.builtin "object.__setattr__"))
  kp : PySem.W.keepIn K (.ref C) = true
section
variable {X : Cx} {pins : List (Addr × Obj)} {σ : L2.St} {H : Hp} {s : Shared} {a C : Addr} {f : Str} {y : V} {u : Value} {E : Value → Shared → Prop} {A : Around} {B newId initId : String} {tl : List Value}
/-- the first field -/
theorem st_first {Q : Unit → Shared → Prop} (b : Bs X.K B newId initId tl) (T : Xc X.K C newId tl) (I : Inv X pins σ H s) (e : H a = some (exo a C none)) (nof : PySem.W.findIn X.K (.ref C) f = some none) (ry : RelV y u)
    (h : ∀ dx s', H dx = none → dx ≠ a → Inv X pins σ (upd (upd H dx (exd dx [(f, y)])) a (exo a C (some dx))) s' → Q () s') : wpAny (model X.prog X.w) A (setAttr (.ref a) f u) Q E s := by
  obtain ⟨c1, c2, c3, c4, c5, c6, c7, c8, c9, k0, k1, k2, k3, k5, hC⟩ := T.cls
  obtain ⟨t1, ho⟩ := exo_at I.hok e
  have hcl : PySem.W.clsIn X.K C = some { name := c1, bases := c4, mro := .ref C :: tl, ns := c3, qualname := c2, hasDict := true, slotNames := c5, subclasses := c6, abstract := c7, collection := c8, hasDel := false } := by
    unfold PySem.W.clsIn
    rw [hC] <;> rfl
  obtain ⟨hp, g, d, t, os⟩ := s
  refine PySem.W.set_plain I.kIn (od := none) ⟨ho, rfl, rfl, trivial⟩ T.sa (first_set b.s I.kIn ho hcl rfl rfl nof fun h2 t2 dx keep hd ne mine ns => ?_)
  have fr : H dx = none := I.hok.fresh hd
  let old : Obj := { cls := .ref C, dict := none, data := .fields #[.ref t1, .none, .none, .none, .bool false, .none] }
  let h1 : Heap := h2.update a fun _ => old
  have at1 : h1.get? a = some old := Heap.get?_update_self _ mine rfl
  have off1 : ∀ b, b ≠ a → h1.get? b = h2.get? b := fun b nb => Heap.get?_update_ne _ _ _ _ nb
  have k1 : ∀ b o, hp.get? b = some o → h1.get? b = some o := fun b o q => by
    by_cases hb : b = a
    · subst hb
      rw [at1, ← q, ho]
    · rw [off1 b hb]
      exact keep b o hb q
  have n1 : h1.Ns1 dx (fun y => if y = f then some u else none) := ns.at fun o q => (off1 dx ne).trans q
  have I1 := I.laid (t' := t2) (a := dx) (h' := h1) k1 hd (exd_ok n1 (relO_put (fs := []) ry fun _ => True.intro))
  have e1 : (upd H dx (exd dx [(f, y)])) a = some (exo a C none) := by rw [upd_ne (Ne.symm ne)]; exact e
  have I2 := I1.write (t' := t2) (x := a) (e := a) (o := exo a C (some dx)) (h' := h2) (by rw [e1]; exact True.intro) (.inl rfl) (fun b o nb q => (off1 b nb).symm.trans q) ⟨_, mine⟩ (exo_ok mine)
  exact h dx _ fr ne I2
/-- B.__init__(self, ..) -/
theorem base_init {us : List Value} {Q : Value → Shared → Prop} (b : Bs X.K B newId initId tl) (T : Xc X.K C newId tl) (I : Inv X pins σ H s) (e : H a = some (exo a C none)) (hl : us.length ≤ sizeLine) (h : ∀ s', Inv X pins σ H s' → Q .none s') :
    wpAny (model X.prog X.w) A (call (.builtin initId) (.ref a :: us)) Q E s := by
  obtain ⟨c1, c2, c3, c4, c5, c6, c7, c8, c9, k0, k1, k2, k3, k5, hC⟩ := T.cls
  obtain ⟨t1, ho⟩ := exo_at I.hok e
  obtain ⟨hp, g, d, t, os⟩ := s
  refine wpAny_call (PySem.HandSPX.init_base b.f (fun _ => rfl) (I.kIn _ _ hC) ho hl fun h2 t2 keep mine => ?_)
  have I1 := I.write (t' := t) (x := a) (e := a) (o := exo a C none) (h' := h2) (by rw [e]; exact True.intro) (.inl rfl) keep ⟨_, mine⟩ (exo_ok mine)
  have same : upd H a (exo a C none) = H := funext fun z => by
    by_cases hz : z = a
    · subst hz
      rw [upd_same, e]
    · exact upd_ne hz
  exact h _ (same ▸ I1)
end
/-! ### the text of such an __init__ -/
def rBase (K : PySem.W.Frag) (newId : String) (tl : List Value) : List V → Hp → VK → Prop := fun vs H Q => ∃ (a C : Addr) (ws : List V), vs = .ref a :: ws ∧ ws.length ≤ 1000 ∧ Xc K C newId tl ∧ H a = some (exo a C none) ∧ Q .non H
section
variable {X : Cx} {e o : Expr} {es : List Expr} {ta : TA} {to te : TE} {p p1 p2 pos : Pos} {B newId initId : String} {tl : List Value} {f : Str}
theorem pe_base {pl : Sem Bool} (b : Bs X.K B newId initId tl) (hg : Gl X (Str.ofString B)) (hm : X.mg (Str.ofString B) = none) (ha : PA X (e :: es) ta)
    (hc : eval (.Call (.Attribute (.Name (Str.ofString B) p1) "__init__" p2) (e :: es) [] pos) X.env = (do
      let ov ← eval (.Name (Str.ofString B) p1) X.env
      standAt p2.atName
      let (f, first) ← holding [ov] (getMethod ov "__init__" pl)
      callWith pos f first (backTo pos (starEach (e :: es) X.env)) (backToKw pos (keywordEach [] X.env))))
    (he : starEach (e :: es) X.env = (false, eval e X.env) :: starEach es X.env) (hpl : (backTo pos (starEach es X.env)).any (·.1) = false) :
    PE X (.Call (.Attribute (.Name (Str.ofString B) p1) "__init__" p2) (e :: es) [] pos) (tCB (rBase X.K newId tl) ta) := by
  refine ⟨fun pins s σ H Q I h => ?_⟩
  refine PySem.W.methodCall_KW (ld_blt I hg hm b.b ?_ (fun z => absurd b.nm (by rw [z]; decide)) b.db) hc
  obtain ⟨m, fr⟩ := I.fr
  refine PySem.W.method_type fr I.ok.mod.kin b.t b.st b.i b.hd ?_
  show wpAny _ _ (callWith pos (Value.builtin initId) [] (backTo pos (starEach (e :: es) X.env)) []) _ _ _
  refine PyProof.Rows.callWith_method1 (thn (ha.run pos pins _ σ H _ (I.tok _) h) fun us s1 ⟨vs, H1, I1, r1, a, C, ws, ev, hl, T, ea, q⟩ => ?_) he hpl
  subst ev
  cases r1 with
  | @cons _ u0 _ ur ra rw' =>
    obtain rfl : u0 = Value.ref a := ra
    exact base_init b T I1 ea (by rw [← Paired.length rw', sizeLine_eq]; omega) fun s' J => ⟨.non, H1, J, rfl, q⟩
/-- self.f = e, the first field -/
def tFirst (K : PySem.W.Frag) (newId : String) (tl : List Value) (f : Str) (to te : TE) : TS := fun D σ H => te σ H fun y H1 => to σ H1 fun x H2 => ∃ a C : Addr, x = .ref a ∧ Xc K C newId tl ∧ PySem.W.findIn K (.ref C) f = some none ∧ H2 a = some (exo a C none) ∧
  ∀ dx, H2 dx = none → dx ≠ a → D.nx σ (upd (upd H2 dx (exd dx [(f, y)])) a (exo a C (some dx)))
theorem ps_first {p' : Pos} (b : Bs X.K B newId initId tl) (ho : PE X o to) (he : PE X e te) (hs : swapsWith e (some (.Attribute o f p')) pos.line X.env = pure false) : PS X (.Assign [.Attribute o f p'] e pos) (tFirst X.K newId tl f to te) := by
  refine ⟨fun pins s σ H D I h => ?_⟩
  refine plainObj_wpAny_Assign_Attribute (thn (he.run pins s σ H _ I h) fun v s1 ⟨y, H1, I1, r1, q1⟩ => thn (ho.run pins s1 σ H1 _ I1 q1) fun u s2 ⟨x, H2, I2, r2, a, C, ex, T, nof, ea, q⟩ => ?_) hs
  subst ex
  obtain rfl : u = Value.ref a := r2
  exact st_first b T I2 ea nof r1 fun dx s' n ne J => ⟨σ, _, J, q dx n ne⟩
end
end Y

set_option Elab.async false
set_option linter.all false
set_option autoImplicit false
set_option maxRecDepth 100000
set_option maxHeartbeats 4000000
namespace Y
open PySem PySem.Spec PySem.W PySem.Calls PyProof.Rows PySem.HandSPX
section
variable {M : Model} {prog : Program} {w : World} {A : Around} {E : Value → Shared → Prop} {R : Result → Shared → Prop} {h : Heap} {g : Array GenState} {d : Drawn} {t : Nat} {os : OsState}
variable {nm q : Str} {C N : Addr} {bs tl : List Value} {sn : List Str} {sub : List Value} {ab : Bool} {col : Option Bool} {dd : Option Addr} {k0 k1 k2 k3 k5 : Option Value} {B newId initId : String} {kw : List (Str × Value)}
theorem kw_check (F : ExcBaseFacts B newId initId tl) (hC : h.get? C = some (excClassObj nm q C N bs tl true sn sub ab col dd k0 k1 k2 k3 k5 newId)) {Q : Unit → Shared → Prop} (hq : Q () ⟨h, g, d, t, os⟩) : wpAny M A (checkBuiltinCall newId ⟨[.ref C], kw⟩) Q E ⟨h, g, d, t, os⟩ := by
  have isB : (Value.ref C :: tl).contains (.type B) = true := by rw [List.contains_cons, F.hasB, Bool.or_true]
  have ns := F.noStar
  simp only [checkBuiltinCall, F.newKind, F.newSplit, F.newRow]
  repeat (first | refine wpAny_loadPart_at hC ?_ | (refine wpAny_isSubtype_exc hC ?_; rw [isB]) | refine wpAny_staticBase_exc hC ?_ | refine wpAny_madeBy_exc hC ?_ | simp only [bne_self_eq_false, Bool.false_eq_true, if_false] | wp_step)
  exact hq
theorem kw_new (F : ExcBaseFacts B newId initId tl) (hC : h.get? C = some (excClassObj nm q C N bs tl true sn sub ab col dd k0 k1 k2 k3 k5 newId))
    (hq : R (.ok (.ret (.ref (h.objs.size + 1)))) ⟨(h.push { cls := .type "tuple", data := .seq ([] : List Value).toArray }).push (excO C h.objs.size), g, d, t, os⟩) :
    codeAny (model prog w) A (.builtin newId ⟨[.ref C], kw⟩) R ⟨h, g, d, t, os⟩ := by
  have fe := F.ends
  have isB : (Value.ref C :: tl).contains (.type B) = true := by rw [List.contains_cons, F.hasB, Bool.or_true]
  have noA : (Value.ref C :: tl).contains (.type "AttributeError") = false := by rw [List.contains_cons, F.noAttr]; rfl
  have noN : (Value.ref C :: tl).contains (.type "NameError") = false := by rw [List.contains_cons, F.noName]; rfl
  have few : ([] : List Value).length ≤ sizeLine := Nat.zero_le _
  refine PySem.codeAny_builtinAt F.entry ?_
  unfold Builtin.«BaseException.__new__»
  refine PySem.wpAt_bind ?_
  show PySem.wpAt _ _ _ (stack >>= _) _ _ _
  refine PySem.wpAt_bind (PySem.wpAt_stack fun p below => PySem.wpAt_of_wpAny ?_)
  wp_walk
  refine PySem.wpAt_of_wpAny ?_
  rw [F.owner]
  repeat (first | with_reducible refine wpAny_madeHere_exc F.canon hC ?_ | with_reducible refine wpAny_loadPart_at hC ?_ | (with_reducible refine wpAny_isSubtype_exc hC ?_; first | rw [isB] | rw [noA] | rw [noN]) | wp_step)
  show R _ _
  rw [Heap.size_push]
  exact hq
theorem kw_type (F : ExcBaseFacts B newId initId tl) {fI : Addr} {Q : Fin → Shared → Prop} (hC : h.get? C = some (excClassObj nm q C N bs tl true sn sub ab col dd k0 k1 k2 k3 k5 newId))
    (hi : W.Looks (model prog w) h (typeLookup (.ref C) "__init__") (some (.ref fI))) (hb : ∀ self, W.Looks (model prog w) h (bindSpecial (.ref fI) self) (.ref fI, [self]))
    (hq : codeAny (model prog w) A (.call (.ref fI) ⟨[.ref (h.objs.size + 1)], kw⟩)
      (fun r s' => match r with | .ok (.ret v) => v = .none ∧ Q (.done (.ret (.ref (h.objs.size + 1)))) s' | .ok _ => False | .error e => E e s')
      ⟨(h.push (W.kdv_tup [])).push (excO C h.objs.size), g, d, t, os⟩) :
    wpAny (model prog w) A (Builtin.«type.__call__» ⟨[.ref C], kw⟩) Q E ⟨h, g, d, t, os⟩ := by
  repeat (first | with_reducible refine wpAny_loadPart_at hC ?_ | with_reducible refine wpAny_madeBy_exc hC ?_ | wp_step)
  refine codeAny_call_builtin_code (Code.quiet_builtin _ F.quiet) (kw_check F hC ?_)
  refine kw_new F hC ?_
  show wpAny _ _ _ _ _ _
  have kp : ∀ b o, h.get? b = some o → ((h.push (W.kdv_tup [])).push (excO C h.objs.size)).get? b = some o := fun b o e => Heap.get?_push_of_some _ (Heap.get?_push_of_some _ e)
  have c1 := kp _ _ hC
  have mine : ((h.push (W.kdv_tup [])).push (excO C h.objs.size)).get? (h.objs.size + 1) = some (excO C h.objs.size) := by heap_get
  have isC : (Value.ref C :: tl).contains (.ref C) = true := by simp
  have i1 := hi.keeps kp
  have b1 := (hb (.ref (h.objs.size + 1))).keeps kp
  unfold isInstance
  repeat (first | with_reducible refine wpAny_loadPart_at mine ?_ | (with_reducible refine wpAny_isSubtype_exc c1 ?_; rw [isC]) | wp_step)
  show wpAny _ _ (typeLookup (.ref C) _) _ _ _
  refine i1.at ?_
  refine wpAny_holding (wpAny_bind (b1.at ?_))
  refine wpAny_bind (wpAny_call (codeAny_mono hq fun r s' z => ?_))
  rcases r with e | (v | _ | _ | _) <;> first | exact z | exact z.elim | skip
  obtain ⟨rfl, z⟩ := z
  first
    | exact wpAny_pure (wpAny_pure z)
    | (wp_walk; exact z)
theorem kw_tc (hC : h.get? C = some (excClassObj nm q C N bs tl true sn sub ab col dd k0 k1 k2 k3 k5 newId)) {Q : Unit → Shared → Prop} (hq : Q () ⟨h, g, d, t, os⟩) : wpAny M A (checkBuiltinCall "type.__call__" ⟨[.ref C], kw⟩) Q E ⟨h, g, d, t, os⟩ := by
  have fs := tc_sub
  have isT : (⟨h, g, d, t, os⟩ : Shared).TypeIs (.ref C) "type" := ⟨_, hC, rfl⟩
  simp only [checkBuiltinCall, tc_kind, tc_split]
  repeat (any_goals (first | assumption | with_reducible refine wpAny_loadPart_at hC ?_ | with_reducible refine wpAny_onRaise ?_ | with_reducible refine wpAny_map ?_ | wp_step))
theorem kw_call (F : ExcBaseFacts B newId initId tl) {fI : Addr} (hC : h.get? C = some (excClassObj nm q C N bs tl true sn sub ab col dd k0 k1 k2 k3 k5 newId))
    (hi : W.Looks (model prog w) h (typeLookup (.ref C) "__init__") (some (.ref fI))) (hb : ∀ self, W.Looks (model prog w) h (bindSpecial (.ref fI) self) (.ref fI, [self]))
    (hq : codeAny (model prog w) (A.under (.builtin "type.__call__" ⟨[.ref C], kw⟩)) (.call (.ref fI) ⟨[.ref (h.objs.size + 1)], kw⟩) (W.InitBack (h.objs.size + 1) R)
      ⟨(h.push (W.kdv_tup [])).push (excO C h.objs.size), g, d, t, os⟩) : codeAny (model prog w) A (.call (.ref C) ⟨[], kw⟩) R ⟨h, g, d, t, os⟩ := by
  have l1 := tc_lookup
  have l2 := tc_bind (.ref C)
  have isT : (⟨h, g, d, t, os⟩ : Shared).TypeIs (.ref C) "type" := ⟨_, hC, rfl⟩
  refine codeAny_of_tree ?_
  show wpAny _ _ (callAny (.ref C) _) _ _ _
  repeat (any_goals (first | assumption | with_reducible refine wpAny_loadPart_at hC ?_ | wp_step))
  refine ⟨rfl, ?_⟩
  refine codeAny_call_builtin_at (Code.quiet_builtin _ (by decide +kernel)) entry_typeCall (kw_tc hC (kw_type F hC hi hb ?_))
  refine codeAny_mono hq fun r s' z => ?_
  rcases r with e | (v | _ | _ | _) <;> exact z
end
end Y

set_option Elab.async false
set_option linter.all false
set_option autoImplicit false
set_option maxRecDepth 100000
set_option maxHeartbeats 4000000
/-! Y3: own exceptions as values: __init__ keeps its promise; one is made. -/
namespace Y
open PySem PySem.Spec PyProof.Rows L2 Z
def spI1 (K : PySem.W.Frag) (newId : String) (tl : List Value) (f : Str) : Sp := fun vs H Q _ => ∃ (a C : Addr) (v : V), vs = [.ref a, v] ∧ Xc K C newId tl ∧ PySem.W.findIn K (.ref C) f = some none ∧ H a = some (exo a C none) ∧
  ∀ dx, H dx = none → dx ≠ a → Q .non (upd (upd H dx (exd dx [(f, v)])) a (exo a C (some dx)))
def spI0 (K : PySem.W.Frag) (newId : String) (tl : List Value) : Sp := fun vs H Q _ => ∃ (a C : Addr), vs = [.ref a] ∧ Xc K C newId tl ∧ H a = some (exo a C none) ∧ Q .non H
section
variable {P : Program} {w : World} {K : PySem.W.Frag} {mg : Str → Option Value} {base : Heap} {B newId initId : String} {tl : List Value} {f prm qual : Str} {st : Stmt} {fI : Addr} {fd : FuncData} {k : Nat} {p1 p2 p3 p4 p5 p6 q1 q2 q3 q4 : Pos}
theorem init1 (b : Bs K B newId initId tl) (F : Fun K "__init__" qual st fI fd) (hm : mg (Str.ofString B) = none) (S : FnScope ["self", prm] ["self", prm] (defScope st)) (hg : (defScope st).names.lookup (Str.ofString B) = some .globalImplicit) (h1 : (prm == ("__debug__" : Str)) = false) (h2 : (prm == ("__classdict__" : Str)) = false)
    (hb : defBody st = [.Expr (.Call (.Attribute (.Name (Str.ofString B) p1) "__init__" p2) [.Name "self" p3, .Name prm p4] [] p5) p6, .Assign [.Attribute (.Name "self" q1) f q2] (.Name prm q3) q4])
    (hc : ∀ env : Env, ∃ pl : Sem Bool, eval (.Call (.Attribute (.Name (Str.ofString B) p1) "__init__" p2) [.Name "self" p3, .Name prm p4] [] p5) env = (do
      let ov ← eval (.Name (Str.ofString B) p1) env
      standAt p2.atName
      let (f, first) ← holding [ov] (getMethod ov "__init__" pl)
      callWith p5 f first (backTo p5 (starEach [.Name "self" p3, .Name prm p4] env)) (backToKw p5 (keywordEach [] env)))) : FnOk P w K mg base CX0 (k + 1) fI fd ["self", prm] (spI1 K newId tl f) := by
  refine F.ok S (fun vs H Q E ⟨a, C, v, e, _⟩ => by rw [e]; rfl) fun cdv A outer s H vs Q E hr ⟨a, C, v, e, T, nof, ea, q⟩ => ?_
  subst e
  rw [hb]
  have vis : ∀ {x : Str}, x ∈ (["self", prm] : List Str) → Vis (cxOf CX0 P w K mg base ["self", prm] qual (defScope st) fI cdv A outer s H E).nox.env.scope x := fun {x} hx => (S.par x hx).elim .inl fun z => .inr (.inl z)
  have ps : ∀ {pos : Pos}, PE (cxOf CX0 P w K mg base ["self", prm] qual (defScope st) fI cdv A outer s H E).nox (.Name "self" pos) (tVar 0) := fun {pos} => pe_var (i := 0) rfl (vis (.head _)) (by decide) (by decide)
  have pv : ∀ {pos : Pos}, PE (cxOf CX0 P w K mg base ["self", prm] qual (defScope st) fI cdv A outer s H E).nox (.Name prm pos) (tVar 1) := fun {pos} => pe_var (i := 1) rfl (vis (.tail _ (.head _))) h1 h2
  obtain ⟨pl, hc⟩ := hc (cxOf CX0 P w K mg base ["self", prm] qual (defScope st) fI cdv A outer s H E).nox.env
  refine ⟨_, pss_cons (ps_expr (pe_base b hg hm (pa_cons ps (pa_cons pv pa_nil rfl) rfl) hc rfl rfl) rfl) (pss_one (ps_first (f := f) b ps pv rfl)), ?_⟩
  exact ⟨.ref a, rfl, v, rfl, a, C, [v], rfl, by simp, T, ea, v, rfl, .ref a, rfl, a, C, rfl, T, nof, ea, q⟩
theorem init0 (b : Bs K B newId initId tl) (F : Fun K "__init__" qual st fI fd) (hm : mg (Str.ofString B) = none) (S : FnScope ["self"] ["self"] (defScope st)) (hg : (defScope st).names.lookup (Str.ofString B) = some .globalImplicit)
    (hb : defBody st = [.Expr (.Call (.Attribute (.Name (Str.ofString B) p1) "__init__" p2) [.Name "self" p3] [] p5) p6])
    (hc : ∀ env : Env, ∃ pl : Sem Bool, eval (.Call (.Attribute (.Name (Str.ofString B) p1) "__init__" p2) [.Name "self" p3] [] p5) env = (do
      let ov ← eval (.Name (Str.ofString B) p1) env
      standAt p2.atName
      let (f, first) ← holding [ov] (getMethod ov "__init__" pl)
      callWith p5 f first (backTo p5 (starEach [.Name "self" p3] env)) (backToKw p5 (keywordEach [] env)))) : FnOk P w K mg base CX0 (k + 1) fI fd ["self"] (spI0 K newId tl) := by
  refine F.ok S (fun vs H Q E ⟨a, C, e, _⟩ => by rw [e]; rfl) fun cdv A outer s H vs Q E hr ⟨a, C, e, T, ea, q⟩ => ?_
  subst e
  rw [hb]
  have vis : ∀ {x : Str}, x ∈ (["self"] : List Str) → Vis (cxOf CX0 P w K mg base ["self"] qual (defScope st) fI cdv A outer s H E).nox.env.scope x := fun {x} hx => (S.par x hx).elim .inl fun z => .inr (.inl z)
  have ps : ∀ {pos : Pos}, PE (cxOf CX0 P w K mg base ["self"] qual (defScope st) fI cdv A outer s H E).nox (.Name "self" pos) (tVar 0) := fun {pos} => pe_var (i := 0) rfl (vis (.head _)) (by decide) (by decide)
  obtain ⟨pl, hc⟩ := hc (cxOf CX0 P w K mg base ["self"] qual (defScope st) fI cdv A outer s H E).nox.env
  refine ⟨_, pss_one (ps_expr (pe_base b hg hm (pa_cons ps pa_nil rfl) hc rfl rfl) rfl), ?_⟩
  exact ⟨.ref a, rfl, a, C, [], rfl, by simp, T, ea, q⟩
end
/-! ### C(e, ..), kept as a value -/
section
variable {X : Cx} {pins : List (Addr × Obj)} {σ : L2.St} {H : Hp} {s : Shared} {B newId initId : String} {tl : List Value} {C fI : Addr} {fd : FuncData} {ps ks : List Str} {sp : Sp} {k : Nat} {us : List Value} {vs : List V} {Q : VK} {E : XK}
theorem make_ok (b : Bs X.K B newId initId tl) (T : Xc X.K C newId tl) (iC : PySem.W.findIn X.K (.ref C) "__init__" = some (some (.ref fI))) (tI : PySem.W.typeIn X.K (.ref fI) = some (.type "function")) (F : FnOk X.prog X.w X.K X.mg X.base CX0 k fI fd ps sp) (hr : Room (k + 1) X.A)
    (hb : Binds X.K fd ps []) (I : Inv X pins σ H s) (r : Vals vs us) (hl : vs.length ≤ 1000) (h : ∀ a, H a = none → sp (.ref a :: vs) (upd H a (exo a C none)) (fun v H2 => v = .non ∧ Q (.ref a) H2) E0) :
    wpAny (model X.prog X.w) X.A (call (.ref C) us) (EP X pins σ Q) X.xe s := by
  obtain ⟨c1, c2, c3, c4, c5, c6, c7, c8, c9, k0, k1, k2, k3, k5, hC⟩ := T.cls
  obtain ⟨hp, g, dr, tk, os⟩ := s
  have up : hp.objs.size ≤ hp.objs.size + 1 := Nat.le_succ _
  have hq := h (hp.objs.size + 1) (I.hok.fresh up)
  let h2 : Heap := (hp.push (PySem.W.kdv_tup us)).push (PySem.HandSPX.excO C hp.objs.size)
  have kk : ∀ b o, hp.get? b = some o → h2.get? b = some o := fun b o e => Heap.get?_push_of_some _ (Heap.get?_push_of_some _ e)
  have new : h2.get? (hp.objs.size + 1) = some (PySem.HandSPX.excO C hp.objs.size) := by
    show ((hp.push (PySem.W.kdv_tup us)).push (PySem.HandSPX.excO C hp.objs.size)).get? (hp.objs.size + 1) = some (PySem.HandSPX.excO C hp.objs.size)
    heap_get
  have I2 : Inv X pins σ (upd H (hp.objs.size + 1) (exo (hp.objs.size + 1) C none)) ⟨h2, g, dr, tk, os⟩ := I.laid (t' := tk) (h' := h2) kk up (exo_ok new)
  have r2 : Vals (V.ref (hp.objs.size + 1) :: vs) (Value.ref (hp.objs.size + 1) :: us) := .cons rfl r
  have len : (Value.ref (hp.objs.size + 1) :: us ++ []).length = ps.length := by
    rw [List.append_nil, ← F.len _ _ _ _ hq, ← r2.length]
  have few : us.length ≤ sizeLine := by rw [← Paired.length r, sizeLine_eq]; omega
  have bt := hb _ (Value.ref (hp.objs.size + 1) :: us) I2.kIn len
  rw [List.append_nil] at bt
  refine wpAny_call (PySem.HandSPX.call_own b.f (fun _ => rfl) (I.kIn _ _ hC) (PySem.W.looks_findIn I.kIn iC) (fun self => PySem.W.bind_fn I.kIn self tI) few
    (codeAny_mono (F.run _ X.stack _ _ ⟨Value.ref (hp.objs.size + 1) :: us, []⟩ (Value.ref (hp.objs.size + 1) :: us) _ _ E0 (hr.make C us []) (I2.env0.make C us []) bt r2 hq) fun r s' hq' => ?_))
  cases r with
  | error er => exact hq'.elim
  | ok fl =>
    cases fl with
    | ret u =>
      obtain ⟨v, H', I3, rv, ev, q3⟩ := I2.after hq'
      subst ev
      exact ⟨rv, V.ref (hp.objs.size + 1), H', I3, rfl, q3⟩
    | next => exact False.elim hq'
    | brk => exact False.elim hq'
    | cont => exact False.elim hq'
end
section
variable {X : Cx} {pins : List (Addr × Obj)} {σ : L2.St} {H : Hp} {s : Shared} {B newId initId : String} {tl : List Value} {C fI : Addr} {fd : FuncData} {prm : Str} {sp : Sp} {k : Nat} {u : Value} {v : V} {Q : VK}
theorem make_kw (b : Bs X.K B newId initId tl) (T : Xc X.K C newId tl) (iC : PySem.W.findIn X.K (.ref C) "__init__" = some (some (.ref fI))) (tI : PySem.W.typeIn X.K (.ref fI) = some (.type "function")) (F : FnOk X.prog X.w X.K X.mg X.base CX0 k fI fd ["self", prm] sp) (hr : Room (k + 1) X.A)
    (hb : ∀ z : Value, bindArgs fd ⟨[z], [(prm, u)]⟩ = pure [(("self" : Str), z), (prm, u)]) (I : Inv X pins σ H s) (r : RelV v u) (h : ∀ a, H a = none → sp [.ref a, v] (upd H a (exo a C none)) (fun v H2 => v = .non ∧ Q (.ref a) H2) E0) :
    wpAny (model X.prog X.w) X.A (call (.ref C) [] [(prm, u)]) (EP X pins σ Q) X.xe s := by
  obtain ⟨c1, c2, c3, c4, c5, c6, c7, c8, c9, k0, k1, k2, k3, k5, hC⟩ := T.cls
  obtain ⟨hp, g, dr, tk, os⟩ := s
  have up : hp.objs.size ≤ hp.objs.size + 1 := Nat.le_succ _
  have hq := h (hp.objs.size + 1) (I.hok.fresh up)
  let h2 : Heap := (hp.push (PySem.W.kdv_tup [])).push (PySem.HandSPX.excO C hp.objs.size)
  have kk : ∀ b o, hp.get? b = some o → h2.get? b = some o := fun b o e => Heap.get?_push_of_some _ (Heap.get?_push_of_some _ e)
  have new : h2.get? (hp.objs.size + 1) = some (PySem.HandSPX.excO C hp.objs.size) := by
    show ((hp.push (PySem.W.kdv_tup [])).push (PySem.HandSPX.excO C hp.objs.size)).get? (hp.objs.size + 1) = some (PySem.HandSPX.excO C hp.objs.size)
    heap_get
  have I2 : Inv X pins σ (upd H (hp.objs.size + 1) (exo (hp.objs.size + 1) C none)) ⟨h2, g, dr, tk, os⟩ := I.laid (t' := tk) (h' := h2) kk up (exo_ok new)
  have r2 : Vals [V.ref (hp.objs.size + 1), v] [Value.ref (hp.objs.size + 1), u] := .cons rfl (.cons r .nil)
  refine wpAny_call (kw_call b.f (I.kIn _ _ hC) (PySem.W.looks_findIn I.kIn iC) (fun self => PySem.W.bind_fn I.kIn self tI)
    (codeAny_mono (F.run _ X.stack _ _ ⟨[Value.ref (hp.objs.size + 1)], [(prm, u)]⟩ [Value.ref (hp.objs.size + 1), u] _ _ E0 (hr.make C [] [(prm, u)]) (I2.env0.make C [] [(prm, u)]) (.of_eq (hb _)) r2 hq) fun r s' hq' => ?_))
  cases r with
  | error er => exact hq'.elim
  | ok fl =>
    cases fl with
    | ret u =>
      obtain ⟨v, H', I3, rv, ev, q3⟩ := I2.after hq'
      subst ev
      exact ⟨rv, V.ref (hp.objs.size + 1), H', I3, rfl, q3⟩
    | next => exact False.elim hq'
    | brk => exact False.elim hq'
    | cont => exact False.elim hq'
end
/-! ### what is known of a class -/
structure Xn where
  c : Str
  f : Option Str
  prm : Str
  up : List String
def excNames : List String := ["LookupError", "ValueError", "KeyError", "IndexError"]
structure XOk (P : Program) (w : World) (K : PySem.W.Frag) (mg : Str → Option Value) (base : Heap) (all : List Xn) (x : Xn) : Prop where
  ex : ∃ (C fI : Addr) (B newId initId : String) (tl : List Value) (fd : FuncData), Cls K x.c C ∧ mg x.c = some (.ref C) ∧ Bs K B newId initId tl ∧ Xc K C newId tl ∧ PySem.W.findIn K (.ref C) "__init__" = some (some (.ref fI)) ∧ PySem.W.typeIn K (.ref fI) = some (.type "function") ∧
    L2.ExcC K C ∧ (∀ y ∈ all, ∀ D, Cls K y.c D → PySem.W.kitOne K (.ref C) (.ref D) = some (decide (y.c = x.c))) ∧ (∀ b ∈ excNames, PySem.W.kitOne K (.ref C) (.type b) = some (decide (b ∈ x.up))) ∧
    match x.f with
    | none => FnOk P w K mg base CX0 1 fI fd ["self"] (spI0 K newId tl) ∧ Binds K fd ["self"] []
    | some f => PySem.W.findIn K (.ref C) f = some none ∧ FnOk P w K mg base CX0 1 fI fd ["self", x.prm] (spI1 K newId tl f) ∧ Binds K fd ["self", x.prm] [] ∧ ∀ z u : Value, bindArgs fd ⟨[z], [(x.prm, u)]⟩ = pure [(("self" : Str), z), (x.prm, u)]
end Y

set_option Elab.async false
set_option linter.all false
set_option autoImplicit false
set_option maxRecDepth 100000
set_option maxHeartbeats 2000000
/-! Z2: a small language, and what its texts give on plain data. -/
namespace Z
open PySem PySem.Spec PyProof.Rows L2

abbrev Ev := List (Option D)
/-- an exception: its class, its values -/
inductive X where | mk (c : Str) (xs : List D)
inductive R (α : Type) where | ok (a : α) (e : Ev) | ex (x : X) (e : Ev) | no
def R.bind {α β : Type} : R α → (α → Ev → R β) → R β
  | .ok a e, f => f a e
  | .ex x e, _ => .ex x e
  | .no, _ => .no

inductive Bi where
  | len | abs | int | bool | sum | min | max | sorted | list | tuple | all | any | set | sortset
  deriving DecidableEq, Repr
inductive Ty where | non | bool | int | str | list | tuple | dict
  deriving DecidableEq, Repr
inductive Gk where | all | any | sum | tuple
  deriving DecidableEq, Repr

mutual
  inductive E where
    | v (i : Nat)
    | mv (i : Nat)
    | c (d : D)
    | bin (o : Operator) (a b : E)
    | neg (a : E)
    | cmp (o : CmpOp) (a b : E)
    | chn (o o' : CmpOp) (a b c : E)
    | isN (n : Bool) (a : E)
    | and (a b : E) | or (a b : E) | tst (t : Te)
    | ite (t : Te) (a b : E)
    | tup (es : Es) | lst (es : Es)
    | sub (a i : E) | subv (i : Nat) (x : E)
    | slc (a : E) (lo hi : Oe) | rev (a : E)
    | fn (f : Nat) (as : Es)
    | fnk (f : Nat) (ix : List Nat) (as : Es)
    | mk (c : Str) (f : Option Str) (as : Es)
    | fld (a : E) (f : Str) (cs : List Str)
    | isx (a : E) (yes all : List Str)
    | bi (b : Bi) (as : Es)
    | lenv (i : Nat)
    | isi (a : E) (ts : List Ty) (one : Bool)
    | pop (i : Nat) (x : Oe)
    | lc (own : List Nat) (tg : Tg) (it : It) (cs : Tes) (e : E)
    | gen (g : Gk) (own : List Nat) (tg : Tg) (it : It) (cs : Tes) (e : E)
    | sc (own : List Nat) (tg : Tg) (it : It) (cs : Tes) (e : E)
  inductive Es where
    | nil
    | cons (e : E) (r : Es)
    | raw (e : E) (r : Es)
    | bw (i : Nat) (r : Es)
  inductive Te where | val (e : E) | and (a b : Te) | or (a b : Te) | not (a : Te)
  inductive Tes where | nil | cons (t : Te) (r : Tes)
  inductive Oe where | no | e (e : E)
  inductive It where
    | seq (e : E) | var (i : Nat) | rng (as : Es) | enm (e : E) | zip (as : Es)
  inductive Tg where | n (i : Nat) | t (ts : Tgs)
  inductive Tgs where | nil | cons (t : Tg) (r : Tgs)
end
mutual
  inductive S where
    | as (tg : Tg) (e : E)
    | par (is : List Nat) (es : Es)
    | aug (i : Nat) (o : Operator) (e : E)
    | sset (i : Nat) (x e : E)
    | ap (i : Nat) (e : E)
    | ex (e : E)
    | ret (e : E) | retN
    | ite (t : Te) (a b : Ss)
    | fr (tg : Tg) (it : It) (b : Ss)
    | wh (t : Te) (b : Ss)
    | brk | cnt | pass
  inductive Ss where | nil | cons (s : S) (r : Ss)
end

/-! ### data -/
mutual
  def isF : D → Bool
    | .tup xs => isFL xs
    | .lck xs => isFL xs
    | .lst o xs => !o && isFL xs
    | .dic o kvs => !o && isFK kvs
    | .obf _ _ x => isF x
    | _ => true
  def isFL : List D → Bool
    | [] => true
    | x :: r => isF x && isFL r
  def isFK : List (DK × D) → Bool
    | [] => true
    | (_, x) :: r => isF x && isFK r
end
mutual
  theorem isF_frz : ∀ {d : D}, isF d = true → frz d = d
    | .tup xs, h => by rw [frz, isFL_frz (by simpa [isF] using h)]
    | .lck xs, h => by rw [frz, isFL_frz (by simpa [isF] using h)]
    | .lst o xs, h => by
      simp only [isF, Bool.and_eq_true, Bool.not_eq_true'] at h
      rw [frz, isFL_frz h.2, h.1]
    | .dic o kvs, h => by
      simp only [isF, Bool.and_eq_true, Bool.not_eq_true'] at h
      rw [frz, isFK_frz h.2, h.1]
    | .non, _ => rfl
    | .bl _, _ => rfl
    | .int _, _ => rfl
    | .str _, _ => rfl
    | .st _, _ => rfl
    | .ob _, _ => rfl
    | .obf _ _ x, h => by rw [frz, isF_frz (by simpa [isF] using h)]
  theorem isFL_frz : ∀ {d : List D}, isFL d = true → frzL d = d
    | [], _ => rfl
    | x :: r, h => by
      simp only [isFL, Bool.and_eq_true] at h
      rw [frzL, isF_frz h.1, isFL_frz h.2]
  theorem isFK_frz : ∀ {d : List (DK × D)}, isFK d = true → frzK d = d
    | [], _ => rfl
    | (k, x) :: r, h => by
      simp only [isFK, Bool.and_eq_true] at h
      rw [frzK, isF_frz h.1, isFK_frz h.2]
end
mutual
  theorem frz_frz : ∀ d : D, frz (frz d) = frz d
    | .tup xs => by rw [frz, frz, frzL_frzL xs]
    | .lck xs => by rw [frz, frz, frzL_frzL xs]
    | .lst o xs => by rw [frz, frz, frzL_frzL xs]
    | .dic o kvs => by rw [frz, frz, frzK_frzK kvs]
    | .non => rfl
    | .bl _ => rfl
    | .int _ => rfl
    | .str _ => rfl
    | .st _ => rfl
    | .ob _ => rfl
    | .obf _ _ x => by rw [frz, frz, frz_frz x]
  theorem frzL_frzL : ∀ d : List D, frzL (frzL d) = frzL d
    | [] => rfl
    | x :: r => by rw [frzL, frzL, frz_frz x, frzL_frzL r]
  theorem frzK_frzK : ∀ d : List (DK × D), frzK (frzK d) = frzK d
    | [] => rfl
    | (k, x) :: r => by rw [frzK, frzK, frz_frz x, frzK_frzK r]
end
/-- frozen, as it is where nothing is to do -/
def fz (d : D) : D := if isF d = true then d else frz d
theorem fz_eq (d : D) : fz d = frz d := by
  unfold fz
  split
  · rename_i h
    exact (isF_frz h).symm
  · rfl

mutual
  def py : D → Option PyData
    | .non => some .none
    | .bl b => some (.bool b)
    | .int i => some (.int i)
    | .str s => some (.str s)
    | .tup xs => (pyL xs).map .tuple
    | .lst _ xs => (pyL xs).map .list
    | .dic _ _ => none
    | .lck _ => none
    | .st _ => none
    | .ob _ => none
    | .obf _ _ _ => none
  def pyL : List D → Option (List PyData)
    | [] => some []
    | x :: r => match py x, pyL r with
      | some a, some b => some (a :: b)
      | _, _ => none
end
/-- what == tells -/
def eqD (a b : D) : Option Bool := match py a, py b with
  | some x, some y => if SeqAt.shaped x = true ∧ SeqAt.shaped y = true then some (PyData.eqv x y) else none
  | _, _ => none
def inL (d : D) (xs : List D) : Option Bool := match py d, pyL xs with
  | some x, some ys => if SeqAt.shaped x = true ∧ SeqAt.shaped (.list ys) = true then some (ys.any fun z => PyData.eqv z x) else none
  | _, _ => none
def one (c : Nat) : D := .str ⟨#[c]⟩
def items : D → Option (List D)
  | .lck xs => some xs
  | .tup xs => some xs
  | .lst _ xs => some xs
  | .str s => some (s.cps.toList.map one)
  | _ => none
def big : Nat := 1000000
def truth : D → Option Bool
  | .non => some false
  | .bl b => some b
  | .int i => some (i != 0)
  | .str s => if s.length ≤ big then some (s.length != 0) else none
  | .tup xs => some (!xs.isEmpty)
  | .lck xs => some (!xs.isEmpty)
  | .lst _ xs => some (!xs.isEmpty)
  | .dic _ _ => none
  | .st _ => none
  | .ob _ => none
  | .obf _ _ _ => none
def mulOk (i j : Int) : Bool := decide (i.natAbs < 2 ^ 64) || decide (j.natAbs < 2 ^ 64)
def binD : Operator → D → D → Option D
  | .Add, .int i, .int j => some (.int (i + j))
  | .Add, .lst _ a, .lst _ b => if a.length + b.length ≤ big then some (.lst true (a ++ b)) else none
  | .Add, .tup a, .tup b => if a.length + b.length ≤ big then some (.tup (a ++ b)) else none
  | .Add, .str a, .str b => if a.length + b.length ≤ big then some (.str (a ++ b)) else none
  | .Sub, .int i, .int j => some (.int (i - j))
  | .Sub, .st a, .st b => some (.st (a.filter fun k => !b.contains k))
  | .Mult, .int i, .int j => if mulOk i j = true then some (.int (i * j)) else none
  | .Mult, .lst _ a, .int j => if isFL a = true ∧ -big ≤ j ∧ j ≤ big ∧ a.length * j.toNat ≤ big then some (.lst true (List.replicate j.toNat a).flatten) else none
  | .Mult, .tup a, .int j => if !a.isEmpty ∧ 2 ≤ j ∧ j ≤ 1000 ∧ a.length ≤ 1000 then some (.tup (List.replicate j.toNat a).flatten) else none
  | .FloorDiv, .int i, .int j => if 0 < j ∧ j < 1073741824 then some (.int (i / j)) else none
  | .Mod, .int i, .int j => if 0 < j then some (.int (i % j)) else none
  | .Pow, .int i, .int j => if 0 ≤ j ∧ j ≤ 1000 ∧ i.natAbs < 2 ^ 64 then some (.int (i ^ j.toNat)) else none
  | _, _, _ => none
def strLt (a b : Str) : Bool := decide (a.cps.toList < b.cps.toList)
def cmpD : CmpOp → D → D → Option Bool
  | .Eq, a, b => eqD a b
  | .NotEq, a, b => (eqD a b).map (!·)
  | .Lt, .int i, .int j => some (decide (i < j))
  | .Lt, .str i, .str j => some (strLt i j)
  | .LtE, .str i, .str j => some (!strLt j i)
  | .LtE, .int i, .int j => some (decide (i ≤ j))
  | .Gt, .int i, .int j => some (decide (j < i))
  | .GtE, .int i, .int j => some (decide (j ≤ i))
  | .In, d, .tup xs => inL d xs
  | .In, d, .lst _ xs => inL d xs
  | .NotIn, d, .tup xs => (inL d xs).map (!·)
  | .NotIn, d, .lst _ xs => (inL d xs).map (!·)
  | _, _, _ => none
def subD : D → D → Option D
  | .lst _ xs, .int i => atI xs i
  | .tup xs, .int i => atI xs i
  | .lck xs, .int i => atI xs i
  | .str s, .int i => if s.length ≤ big then (atI s.cps.toList i).map one else none
  | _, _ => none
def cut {α : Type} (xs : List α) (lo hi : Option Int) : List α := (xs.drop (HT.sIx xs.length 0 lo)).take (HT.sIx xs.length xs.length hi - HT.sIx xs.length 0 lo)
def slcD : D → Option Int → Option Int → Option D
  | .lst _ xs, lo, hi => some (.lst true (cut xs lo hi))
  | .lck xs, lo, hi => some (.lst true (cut xs lo hi))
  | .tup xs, lo, hi => some (.tup (cut xs lo hi))
  | _, _, _ => none
def sumD : List D → Int → Option Int
  | [], a => some a
  | .int i :: r, a => sumD r (a + i)
  | _ :: _, _ => none
def intsD : List D → Option (List Int)
  | [] => some []
  | .int i :: r => (intsD r).map (i :: ·)
  | _ :: _ => none
def blsD : List D → Option (List Bool)
  | [] => some []
  | .bl i :: r => (blsD r).map (i :: ·)
  | _ :: _ => none
def keyD1 : D → Option Key
  | .int i => some (.inl i)
  | .str s => some (.inr s)
  | _ => none
def keyDL : List D → Option (List Key)
  | [] => some []
  | x :: r => match keyD1 x, keyDL r with
    | some a, some b => some (a :: b)
    | _, _ => none
def keyD : D → Option DK
  | .tup xs => (keyDL xs).map .inr
  | d => (keyD1 d).map .inl
def tyOf : D → Option Ty
  | .non => some .non
  | .bl _ => some .bool
  | .int _ => some .int
  | .str _ => some .str
  | .tup _ => some .tuple
  | .lst _ _ => some .list
  | _ => none
def tyB (s t : Ty) : Bool := s == t || (s == .bool && t == .int)
def tyD (d : D) (t : Ty) : Option Bool := (tyOf d).map fun s => tyB s t
def tyAny (d : D) (ts : List Ty) : Option Bool := (tyOf d).map fun s => ts.any fun t => tyB s t
def biD : Bi → List D → Option D
  | .len, [.lst _ xs] => some (.int xs.length)
  | .len, [.lck xs] => some (.int xs.length)
  | .len, [.tup xs] => some (.int xs.length)
  | .len, [.str s] => if s.length ≤ big then some (.int s.length) else none
  | .abs, [.int i] => some (.int (if i < 0 then -i else i))
  | .int, [.int i] => some (.int i)
  | .int, [.bl b] => some (.int (if b = true then 1 else 0))
  | .all, [.lst _ xs] => (blsD xs).map fun l => .bl (l.all id)
  | .any, [.lst _ xs] => (blsD xs).map fun l => .bl (l.any id)
  | .sum, [.lst _ xs] => (intsD xs).map fun l => .int l.sum
  | .min, [.int i, .int j] => some (.int (if j < i then j else i))
  | .max, [.int i, .int j] => some (.int (if i < j then j else i))
  | .list, [.lst _ xs] => some (.lst true xs)
  | .list, [.lck xs] => some (.lst true xs)
  | .list, [.tup xs] => some (.lst true xs)
  | .tuple, [.lst _ xs] => if isFL xs = true then some (.tup xs) else none
  | .tuple, [.tup xs] => some (.tup xs)

  | _, _ => none

def augD : Operator → D → D → Option D
  | .Add, .int i, .int j => some (.int (i + j))
  | .Sub, .int i, .int j => some (.int (i - j))
  | _, _, _ => none
/-- an own list -/
def isL : D → Bool
  | .lst true _ => true
  | _ => false
/-! ### environments -/
def rd (i : Nat) (e : Ev) : Option D := (e[i]?).join
mutual
  def setT : Tg → D → Ev → Option Ev
    | .n i, d, e => if i < e.length then some (e.set i (some d)) else none
    | .t ts, .tup xs, e => setTs ts xs e
    | .t _, _, _ => none
  def setTs : Tgs → List D → Ev → Option Ev
    | .nil, [], e => some e
    | .cons t r, d :: ds, e => match setT t d e with
      | some e' => setTs r ds e'
      | none => none
    | _, _, _ => none
end
def wipeE (e : Ev) : List Nat → Ev
  | [] => e
  | i :: r => (wipeE e r).set i none
/-- the slots at own as they were -/
def backE (e0 : Ev) : Ev → List Nat → Ev
  | e, [] => e
  | e, i :: r => (backE e0 e r).set i (e0[i]?).join

/-! ### what a text gives -/
inductive Fl where | nx | rt (d : D) | bk | ct
abbrev Tab := Nat → List D → R D
def ofO {α : Type} (o : Option α) (e : Ev) : R α := match o with
  | some a => .ok a e
  | none => .no
def frL (tg : Tg) (body : Ev → R Fl) : List D → Ev → R Fl
  | [], e => .ok .nx e
  | d :: ds, e => match setT tg d e with
    | none => .no
    | some e1 => match body e1 with
      | .ok .nx e2 => frL tg body ds e2
      | .ok .ct e2 => frL tg body ds e2
      | .ok .bk e2 => .ok .nx e2
      | .ok (.rt d) e2 => .ok (.rt d) e2
      | .ex x e2 => .ex x e2
      | .no => .no
def whL (t : Ev → R Bool) (body : Ev → R Fl) : Nat → Ev → R Fl
  | 0, _ => .no
  | n + 1, e => (t e).bind fun b e1 => match b with
    | false => .ok .nx e1
    | true => match body e1 with
      | .ok .nx e2 => whL t body n e2
      | .ok .ct e2 => whL t body n e2
      | .ok .bk e2 => .ok .nx e2
      | .ok (.rt d) e2 => .ok (.rt d) e2
      | .ex x e2 => .ex x e2
      | .no => .no
/-- a comprehension's turns: what was gathered so far -/
def lcL (own : List Nat) (tg : Tg) (cs : Ev → R Bool) (elt : Ev → R D) : List D → List D → Ev → R (List D)
  | [], acc, e => .ok acc e
  | d :: ds, acc, e => match setT tg d (wipeE e own) with
    | none => .no
    | some e1 => match cs e1 with
      | .ok false e2 => lcL own tg cs elt ds acc e2
      | .ok true e2 => match elt e2 with
        | .ok x e3 => lcL own tg cs elt ds (acc ++ [x]) e3
        | _ => .no
      | _ => .no
def args1 : List (Sum D Nat) → Option (List D)
  | [] => some []
  | .inl d :: r => (args1 r).map (d :: ·)
  | .inr _ :: _ => none
/-- the borrowed ones are taken out of their slots -/
def takeB : List (Sum D Nat) → Ev → Option (List D × Ev)
  | [], e => some ([], e)
  | .inl d :: r, e => (takeB r e).map fun p => (d :: p.1, p.2)
  | .inr i :: r, e => match rd i e with
    | some d => (takeB r (e.set i none)).map fun p => (d :: p.1, p.2)
    | none => none
/-- and put back -/
def putB : List (Sum D Nat) → Ev → Ev → Ev
  | .inr i :: r, p :: ps, e => (putB r ps e).set i p
  | .inl _ :: r, _ :: ps, e => putB r ps e
  | _, _, e => e

def rngD : Option (List D) → Option (List D)
  | some [.int n] => if -big < n ∧ n < big then some ((List.range n.toNat).map fun k => .int (Int.ofNat k)) else none
  | some [.int a, .int b] => if -big < a ∧ a < big ∧ -big < b ∧ b < big then some ((List.range (b - a).toNat).map fun k => .int (a + Int.ofNat k)) else none
  | _ => none
def enmD : D → Option (List D)
  | .lst _ xs => some (xs.mapIdx fun k d => .tup [.int (Int.ofNat k), d])
  | .lck xs => some (xs.mapIdx fun k d => .tup [.int (Int.ofNat k), d])
  | _ => none
def zipD : Option (List D) → Option (List D)
  | some [.lst _ a, .lst _ b] => some ((a.zip b).map fun z => .tup [z.1, z.2])
  | some [.tup a, .tup b] => some ((a.zip b).map fun z => .tup [z.1, z.2])
  | _ => none
/-- values by keyword, in the parameters' order -/
def reo {α : Type} (ix : List Nat) (ws : List α) : List α := ix.filterMap fun j => ws[j]?
def giveB : Option (Nat × D) → Ev → Ev
  | none, e => e
  | some (i, d), e => e.set i (some d)
section
variable (T : Tab)
mutual
  def dE : E → Ev → R D
    | .v i, e => match rd i e with
      | some d => if isF d = true then .ok d e else .ok (frz d) (e.set i (some (frz d)))
      | none => .no
    | .mv i, e => match rd i e with
      | some d => .ok d (e.set i none)
      | none => .no
    | .c d, e => .ok d e
    | .bin o a b, e => (dE a e).bind fun x e => (dE b e).bind fun y e => ofO (binD o x y) e
    | .neg a, e => (dE a e).bind fun x e => match x with
      | .int i => .ok (.int (-i)) e
      | _ => .no
    | .cmp o a b, e => (dE a e).bind fun x e => (dE b e).bind fun y e => ofO ((cmpD o (fz x) (fz y)).map .bl) e
    | .chn o o' a b c, e => (dE a e).bind fun x e => (dE b e).bind fun y e => match cmpD o (fz x) (fz y) with
      | some true => (dE c e).bind fun z e => ofO ((cmpD o' (fz y) (fz z)).map .bl) e
      | some false => .ok (.bl false) e
      | none => .no
    | .isN n a, e => (dE a e).bind fun x e => .ok (.bl ((match x with | .non => true | _ => false) != n)) e
    | .and a b, e => (dE a e).bind fun x e => match truth x with
      | some true => dE b e
      | some false => .ok x e
      | none => .no
    | .or a b, e => (dE a e).bind fun x e => match truth x with
      | some false => dE b e
      | some true => .ok x e
      | none => .no
    | .tst t, e => (dT t e).bind fun b e => .ok (.bl b) e
    | .ite t a b, e => (dT t e).bind fun k e => match k with
      | true => dE a e
      | false => dE b e
    | .tup es, e => (dEs es e).bind fun xs e => ofO ((args1 xs).bind fun l => if l.length ≤ big then some (.tup (l.map fz)) else none) e
    | .lst es, e => (dEs es e).bind fun xs e => ofO ((args1 xs).bind fun l => if l.length ≤ big then some (.lst true l) else none) e
    | .sub a i, e => (dE a e).bind fun x e => (dE i e).bind fun y e => ofO (subD (fz x) y) e
    | .subv i x, e => match rd i e with
      | none => .no
      | some _ => (dE x e).bind fun y e => match rd i e with
        | some d => match subD d y with
          | some z => if isF z = true then .ok z e else .no
          | none => .no
        | none => .no
    | .slc a lo hi, e => (dE a e).bind fun x e => (dO lo e).bind fun l e => (dO hi e).bind fun h e => ofO (slcD x l h) e
    | .rev a, e => (dE a e).bind fun x e => match x with
      | .lst _ xs => .ok (.lst true xs.reverse) e
      | .tup xs => .ok (.tup xs.reverse) e
      | _ => .no
    | .fn f as, e => (dEs as e).bind fun xs e => match takeB xs e with
      | none => .no
      | some (ds, e1) => match T f ds with
        | .ok d ps => .ok d (putB xs ps e1)
        | .ex x ps => .ex x (putB xs ps e1)
        | .no => .no
    | .fnk f ix as, e => (dEs as e).bind fun xs e => match args1 xs with
      | some l => match T f (reo ix (l.map fz)) with
        | .ok d _ => .ok d e
        | .ex x _ => .ex x e
        | .no => .no
      | none => .no
    | .mk c f as, e => (dEs as e).bind fun xs e => match f, args1 xs with
      | none, some [] => .ok (.ob c) e
      | some f, some [d] => .ok (.obf c f (fz d)) e
      | _, _ => .no
    | .fld a f cs, e => (dE a e).bind fun x e => match fz x with
      | .obf c g d => if f = g ∧ c ∈ cs then .ok d e else .no
      | _ => .no
    | .isx a yes all, e => (dE a e).bind fun x e => match x with
      | .ob c => if c ∈ all then .ok (.bl (decide (c ∈ yes))) e else .no
      | .obf c _ _ => if c ∈ all then .ok (.bl (decide (c ∈ yes))) e else .no
      | _ => .no
    | .bi b as, e => (dEs as e).bind fun xs e => ofO ((args1 xs).bind (biD b)) e
    | .lenv i, e => match rd i e with
      | some d => ofO (biD .len [d]) e
      | none => .no
    | .isi a ts _, e => (dE a e).bind fun x e => ofO ((tyAny x ts).map .bl) e
    | .pop i x, e => match (rd i e).map isL with
     | some true => (dO x e).bind fun j e => match rd i e with
      | some (.lst true xs) => match (if xs.length ≤ big then ixN xs.length (j.getD (-1)) else none) with
        | some k => match xs[k]? with
          | some d => .ok d (e.set i (some (.lst true (xs.eraseIdx k))))
          | none => .no
        | none => .no
      | _ => .no
     | _ => .no
    | .lc own tg it cs x, e => (dIc it e).bind fun p e => if p.1.length ≤ big then match lcL own tg (dTs cs) (dE x) p.1 [] e with
      | .ok xs e1 => .ok (.lst true xs) (giveB p.2 (backE e e1 own))
      | _ => .no
      else .no
    | .gen _ _ _ _ _ _, _ => .no
    | .sc _ _ _ _ _, _ => .no
  def dT : Te → Ev → R Bool
    | .and a b, e => (dT a e).bind fun k e => match k with
      | true => dT b e
      | false => .ok false e
    | .or a b, e => (dT a e).bind fun k e => match k with
      | true => .ok true e
      | false => dT b e
    | .not a, e => (dT a e).bind fun k e => .ok (!k) e
    | .val x, e => (dE x e).bind fun d e => ofO (truth d) e
  def dEs : Es → Ev → R (List (Sum D Nat))
    | .nil, e => .ok [] e
    | .cons x r, e => (dE x e).bind fun d e => (dEs r e).bind fun ds e => .ok (.inl (fz d) :: ds) e
    | .raw x r, e => (dE x e).bind fun d e => (dEs r e).bind fun ds e => .ok (.inl d :: ds) e
    | .bw i r, e => match rd i e with
      | some _ => (dEs r e).bind fun ds e => .ok (.inr i :: ds) e
      | none => .no
  def dTs : Tes → Ev → R Bool
    | .nil, e => .ok true e
    | .cons x r, e => (dT x e).bind fun k e => match k with
      | true => dTs r e
      | false => .ok false e
  def dO : Oe → Ev → R (Option Int)
    | .no, e => .ok none e
    | .e x, e => (dE x e).bind fun d e => match d with
      | .int i => .ok (some i) e
      | _ => .no
  def dIc : It → Ev → R (List D × Option (Nat × D))
    | .var i, e => match rd i e with
      | some (.lst true xs) => if isFL xs = true then .ok (xs, some (i, .lst true xs)) (e.set i none) else .no
      | some d => if isF d = true then ofO ((items d).map fun l => (l, none)) e else .no
      | none => .no
    | .seq x, e => (dE x e).bind fun d e => ofO ((items (fz d)).map fun l => (l, none)) e
    | .rng as, e => (dEs as e).bind fun xs e => ofO ((rngD (args1 xs)).map fun l => (l, none)) e
    | .enm x, e => (dE x e).bind fun d e => ofO ((enmD (fz d)).map fun l => (l, none)) e
    | .zip as, e => (dEs as e).bind fun xs e => ofO ((zipD (args1 xs)).map fun l => (l, none)) e
  def dI : It → Ev → R (List D)
    | .seq x, e => (dE x e).bind fun d e => ofO (items (fz d)) e
    | .var i, e => match rd i e with
      | some d => if isF d = true then ofO (items d) e else .no
      | none => .no
    | .rng as, e => (dEs as e).bind fun xs e => ofO (rngD (args1 xs)) e
    | .enm x, e => (dE x e).bind fun d e => ofO (enmD (fz d)) e
    | .zip as, e => (dEs as e).bind fun xs e => ofO (zipD (args1 xs)) e
end
mutual
  def dS : S → Ev → R Fl
    | .as tg x, e => (dE T x e).bind fun d e => match setT tg d e with
      | some e1 => .ok .nx e1
      | none => .no
    | .par is xs, e => (dEs T xs e).bind fun ds e => match args1 ds with
      | some l => if l.length = is.length then .ok .nx ((is.zip l).foldl (fun e p => e.set p.1 (some p.2)) e) else .no
      | none => .no
    | .aug i o x, e => match rd i e with
      | some d => (dE T x e).bind fun y e => match augD o d y with
        | some z => .ok .nx (e.set i (some z))
        | none => .no
      | none => .no
    | .sset i x y, e => (dE T y e).bind fun d e => match rd i e with
      | none => .no
      | some _ => (dE T x e).bind fun k e => match rd i e, k with
        | some (.lst true xs), .int j => match ixN xs.length j with
          | some n => .ok .nx (e.set i (some (.lst true (xs.set n d))))
          | none => .no
        | _, _ => .no
    | .ap i x, e => match (rd i e).map isL with
     | some true => (dE T x e).bind fun d e => match rd i e with
      | some (.lst true xs) => if xs.length < big then .ok .nx (e.set i (some (.lst true (xs ++ [d])))) else .no
      | _ => .no
     | _ => .no
    | .ex x, e => (dE T x e).bind fun _ e => .ok .nx e
    | .ret x, e => (dE T x e).bind fun d e => .ok (.rt d) e
    | .retN, e => .ok (.rt .non) e
    | .ite t a b, e => (dT T t e).bind fun k e => match k with
      | true => dSs a e
      | false => dSs b e
    | .fr tg it b, e => (dI T it e).bind fun ds e => frL tg (dSs b) ds e
    | .wh t b, e => whL (dT T t) (dSs b) big e
    | .brk, e => .ok .bk e
    | .cnt, e => .ok .ct e
    | .pass, e => .ok .nx e
  def dSs : Ss → Ev → R Fl
    | .nil, e => .ok .nx e
    | .cons s r, e => match dS s e with
      | .ok .nx e1 => dSs r e1
      | o => o
end
end
/-- a def: how many parameters, how many slots, its body -/
structure Fd where
  ps : Nat
  ns : Nat
  pr : List Nat
  body : Ss
/-- the parameters that a caller gets back -/
def maskE (f : Fd) (e : Ev) : Ev := (List.range f.ps).map fun i => if f.pr.contains i = true then rd i e else none
def runF (T : Tab) (f : Fd) (as : List D) : R D :=
  if as.length = f.ps then
    match dSs T f.body (as.map some ++ List.replicate (f.ns - f.ps) none) with
    | .ok (.rt d) e => .ok d (maskE f e)
    | .ok .nx e => .ok .non (maskE f e)
    | .ex x e => .ex x (maskE f e)
    | _ => .no
  else .no
def tab (fs : List Fd) : Nat → Tab
  | 0, _, _ => .no
  | n + 1, f, as => match fs[f]? with
    | some d => runF (tab fs n) d as
    | none => .no
end Z

set_option Elab.async false
set_option linter.all false
set_option autoImplicit false
set_option maxRecDepth 100000
set_option maxHeartbeats 2000000
/-! Z3: slots as roots; what a text's reading is; names, operators. -/
namespace Z
open PySem PySem.Spec PyProof.Rows L2

/-- the slots' roots -/
inductive Sl : L2.St → Ev → Rt → Prop where
  | nil : Sl [] [] []
  | skip {o σ e rs} : Sl σ e rs → Sl (o :: σ) (none :: e) rs
  | has {v d σ e rs} : Sl σ e rs → Sl (some v :: σ) (some d :: e) ((v, d) :: rs)
theorem Sl.len : ∀ {σ : L2.St} {e : Ev} {rs : Rt}, Sl σ e rs → σ.length = e.length
  | _, _, _, .nil => rfl
  | _, _, _, .skip h => congrArg (· + 1) h.len
  | _, _, _, .has h => congrArg (· + 1) h.len
theorem rd_zero {d : Option D} {e : Ev} : rd 0 (d :: e) = d := rfl
theorem rd_succ {d : Option D} {e : Ev} {i : Nat} : rd (i + 1) (d :: e) = rd i e := rfl
theorem Sl.get : ∀ {σ : L2.St} {e : Ev} {rs : Rt} {i : Nat} {d : D}, Sl σ e rs → rd i e = some d → ∃ v r0, σ[i]? = some (some v) ∧ rs.Perm ((v, d) :: r0) ∧
    (∀ d', ∃ r1, Sl σ (e.set i (some d')) r1 ∧ r1.Perm ((v, d') :: r0)) ∧ ∃ r2, Sl σ (e.set i none) r2 ∧ r2.Perm r0
  | _, _, _, i, _, .nil, h => by simp [rd] at h
  | _, _, _, 0, _, .skip _, h => by cases h
  | _, _, _, 0, d, .has (v := v) (rs := rs) s, h => by
    cases h
    exact ⟨v, rs, rfl, .refl _, fun d' => ⟨_, .has s, .refl _⟩, _, .skip s, .refl _⟩
  | _, _, _, i + 1, d, .skip s, h => by
    obtain ⟨v, r0, h1, h2, h3, r2, h4, h5⟩ := s.get (i := i) (show rd i _ = some d from h)
    refine ⟨v, r0, h1, h2, fun d' => ?_, r2, .skip h4, h5⟩
    obtain ⟨r1, s1, p1⟩ := h3 d'
    exact ⟨r1, .skip s1, p1⟩
  | _, _, _, i + 1, d, .has (v := w) (d := u) s, h => by
    obtain ⟨v, r0, h1, h2, h3, r2, h4, h5⟩ := s.get (i := i) (show rd i _ = some d from h)
    refine ⟨v, (w, u) :: r0, h1, (h2.cons _).trans (.swap _ _ _), fun d' => ?_, _, .has h4, h5.cons _⟩
    obtain ⟨r1, s1, p1⟩ := h3 d'
    exact ⟨_, .has s1, (p1.cons _).trans (.swap _ _ _)⟩
/-- a name is stored -/
theorem Sl.put : ∀ {σ : L2.St} {e : Ev} {rs : Rt} {i : Nat}, Sl σ e rs → i < e.length → ∀ (v : V) (d : D), ∃ dr r0 r1, rs.Perm (dr ++ r0) ∧ Sl (σ.set i (some v)) (e.set i (some d)) r1 ∧ r1.Perm ((v, d) :: r0)
  | _, _, _, _, .nil, h, _, _ => absurd h (Nat.not_lt_zero _)
  | _, _, _, 0, .skip (rs := rs) s, _, v, d => ⟨[], rs, _, .refl _, .has s, .refl _⟩
  | _, _, _, 0, .has (v := w) (d := u) (rs := rs) s, _, v, d => ⟨[(w, u)], rs, _, .refl _, .has s, .refl _⟩
  | _, _, _, i + 1, .skip s, h, v, d => by
    obtain ⟨dr, r0, r1, h1, h2, h3⟩ := s.put (Nat.lt_of_succ_lt_succ h) v d
    exact ⟨dr, r0, r1, h1, .skip h2, h3⟩
  | _, _, _, i + 1, .has (v := w) (d := u) s, h, v, d => by
    obtain ⟨dr, r0, r1, h1, h2, h3⟩ := s.put (Nat.lt_of_succ_lt_succ h) v d
    exact ⟨dr, (w, u) :: r0, _, (h1.cons _).trans List.perm_middle.symm, .has h2, (h3.cons _).trans (.swap _ _ _)⟩
/-- slots forgotten -/
theorem Sl.drop1 : ∀ {σ : L2.St} {e : Ev} {rs : Rt}, Sl σ e rs → ∀ i, ∃ dr r0, Sl (σ.set i none) (e.set i none) r0 ∧ rs.Perm (dr ++ r0)
  | _, _, _, .nil, _ => ⟨[], [], .nil, .refl _⟩
  | _, _, _, .skip s, 0 => ⟨[], _, .skip s, .refl _⟩
  | _, _, _, .has s, 0 => ⟨[_], _, .skip s, .refl _⟩
  | _, _, _, .skip s, i + 1 => by
    obtain ⟨dr, r0, h1, h2⟩ := s.drop1 i
    exact ⟨dr, r0, .skip h1, h2⟩
  | _, _, _, .has (v := w) (d := u) s, i + 1 => by
    obtain ⟨dr, r0, h1, h2⟩ := s.drop1 i
    exact ⟨dr, _, .has h1, (h2.cons _).trans List.perm_middle.symm⟩

section
variable {K : PySem.W.Frag} {H H' : Hp} {rs r1 r2 Fr : Rt}
theorem Rel.cut {a : Rt} (h : Rel K H (a ++ rs)) : Rel K H rs := by
  induction a with
  | nil => exact h
  | cons x a ih => exact ih h.tail
theorem Rel.left (h : Rel K H (r1 ++ rs)) (p : r1.Perm r2) : Rel K H (r2 ++ rs) := h.perm (p.append_right _)
/-- a root that is plain -/
theorem Rel.head {v d} (h : Rel K H ((v, d) :: rs)) : ∃ Hk f, Sub Hk H ∧ Ow K H Hk v d f := by
  obtain ⟨Hk, fp, s, o, _⟩ := h
  cases o with
  | cons h _ => exact ⟨Hk, _, s, h⟩
theorem Ow.int' {Hk v i f} (h : Ow K H Hk v (.int i) f) : v = .int i := by
  cases h with
  | sh h => cases h; rfl
theorem Ow.bl' {Hk v i f} (h : Ow K H Hk v (.bl i) f) : v = .bl i := by
  cases h with
  | sh h => cases h; rfl
theorem Ow.str' {Hk v i f} (h : Ow K H Hk v (.str i) f) : v = .str i := by
  cases h with
  | sh h => cases h; rfl
theorem Ow.non' {Hk v f} (h : Ow K H Hk v .non f) : v = .non := by
  cases h with
  | sh h => cases h; rfl
theorem Rel.int {v i} (h : Rel K H ((v, .int i) :: rs)) : v = .int i := by
  obtain ⟨_, _, _, o⟩ := h.head
  exact o.int'
theorem Rel.bl {v i} (h : Rel K H ((v, .bl i) :: rs)) : v = .bl i := by
  obtain ⟨_, _, _, o⟩ := h.head
  exact o.bl'
theorem Rel.str {v i} (h : Rel K H ((v, .str i) :: rs)) : v = .str i := by
  obtain ⟨_, _, _, o⟩ := h.head
  exact o.str'
theorem Rel.non {v} (h : Rel K H ((v, .non) :: rs)) : v = .non := by
  obtain ⟨_, _, _, o⟩ := h.head
  exact o.non'
theorem Rel.addSh {v d} (h : Rel K H rs) (q : ∀ Hk, Sh K Hk v d) : Rel K H ((v, d) :: rs) := by
  obtain ⟨Hk, fp, s, o, n, k⟩ := h
  exact ⟨Hk, _, s, .cons (.sh (q Hk)) o, n, k⟩
theorem Rel.addI {i} (h : Rel K H rs) : Rel K H ((.int i, .int i) :: rs) := h.addSh fun _ => .int i
theorem Rel.addB {i} (h : Rel K H rs) : Rel K H ((.bl i, .bl i) :: rs) := h.addSh fun _ => .bl i
theorem Rel.addS {i} (h : Rel K H rs) : Rel K H ((.str i, .str i) :: rs) := h.addSh fun _ => .str i
theorem Rel.addN (h : Rel K H rs) : Rel K H ((.non, .non) :: rs) := h.addSh fun _ => .non
theorem OwL.of_sh {Hk : Hp} : ∀ {vs ds}, ShL K Hk vs ds → OwL K H Hk vs ds []
  | _, _, .nil => .nil
  | _, _, .cons h r => .cons (f := []) (g := []) (.sh h) (OwL.of_sh r)
theorem OwK.of_sh {Hk : Hp} : ∀ {vs ds}, ShK K Hk vs ds → OwK K H Hk vs ds []
  | _, _, .nil => .nil
  | _, _, .cons h r => .cons (f := []) (g := []) (.sh h) (OwK.of_sh r)
theorem OwL.len {Hk : Hp} : ∀ {vs ds f}, OwL K H Hk vs ds f → vs.length = ds.length
  | _, _, _, .nil => rfl
  | _, _, _, .cons _ r => congrArg (· + 1) r.len
/-- a list: what stands at its address -/
theorem Ow.lst' {Hk v o ds f} (s : Sub Hk H) (h : Ow K H Hk v (.lst o ds) f) : ∃ a vs g, v = .ref a ∧ H a = some (.lst vs) ∧ OwL K H Hk vs ds g ∧ (f = g ∨ f = a :: g) := by
  cases h with
  | sh h =>
    cases h with
    | lst h r => exact ⟨_, _, [], rfl, s _ _ h, .of_sh r, .inl rfl⟩
  | lst h r => exact ⟨_, _, _, rfl, h, r, .inr rfl⟩
theorem Ow.tup' {Hk v ds f} (s : Sub Hk H) (h : Ow K H Hk v (.tup ds) f) : ∃ a vs, v = .ref a ∧ SqT K H a vs ∧ ShL K Hk vs ds ∧ f = [] := by
  cases h with
  | sh h =>
    cases h with
    | tup h r => exact ⟨_, _, rfl, s.tup h, r, rfl⟩
/-- a row of roots -/
theorem OwL.app {Hk : Hp} : ∀ {vs ds f rs g}, OwL K H Hk vs ds f → OwR K H Hk rs g → OwR K H Hk (vs.zip ds ++ rs) (f ++ g)
  | _, _, _, _, _, .nil, r => r
  | _, _, _, _, _, .cons (f := f) (g := g) h q, r => by
    rw [List.append_assoc]
    exact .cons h (q.app r)
theorem OwR.split {Hk : Hp} : ∀ {vs ds rs f}, vs.length = ds.length → OwR K H Hk (vs.zip ds ++ rs) f → ∃ f1 f2, f = f1 ++ f2 ∧ OwL K H Hk vs ds f1 ∧ OwR K H Hk rs f2
  | [], [], _, _, _, h => ⟨[], _, rfl, .nil, h⟩
  | v :: vs, d :: ds, _, _, l, .cons h r => by
    obtain ⟨f1, f2, e, h1, h2⟩ := OwR.split (vs := vs) (ds := ds) (Nat.succ.inj l) r
    exact ⟨_, f2, by rw [e, List.append_assoc], .cons h h1, h2⟩
/-- a list's items as roots -/
theorem Rel.open {v o ds} (h : Rel K H ((v, .lst o ds) :: rs)) : ∃ a vs, v = .ref a ∧ H a = some (.lst vs) ∧ vs.length = ds.length ∧ Rel K H (vs.zip ds ++ rs) := by
  obtain ⟨Hk, fp, s, q, n, k⟩ := h
  cases q with
  | cons h r =>
    obtain ⟨a, vs, g, e, h1, h2, h3⟩ := h.lst' s
    refine ⟨a, vs, e, h1, h2.len, Hk, g ++ _, s, h2.app r, ?_, fun b z => k b ?_⟩
    · rcases h3 with rfl | rfl
      · exact n
      · exact (List.nodup_cons.mp n).2
    · rcases h3 with rfl | rfl
      · exact z
      · exact List.mem_cons_of_mem _ z
theorem Rel.openT {v ds} (h : Rel K H ((v, .tup ds) :: rs)) : ∃ a vs, v = .ref a ∧ SqT K H a vs ∧ vs.length = ds.length ∧ Rel K H (vs.zip ds ++ rs) := by
  obtain ⟨Hk, fp, s, q, n, k⟩ := h
  cases q with
  | cons h r =>
    obtain ⟨a, vs, e, h1, h2, rfl⟩ := h.tup' s
    have o := OwL.of_sh (H := H) h2
    exact ⟨a, vs, e, h1, o.len, Hk, [] ++ _, s, o.app r, n, k⟩
/-- items laid into a new list -/
theorem Rel.newL {vs ds p} (h : Rel K H (vs.zip ds ++ rs)) (l : vs.length = ds.length) (n : H p = none) : Rel K (upd H p (.lst vs)) ((.ref p, .lst true ds) :: rs) := by
  obtain ⟨Hk, fp, s, q, nd, k⟩ := h
  obtain ⟨f1, f2, rfl, h1, h2⟩ := q.split l
  have np : ∀ a ∈ f1 ++ f2, a ≠ p := fun a z => by
    obtain ⟨o, e⟩ := q.there a z
    exact ne_of_none e n
  refine ⟨Hk, p :: (f1 ++ f2), fun a o e => ?_, .cons (f := p :: f1) (.lst upd_same (h1.sub Sub.rfl fun a z => upd_ne (np a (List.mem_append_left _ z)))) (h2.sub Sub.rfl fun a z => upd_ne (np a (List.mem_append_right _ z))),
    List.nodup_cons.mpr ⟨fun z => np p z rfl, nd⟩, fun a z => ?_⟩
  · rw [upd_ne (ne_of_none (s a o e) n)]
    exact s a o e
  · rcases List.mem_cons.mp z with rfl | z
    · cases e : Hk a with
      | none => rfl
      | some o =>
        rw [s a o e] at n
        cases n
    · exact k a z
theorem OwL.frzd {Hk : Hp} : ∀ {vs ds f}, OwL K H Hk vs ds f → frzL ds = ds → f = [] ∧ ShL K Hk vs ds
  | _, _, _, .nil, _ => ⟨rfl, .nil⟩
  | _, _, _, .cons h r, e => by
    rw [frzL] at e
    injection e with e1 e2
    obtain ⟨rfl, h1⟩ := h.shared e1
    obtain ⟨rfl, h2⟩ := r.frzd e2
    exact ⟨rfl, .cons h1 h2⟩
/-- frozen items laid into a new tuple -/
theorem Rel.newT {vs ds p} (h : Rel K H (vs.zip ds ++ rs)) (l : vs.length = ds.length) (e : frzL ds = ds) (n : H p = none) : Rel K (upd H p (.tup vs)) ((.ref p, .tup ds) :: rs) := by
  obtain ⟨Hk, fp, s, q, nd, k⟩ := h
  obtain ⟨f1, f2, rfl, h1, h2⟩ := q.split l
  obtain ⟨rfl, h3⟩ := h1.frzd e
  have np : ∀ a ∈ f2, a ≠ p := fun a z => by
    obtain ⟨o, e⟩ := h2.there a z
    exact ne_of_none e n
  have kp : ∀ a o, Hk a = some o → a ≠ p := fun a o e => ne_of_none (s a o e) n
  have up : Sub Hk (upd Hk p (.tup vs)) := fun a o e => (upd_ne (kp a o e)).trans e
  refine ⟨upd Hk p (.tup vs), f2, fun a o e => ?_, .cons (f := []) (.sh (.tup (.inl (.inl upd_same)) (h3.sub up))) (h2.sub up fun a z => upd_ne (np a z)), nd, fun a z => (upd_ne (np a z)).trans (k a z)⟩
  by_cases ea : a = p
  · subst ea
    rw [upd_same] at e ⊢
    exact e
  · rw [upd_ne ea] at e ⊢
    exact s a o e
end
end Z

set_option Elab.async false
set_option linter.all false
set_option autoImplicit false
set_option maxRecDepth 100000
set_option maxHeartbeats 2000000
/-! Z4: readings; names, constants, operators. -/
namespace Z
open PySem PySem.Spec PyProof.Rows L2

section
variable (K : PySem.W.Frag) (T : Tab)
def Wp (σ : L2.St) (Fr : Rt) (r : R D) (Q : VK) : Prop := match r with
  | .ok d e => ∀ v H rs, Sl σ e rs → Rel K H ((v, d) :: (rs ++ Fr)) → Q v H
  | _ => False
def WpB (σ : L2.St) (Fr : Rt) (r : R Bool) (Q : Bool → Hp → Prop) : Prop := match r with
  | .ok b e => ∀ H rs, Sl σ e rs → Rel K H (rs ++ Fr) → Q b H
  | _ => False
/-- what an expression's, a test's text gives -/
def tE (x : E) : TE := fun σ H Q => ∃ e rs Fr, Sl σ e rs ∧ Rel K H (rs ++ Fr) ∧ Wp K σ Fr (dE T x e) Q
def tT (x : Te) : TT := fun σ H Q => ∃ e rs Fr, Sl σ e rs ∧ Rel K H (rs ++ Fr) ∧ WpB K σ Fr (dT T x e) Q
end
theorem imp {X : Cx} {e : Expr} {t t' : TE} (h : PE X e t) (i : ∀ σ H Q, t' σ H Q → t σ H Q) : PE X e t' :=
  ⟨fun a b c d q j w => h.run a b c d q j (i _ _ _ w)⟩
theorem impT {X : Cx} {e : Expr} {t t' : TT} (h : PT X e t) (i : ∀ σ H Q, t' σ H Q → t σ H Q) : PT X e t' :=
  ⟨fun a b c d q j w => h.run a b c d q j (i _ _ _ w)⟩
theorem impW {X : Cx} {e : Expr} {t t' : TT} (h : PW X e t) (i : ∀ σ H Q, t' σ H Q → t σ H Q) : PW X e t' :=
  ⟨fun g a b c d q j w => h.run g a b c d q j (i _ _ _ w)⟩

section
variable {K : PySem.W.Frag} {T : Tab} {H : Hp} {σ : L2.St} {e : Ev} {rs a b Fr : Rt} {x : V × D} {Q : VK}
theorem Rel.mid (h : Rel K H (x :: (a ++ b))) : Rel K H (a ++ x :: b) := h.perm List.perm_middle.symm
theorem Rel.dim (h : Rel K H (a ++ x :: b)) : Rel K H (x :: (a ++ b)) := h.perm List.perm_middle
/-- what stands for no end -/
structure Wd {β : Type} (W : R β → Prop) : Prop where
  no : ¬ W .no
  ex : ∀ x e, ¬ W (.ex x e)
theorem wd_p {Q : VK} : Wd fun r => Wp K σ Fr r Q := ⟨id, fun _ _ => id⟩
theorem wd_b {Q : Bool → Hp → Prop} : Wd fun r => WpB K σ Fr r Q := ⟨id, fun _ _ => id⟩
theorem use {β : Type} {W : R β → Prop} {f : D → Ev → R β} {y : E} (n : Wd W) (w : W ((dE T y e).bind f)) (s : Sl σ e rs) (h : Rel K H (rs ++ Fr))
    (k : ∀ d e' v H' rs', dE T y e = .ok d e' → W (f d e') → Sl σ e' rs' → Rel K H' ((v, d) :: (rs' ++ Fr)) → Q v H') : tE K T y σ H Q := by
  refine ⟨e, rs, Fr, s, h, ?_⟩
  cases hr : dE T y e with
  | ok d e' =>
    rw [hr] at w
    intro v H' rs' s' h'
    exact k d e' v H' rs' hr w s' h'
  | ex x e' =>
    rw [hr] at w
    exact (n.ex _ _ w).elim
  | no =>
    rw [hr] at w
    exact (n.no w).elim
theorem useT {β : Type} {W : R β → Prop} {f : Bool → Ev → R β} {y : Te} {Q : Bool → Hp → Prop} (n : Wd W) (w : W ((dT T y e).bind f)) (s : Sl σ e rs) (h : Rel K H (rs ++ Fr))
    (k : ∀ d e' H' rs', dT T y e = .ok d e' → W (f d e') → Sl σ e' rs' → Rel K H' (rs' ++ Fr) → Q d H') : tT K T y σ H Q := by
  refine ⟨e, rs, Fr, s, h, ?_⟩
  cases hr : dT T y e with
  | ok d e' =>
    rw [hr] at w
    intro H' rs' s' h'
    exact k d e' H' rs' hr w s' h'
  | ex x e' =>
    rw [hr] at w
    exact (n.ex _ _ w).elim
  | no =>
    rw [hr] at w
    exact (n.no w).elim
theorem ofO_ok {r : Option D} (w : Wp K σ Fr (ofO r e) Q) : ∃ d, r = some d ∧ Wp K σ Fr (.ok d e) Q := by
  cases r with
  | none => exact w.elim
  | some d => exact ⟨d, rfl, w⟩
end

section
variable {X : Cx} {T : Tab} {pos : Pos}
theorem z_var {i : Nat} {x : Str} (hN : X.N[i]? = some x) (hv : Vis X.env.scope x) (h1 : (x == ("__debug__" : Str)) = false) (h2 : (x == ("__classdict__" : Str)) = false) :
    PE X (.Name x pos) (tE X.K T (.v i)) := by
  refine imp (pe_var hN hv h1 h2) fun σ H Q ⟨e, rs, Fr, s, h, w⟩ => ?_
  rw [dE] at w
  cases hr : rd i e with
  | none =>
    rw [hr] at w
    exact w.elim
  | some d =>
    rw [hr] at w
    dsimp only at w
    obtain ⟨v, r0, g, p, p1, _⟩ := s.get hr
    refine ⟨v, g, ?_⟩
    by_cases hf : isF d = true
    · rw [if_pos hf] at w
      refine w v H rs s ?_
      exact ((h.left p).dup (isF_frz hf)).perm (.cons _ (p.symm.append_right Fr))
    · rw [if_neg hf] at w
      obtain ⟨r1, s1, q1⟩ := p1 (frz d)
      refine w v H r1 s1 ?_
      exact ((h.left p).froz.dup (frz_frz d)).perm (.cons _ (q1.symm.append_right Fr))
theorem z_mv {i : Nat} {x : Str} (hN : X.N[i]? = some x) (hv : Vis X.env.scope x) (h1 : (x == ("__debug__" : Str)) = false) (h2 : (x == ("__classdict__" : Str)) = false) :
    PE X (.Name x pos) (tE X.K T (.mv i)) := by
  refine imp (pe_var hN hv h1 h2) fun σ H Q ⟨e, rs, Fr, s, h, w⟩ => ?_
  rw [dE] at w
  cases hr : rd i e with
  | none =>
    rw [hr] at w
    exact w.elim
  | some d =>
    rw [hr] at w
    obtain ⟨v, r0, g, p, _, r2, s2, q2⟩ := s.get hr
    exact ⟨v, g, w v H r2 s2 ((h.left p).perm (.cons _ (q2.symm.append_right Fr)))⟩
/-- a constant's text and value -/
def cnst : Const → Option D
  | .none => some .non
  | .bool b => some (.bl b)
  | .int i => some (.int i)
  | .str s => some (.str s)
  | _ => none
theorem z_c {c : Const} {k : Nat} {d : D} (hc : cnst c = some d) : PE X (.Constant c k pos) (tE X.K T (.c d)) := by
  cases c with
  | none =>
    cases hc
    exact imp pe_non fun σ H Q ⟨e, rs, Fr, s, h, w⟩ => w _ _ rs s h.addN
  | bool b =>
    cases hc
    exact imp pe_bl fun σ H Q ⟨e, rs, Fr, s, h, w⟩ => w _ _ rs s h.addB
  | int i =>
    cases hc
    exact imp pe_int fun σ H Q ⟨e, rs, Fr, s, h, w⟩ => w _ _ rs s h.addI
  | str b =>
    cases hc
    exact imp pe_str fun σ H Q ⟨e, rs, Fr, s, h, w⟩ => w _ _ rs s h.addS
  | _ => cases hc

/-! ### operators -/
def rBin (K : PySem.W.Frag) (o : Operator) : R2 := fun x y H Q => ∃ a b rs d, Rel K H ((x, a) :: (y, b) :: rs) ∧ binD o a b = some d ∧ ∀ v H', Rel K H' ((v, d) :: rs) → Q v H'
theorem sz {n : Nat} (h : n ≤ big) : n ≤ sizeLine := Nat.le_trans h (by decide)
theorem z_op {o : Operator} (f : OpR X (binaryOp o) (rBin X.K o)) {ea eb : Expr} {a b : E} (ha : PE X ea (tE X.K T a)) (hb : PE X eb (tE X.K T b)) : PE X (.BinOp ea o eb pos) (tE X.K T (.bin o a b)) := by
  refine imp (pe_op f ha hb) fun σ H Q ⟨e, rs, Fr, s, h, w⟩ => ?_
  rw [dE] at w
  refine use wd_p w s h fun da e1 v H1 rs1 _ w1 s1 h1 => ?_
  refine use wd_p w1 s1 h1.mid fun db e2 u H2 rs2 _ w2 s2 h2 => ?_
  obtain ⟨d, hd, w3⟩ := ofO_ok w2
  exact ⟨da, db, rs2 ++ Fr, d, (h2.perm (.cons _ List.perm_middle)).perm (.swap _ _ _), hd, fun v H' h' => w3 v H' rs2 s2 h'⟩
end
section
variable {X : Cx} {K : PySem.W.Frag}
theorem two {H : Hp} {v u : V} {a b : D} {rs : Rt} (h : Rel K H ((v, a) :: (u, b) :: rs)) : Rel K H ((u, b) :: (v, a) :: rs) := h.perm (.swap _ _ _)
theorem ii {H : Hp} {v u : V} {i j : Int} {rs : Rt} (h : Rel K H ((v, .int i) :: (u, .int j) :: rs)) : v = .int i ∧ u = .int j ∧ Rel K H rs := ⟨h.int, h.tail.int, h.tail.tail⟩

theorem shL_of {H : Hp} {Hk : Hp} {vs ds f} (h : OwL K H Hk vs ds f) (e : frzL ds = ds) : ShL K Hk vs ds := (h.frzd e).2
theorem frzL_app (a b : List D) : frzL (a ++ b) = frzL a ++ frzL b := by
  induction a with
  | nil => rfl
  | cons x r ih =>
    rw [List.cons_append, frzL, ih]
    rfl
theorem Rel.shL {H : Hp} {v ds rs} (h : Rel K H ((v, .tup ds) :: rs)) : frzL ds = ds := by
  obtain ⟨Hk, fp, s, q, _⟩ := h
  cases q with
  | cons h _ =>
    cases h with
    | sh h =>
      cases h with
      | tup _ r => exact r.frz
theorem o_add : OpR X (binaryOp .Add) (rBin X.K .Add) := by
  intro pins s σ H x y v u Q I rx ry ⟨a, b, rs, d, h, e, q⟩
  cases a <;> cases b <;> simp only [binD, reduceCtorEq] at e
  case int.int i j =>
    cases e
    obtain ⟨rfl, rfl, h2⟩ := ii h
    exact op_add pins s σ H _ _ v u Q I rx ry ⟨i, j, rfl, rfl, q _ _ h2.addI⟩
  case str.str i j =>
    split at e
    · rename_i hz
      cases e
      obtain rfl := h.str
      obtain rfl := h.tail.str
      exact op_add_str pins s σ H _ _ v u Q I rx ry ⟨i, j, rfl, rfl, sz hz, q _ _ h.tail.tail.addS⟩
    · cases e
  case lst.lst o xs o' ys =>
    split at e
    · rename_i hz
      cases e
      obtain ⟨pa, vs, rfl, h1, l1, h2⟩ := h.open
      obtain ⟨pb, us, rfl, h3, l2, h4⟩ := (h2.dim).open
      refine op_cat pins s σ H _ _ v u Q I rx ry ⟨pa, pb, vs, us, rfl, rfl, h1, h3, by rw [l1, l2]; exact sz hz, fun p hp => q _ _ (Rel.newL ?_ (by simp [l1, l2]) hp)⟩
      rw [List.zip_append l1, List.append_assoc]
      refine h4.perm ?_
      rw [← List.append_assoc, ← List.append_assoc]
      exact List.Perm.append_right _ List.perm_append_comm
    · cases e
  case tup.tup xs ys =>
    split at e
    · rename_i hz
      cases e
      have f1 := h.shL
      have f2 := h.tail.shL
      obtain ⟨pa, vs, rfl, h1, l1, h2⟩ := h.openT
      obtain ⟨pb, us, rfl, h3, l2, h4⟩ := (h2.dim).openT
      refine op_catA pins s σ H _ _ v u Q I rx ry ⟨pa, pb, vs, us, rfl, rfl, h1, h3, by rw [l1, l2]; exact sz hz, fun z => q _ _ ?_, fun _ z => q _ _ ?_, fun _ _ p hp => q _ _ (Rel.newT ?_ (by simp [l1, l2]) ?_ hp)⟩
      · subst z
        cases xs with
        | nil => exact h.tail
        | cons _ _ => cases l1
      · subst z
        cases ys with
        | nil =>
          rw [List.append_nil]
          exact (two h).tail
        | cons _ _ => cases l2
      · rw [List.zip_append l1, List.append_assoc]
        refine h4.perm ?_
        rw [← List.append_assoc, ← List.append_assoc]
        exact List.Perm.append_right _ List.perm_append_comm
      · rw [frzL_app, f1, f2]
    · cases e
theorem o_sub : OpR X (binaryOp .Sub) (rBin X.K .Sub) := by
  intro pins s σ H x y v u Q I rx ry ⟨a, b, rs, d, h, e, q⟩
  cases a <;> cases b <;> simp only [binD, reduceCtorEq] at e
  case int.int i j =>
    cases e
    obtain ⟨rfl, rfl, h2⟩ := ii h
    exact op_sub pins s σ H _ _ v u Q I rx ry ⟨i, j, rfl, rfl, q _ _ h2.addI⟩
  case st.st =>
    obtain ⟨Hk, fp, _, w, _⟩ := h
    cases w with
    | cons w _ => cases w with
      | sh w => cases w
theorem o_fdiv : OpR X (binaryOp .FloorDiv) (rBin X.K .FloorDiv) := by
  intro pins s σ H x y v u Q I rx ry ⟨a, b, rs, d, h, e, q⟩
  cases a <;> cases b <;> simp only [binD, reduceCtorEq] at e
  case int.int i j =>
    split at e
    · rename_i hz
      cases e
      obtain ⟨rfl, rfl, h2⟩ := ii h
      exact op_fdiv pins s σ H _ _ v u Q I rx ry ⟨i, j, rfl, rfl, hz, q _ _ h2.addI⟩
    · cases e
theorem o_mod : OpR X (binaryOp .Mod) (rBin X.K .Mod) := by
  intro pins s σ H x y v u Q I rx ry ⟨a, b, rs, d, h, e, q⟩
  cases a <;> cases b <;> simp only [binD, reduceCtorEq] at e
  case int.int i j =>
    split at e
    · rename_i hz
      cases e
      obtain ⟨rfl, rfl, h2⟩ := ii h
      exact op_mod pins s σ H _ _ v u Q I rx ry ⟨i, j, rfl, rfl, hz, q _ _ h2.addI⟩
    · cases e
theorem o_pow : OpR X (binaryOp .Pow) (rBin X.K .Pow) := by
  intro pins s σ H x y v u Q I rx ry ⟨a, b, rs, d, h, e, q⟩
  cases a <;> cases b <;> simp only [binD, reduceCtorEq] at e
  case int.int i j =>
    split at e
    · rename_i hz
      cases e
      obtain ⟨rfl, rfl, h2⟩ := ii h
      exact op_pow pins s σ H _ _ v u Q I rx ry ⟨i, j, rfl, rfl, ⟨hz.1, by omega, hz.2.2⟩, q _ _ h2.addI⟩
    · cases e
theorem mul_ok {i j : Int} (h : mulOk i j = true) : CMul i j := by
  unfold mulOk at h
  simp only [Bool.or_eq_true, decide_eq_true_eq] at h
  unfold CMul
  omega
theorem frzL_rep (a : List D) (e : frzL a = a) (n : Nat) : frzL (List.replicate n a).flatten = (List.replicate n a).flatten := by
  induction n with
  | zero => rfl
  | succ n ih => rw [List.replicate_succ, List.flatten_cons, frzL_app, e, ih]
theorem Rel.fold {H : Hp} {vs ds rs} (l : vs.length = ds.length) (f : frzL ds = ds) (h : Rel K H (vs.zip ds ++ rs)) : ∀ n, Rel K H ((List.replicate n vs).flatten.zip (List.replicate n ds).flatten ++ rs)
  | 0 => by simpa using h.cut
  | n + 1 => by
    have ih := Rel.fold l f h n
    rw [List.replicate_succ, List.replicate_succ, List.flatten_cons, List.flatten_cons, List.zip_append l, List.append_assoc]
    obtain ⟨Hk, fp, s, q, nd, k⟩ := h
    obtain ⟨f1, f2, rfl, h1, h2⟩ := q.split l
    obtain ⟨rfl, h3⟩ := h1.frzd f
    have rep : ∀ n, ShL K Hk (List.replicate n vs).flatten (List.replicate n ds).flatten := by
      intro n
      induction n with
      | zero => exact .nil
      | succ n ih =>
        rw [List.replicate_succ, List.replicate_succ, List.flatten_cons, List.flatten_cons]
        have app : ∀ {a b c d}, ShL K Hk a b → ShL K Hk c d → ShL K Hk (a ++ c) (b ++ d) := by
          intro a b c d p q
          induction a generalizing b with
          | nil => cases p; exact q
          | cons x r ih =>
            cases p with
            | cons p1 p2 => exact .cons p1 (ih p2)
        exact app h3 ih
    refine ⟨Hk, [] ++ ([] ++ f2), s, (OwL.of_sh h3).app ((OwL.of_sh (rep n)).app h2), nd, k⟩
theorem o_mul : OpR X (binaryOp .Mult) (rBin X.K .Mult) := by
  intro pins s σ H x y v u Q I rx ry ⟨a, b, rs, d, h, e, q⟩
  cases a <;> cases b <;> simp only [binD, reduceCtorEq] at e
  case int.int i j =>
    split at e
    · rename_i hz
      cases e
      obtain ⟨rfl, rfl, h2⟩ := ii h
      exact op_mul pins s σ H _ _ v u Q I rx ry ⟨i, j, rfl, rfl, mul_ok hz, q _ _ h2.addI⟩
    · cases e
  case lst.int o xs j =>
    split at e
    · rename_i hz
      cases e
      obtain ⟨f, z1, z2, z3⟩ := hz
      have f := isFL_frz f
      obtain rfl := h.tail.int
      obtain ⟨pa, vs, rfl, h1, l1, h2⟩ := h.open
      have hb : (big : Int) = 1000000 := rfl
      refine op_rep pins s σ H _ _ v u Q I rx ry ⟨pa, j, vs, rfl, rfl, h1, by omega, by omega, by rw [l1]; exact sz z3, fun p hp => q _ _ (Rel.newL ?_ ?_ hp)⟩
      · exact ((Rel.fold l1 f h2 j.toNat).perm List.perm_middle).tail
      · simp [List.length_flatten, l1]
    · cases e
  case tup.int xs j =>
    split at e
    · rename_i hz
      cases e
      obtain ⟨z1, z2, z3, z4⟩ := hz
      have f := h.shL
      obtain rfl := h.tail.int
      obtain ⟨pa, vs, rfl, h1, l1, h2⟩ := h.openT
      refine op_repT pins s σ H _ _ v u Q I rx ry ⟨pa, j, vs, rfl, rfl, h1, ?_, z2, z3, by omega, fun p hp => q _ _ (Rel.newT ?_ ?_ (frzL_rep _ f _) hp)⟩
      · rintro rfl
        cases xs with
        | nil => simp at z1
        | cons _ _ => cases l1
      · exact ((Rel.fold l1 f h2 j.toNat).perm List.perm_middle).tail
      · simp [List.length_flatten, l1]
    · cases e
theorem o_any (o : Operator) : (∀ a b, binD o a b = none) ∨ OpR X (binaryOp o) (rBin X.K o) := by
  cases o
  case Add => exact .inr o_add
  case Sub => exact .inr o_sub
  case Mult => exact .inr o_mul
  case FloorDiv => exact .inr o_fdiv
  case Mod => exact .inr o_mod
  case Pow => exact .inr o_pow
  all_goals exact .inl fun a b => by cases a <;> cases b <;> rfl
theorem o_all (o : Operator) (hx : OpR X (binaryOp o) (fun _ _ _ _ => False)) : OpR X (binaryOp o) (rBin X.K o) := by
  rcases o_any (X := X) o with h | h
  · intro pins s σ H x y v u Q I rx ry ⟨a, b, rs, d, _, e, _⟩
    rw [h] at e
    cases e
  · exact h
end
end Z

set_option Elab.async false
set_option linter.all false
set_option autoImplicit false
set_option maxRecDepth 100000
set_option maxHeartbeats 2000000
/-! Z5: comparisons, truth, tests. -/
namespace Z
open PySem PySem.Spec PyProof.Rows L2

section
variable {K : PySem.W.Frag} {H Hk : Hp}
mutual
  theorem Sh.dp (s : Sub Hk H) : ∀ {v d p}, Sh K Hk v d → py d = some p → Dp K H v p
    | _, _, _, .non, e => by cases e; exact .non
    | _, _, _, .bl b, e => by cases e; exact .bl b
    | _, _, _, .int i, e => by cases e; exact .int i
    | _, _, _, .str x, e => by cases e; exact .str x
    | _, _, _, .tup (ds := ds) h r, e => by
      rw [py] at e
      cases hp : pyL ds with
      | none => rw [hp] at e; cases e
      | some ps =>
        rw [hp] at e
        cases e
        exact .tup (s.tup h) (r.dp s hp)
    | _, _, _, .lck h r, e => by cases e
    | _, _, _, .lst (ds := ds) h r, e => by
      rw [py] at e
      cases hp : pyL ds with
      | none => rw [hp] at e; cases e
      | some ps =>
        rw [hp] at e
        cases e
        exact .lst (.inl (.inl (s _ _ h))) (r.dp s hp)
    | _, _, _, .dic h _ r, e => by cases e
    | _, _, _, .ob _ _, e => by cases e
    | _, _, _, .obf _ _ _ _, e => by cases e
  theorem ShL.dp (s : Sub Hk H) : ∀ {v d p}, ShL K Hk v d → pyL d = some p → DpAll K H v p
    | _, _, _, .nil, e => by cases e; exact .nil
    | _, _, _, .cons (d := d) (ds := ds) h r, e => by
      rw [pyL] at e
      cases hp : py d with
      | none => rw [hp] at e; cases e
      | some a =>
        cases hq : pyL ds with
        | none => rw [hp, hq] at e; cases e
        | some b =>
          rw [hp, hq] at e
          cases e
          exact .cons (h.dp s hp) (r.dp s hq)
end
theorem Rel.dp {rs : Rt} {v d p} (h : Rel K H ((v, d) :: rs)) (f : frz d = d) (e : py d = some p) : Dp K H v p := by
  obtain ⟨Hk, fp, s, q, _⟩ := h
  cases q with
  | cons h _ => exact (h.shared f).2.dp s e
theorem Rel.tru {rs : Rt} {v d k} (h : Rel K H ((v, d) :: rs)) (e : truth d = some k) : TruV K v H k := by
  have em : ∀ {vs : List V} {ds : List D}, vs.length = ds.length → (!ds.isEmpty) = !vs.isEmpty := by
    intro vs ds l
    cases vs <;> cases ds <;> first | rfl | cases l
  cases d with
  | non => cases e; obtain rfl := h.non; rfl
  | bl b => cases e; obtain rfl := h.bl; rfl
  | int i => cases e; obtain rfl := h.int; rfl
  | str x =>
    rw [truth] at e
    split at e
    · rename_i hz
      cases e
      obtain rfl := h.str
      refine ⟨sz hz, ?_⟩
      cases hx : x.length <;> rfl
    · cases e
  | tup xs =>
    cases e
    obtain ⟨p, vs, rfl, h1, l, _⟩ := h.openT
    exact .inr (.inl ⟨vs, h1, em l⟩)
  | lck xs =>
    cases e
    obtain ⟨Hk, fp, s, q, _⟩ := h
    cases q with
    | cons h _ =>
      cases h with
      | sh h =>
        cases h with
        | lck h r => exact .inl ⟨_, s.lst h, em (OwL.of_sh (H := H) r).len⟩
  | lst o xs =>
    cases e
    obtain ⟨p, vs, rfl, h1, l, _⟩ := h.open
    exact .inl ⟨vs, .inl (.inl h1), em l⟩
  | dic o kvs => cases e
  | st ks => cases e
  | ob c => cases e
  | obf c f x => cases e
end

section
variable {X : Cx} {T : Tab} {pos : Pos}
/-- a comparison's rule on plain data -/
def rCmp (K : PySem.W.Frag) (o : CmpOp) : R2 := fun x y H Q => ∃ a b rs k, Rel K H ((x, a) :: (y, b) :: rs) ∧ frz a = a ∧ frz b = b ∧ cmpD o a b = some k ∧ Q (.bl k) H
theorem eqD_ok {a b : D} {k : Bool} (h : eqD a b = some k) : ∃ p q, py a = some p ∧ py b = some q ∧ SeqAt.shaped p = true ∧ SeqAt.shaped q = true ∧ PyData.eqv p q = k := by
  unfold eqD at h
  cases ha : py a with
  | none => rw [ha] at h; cases h
  | some p =>
    cases hb : py b with
    | none => rw [ha, hb] at h; cases h
    | some q =>
      rw [ha, hb] at h
      dsimp only at h
      split at h
      · rename_i z
        exact ⟨p, q, rfl, rfl, z.1, z.2, Option.some.inj h⟩
      · cases h
theorem inL_ok {a : D} {b : List D} {k : Bool} (h : inL a b = some k) : ∃ p q, py a = some p ∧ pyL b = some q ∧ SeqAt.shaped p = true ∧ SeqAt.shaped (.list q) = true ∧ (q.any fun z => PyData.eqv z p) = k := by
  unfold inL at h
  cases ha : py a with
  | none => rw [ha] at h; cases h
  | some p =>
    cases hb : pyL b with
    | none => rw [ha, hb] at h; cases h
    | some q =>
      rw [ha, hb] at h
      dsimp only at h
      split at h
      · rename_i z
        exact ⟨p, q, rfl, rfl, z.1, z.2, Option.some.inj h⟩
      · cases h
theorem c_eq (hu : X.A.units + 65 < cLine) : OpR X (compareOp .Eq) (rCmp X.K .Eq) := by
  intro pins s σ H x y v u Q I rx ry ⟨a, b, rs, k, h, fa, fb, e, q⟩
  have e : eqD a b = some k := by cases a <;> exact e
  obtain ⟨p1, p2, e1, e2, s1, s2, rfl⟩ := eqD_ok e
  exact op_eqD (by omega) pins s σ H _ _ v u Q I rx ry ⟨p1, p2, h.dp fa e1, h.tail.dp fb e2, s1, s2, q⟩
theorem c_ne (hu : X.A.units + 65 < cLine) : OpR X (compareOp .NotEq) (rCmp X.K .NotEq) := by
  intro pins s σ H x y v u Q I rx ry ⟨a, b, rs, k, h, fa, fb, e, q⟩
  have e : (eqD a b).map (!·) = some k := by cases a <;> exact e
  cases ez : eqD a b with
  | none => rw [ez] at e; cases e
  | some k' =>
    rw [ez] at e
    cases e
    obtain ⟨p1, p2, e1, e2, s1, s2, rfl⟩ := eqD_ok ez
    exact op_neD (by omega) pins s σ H _ _ v u Q I rx ry ⟨p1, p2, h.dp fa e1, h.tail.dp fb e2, s1, s2, q⟩
theorem Rel.dpL {K : PySem.W.Frag} {H : Hp} {rs : Rt} {v ds p o} (h : Rel K H ((v, .lst o ds) :: rs)) (f : frz (.lst o ds) = .lst o ds) (e : pyL ds = some p) : Dp K H v (.list p) :=
  h.dp f (by rw [py, e]; rfl)
theorem Rel.dpT {K : PySem.W.Frag} {H : Hp} {rs : Rt} {v ds p} (h : Rel K H ((v, .tup ds) :: rs)) (f : frz (.tup ds) = .tup ds) (e : pyL ds = some p) : Dp K H v (.tuple p) :=
  h.dp f (by rw [py, e]; rfl)
/-- among the items of a list, of a tuple -/
theorem in_go (hu : X.A.units + 65 < cLine) {neg : Bool} {pins : List (Addr × Obj)} {s : Shared} {σ : L2.St} {H : Hp} {x y : V} {v u : Value} {Q : VK} (I : Inv X pins σ H s) (rx : RelV x v) (ry : RelV y u) {p : PyData} {q : List PyData}
    (h1 : Dp X.K H x p) (h2 : Dp X.K H y (.list q) ∨ Dp X.K H y (.tuple q)) (s1 : SeqAt.shaped p = true) (s2 : SeqAt.shaped (.list q) = true)
    (w : Q (.bl (if neg = true then !(q.any fun z => PyData.eqv z p) else (q.any fun z => PyData.eqv z p))) H) : wpAny (model X.prog X.w) X.A (compareOp (if neg = true then .NotIn else .In) v u) (EP X pins σ Q) X.xe s := by
  obtain ⟨as, r1⟩ := Dp.reads I p x v h1 rx
  rcases h2 with h2 | h2
  all_goals
    obtain ⟨bs, r2⟩ := Dp.reads I _ y u h2 ry
    cases neg with
    | true => first
      | exact SeqAt.notIn_list_reads r2 r1 (SeqAt.canLay_of_shaped s2) (SeqAt.canLay_of_shaped s1) (room_in_shaped s1 hu) ⟨.bl _, H, I, rfl, w⟩
      | exact SeqAt.notIn_tuple_reads r2 r1 (SeqAt.canLay_of_shaped s2) (SeqAt.canLay_of_shaped s1) (room_in_shaped s1 hu) ⟨.bl _, H, I, rfl, w⟩
    | false => first
      | exact SeqAt.in_list_reads r2 r1 (SeqAt.canLay_of_shaped s2) (SeqAt.canLay_of_shaped s1) (room_in_shaped s1 hu) ⟨.bl _, H, I, rfl, w⟩
      | exact SeqAt.in_tuple_reads r2 r1 (SeqAt.canLay_of_shaped s2) (SeqAt.canLay_of_shaped s1) (room_in_shaped s1 hu) ⟨.bl _, H, I, rfl, w⟩
theorem c_in (hu : X.A.units + 65 < cLine) : OpR X (compareOp .In) (rCmp X.K .In) := by
  intro pins s σ H x y v u Q I rx ry ⟨a, b, rs, k, h, fa, fb, e, q⟩
  cases b with
  | tup ds =>
    have e : inL a ds = some k := by cases a <;> exact e
    obtain ⟨p1, p2, e1, e2, s1, s2, rfl⟩ := inL_ok e
    exact in_go (neg := false) hu I rx ry (h.dp fa e1) (.inr (h.tail.dpT fb e2)) s1 s2 q
  | lst o ds =>
    have e : inL a ds = some k := by cases a <;> exact e
    obtain ⟨p1, p2, e1, e2, s1, s2, rfl⟩ := inL_ok e
    exact in_go (neg := false) hu I rx ry (h.dp fa e1) (.inl (h.tail.dpL fb e2)) s1 s2 q
  | _ => cases a <;> cases e
theorem c_notin (hu : X.A.units + 65 < cLine) : OpR X (compareOp .NotIn) (rCmp X.K .NotIn) := by
  intro pins s σ H x y v u Q I rx ry ⟨a, b, rs, k, h, fa, fb, e, q⟩
  cases b with
  | tup ds =>
    have e : (inL a ds).map (!·) = some k := by cases a <;> exact e
    cases ez : inL a ds with
    | none => rw [ez] at e; cases e
    | some k' =>
      rw [ez] at e
      cases e
      obtain ⟨p1, p2, e1, e2, s1, s2, rfl⟩ := inL_ok ez
      exact in_go (neg := true) hu I rx ry (h.dp fa e1) (.inr (h.tail.dpT fb e2)) s1 s2 q
  | lst o ds =>
    have e : (inL a ds).map (!·) = some k := by cases a <;> exact e
    cases ez : inL a ds with
    | none => rw [ez] at e; cases e
    | some k' =>
      rw [ez] at e
      cases e
      obtain ⟨p1, p2, e1, e2, s1, s2, rfl⟩ := inL_ok ez
      exact in_go (neg := true) hu I rx ry (h.dp fa e1) (.inl (h.tail.dpL fb e2)) s1 s2 q
  | _ => cases a <;> cases e
theorem c_lt : OpR X (compareOp .Lt) (rCmp X.K .Lt) := by
  intro pins s σ H x y v u Q I rx ry ⟨a, b, rs, k, h, fa, fb, e, q⟩
  cases a <;> cases b <;> first | cases e | skip
  case int.int.refl i j =>
    obtain ⟨rfl, rfl, _⟩ := ii h
    exact op_lt pins s σ H _ _ v u Q I rx ry ⟨i, j, rfl, rfl, q⟩
  case str.str.refl i j =>
    obtain rfl := h.str
    obtain rfl := h.tail.str
    exact op_lt_str pins s σ H _ _ v u Q I rx ry ⟨i, j, rfl, rfl, q⟩
theorem c_le : OpR X (compareOp .LtE) (rCmp X.K .LtE) := by
  intro pins s σ H x y v u Q I rx ry ⟨a, b, rs, k, h, fa, fb, e, q⟩
  cases a <;> cases b <;> first | cases e | skip
  case int.int.refl i j =>
    obtain ⟨rfl, rfl, _⟩ := ii h
    exact op_le pins s σ H _ _ v u Q I rx ry ⟨i, j, rfl, rfl, q⟩
  case str.str.refl i j =>
    obtain rfl := h.str
    obtain rfl := h.tail.str
    obtain ⟨t, rfl⟩ := rx
    obtain ⟨t', rfl⟩ := ry
    exact PySem.P.le_str ⟨.bl _, H, I, rfl, q⟩
theorem c_gt : OpR X (compareOp .Gt) (rCmp X.K .Gt) := by
  intro pins s σ H x y v u Q I rx ry ⟨a, b, rs, k, h, fa, fb, e, q⟩
  cases a <;> cases b <;> first | cases e | skip
  case int.int.refl i j =>
    obtain ⟨rfl, rfl, _⟩ := ii h
    exact op_gt pins s σ H _ _ v u Q I rx ry ⟨i, j, rfl, rfl, q⟩
theorem c_ge : OpR X (compareOp .GtE) (rCmp X.K .GtE) := by
  intro pins s σ H x y v u Q I rx ry ⟨a, b, rs, k, h, fa, fb, e, q⟩
  cases a <;> cases b <;> first | cases e | skip
  case int.int.refl i j =>
    obtain ⟨rfl, rfl, _⟩ := ii h
    exact op_ge pins s σ H _ _ v u Q I rx ry ⟨i, j, rfl, rfl, q⟩
/-- the comparisons that are carried -/
def okCmp : CmpOp → Bool
  | .Eq | .NotEq | .Lt | .LtE | .Gt | .GtE | .In | .NotIn => true
  | _ => false
theorem c_all (hu : X.A.units + 65 < cLine) {o : CmpOp} (h : okCmp o = true) : OpR X (compareOp o) (rCmp X.K o) := by
  cases o <;> first | exact c_eq hu | exact c_ne hu | exact c_lt | exact c_le | exact c_gt | exact c_ge | exact c_in hu | exact c_notin hu | cases h

theorem froz2 {K : PySem.W.Frag} {H : Hp} {v u : V} {a b : D} {rs : Rt} (h : Rel K H ((v, a) :: (u, b) :: rs)) : Rel K H ((v, fz a) :: (u, fz b) :: rs) := by
  rw [fz_eq, fz_eq]
  exact (two (two h.froz).froz)
theorem fz_frz (a : D) : frz (fz a) = fz a := by
  rw [fz_eq, frz_frz]
variable {ea eb ec : Expr} {a b c : E}
theorem map_ok {α β : Type} {o : Option α} {f : α → β} {d : β} (h : o.map f = some d) : ∃ k, o = some k ∧ f k = d := by
  cases o with
  | none => cases h
  | some k => exact ⟨k, rfl, Option.some.inj h⟩
theorem cmp_i {o : CmpOp} {σ : L2.St} {H : Hp} {Q : VK} (g : tE X.K T (.cmp o a b) σ H Q) : tOp (rCmp X.K o) (tE X.K T a) (tE X.K T b) σ H Q := by
  obtain ⟨e, rs, Fr, s, h, w⟩ := g
  rw [dE] at w
  refine use wd_p w s h fun da e1 v H1 rs1 _ w1 s1 h1 => ?_
  refine use wd_p w1 s1 h1.mid fun db e2 u H2 rs2 _ w2 s2 h2 => ?_
  obtain ⟨d, hd, w3⟩ := ofO_ok w2
  obtain ⟨k, hk, rfl⟩ := map_ok hd
  refine ⟨fz da, fz db, rs2 ++ Fr, k, froz2 ((h2.perm (.cons _ List.perm_middle)).perm (.swap _ _ _)), fz_frz _, fz_frz _, hk, ?_⟩
  exact w3 _ H2 rs2 s2 ((h2.perm (.cons _ List.perm_middle)).tail.tail.addB)
theorem z_cmp (hu : X.A.units + 65 < cLine) {o : CmpOp} (ho : okCmp o = true) (hm : behindInMarks o eb = false) (ha : PE X ea (tE X.K T a)) (hb : PE X eb (tE X.K T b)) : PE X (.Compare ea [o] [eb] pos) (tE X.K T (.cmp o a b)) := by
  exact imp (pe_cmpR (c_all hu ho) ha hb hm) fun σ H Q => cmp_i
theorem chn_i {o o' : CmpOp} {σ : L2.St} {H : Hp} {Q : VK} (g : tE X.K T (.chn o o' a b c) σ H Q) : tChain (rCmp X.K o) (rCmp X.K o') (tE X.K T a) (tE X.K T b) (tE X.K T c) σ H Q := by
  obtain ⟨e, rs, Fr, s, h, w⟩ := g
  rw [dE] at w
  refine use wd_p w s h fun da e1 v H1 rs1 _ w1 s1 h1 => ?_
  refine use wd_p w1 s1 h1.mid fun db e2 u H2 rs2 _ w2 s2 h2 => ?_
  have r2 := froz2 ((h2.perm (.cons _ List.perm_middle)).perm (.swap _ _ _))
  cases hk : cmpD o (fz da) (fz db) with
  | none =>
    rw [hk] at w2
    exact w2.elim
  | some k =>
    rw [hk] at w2
    refine ⟨fz da, fz db, rs2 ++ Fr, k, r2, fz_frz _, fz_frz _, hk, k, rfl, ?_⟩
    cases k with
    | false => exact w2 _ H2 rs2 s2 r2.tail.tail.addB
    | true =>
      rw [if_pos rfl]
      refine use wd_p w2 s2 r2.tail.mid fun dc e3 t H3 rs3 _ w3 s3 h3 => ?_
      obtain ⟨d, hd, w4⟩ := ofO_ok w3
      obtain ⟨k, hk', rfl⟩ := map_ok hd
      have r3 := h3.perm (.cons _ List.perm_middle)
      refine ⟨fz db, fz dc, rs3 ++ Fr, k, ?_, fz_frz _, fz_frz _, hk', w4 _ H3 rs3 s3 r3.tail.tail.addB⟩
      rw [fz_eq dc]
      exact two r3.froz
theorem z_chn (hu : X.A.units + 65 < cLine) {o o' : CmpOp} (ho : okCmp o = true) (ho' : okCmp o' = true) (hm : lastMarks [o, o'] [eb, ec] = false) (ha : PE X ea (tE X.K T a)) (hb : PE X eb (tE X.K T b)) (hc : PE X ec (tE X.K T c)) :
    PE X (.Compare ea [o, o'] [eb, ec] pos) (tE X.K T (.chn o o' a b c)) := by
  exact imp (pe_chain (c_all hu ho) (c_all hu ho') ha hb hc hm) fun σ H Q => chn_i
theorem isN_d {H : Hp} {v : V} {d : D} {rs : Rt} (h : Rel X.K H ((v, d) :: rs)) : decide (v = .non) = (match d with | .non => true | _ => false) := by
  obtain ⟨Hk, f, s, o⟩ := h.head
  cases o with
  | sh h => cases h <;> simp
  | lst _ _ => simp
  | dic _ _ _ => simp
def rNon (n : Bool) : R2 := fun x y H Q => y = .non ∧ Q (.bl (if n = true then !decide (x = .non) else decide (x = .non))) H
theorem op_non (n : Bool) : OpR X (compareOp (if n = true then .IsNot else .Is)) (rNon n) := by
  cases n with
  | true => exact op_notN
  | false => exact op_isN
theorem isN_i {n : Bool} {σ : L2.St} {H : Hp} {Q : VK} (g : tE X.K T (.isN n a) σ H Q) : tOp (rNon n) (tE X.K T a) (tC .non) σ H Q := by
  obtain ⟨e, rs, Fr, s, h, w⟩ := g
  rw [dE] at w
  refine use wd_p w s h fun da e1 v H1 rs1 _ w1 s1 h1 => ⟨rfl, ?_⟩
  rw [isN_d h1]
  refine w1 _ H1 rs1 s1 ?_
  cases n <;> cases da <;> exact h1.tail.addB
theorem mark_non (n : Bool) {j : Nat} {p2 : Pos} : behindInMarks (if n = true then .IsNot else .Is) (.Constant .none j p2) = false := by cases n <;> rfl
theorem z_isN (n : Bool) {j : Nat} {p2 : Pos} (ha : PE X ea (tE X.K T a)) : PE X (.Compare ea [if n = true then .IsNot else .Is] [.Constant .none j p2] pos) (tE X.K T (.isN n a)) :=
  imp (pe_cmpR (op_non n) ha pe_non (mark_non n)) fun σ H Q => isN_i

/-! ### and, or, not, by truth -/
variable {rest : List Expr}
theorem z_one {op : BoolOp} (ha : PE X ea (tE X.K T a)) : PE X (.BoolOp op [ea] pos) (tE X.K T a) := pe_one ha
theorem z_and (ha : PE X ea (tE X.K T a)) (hb : PE X (.BoolOp .And (eb :: rest) pos) (tE X.K T b)) : PE X (.BoolOp .And (ea :: eb :: rest) pos) (tE X.K T (.and a b)) := by
  refine imp (pe_andT ha hb) fun σ H Q ⟨e, rs, Fr, s, h, w⟩ => ?_
  rw [dE] at w
  refine use wd_p w s h fun da e1 v H1 rs1 _ w1 s1 h1 => ?_
  cases hk : truth da with
  | none =>
    rw [hk] at w1
    exact w1.elim
  | some k =>
    rw [hk] at w1
    refine ⟨k, h1.tru hk, ?_⟩
    cases k with
    | true => exact ⟨e1, rs1, Fr, s1, h1.tail, w1⟩
    | false => exact w1 v H1 rs1 s1 h1
theorem z_or (ha : PE X ea (tE X.K T a)) (hb : PE X (.BoolOp .Or (eb :: rest) pos) (tE X.K T b)) : PE X (.BoolOp .Or (ea :: eb :: rest) pos) (tE X.K T (.or a b)) := by
  refine imp (pe_orT ha hb) fun σ H Q ⟨e, rs, Fr, s, h, w⟩ => ?_
  rw [dE] at w
  refine use wd_p w s h fun da e1 v H1 rs1 _ w1 s1 h1 => ?_
  cases hk : truth da with
  | none =>
    rw [hk] at w1
    exact w1.elim
  | some k =>
    rw [hk] at w1
    refine ⟨k, h1.tru hk, ?_⟩
    cases k with
    | true => exact w1 v H1 rs1 s1 h1
    | false => exact ⟨e1, rs1, Fr, s1, h1.tail, w1⟩
theorem z_not (ha : PE X ea (tE X.K T a)) : PE X (.UnaryOp .Not ea pos) (tE X.K T (.tst (.not (.val a)))) := by
  refine imp (pe_notT ha) fun σ H Q ⟨e, rs, Fr, s, h, w⟩ => ?_
  rw [dE, dT, dT] at w
  have w' : Wp X.K σ Fr ((dE T a e).bind fun d e => (ofO (truth d) e).bind fun k e => .ok (.bl (!k)) e) Q := by
    cases hr : dE T a e <;> rw [hr] at w
    · revert w
      simp only [R.bind]
      cases truth _ <;> exact id
    · exact w.elim
    · exact w.elim
  refine use wd_p w' s h fun da e1 v H1 rs1 _ w1 s1 h1 => ?_
  cases hk : truth da with
  | none =>
    rw [hk] at w1
    exact w1.elim
  | some k =>
    rw [hk] at w1
    exact ⟨k, h1.tru hk, w1 _ H1 rs1 s1 h1.tail.addB⟩
/-! tests -/
theorem zt_val (ha : PE X ea (tE X.K T a)) (he : ∀ whole, isTrue ea X.env whole = (do let v ← whole; standAt ea.pos; holding [v] (truthy v))) : PT X ea (tT X.K T (.val a)) := by
  refine impT (pt_truth ha he) fun σ H Q ⟨e, rs, Fr, s, h, w⟩ => ?_
  rw [dT] at w
  refine use wd_b w s h fun da e1 v H1 rs1 _ w1 s1 h1 => ?_
  cases hk : truth da with
  | none =>
    rw [hk] at w1
    exact w1.elim
  | some k =>
    rw [hk] at w1
    exact ⟨k, h1.tru hk, w1 H1 rs1 s1 h1.tail⟩
/-- where an expression gives a bool -/
theorem val_bl {y : E} (hb : ∀ e d e', dE T y e = .ok d e' → ∃ k, d = .bl k) {σ : L2.St} {H : Hp} {Q : Bool → Hp → Prop} (g : tT X.K T (.val y) σ H Q) : tE X.K T y σ H fun x H1 => ∃ k, x = .bl k ∧ Q k H1 := by
  obtain ⟨e, rs, Fr, s, h, w⟩ := g
  rw [dT] at w
  refine use wd_b w s h fun d e1 v H1 rs1 hd w1 s1 h1 => ?_
  obtain ⟨k, rfl⟩ := hb _ _ _ hd
  obtain rfl := h1.bl
  exact ⟨k, rfl, w1 H1 rs1 s1 h1.tail⟩
theorem bind_ok {α β : Type} {r : R α} {f : α → Ev → R β} {b : β} {e : Ev} (h : r.bind f = .ok b e) : ∃ a e1, r = .ok a e1 ∧ f a e1 = .ok b e := by
  cases r with
  | ok a e1 => exact ⟨a, e1, rfl, h⟩
  | ex _ _ => cases h
  | no => cases h
theorem ofO_eq {α : Type} {o : Option α} {e e' : Ev} {a : α} (h : ofO o e = .ok a e') : o = some a ∧ e = e' := by
  cases o with
  | none => cases h
  | some b =>
    injection h with h1 h2
    exact ⟨congrArg some h1, h2⟩
theorem bl_cmp {o : CmpOp} (e : Ev) (d : D) (e' : Ev) (h : dE T (.cmp o a b) e = .ok d e') : ∃ k, d = .bl k := by
  rw [dE] at h
  obtain ⟨_, _, _, h⟩ := bind_ok h
  obtain ⟨_, _, _, h⟩ := bind_ok h
  obtain ⟨k, _, rfl⟩ := map_ok (ofO_eq h).1
  exact ⟨k, rfl⟩
theorem bl_isN {n : Bool} (e : Ev) (d : D) (e' : Ev) (h : dE T (.isN n a) e = .ok d e') : ∃ k, d = .bl k := by
  rw [dE] at h
  obtain ⟨x, _, _, h⟩ := bind_ok h
  injection h with h _
  exact ⟨_, h.symm⟩
theorem bl_chn {o o' : CmpOp} (e : Ev) (d : D) (e' : Ev) (h : dE T (.chn o o' a b c) e = .ok d e') : ∃ k, d = .bl k := by
  rw [dE] at h
  obtain ⟨x, _, _, h⟩ := bind_ok h
  obtain ⟨y, _, _, h⟩ := bind_ok h
  cases hk : cmpD o (fz x) (fz y) with
  | none => rw [hk] at h; cases h
  | some k =>
    rw [hk] at h
    cases k with
    | false =>
      injection h with h _
      exact ⟨_, h.symm⟩
    | true =>
      obtain ⟨_, _, _, h⟩ := bind_ok h
      obtain ⟨k, _, rfl⟩ := map_ok (ofO_eq h).1
      exact ⟨k, rfl⟩
theorem zt_cmp (hu : X.A.units + 65 < cLine) {o : CmpOp} (ho : okCmp o = true) (hm : behindInMarks o eb = false) (ha : PE X ea (tE X.K T a)) (hb : PE X eb (tE X.K T b)) : PT X (.Compare ea [o] [eb] pos) (tT X.K T (.val (.cmp o a b))) :=
  impT (pt_cmpR (c_all hu ho) ha hb hm) fun σ H Q g => cmp_i (val_bl bl_cmp g)
theorem zt_chn (hu : X.A.units + 65 < cLine) {o o' : CmpOp} (ho : okCmp o = true) (ho' : okCmp o' = true) (hm : lastMarks [o, o'] [eb, ec] = false) (ha : PE X ea (tE X.K T a)) (hb : PE X eb (tE X.K T b)) (hc : PE X ec (tE X.K T c)) :
    PT X (.Compare ea [o, o'] [eb, ec] pos) (tT X.K T (.val (.chn o o' a b c))) :=
  impT (pt_chain (c_all hu ho) (c_all hu ho') ha hb hc hm) fun σ H Q g => chn_i (val_bl bl_chn g)
theorem zt_isN (n : Bool) {j : Nat} {p2 : Pos} (ha : PE X ea (tE X.K T a)) : PT X (.Compare ea [if n = true then .IsNot else .Is] [.Constant .none j p2] pos) (tT X.K T (.val (.isN n a))) :=
  impT (pt_cmpR (op_non n) ha pe_non (mark_non n)) fun σ H Q g => isN_i (val_bl bl_isN g)
variable {ta tb : Te}
theorem zw_one {op : BoolOp} (ho : op = .And ∨ op = .Or) (ha : PT X ea (tT X.K T ta)) : PW X (.BoolOp op [ea] pos) (tT X.K T ta) := by
  rcases ho with rfl | rfl
  · exact pw_and1 ha
  · exact pw_or1 ha
theorem zw_and (ha : PT X ea (tT X.K T ta)) (hb : PW X (.BoolOp .And (eb :: rest) pos) (tT X.K T tb)) : PW X (.BoolOp .And (ea :: eb :: rest) pos) (tT X.K T (.and ta tb)) := by
  refine impW (pw_and ha hb) fun σ H Q ⟨e, rs, Fr, s, h, w⟩ => ?_
  rw [dT] at w
  refine useT wd_b w s h fun k e1 H1 rs1 _ w1 s1 h1 => ?_
  cases k with
  | true => exact ⟨e1, rs1, Fr, s1, h1, w1⟩
  | false => exact w1 H1 rs1 s1 h1
theorem zw_or (ha : PT X ea (tT X.K T ta)) (hb : PW X (.BoolOp .Or (eb :: rest) pos) (tT X.K T tb)) : PW X (.BoolOp .Or (ea :: eb :: rest) pos) (tT X.K T (.or ta tb)) := by
  refine impW (pw_or ha hb) fun σ H Q ⟨e, rs, Fr, s, h, w⟩ => ?_
  rw [dT] at w
  refine useT wd_b w s h fun k e1 H1 rs1 _ w1 s1 h1 => ?_
  cases k with
  | true => exact w1 H1 rs1 s1 h1
  | false => exact ⟨e1, rs1, Fr, s1, h1, w1⟩
theorem zt_not (ha : PT X ea (tT X.K T ta)) : PT X (.UnaryOp .Not ea pos) (tT X.K T (.not ta)) := by
  refine impT (pt_not ha) fun σ H Q ⟨e, rs, Fr, s, h, w⟩ => ?_
  rw [dT] at w
  exact useT wd_b w s h fun k e1 H1 rs1 _ w1 s1 h1 => w1 H1 rs1 s1 h1
theorem z_ite {ec : Expr} (hc : PT X ec (tT X.K T ta)) (ha : PE X ea (tE X.K T a)) (hb : PE X eb (tE X.K T b)) : PE X (.IfExp ec ea eb pos) (tE X.K T (.ite ta a b)) := by
  refine imp (pe_ifExp hc ha hb) fun σ H Q ⟨e, rs, Fr, s, h, w⟩ => ?_
  rw [dE] at w
  refine useT wd_p w s h fun k e1 H1 rs1 _ w1 s1 h1 => ?_
  cases k with
  | true => exact ⟨e1, rs1, Fr, s1, h1, w1⟩
  | false => exact ⟨e1, rs1, Fr, s1, h1, w1⟩
theorem z_neg (ha : PE X ea (tE X.K T a)) : PE X (.UnaryOp .USub ea pos) (tE X.K T (.neg a)) := by
  refine imp (pe_un un_neg ha) fun σ H Q ⟨e, rs, Fr, s, h, w⟩ => ?_
  rw [dE] at w
  refine use wd_p w s h fun d e1 v H1 rs1 _ w1 s1 h1 => ?_
  cases d with
  | int i =>
    obtain rfl := h1.int
    exact ⟨i, rfl, w1 _ H1 rs1 s1 h1.tail.addI⟩
  | _ => exact w1.elim
end
end Z

set_option Elab.async false
set_option linter.all false
set_option autoImplicit false
set_option maxRecDepth 100000
set_option maxHeartbeats 2000000
/-! Z6: rows of expressions, displays, items, slices, built-in calls. -/
namespace Z
open PySem PySem.Spec PyProof.Rows L2

/-! ### rows of expressions -/
/-- no starred one -/
def plainE : Expr → Bool
  | .Starred _ _ => false
  | _ => true
theorem star_cons {e : Expr} {es : List Expr} {env : Env} (h : plainE e = true) : starEach (e :: es) env = (false, eval e env) :: starEach es env := by
  cases e <;> first | rfl | cases h
theorem star_none {env : Env} {pos : Pos} : ∀ {es : List Expr}, es.all plainE = true → (backTo pos (starEach es env)).any (·.1) = false
  | [], _ => rfl
  | e :: es, h => by
    simp only [List.all_cons, Bool.and_eq_true] at h
    rw [star_cons h.1]
    simpa [backTo] using star_none (pos := pos) h.2
/-- the roots of arguments: the borrowed ones stand in their slots -/
inductive Ar (σ : L2.St) : List V → List (Sum D Nat) → Rt → Prop where
  | nil : Ar σ [] [] []
  | own {v d vs xs rs} : Ar σ vs xs rs → Ar σ (v :: vs) (.inl d :: xs) ((v, d) :: rs)
  | bor {v i vs xs rs} : σ[i]? = some (some v) → Ar σ vs xs rs → Ar σ (v :: vs) (.inr i :: xs) rs
theorem Ar.all {σ : L2.St} : ∀ {vs xs rs l}, Ar σ vs xs rs → args1 xs = some l → vs.length = l.length ∧ rs = vs.zip l
  | _, _, _, _, .nil, h => by cases h; exact ⟨rfl, rfl⟩
  | _, _, _, l, .own (xs := xs) r, h => by
    rw [args1] at h
    cases hr : args1 xs with
    | none => rw [hr] at h; cases h
    | some l' =>
      rw [hr] at h
      cases h
      obtain ⟨h1, rfl⟩ := r.all hr
      exact ⟨congrArg (· + 1) h1, rfl⟩
  | _, _, _, _, .bor _ _, h => by cases h
section
variable (K : PySem.W.Frag) (T : Tab)
def WpA (σ : L2.St) (Fr : Rt) (r : R (List (Sum D Nat))) (Q : List V → Hp → Prop) : Prop := match r with
  | .ok xs e => ∀ vs H rs as, Sl σ e rs → Ar σ vs xs as → Rel K H (as ++ (rs ++ Fr)) → Q vs H
  | _ => False
def tA (xs : Es) : TA := fun σ H Q => ∃ e rs Fr, Sl σ e rs ∧ Rel K H (rs ++ Fr) ∧ WpA K σ Fr (dEs T xs e) Q
end
theorem impA {X : Cx} {es : List Expr} {t t' : TA} (h : PA X es t) (i : ∀ σ H Q, t' σ H Q → t σ H Q) : PA X es t' :=
  ⟨fun p a b c d q j w => h.run p a b c d q j (i _ _ _ w)⟩
section
variable {K : PySem.W.Frag} {T : Tab} {H : Hp} {σ : L2.St} {e : Ev} {rs a b Fr : Rt} {x : V × D} {Q : VK}
theorem Rel.mid2 {c : Rt} (h : Rel K H (a ++ (b ++ x :: c))) : Rel K H (x :: (a ++ (b ++ c))) := by
  rw [← List.append_assoc] at h ⊢
  exact h.dim
theorem wd_a {Q : List V → Hp → Prop} : Wd fun r => WpA K σ Fr r Q := ⟨id, fun _ _ => id⟩
theorem useA {β : Type} {W : R β → Prop} {f : List (Sum D Nat) → Ev → R β} {y : Es} {Q : List V → Hp → Prop} (n : Wd W) (w : W ((dEs T y e).bind f)) (s : Sl σ e rs) (h : Rel K H (rs ++ Fr))
    (k : ∀ xs e' vs H' rs' as, dEs T y e = .ok xs e' → W (f xs e') → Sl σ e' rs' → Ar σ vs xs as → Rel K H' (as ++ (rs' ++ Fr)) → Q vs H') : tA K T y σ H Q := by
  refine ⟨e, rs, Fr, s, h, ?_⟩
  cases hr : dEs T y e with
  | ok d e' =>
    rw [hr] at w
    intro vs H' rs' as s' g h'
    exact k d e' vs H' rs' as hr w s' g h'
  | ex x e' =>
    rw [hr] at w
    exact (n.ex _ _ w).elim
  | no =>
    rw [hr] at w
    exact (n.no w).elim
end
section
variable {X : Cx} {T : Tab} {pos : Pos} {ea eb : Expr} {es : List Expr} {a b : E} {r : Es}
theorem za_nil : PA X [] (tA X.K T .nil) := by
  refine impA pa_nil fun σ H Q ⟨e, rs, Fr, s, h, w⟩ => ?_
  exact w [] H rs [] s .nil h
theorem za_cons (hp : plainE ea = true) (ha : PE X ea (tE X.K T a)) (hr : PA X es (tA X.K T r)) : PA X (ea :: es) (tA X.K T (.cons a r)) := by
  refine impA (pa_cons ha hr (star_cons hp)) fun σ H Q ⟨e, rs, Fr, s, h, w⟩ => ?_
  rw [dEs] at w
  refine use wd_a w s h fun d e1 v H1 rs1 _ w1 s1 h1 => ?_
  refine useA wd_a w1 s1 h1.mid fun xs e2 vs H2 rs2 as _ w2 s2 g h2 => ?_
  refine w2 _ H2 rs2 _ s2 (.own g) ?_
  rw [fz_eq]
  exact h2.mid2.froz
theorem za_raw (hp : plainE ea = true) (ha : PE X ea (tE X.K T a)) (hr : PA X es (tA X.K T r)) : PA X (ea :: es) (tA X.K T (.raw a r)) := by
  refine impA (pa_cons ha hr (star_cons hp)) fun σ H Q ⟨e, rs, Fr, s, h, w⟩ => ?_
  rw [dEs] at w
  refine use wd_a w s h fun d e1 v H1 rs1 _ w1 s1 h1 => ?_
  refine useA wd_a w1 s1 h1.mid fun xs e2 vs H2 rs2 as _ w2 s2 g h2 => ?_
  refine w2 _ H2 rs2 _ s2 (.own g) ?_
  exact h2.mid2
theorem za_bw {i : Nat} {x : Str} (hN : X.N[i]? = some x) (hv : Vis X.env.scope x) (h1 : (x == ("__debug__" : Str)) = false) (h2 : (x == ("__classdict__" : Str)) = false) (hr : PA X es (tA X.K T r)) :
    PA X (.Name x pos :: es) (tA X.K T (.bw i r)) := by
  refine impA (pa_cons (pe_var hN hv h1 h2) hr rfl) fun σ H Q ⟨e, rs, Fr, s, h, w⟩ => ?_
  rw [dEs] at w
  cases hd : rd i e with
  | none =>
    rw [hd] at w
    exact w.elim
  | some d =>
    rw [hd] at w
    obtain ⟨v, r0, g, _⟩ := s.get hd
    refine ⟨v, g, ?_⟩
    exact useA wd_a w s h fun xs e2 vs H2 rs2 as _ w2 s2 g2 h2 => w2 _ H2 rs2 _ s2 (.bor g g2) h2
/-! ### displays -/
theorem frzL_map (l : List D) : frzL (l.map fz) = l.map fz := by
  induction l with
  | nil => rfl
  | cons x r ih => rw [List.map_cons, frzL, ih, fz_frz]
theorem Rel.frozL {K : PySem.W.Frag} {H : Hp} {rs : Rt} : ∀ {vs : List V} {l : List D}, vs.length = l.length → Rel K H (vs.zip l ++ rs) → Rel K H (vs.zip (l.map fz) ++ rs)
  | [], [], _, h => h
  | v :: vs, d :: l, e, h => by
    rw [List.map_cons, List.zip_cons_cons, List.cons_append, fz_eq]
    refine Rel.dim (a := []) (Rel.froz ?_)
    exact (Rel.frozL (rs := (v, d) :: rs) (Nat.succ.inj e) (Rel.mid h)).dim
theorem z_tup {k : Nat} (ha : PA X es (tA X.K T r)) : PE X (.Tuple es k pos) (tE X.K T (.tup r)) := by
  refine imp (pe_tup ha) fun σ H Q ⟨e, rs, Fr, s, h, w⟩ => ?_
  rw [dE] at w
  refine useA wd_p w s h fun xs e1 vs H1 rs1 as _ w1 s1 g h1 => ?_
  obtain ⟨d, hd, w2⟩ := ofO_ok w1
  cases ha1 : args1 xs with
  | none => rw [ha1] at hd; cases hd
  | some l =>
    rw [ha1] at hd
    obtain ⟨l1, rfl⟩ := g.all ha1
    simp only [Option.bind_some] at hd
    split at hd
    · rename_i hz
      cases hd
      refine ⟨by rw [l1]; exact sz hz, fun p hp => w2 _ _ rs1 s1 (Rel.newT (Rel.frozL l1 h1) (by simp [l1]) (frzL_map l) hp)⟩
    · cases hd
theorem z_lst (ha : PA X es (tA X.K T r)) : PE X (.List es pos) (tE X.K T (.lst r)) := by
  refine imp (pe_lst ha) fun σ H Q ⟨e, rs, Fr, s, h, w⟩ => ?_
  rw [dE] at w
  refine useA wd_p w s h fun xs e1 vs H1 rs1 as _ w1 s1 g h1 => ?_
  obtain ⟨d, hd, w2⟩ := ofO_ok w1
  cases ha1 : args1 xs with
  | none => rw [ha1] at hd; cases hd
  | some l =>
    rw [ha1] at hd
    obtain ⟨l1, rfl⟩ := g.all ha1
    simp only [Option.bind_some] at hd
    split at hd
    · rename_i hz
      cases hd
      exact ⟨by rw [l1]; exact sz hz, fun p hp => w2 _ _ rs1 s1 (Rel.newL h1 l1 hp)⟩
    · cases hd
/-! ### items -/
theorem OwL.at' {K : PySem.W.Frag} {H Hk : Hp} : ∀ {vs : List V} {ds : List D} {f : List Addr} {n : Nat} {d : D}, OwL K H Hk vs ds f → ds[n]? = some d → frz d = d → ∃ v, vs[n]? = some v ∧ Sh K Hk v d
  | _, _, _, _, _, .nil, h, _ => by simp at h
  | _, _, _, 0, _, .cons (v := v) h _, e, f => by
    cases e
    exact ⟨v, rfl, (h.shared f).2⟩
  | _, _, _, n + 1, _, .cons h r, e, f => by
    obtain ⟨v, h1, h2⟩ := r.at' (n := n) (by simpa using e) f
    exact ⟨v, by simpa using h1, h2⟩
theorem OwL.atI {K : PySem.W.Frag} {H Hk : Hp} {vs : List V} {ds : List D} {f : List Addr} {i : Int} {d : D} (h : OwL K H Hk vs ds f) (e : L2.atI ds i = some d) (g : frz d = d) : ∃ v, L2.atI vs i = some v ∧ Sh K Hk v d := by
  unfold L2.atI at e ⊢
  rw [h.len]
  cases hx : ixN ds.length i with
  | none => rw [hx] at e; cases e
  | some n =>
    rw [hx] at e
    exact h.at' e g
/-- an item of the first root, beside it -/
theorem rIx_any {K : PySem.W.Frag} {H : Hp} {rs : Rt} {x : V} {a d : D} {i : Int} {Q : VK} (h : Rel K H ((x, a) :: rs)) (f : frz d = d) (e : subD a (.int i) = some d) (w : ∀ v, Rel K H ((v, d) :: (x, a) :: rs) → Q v H) :
    rIxL K x (.int i) H Q ∨ rIxT K x (.int i) H Q ∨ rIxS x (.int i) H Q := by
  have h0 := h
  obtain ⟨Hk, fp, s, o, n, k⟩ := h
  have add : ∀ v, Sh K Hk v d → Rel K H ((v, d) :: (x, a) :: rs) := fun v q => ⟨Hk, [] ++ fp, s, .cons (.sh q) o, n, k⟩
  cases o with
  | cons g _ =>
    cases a with
    | lst o ds =>
      obtain ⟨p, vs, gg, rfl, h1, h2, _⟩ := g.lst' s
      obtain ⟨v, hv, q⟩ := h2.atI e f
      exact .inl ⟨p, vs, i, v, rfl, rfl, .inl (.inl h1), hv, w v (add v q)⟩
    | tup ds =>
      obtain ⟨p, vs, rfl, h1, h2, _⟩ := g.tup' s
      obtain ⟨v, hv, q⟩ := (OwL.of_sh (H := H) h2).atI e f
      exact .inr (.inl ⟨p, vs, i, v, rfl, rfl, h1, hv, w v (add v q)⟩)
    | lck ds =>
      cases g with
      | sh g =>
        cases g with
        | lck g1 g2 =>
          obtain ⟨v, hv, q⟩ := (OwL.of_sh (H := H) g2).atI e f
          exact .inl ⟨_, _, i, v, rfl, rfl, s.lst g1, hv, w v (add v q)⟩
    | str z =>
      rw [subD] at e
      split at e
      · rename_i hz
        obtain ⟨c, hc, rfl⟩ := map_ok e
        obtain rfl := h0.str
        exact .inr (.inr ⟨z, i, c, rfl, rfl, sz hz, hc, w _ (add _ (.str _))⟩)
      · cases e
    | _ => cases e
/-- the items of what is frozen are frozen -/
theorem subD_fz {a d : D} {i : D} (f : frz a = a) (e : subD a i = some d) : frz d = d := by
  have fr : ∀ {ds : List D} {n : Nat} {d : D}, frzL ds = ds → ds[n]? = some d → frz d = d := by
    intro ds
    induction ds with
    | nil => intro n d _ h; cases h
    | cons y r ih =>
      intro n d f h
      rw [frzL] at f
      injection f with f1 f2
      cases n with
      | zero => cases h; exact f1
      | succ n => exact ih f2 h
  have fa : ∀ {ds : List D} {d : D} {i : Int}, frzL ds = ds → L2.atI ds i = some d → frz d = d := by
    intro ds d i f h
    unfold L2.atI at h
    cases hx : ixN ds.length i with
    | none => rw [hx] at h; cases h
    | some n => rw [hx] at h; exact fr f h
  cases a with
  | lst o ds =>
    cases i with
    | int i =>
      rw [frz] at f
      injection f with _ f
      exact fa f e
    | _ => cases e
  | tup ds =>
    cases i with
    | int i =>
      rw [frz] at f
      injection f with f
      exact fa f e
    | _ => cases e
  | lck ds =>
    cases i with
    | int i =>
      rw [frz] at f
      injection f with f
      exact fa f e
    | _ => cases e
  | str z =>
    cases i with
    | int i =>
      rw [subD] at e
      split at e
      · obtain ⟨c, hc, rfl⟩ := map_ok e
        rfl
      · cases e
    | _ => cases e
  | _ => cases i <;> cases e
theorem subD_int {a i d : D} (e : subD a i = some d) : ∃ j, i = .int j := by
  cases i <;> first | exact ⟨_, rfl⟩ | (cases a <;> cases e)
theorem ix_all : IxR X (fun x y H Q => rIxL X.K x y H Q ∨ rIxT X.K x y H Q ∨ rIxS x y H Q) := ix_list.or (ix_tup.or ix_str)
theorem z_sub (hp : PlainIx eb) (ha : PE X ea (tE X.K T a)) (hb : PE X eb (tE X.K T b)) : PE X (.Subscript ea eb pos) (tE X.K T (.sub a b)) := by
  refine imp (pe_ix ix_all ha hb hp) fun σ H Q ⟨e, rs, Fr, s, h, w⟩ => ?_
  rw [dE] at w
  refine use wd_p w s h fun da e1 v H1 rs1 _ w1 s1 h1 => ?_
  refine use wd_p w1 s1 h1.mid fun db e2 u H2 rs2 _ w2 s2 h2 => ?_
  obtain ⟨d, hd, w3⟩ := ofO_ok w2
  have h3 := two (h2.perm (.cons _ List.perm_middle))
  obtain ⟨i, rfl⟩ := subD_int hd
  obtain rfl := (two h3).int
  have h4 := (two h3).tail.froz
  rw [← fz_eq] at h4
  exact rIx_any h4 (subD_fz (fz_frz da) hd) hd fun v h' => w3 v H2 rs2 s2 (two h').tail
theorem z_subv {i : Nat} {x : Str} {p : Pos} (hN : X.N[i]? = some x) (hv : Vis X.env.scope x) (h1 : (x == ("__debug__" : Str)) = false) (h2 : (x == ("__classdict__" : Str)) = false) (hp : PlainIx eb) (hb : PE X eb (tE X.K T b)) :
    PE X (.Subscript (.Name x p) eb pos) (tE X.K T (.subv i b)) := by
  refine imp (pe_ix ix_all (pe_var hN hv h1 h2) hb hp) fun σ H Q ⟨e, rs, Fr, s, h, w⟩ => ?_
  rw [dE] at w
  cases hd : rd i e with
  | none =>
    rw [hd] at w
    exact w.elim
  | some d0 =>
    rw [hd] at w
    obtain ⟨v, _, g, _⟩ := s.get hd
    refine ⟨v, g, ?_⟩
    refine use wd_p w s h fun db e2 u H2 rs2 _ w2 s2 h2 => ?_
    cases hr : rd i e2 with
    | none => rw [hr] at w2; exact w2.elim
    | some d =>
      rw [hr] at w2
      dsimp only at w2
      cases hz : subD d db with
      | none => rw [hz] at w2; exact w2.elim
      | some z =>
        rw [hz] at w2
        dsimp only at w2
        split at w2
        · rename_i hf
          obtain ⟨v', r0, g', pm, _⟩ := s2.get hr
          rw [g] at g'
          cases g'
          obtain ⟨j, rfl⟩ := subD_int hz
          obtain rfl := h2.int
          have h4 : Rel X.K H2 ((v, d) :: (r0 ++ Fr)) := h2.tail.left pm
          exact rIx_any h4 (isF_frz hf) hz fun u' h' => w2 u' H2 rs2 s2 (h'.perm (.cons _ (pm.symm.append_right Fr)))
        · exact w2.elim
end
end Z

set_option Elab.async false
set_option linter.all false
set_option autoImplicit false
set_option maxRecDepth 100000
set_option maxHeartbeats 2000000
/-! Z7: slices, built-in calls, isinstance, pop. -/
namespace Z
open PySem PySem.Spec PyProof.Rows L2

section
variable (K : PySem.W.Frag) (T : Tab)
def WpO (σ : L2.St) (Fr : Rt) (r : R (Option Int)) (Q : Option Int → Hp → Prop) : Prop := match r with
  | .ok i e => ∀ H rs, Sl σ e rs → Rel K H (rs ++ Fr) → Q i H
  | _ => False
def tO (x : Oe) : TO := fun σ H Q => ∃ e rs Fr, Sl σ e rs ∧ Rel K H (rs ++ Fr) ∧ WpO K σ Fr (dO T x e) Q
end
theorem impO {X : Cx} {e : Option Expr} {t t' : TO} (h : PO X e t) (i : ∀ σ H Q, t' σ H Q → t σ H Q) : PO X e t' :=
  ⟨fun a b c d q j w => h.run a b c d q j (i _ _ _ w)⟩
section
variable {K : PySem.W.Frag} {T : Tab} {H : Hp} {σ : L2.St} {e : Ev} {rs a b Fr : Rt}
theorem wd_o {Q : Option Int → Hp → Prop} : Wd fun r => WpO K σ Fr r Q := ⟨id, fun _ _ => id⟩
theorem useO {β : Type} {W : R β → Prop} {f : Option Int → Ev → R β} {y : Oe} {Q : Option Int → Hp → Prop} (n : Wd W) (w : W ((dO T y e).bind f)) (s : Sl σ e rs) (h : Rel K H (rs ++ Fr))
    (k : ∀ d e' H' rs', dO T y e = .ok d e' → W (f d e') → Sl σ e' rs' → Rel K H' (rs' ++ Fr) → Q d H') : tO K T y σ H Q := by
  refine ⟨e, rs, Fr, s, h, ?_⟩
  cases hr : dO T y e with
  | ok d e' =>
    rw [hr] at w
    intro H' rs' s' h'
    exact k d e' H' rs' hr w s' h'
  | ex x e' =>
    rw [hr] at w
    exact (n.ex _ _ w).elim
  | no =>
    rw [hr] at w
    exact (n.no w).elim
theorem zip_drop {α β : Type} : ∀ (n : Nat) (a : List α) (b : List β), (a.drop n).zip (b.drop n) = (a.zip b).drop n
  | 0, _, _ => rfl
  | n + 1, [], _ => by simp
  | n + 1, _ :: _, [] => by simp
  | n + 1, _ :: a, _ :: b => by simpa using zip_drop n a b
theorem zip_take {α β : Type} : ∀ (n : Nat) (a : List α) (b : List β), (a.take n).zip (b.take n) = (a.zip b).take n
  | 0, _, _ => by simp
  | n + 1, [], _ => by simp
  | n + 1, _ :: _, [] => by simp
  | n + 1, _ :: a, _ :: b => by simpa using zip_take n a b
theorem Rel.dropR {n : Nat} (h : Rel K H (a ++ rs)) : Rel K H (a.drop n ++ rs) := by
  rw [← List.take_append_drop n a, List.append_assoc] at h
  exact h.cut
theorem Rel.takeR {n : Nat} (h : Rel K H (a ++ rs)) : Rel K H (a.take n ++ rs) := by
  rw [← List.take_append_drop n a] at h
  have h2 : Rel K H (a.drop n ++ (a.take n ++ rs)) := by
    refine h.perm ?_
    rw [← List.append_assoc]
    exact List.Perm.append_right _ List.perm_append_comm
  exact h2.cut
theorem Rel.cutR {vs : List V} {ds : List D} {lo hi : Option Int} (l : vs.length = ds.length) (h : Rel K H (vs.zip ds ++ rs)) : Rel K H ((cutV vs lo hi).zip (Z.cut ds lo hi) ++ rs) := by
  unfold cutV Z.cut
  rw [l, zip_take, zip_drop]
  exact h.dropR.takeR
theorem cut_len {vs : List V} {ds : List D} {lo hi : Option Int} (l : vs.length = ds.length) : (cutV vs lo hi).length = (cut ds lo hi).length := by
  unfold cutV cut
  simp [l]
theorem frzL_drop (ds : List D) (e : frzL ds = ds) (n : Nat) : frzL (ds.drop n) = ds.drop n := by
  induction n generalizing ds with
  | zero => exact e
  | succ n ih =>
    cases ds with
    | nil => rfl
    | cons x r =>
      rw [frzL] at e
      injection e with _ e
      exact ih r e
theorem frzL_take (ds : List D) (e : frzL ds = ds) (n : Nat) : frzL (ds.take n) = ds.take n := by
  induction n generalizing ds with
  | zero => rfl
  | succ n ih =>
    cases ds with
    | nil => rfl
    | cons x r =>
      rw [frzL] at e
      injection e with e1 e
      show Z.frz x :: frzL (r.take n) = x :: r.take n
      rw [e1, ih r e]
theorem frzL_cut (ds : List D) (e : frzL ds = ds) (lo hi : Option Int) : frzL (cut ds lo hi) = cut ds lo hi := by
  unfold cut
  exact frzL_take _ (frzL_drop _ e _) _
end
section
variable {X : Cx} {T : Tab} {pos : Pos} {ea eb : Expr} {es : List Expr} {a b : E} {r : Es} {lo hi : Option Expr} {l h : Oe}
theorem zo_none : PO X none (tO X.K T .no) := by
  refine impO po_none fun σ H Q ⟨e, rs, Fr, s, h, w⟩ => ?_
  exact w H rs s h
theorem zo_some (ha : PE X ea (tE X.K T a)) : PO X (some ea) (tO X.K T (.e a)) := by
  refine impO (po_some ha) fun σ H Q ⟨e, rs, Fr, s, h, w⟩ => ?_
  rw [dO] at w
  refine use wd_o w s h fun d e1 v H1 rs1 _ w1 s1 h1 => ?_
  cases d with
  | int i =>
    obtain rfl := h1.int
    exact ⟨i, rfl, w1 H1 rs1 s1 h1.tail⟩
  | _ => exact w1.elim
theorem z_slc {p2 : Pos} (ha : PE X ea (tE X.K T a)) (hl : PO X lo (tO X.K T l)) (hh : PO X hi (tO X.K T h)) : PE X (.Subscript ea (.Slice lo hi none p2) pos) (tE X.K T (.slc a l h)) := by
  refine imp (pe_slice (sl_list.or sl_tupA) ha hl hh) fun σ H Q ⟨e, rs, Fr, s, h, w⟩ => ?_
  rw [dE] at w
  refine use wd_p w s h fun da e1 v H1 rs1 _ w1 s1 h1 => ?_
  refine useO wd_p w1 s1 h1.mid fun i e2 H2 rs2 _ w2 s2 h2 => ?_
  refine useO wd_p w2 s2 h2 fun j e3 H3 rs3 _ w3 s3 h3 => ?_
  obtain ⟨d, hd, w4⟩ := ofO_ok w3
  have h4 := h3.dim
  cases da with
  | lst o ds =>
    cases hd
    obtain ⟨p, vs, rfl, g1, g2, g3⟩ := h4.open
    exact .inl ⟨p, vs, rfl, .inl (.inl g1), fun q hq => w4 _ _ rs3 s3 (Rel.newL (Rel.cutR g2 g3) (cut_len g2) hq)⟩
  | tup ds =>
    cases hd
    have f := h4.shL
    obtain ⟨p, vs, rfl, g1, g2, g3⟩ := h4.openT
    refine .inr ⟨p, vs, rfl, g1, fun z => w4 _ _ rs3 s3 ?_, fun _ q hq => w4 _ _ rs3 s3 (Rel.newT (Rel.cutR g2 g3) (cut_len g2) (frzL_cut _ f _ _) hq)⟩
    have e : cut ds i j = ds := by
      unfold cut
      rw [← g2, z.1, z.2, List.drop_zero, Nat.sub_zero, g2, List.take_length]
    rw [e]
    exact h4
  | lck ds =>
    cases hd
    obtain ⟨Hk, fp, s', o, n, k⟩ := h4
    cases o with
    | cons g r =>
      cases g with
      | sh g =>
        cases g with
        | lck g1 g2 =>
          have o := OwL.of_sh (H := H3) g2
          exact .inl ⟨_, _, rfl, s'.lst g1, fun q hq => w4 _ _ rs3 s3 (Rel.newL (Rel.cutR o.len ⟨Hk, [] ++ _, s', o.app r, n, k⟩) (cut_len o.len) hq)⟩
  | _ => cases hd
theorem zip_rev {α β : Type} : ∀ {a : List α} {b : List β}, a.length = b.length → a.reverse.zip b.reverse = (a.zip b).reverse
  | [], [], _ => rfl
  | x :: a, y :: b, h => by
    rw [List.zip_cons_cons, List.reverse_cons, List.reverse_cons, List.reverse_cons, List.zip_append (by simpa using h), zip_rev (Nat.succ.inj h)]
    rfl

/-! ### built-in calls -/
def rBi (K : PySem.W.Frag) (b : Bi) : List V → Hp → VK → Prop := fun vs H Q => ∃ l rs d, vs.length = l.length ∧ Rel K H (vs.zip l ++ rs) ∧ biD b l = some d ∧ ∀ v H', Rel K H' ((v, d) :: rs) → Q v H'
def biV : Bi → Value
  | .len => .builtin "len" | .abs => .builtin "abs" | .int => .type "int" | .bool => .type "bool" | .sum => .builtin "sum" | .min => .builtin "min" | .max => .builtin "max"
  | .sorted => .builtin "sorted" | .list => .type "list" | .tuple => .type "tuple" | .all => .builtin "all" | .any => .builtin "any" | .set => .type "set" | .sortset => .builtin "sorted"
theorem l1 {vs : List V} {d : D} (h : vs.length = [d].length) : ∃ v, vs = [v] := by
  match vs, h with
  | [v], _ => exact ⟨v, rfl⟩
theorem l2 {vs : List V} {d d' : D} (h : vs.length = [d, d'].length) : ∃ v u, vs = [v, u] := by
  match vs, h with
  | [v, u], _ => exact ⟨v, u, rfl⟩
theorem bi_len : CallR X (.builtin "len") (rBi X.K .len) := by
  intro pins s σ H vs us Q I r ⟨l, rs, d, hl, h, e, q⟩
  match l, hl, h, e with
  | [.lst o ds], hl, h, e =>
    obtain ⟨v, rfl⟩ := l1 hl
    cases e
    have h : Rel X.K H ((v, .lst o ds) :: rs) := h
    have h9 := h
    obtain ⟨p, vs, rfl, g1, g2, g3⟩ := h.open
    refine call_len_seq pins s σ H _ us Q I r ⟨p, vs, rfl, .inl (.inl (.inl g1)), ?_⟩
    rw [g2]
    exact q _ _ h9.tail.addI
  | [.tup ds], hl, h, e =>
    obtain ⟨v, rfl⟩ := l1 hl
    cases e
    have h : Rel X.K H ((v, .tup ds) :: rs) := h
    have h9 := h
    obtain ⟨p, vs, rfl, g1, g2, g3⟩ := h.openT
    refine call_len_seq pins s σ H _ us Q I r ⟨p, vs, rfl, .inr g1, ?_⟩
    rw [g2]
    exact q _ _ h9.tail.addI
  | [.lck ds], hl, h, e =>
    obtain ⟨v, rfl⟩ := l1 hl
    cases e
    have h : Rel X.K H ((v, .lck ds) :: rs) := h
    have h9 := h
    obtain ⟨Hk, fp, s', o, n, k⟩ := h
    cases o with
    | cons g r' =>
      cases g with
      | sh g =>
        cases g with
        | lck g1 g2 =>
          refine call_len_seq pins s σ H _ us Q I r ⟨_, _, rfl, .inl (s'.lst g1), ?_⟩
          rw [(OwL.of_sh (H := H) g2).len]
          exact q _ _ h9.tail.addI
  | [.str z], hl, h, e =>
    obtain ⟨v, rfl⟩ := l1 hl
    rw [biD] at e
    split at e
    · rename_i hz
      cases e
      have h : Rel X.K H ((v, .str z) :: rs) := h
      obtain rfl := h.str
      exact call_len_str pins s σ H _ us Q I r ⟨z, rfl, sz hz, q _ _ h.tail.addI⟩
    · cases e
theorem bi_abs : CallR X (.builtin "abs") (rBi X.K .abs) := by
  intro pins s σ H vs us Q I r ⟨l, rs, d, hl, h, e, q⟩
  match l, hl, h, e with
  | [.int i], hl, h, e =>
    obtain ⟨v, rfl⟩ := l1 hl
    cases e
    have h : Rel X.K H ((v, .int i) :: rs) := h
    obtain rfl := h.int
    exact call_abs pins s σ H _ us Q I r ⟨i, rfl, q _ _ h.tail.addI⟩
theorem bi_int : CallR X (.type "int") (rBi X.K .int) := by
  intro pins s σ H vs us Q I r ⟨l, rs, d, hl, h, e, q⟩
  match l, hl, h, e with
  | [.int i], hl, h, e =>
    obtain ⟨v, rfl⟩ := l1 hl
    cases e
    have h : Rel X.K H ((v, .int i) :: rs) := h
    obtain rfl := h.int
    exact call_int1 pins s σ H _ us Q I r (.inl ⟨i, rfl, q _ _ h.tail.addI⟩)
  | [.bl i], hl, h, e =>
    obtain ⟨v, rfl⟩ := l1 hl
    cases e
    have h : Rel X.K H ((v, .bl i) :: rs) := h
    obtain rfl := h.bl
    exact call_int1 pins s σ H _ us Q I r (.inr ⟨i, rfl, q _ _ h.tail.addI⟩)
theorem OwL.ints {K : PySem.W.Frag} {H Hk : Hp} : ∀ {vs ds f ns}, OwL K H Hk vs ds f → intsD ds = some ns → vs = ns.map V.int
  | _, _, _, _, .nil, e => by cases e; rfl
  | _, _, _, _, .cons (d := d) (ds := ds) h r, e => by
    cases d with
    | int i =>
      rw [intsD] at e
      obtain ⟨ns, hn, rfl⟩ := map_ok e
      obtain rfl := h.int'
      rw [r.ints hn]
      rfl
    | _ => cases e
theorem OwL.bls {K : PySem.W.Frag} {H Hk : Hp} : ∀ {vs ds f ns}, OwL K H Hk vs ds f → blsD ds = some ns → vs = ns.map V.bl
  | _, _, _, _, .nil, e => by cases e; rfl
  | _, _, _, _, .cons (d := d) (ds := ds) h r, e => by
    cases d with
    | bl i =>
      rw [blsD] at e
      obtain ⟨ns, hn, rfl⟩ := map_ok e
      obtain rfl := h.bl'
      rw [r.bls hn]
      rfl
    | _ => cases e
theorem Rel.bls {K : PySem.W.Frag} {H : Hp} {rs : Rt} {v o ds ns} (h : Rel K H ((v, .lst o ds) :: rs)) (e : blsD ds = some ns) : ∃ a, v = .ref a ∧ SqL K H a (ns.map V.bl) := by
  obtain ⟨Hk, fp, s, q, n, k⟩ := h
  cases q with
  | cons h r =>
    obtain ⟨a, vs, g, rfl, h1, h2, h3⟩ := h.lst' s
    rw [h2.bls e] at h1
    exact ⟨a, rfl, .inl (.inl h1)⟩
theorem Rel.ints {K : PySem.W.Frag} {H : Hp} {rs : Rt} {v o ds ns} (h : Rel K H ((v, .lst o ds) :: rs)) (e : intsD ds = some ns) : ∃ a, v = .ref a ∧ SqL K H a (ns.map V.int) := by
  obtain ⟨Hk, fp, s, q, n, k⟩ := h
  cases q with
  | cons h r =>
    obtain ⟨a, vs, g, rfl, h1, h2, h3⟩ := h.lst' s
    rw [h2.ints e] at h1
    exact ⟨a, rfl, .inl (.inl h1)⟩
theorem bi_all (hc : X.calm = true) : CallR X (.builtin "all") (rBi X.K .all) := by
  intro pins s σ H vs us Q I r ⟨l, rs, d, hl, h, e, q⟩
  match l, hl, h, e with
  | [.lst o ds], hl, h, e =>
    obtain ⟨v, rfl⟩ := l1 hl
    obtain ⟨bs, hb, rfl⟩ := map_ok e
    have h : Rel X.K H ((v, .lst o ds) :: rs) := h
    obtain ⟨a, rfl, g⟩ := h.bls hb
    exact cr_all hc pins s σ H _ us Q I r ⟨a, bs, rfl, g, q _ _ h.tail.addB⟩
theorem bi_any (hc : X.calm = true) : CallR X (.builtin "any") (rBi X.K .any) := by
  intro pins s σ H vs us Q I r ⟨l, rs, d, hl, h, e, q⟩
  match l, hl, h, e with
  | [.lst o ds], hl, h, e =>
    obtain ⟨v, rfl⟩ := l1 hl
    obtain ⟨bs, hb, rfl⟩ := map_ok e
    have h : Rel X.K H ((v, .lst o ds) :: rs) := h
    obtain ⟨a, rfl, g⟩ := h.bls hb
    exact cr_any hc pins s σ H _ us Q I r ⟨a, bs, rfl, g, q _ _ h.tail.addB⟩
theorem bi_sum (hc : X.calm = true) : CallR X (.builtin "sum") (rBi X.K .sum) := by
  intro pins s σ H vs us Q I r ⟨l, rs, d, hl, h, e, q⟩
  match l, hl, h, e with
  | [.lst o ds], hl, h, e =>
    obtain ⟨v, rfl⟩ := l1 hl
    obtain ⟨ns, hb, rfl⟩ := map_ok e
    have h : Rel X.K H ((v, .lst o ds) :: rs) := h
    obtain ⟨a, rfl, g⟩ := h.ints hb
    exact cr_sum hc pins s σ H _ us Q I r ⟨a, ns, rfl, g, q _ _ h.tail.addI⟩
theorem bi_min (hc : X.calm = true) : CallR X (.builtin "min") (rBi X.K .min) := by
  intro pins s σ H vs us Q I r ⟨l, rs, d, hl, h, e, q⟩
  match l, hl, h, e with
  | [.int i, .int j], hl, h, e =>
    obtain ⟨v, u, rfl⟩ := l2 hl
    cases e
    obtain ⟨rfl, rfl, h2⟩ := ii (show Rel X.K H ((v, .int i) :: (u, .int j) :: rs) from h)
    exact call_min2 hc pins s σ H _ us Q I r ⟨i, j, rfl, q _ _ h2.addI⟩
theorem bi_max (hc : X.calm = true) : CallR X (.builtin "max") (rBi X.K .max) := by
  intro pins s σ H vs us Q I r ⟨l, rs, d, hl, h, e, q⟩
  match l, hl, h, e with
  | [.int i, .int j], hl, h, e =>
    obtain ⟨v, u, rfl⟩ := l2 hl
    cases e
    obtain ⟨rfl, rfl, h2⟩ := ii (show Rel X.K H ((v, .int i) :: (u, .int j) :: rs) from h)
    exact call_max2 hc pins s σ H _ us Q I r ⟨i, j, rfl, q _ _ h2.addI⟩
theorem bi_list : CallR X (.type "list") (rBi X.K .list) := by
  intro pins s σ H vs us Q I r ⟨l, rs, d, hl, h, e, q⟩
  match l, hl, h, e with
  | [.lst o ds], hl, h, e =>
    obtain ⟨v, rfl⟩ := l1 hl
    cases e
    have h : Rel X.K H ((v, .lst o ds) :: rs) := h
    obtain ⟨p, vs, rfl, g1, g2, g3⟩ := h.open
    exact call_list_of pins s σ H _ us Q I r ⟨p, vs, rfl, .inl (.inl (.inl g1)), fun a ha => q _ _ (Rel.newL g3 g2 ha)⟩
  | [.tup ds], hl, h, e =>
    obtain ⟨v, rfl⟩ := l1 hl
    cases e
    have h : Rel X.K H ((v, .tup ds) :: rs) := h
    obtain ⟨p, vs, rfl, g1, g2, g3⟩ := h.openT
    exact call_list_of pins s σ H _ us Q I r ⟨p, vs, rfl, .inr g1, fun a ha => q _ _ (Rel.newL g3 g2 ha)⟩
  | [.lck ds], hl, h, e =>
    obtain ⟨v, rfl⟩ := l1 hl
    cases e
    have h : Rel X.K H ((v, .lck ds) :: rs) := h
    obtain ⟨Hk, fp, s', o, n, k⟩ := h
    cases o with
    | cons g r' =>
      cases g with
      | sh g =>
        cases g with
        | lck g1 g2 =>
          have o := OwL.of_sh (H := H) g2
          exact call_list_of pins s σ H _ us Q I r ⟨_, _, rfl, .inl (s'.lst g1), fun a ha => q _ _ (Rel.newL (⟨Hk, [] ++ _, s', o.app r', n, k⟩ : Rel X.K H _) o.len ha)⟩
theorem bi_tuple : CallR X (.type "tuple") (rBi X.K .tuple) := by
  intro pins s σ H vs us Q I r ⟨l, rs, d, hl, h, e, q⟩
  match l, hl, h, e with
  | [.lst o ds], hl, h, e =>
    obtain ⟨v, rfl⟩ := l1 hl
    have h : Rel X.K H ((v, .lst o ds) :: rs) := h
    rw [biD] at e
    split at e
    · rename_i hf
      cases e
      obtain ⟨p, vs, rfl, g1, g2, g3⟩ := h.open
      exact call_tuple_of pins s σ H _ us Q I r ⟨p, vs, rfl, .inl ⟨.inl (.inl g1), fun a ha => q _ _ (Rel.newT g3 g2 (isFL_frz hf) ha)⟩⟩
    · cases e
  | [.tup ds], hl, h, e =>
    obtain ⟨v, rfl⟩ := l1 hl
    cases e
    have h : Rel X.K H ((v, .tup ds) :: rs) := h
    have h9 := h
    obtain ⟨p, vs, rfl, g1, g2, g3⟩ := h.openT
    exact call_tuple_of pins s σ H _ us Q I r ⟨p, vs, rfl, .inr ⟨g1, q _ _ h9⟩⟩
end
end Z

set_option Elab.async false
set_option linter.all false
set_option autoImplicit false
set_option maxRecDepth 100000
set_option maxHeartbeats 2000000
/-! Z8: what stands ready in a def; calls. -/
namespace Z
open PySem PySem.Spec PyProof.Rows L2

/-- the built-in names that the texts use -/
def bNames : List Str := ["len", "abs", "int", "bool", "sum", "min", "max", "sorted", "list", "tuple", "all", "any", "set", "str", "isinstance", "range", "enumerate", "zip", "dict", "reversed", "LookupError", "ValueError", "KeyError", "IndexError"]
/-- a def's promise: what its text gives -/
def spD (K : PySem.W.Frag) (F : List D → R D) : Sp := fun vs H Q _ => ∃ as Fr, vs.length = as.length ∧ Rel K H (vs.zip as ++ Fr) ∧
  match F as with
  | .ok d ps => ∀ v H' rs, Sl (vs.map some) ps rs → Rel K H' ((v, d) :: (rs ++ Fr)) → Q v H'
  | _ => False
/-- the defs at the names nm keep their promises -/
structure Nx where
  x : Str
  n : Nat
  ps : List Str
  ks : List (List Str)
structure Nm where
  fn : List Nx
  xs : List Y.Xn
def ixOf (ks ps : List Str) : List Nat := ps.map fun p => ks.idxOf p
/-- no positional value, all by keyword -/
def kg {α : Type} (ix : List Nat) (n : Nat) (us ws : List α) : List α := if us.isEmpty && ws.length == n then reo ix ws else []
def FnT (P : Program) (w : World) (K : PySem.W.Frag) (mg : Str → Option Value) (base : Heap) (k : Nat) (T : Tab) (nm : Nm) : Prop :=
  ∀ i x n ps kk, nm.fn[i]? = some ⟨x, n, ps, kk⟩ → ∃ f fd, ps.length = n ∧ (∀ ks ∈ kk, KBinds K fd ps ks (kg (ixOf ks ps) ks.length) (kg (ixOf ks ps) ks.length)) ∧ mg x = some (.ref f) ∧ PySem.W.keepIn K (.ref f) = true ∧ Binds K fd ps [] ∧
    FnOk P w K mg base CX0 (k + 2) f fd ps (fun vs H Q E => vs.length = n ∧ spD K (T i) vs H Q E)
structure Gd (X : Cx) (T : Tab) (nm : Nm) (k : Nat) : Prop where
  calm : X.calm = true
  nd : X.N.Nodup
  hu : X.A.units + 65 < cLine
  room : Room (k + 2) X.A
  bt : ∀ x ∈ bNames, X.mg x = none
  fn : FnT X.prog X.w X.K X.mg X.base k T nm
  xc : ∀ x ∈ nm.xs, Y.XOk X.prog X.w X.K X.mg X.base nm.xs x
section
variable {K : PySem.W.Frag} {H : Hp} {σ : L2.St}
theorem Sl.put' {e : Ev} {rs : Rt} {i : Nat} {v : V} (s : Sl σ e rs) (g : σ[i]? = some (some v)) (d : D) : ∃ dr r0 r1, rs.Perm (dr ++ r0) ∧ Sl σ (e.set i (some d)) r1 ∧ r1.Perm ((v, d) :: r0) := by
  have hi : i < σ.length := (List.getElem?_eq_some_iff.mp g).1
  obtain ⟨dr, r0, r1, h1, h2, h3⟩ := s.put (by rw [← s.len]; exact hi) v d
  have e1 : σ.set i (some v) = σ := by
    obtain ⟨_, h⟩ := List.getElem?_eq_some_iff.mp g
    rw [← h, List.set_getElem_self]
  rw [e1] at h2
  exact ⟨dr, r0, r1, h1, h2, h3⟩
theorem Sl.none' : ∀ {σ : L2.St} {e : Ev} {rs : Rt}, Sl σ e rs → ∀ i, ∃ dr r0, Sl σ (e.set i none) r0 ∧ rs.Perm (dr ++ r0)
  | _, _, _, .nil, _ => ⟨[], [], .nil, .refl _⟩
  | _, _, _, .skip s, 0 => ⟨[], _, .skip s, .refl _⟩
  | _, _, _, .has s, 0 => ⟨[_], _, .skip s, .refl _⟩
  | _, _, _, .skip s, i + 1 => by
    obtain ⟨dr, r0, h1, h2⟩ := s.none' i
    exact ⟨dr, r0, .skip h1, h2⟩
  | _, _, _, .has s, i + 1 => by
    obtain ⟨dr, r0, h1, h2⟩ := s.none' i
    exact ⟨dr, _, .has h1, (h2.cons _).trans List.perm_middle.symm⟩
theorem take_ok : ∀ {vs : List V} {xs : List (Sum D Nat)} {as : Rt} {e : Ev} {rs Fr : Rt} {ds : List D} {e1 : Ev}, Ar σ vs xs as → Sl σ e rs → Rel K H (as ++ (rs ++ Fr)) → takeB xs e = some (ds, e1) →
    vs.length = ds.length ∧ ∃ r1, Sl σ e1 r1 ∧ Rel K H (vs.zip ds ++ (r1 ++ Fr))
  | _, _, _, _, _, _, _, _, .nil, s, h, t => by
    cases t
    exact ⟨rfl, _, s, h⟩
  | _, _, _, e, rs, Fr, ds, e1, .own (v := v) (d := d) (xs := xs) (rs := as) g, s, h, t => by
    rw [takeB] at t
    obtain ⟨⟨l, e2⟩, ht, he⟩ := map_ok t
    injection he with h1 h2
    subst h1
    subst h2
    have h3 : Rel K H (as ++ (rs ++ (v, d) :: Fr)) := by
      have : Rel K H ((v, d) :: (as ++ rs ++ Fr)) := by rw [List.append_assoc]; exact h
      rw [← List.append_assoc]
      exact this.mid
    obtain ⟨l1, r1, s1, q⟩ := take_ok g s h3 ht
    exact ⟨congrArg (· + 1) l1, r1, s1, q.mid2⟩
  | _, _, _, e, rs, Fr, ds, e1, .bor (v := v) (i := i) (xs := xs) (rs := as) gi g, s, h, t => by
    rw [takeB] at t
    cases hd : rd i e with
    | none => rw [hd] at t; cases t
    | some d =>
      rw [hd] at t
      obtain ⟨⟨l, e2⟩, ht, he⟩ := map_ok t
      injection he with h1 h2
      subst h1
      subst h2
      obtain ⟨v', r0, g', pm, _, r2, s2, q2⟩ := s.get hd
      rw [gi] at g'
      cases g'
      have h3 : Rel K H (as ++ (r2 ++ (v, d) :: Fr)) := by
        refine h.perm (List.Perm.append_left as ?_)
        refine (pm.append_right Fr).trans ?_
        refine List.Perm.trans ?_ List.perm_middle.symm
        exact (q2.symm.append_right Fr).cons _
      obtain ⟨l1, r1, s1, q⟩ := take_ok g s2 h3 ht
      exact ⟨congrArg (· + 1) l1, r1, s1, q.mid2⟩
theorem put_ok : ∀ {vs : List V} {xs : List (Sum D Nat)} {as : Rt} {ps e : Ev} {rp rs Fr : Rt}, Ar σ vs xs as → Sl (vs.map some) ps rp → Sl σ e rs → Rel K H (rp ++ (rs ++ Fr)) →
    ∃ r2, Sl σ (putB xs ps e) r2 ∧ Rel K H (r2 ++ Fr)
  | _, _, _, _, _, _, _, _, .nil, .nil, s, h => ⟨_, s, h⟩
  | _, _, _, _, _, _, _, _, .own g, .skip p, s, h => by
    rw [putB]
    exact put_ok g p s h
  | _, _, _, _, _, _, _, _, .own g, .has p, s, h => by
    rw [putB]
    exact put_ok g p s h.tail
  | _, _, _, _, _, _, _, _, .bor (i := i) gi g, .skip p, s, h => by
    rw [putB]
    obtain ⟨r2, s2, h2⟩ := put_ok g p s h
    obtain ⟨dr, r0, s3, q⟩ := s2.none' i
    refine ⟨r0, s3, ?_⟩
    have h3 := h2.left q
    rw [List.append_assoc] at h3
    exact h3.cut
  | _, _, _, _, _, _, rs, Fr, .bor (v := v) (i := i) gi g, .has (d := d) (rs := rp) p, s, h => by
    rw [putB]
    have h1 : Rel K H (rp ++ (rs ++ (v, d) :: Fr)) := by
      have h0 : Rel K H ((v, d) :: (rp ++ rs ++ Fr)) := by rw [List.append_assoc]; exact h
      rw [← List.append_assoc]
      exact h0.mid
    obtain ⟨r2, s2, h2⟩ := put_ok g p s h1
    obtain ⟨dr, r0, r1, q1, s3, q2⟩ := s2.put' gi d
    refine ⟨r1, s3, ?_⟩
    have h3 := h2.left q1
    rw [List.append_assoc] at h3
    exact (h3.cut).dim.perm (q2.symm.append_right Fr)
end
section
variable {X : Cx} {T : Tab} {nm : Nm} {k : Nat} {pos p : Pos} {ea eb : Expr} {es : List Expr} {a b : E} {r : Es}
theorem fn_i {i : Nat} {n : Nat} {sp : Sp} (hsp : sp = fun vs H Q E => vs.length = n ∧ spD X.K (T i) vs H Q E) (hl : ∀ e xs e1 ds e2, dEs T r e = .ok xs e1 → takeB xs e1 = some (ds, e2) → ds.length = n) {σ : L2.St} {H : Hp} {Q : VK}
    (g : tE X.K T (.fn i r) σ H Q) : tCall sp [] E0 (tA X.K T r) σ H Q := by
  obtain ⟨e, rs, Fr, s, h, w⟩ := g
  rw [dE] at w
  refine useA wd_p w s h fun xs e1 vs H1 rs1 as he w1 s1 g h1 => ?_
  cases ht : takeB xs e1 with
  | none => rw [ht] at w1; exact w1.elim
  | some pr =>
    obtain ⟨ds, e2⟩ := pr
    rw [ht] at w1
    dsimp only at w1
    obtain ⟨l1, r1, s2, h2⟩ := take_ok g s1 h1 ht
    rw [List.append_nil, hsp]
    refine ⟨by rw [l1]; exact hl _ _ _ _ _ he ht, ds, r1 ++ Fr, l1, h2, ?_⟩
    cases hT : T i ds with
    | ok d ps =>
      rw [hT] at w1
      intro v H' rp sp' hp
      have hp2 : Rel X.K H' (rp ++ (r1 ++ (v, d) :: Fr)) := by
        have h0 : Rel X.K H' ((v, d) :: (rp ++ r1 ++ Fr)) := by rw [List.append_assoc]; exact hp
        rw [← List.append_assoc]
        exact h0.mid
      obtain ⟨r2, s3, h3⟩ := put_ok g sp' s2 hp2
      exact w1 v H' r2 s3 h3.dim
    | ex x ps => rw [hT] at w1; exact w1.elim
    | no => rw [hT] at w1; exact w1.elim
/-- how many arguments a text has -/
def Es.len : Es → Nat
  | .nil => 0
  | .cons _ r => r.len + 1
  | .raw _ r => r.len + 1
  | .bw _ r => r.len + 1
theorem dEs_len : ∀ {r : Es} {e : Ev} {xs e1}, dEs T r e = .ok xs e1 → xs.length = r.len
  | .nil, e, xs, e1, h => by
    rw [dEs] at h
    injection h with h _
    rw [← h]
    rfl
  | .cons a r, e, xs, e1, h => by
    rw [dEs] at h
    obtain ⟨_, _, _, h⟩ := bind_ok h
    obtain ⟨ds, _, h1, h⟩ := bind_ok h
    injection h with h _
    rw [← h, List.length_cons, dEs_len h1]
    rfl
  | .raw a r, e, xs, e1, h => by
    rw [dEs] at h
    obtain ⟨_, _, _, h⟩ := bind_ok h
    obtain ⟨ds, _, h1, h⟩ := bind_ok h
    injection h with h _
    rw [← h, List.length_cons, dEs_len h1]
    rfl
  | .bw i r, e, xs, e1, h => by
    rw [dEs] at h
    cases hd : rd i e with
    | none => rw [hd] at h; cases h
    | some d =>
      rw [hd] at h
      obtain ⟨ds, _, h1, h⟩ := bind_ok h
      injection h with h _
      rw [← h, List.length_cons, dEs_len h1]
      rfl
theorem take_len : ∀ {xs : List (Sum D Nat)} {e : Ev} {ds e1}, takeB xs e = some (ds, e1) → ds.length = xs.length
  | [], e, ds, e1, h => by cases h; rfl
  | .inl d :: r, e, ds, e1, h => by
    rw [takeB] at h
    obtain ⟨⟨l, e2⟩, ht, he⟩ := map_ok h
    injection he with h1 h2
    rw [← h1, List.length_cons, List.length_cons, take_len ht]
  | .inr i :: r, e, ds, e1, h => by
    rw [takeB] at h
    cases hd : rd i e with
    | none => rw [hd] at h; cases h
    | some d =>
      rw [hd] at h
      obtain ⟨⟨l, e2⟩, ht, he⟩ := map_ok h
      injection he with h1 h2
      rw [← h1, List.length_cons, List.length_cons, take_len ht]
theorem z_fn (G : Gd X T nm k) {i : Nat} {x : Str} {n : Nat} {ps : List Str} {kk : List (List Str)} (hi : nm.fn[i]? = some ⟨x, n, ps, kk⟩) (hn : r.len = n) (hg : Gl X x) (hd : (x == ("__debug__" : Str)) = false) (hp : (ea :: es).all plainE = true) (ha : PA X (ea :: es) (tA X.K T r)) :
    PE X (.Call (.Name x p) (ea :: es) [] pos) (tE X.K T (.fn i r)) := by
  obtain ⟨f, fd, hl, _, hm, hk, hb, F⟩ := G.fn i x n ps kk hi
  simp only [List.all_cons, Bool.and_eq_true] at hp
  refine imp (pe_call F G.room hg hm hk hb .nil pass0 ha hd (star_cons hp.1) (star_none hp.2)) fun σ H Q g => ?_
  exact fn_i rfl (fun e xs e1 ds e2 h1 h2 => by rw [take_len h2, dEs_len h1, hn]) g
theorem z_fn0 (G : Gd X T nm k) {i : Nat} {x : Str} {ps : List Str} {kk : List (List Str)} (hi : nm.fn[i]? = some ⟨x, 0, ps, kk⟩) (hg : Gl X x) (hd : (x == ("__debug__" : Str)) = false) :
    PE X (.Call (.Name x p) [] [] pos) (tE X.K T (.fn i .nil)) := by
  obtain ⟨f, fd, hl, _, hm, hk, hb, F⟩ := G.fn i x 0 ps kk hi
  refine imp (pe_call0 F G.room hg hm hk hb .nil pass0 hd) fun σ H Q g => ?_
  have g2 := fn_i (r := .nil) (T := T) rfl (fun e xs e1 ds e2 h1 h2 => by rw [take_len h2, dEs_len h1, Es.len]) g
  obtain ⟨e, rs, Fr, s, h, w⟩ := g2
  exact w [] H rs [] s .nil h
/-! ### built-in calls by name -/
def biN : Bi → Str
  | .len => "len" | .abs => "abs" | .int => "int" | .bool => "bool" | .sum => "sum" | .min => "min" | .max => "max"
  | .sorted => "sorted" | .list => "list" | .tuple => "tuple" | .all => "all" | .any => "any" | .set => "set" | .sortset => "sorted"
def biOk : Bi → Bool
  | .len | .abs | .int | .sum | .min | .max | .list | .tuple | .all | .any => true
  | _ => false
theorem bi_i {c : Bi} {σ : L2.St} {H : Hp} {Q : VK} (g : tE X.K T (.bi c r) σ H Q) : tCB (rBi X.K c) (tA X.K T r) σ H Q := by
  obtain ⟨e, rs, Fr, s, h, w⟩ := g
  rw [dE] at w
  refine useA wd_p w s h fun xs e1 vs H1 rs1 as _ w1 s1 g h1 => ?_
  obtain ⟨d, hd, w2⟩ := ofO_ok w1
  cases ha1 : args1 xs with
  | none => rw [ha1] at hd; cases hd
  | some l =>
    rw [ha1] at hd
    obtain ⟨l1, rfl⟩ := g.all ha1
    exact ⟨l, rs1 ++ Fr, d, l1, h1, hd, fun v H' h' => w2 v H' rs1 s1 h'⟩
theorem z_bi (G : Gd X T nm k) {c : Bi} {x : Str} (hx : x = biN c) (ho : biOk c = true) (hg : Gl X x) (hp : (ea :: es).all plainE = true) (ha : PA X (ea :: es) (tA X.K T r)) : PE X (.Call (.Name x p) (ea :: es) [] pos) (tE X.K T (.bi c r)) := by
  subst hx
  simp only [List.all_cons, Bool.and_eq_true] at hp
  cases c with
  | len => exact imp (pe_callB bi_len hg (G.bt _ (by decide)) (by decide +kernel) ha (by decide) (by decide) (star_cons hp.1) (star_none hp.2)) fun σ H Q => bi_i
  | abs => exact imp (pe_callB bi_abs hg (G.bt _ (by decide)) (by decide +kernel) ha (by decide) (by decide) (star_cons hp.1) (star_none hp.2)) fun σ H Q => bi_i
  | int => exact imp (pe_callTy bi_int hg (G.bt _ (by decide)) (by decide +kernel) ha (by decide) (by decide) (star_cons hp.1) (star_none hp.2)) fun σ H Q => bi_i
  | sum => exact imp (pe_callB (bi_sum G.calm) hg (G.bt _ (by decide)) (by decide +kernel) ha (by decide) (by decide) (star_cons hp.1) (star_none hp.2)) fun σ H Q => bi_i
  | min => exact imp (pe_callB (bi_min G.calm) hg (G.bt _ (by decide)) (by decide +kernel) ha (by decide) (by decide) (star_cons hp.1) (star_none hp.2)) fun σ H Q => bi_i
  | max => exact imp (pe_callB (bi_max G.calm) hg (G.bt _ (by decide)) (by decide +kernel) ha (by decide) (by decide) (star_cons hp.1) (star_none hp.2)) fun σ H Q => bi_i
  | list => exact imp (pe_callTy bi_list hg (G.bt _ (by decide)) (by decide +kernel) ha (by decide) (by decide) (star_cons hp.1) (star_none hp.2)) fun σ H Q => bi_i
  | tuple => exact imp (pe_callTy bi_tuple hg (G.bt _ (by decide)) (by decide +kernel) ha (by decide) (by decide) (star_cons hp.1) (star_none hp.2)) fun σ H Q => bi_i
  | all => exact imp (pe_callB (bi_all G.calm) hg (G.bt _ (by decide)) (by decide +kernel) ha (by decide) (by decide) (star_cons hp.1) (star_none hp.2)) fun σ H Q => bi_i
  | any => exact imp (pe_callB (bi_any G.calm) hg (G.bt _ (by decide)) (by decide +kernel) ha (by decide) (by decide) (star_cons hp.1) (star_none hp.2)) fun σ H Q => bi_i
  | _ => cases ho
/-- len of a name, left as it is -/
def rLn (K : PySem.W.Frag) : List V → Hp → VK → Prop := fun xs H Q => (∃ p ys, xs = [.ref p] ∧ (SqL K H p ys ∨ SqT K H p ys) ∧ Q (.int ys.length) H) ∨ ∃ z, xs = [.str z] ∧ z.length ≤ sizeLine ∧ Q (.int z.length) H
theorem cr_ln : CallR X (.builtin "len") (rLn X.K) := by
  intro pins s σ H vs us Q I r h
  rcases h with h | h
  · exact call_len_seq pins s σ H vs us Q I r h
  · exact call_len_str pins s σ H vs us Q I r h
theorem ln_i {K : PySem.W.Frag} {H : Hp} {rs : Rt} {v : V} {d z : D} {Q : VK} (h : Rel K H ((v, d) :: rs)) (e : biD .len [d] = some z) (q : ∀ n, z = .int n → Q (.int n) H) : rLn K [v] H Q := by
  cases d with
  | lst o ds =>
    obtain ⟨p, vs, rfl, g1, g2, g3⟩ := h.open
    refine .inl ⟨p, vs, rfl, .inl (.inl (.inl g1)), ?_⟩
    rw [g2]
    exact q _ (Option.some.inj e).symm
  | tup ds =>
    obtain ⟨p, vs, rfl, g1, g2, g3⟩ := h.openT
    refine .inl ⟨p, vs, rfl, .inr g1, ?_⟩
    rw [g2]
    exact q _ (Option.some.inj e).symm
  | lck ds =>
    obtain ⟨Hk, fp, s', o, n, k⟩ := h
    cases o with
    | cons g r' =>
      cases g with
      | sh g =>
        cases g with
        | lck g1 g2 =>
          refine .inl ⟨_, _, rfl, .inl (s'.lst g1), ?_⟩
          rw [(OwL.of_sh (H := H) g2).len]
          exact q _ (Option.some.inj e).symm
  | str t =>
    rw [biD] at e
    split at e
    · rename_i hz
      obtain rfl := h.str
      exact .inr ⟨t, rfl, sz hz, q _ (Option.some.inj e).symm⟩
    · cases e
  | _ => cases e
theorem z_lenv (G : Gd X T nm k) {i : Nat} {x y : Str} {p2 : Pos} (hx : x = "len") (hN : X.N[i]? = some y) (hv : Vis X.env.scope y) (h1 : (y == ("__debug__" : Str)) = false) (h2 : (y == ("__classdict__" : Str)) = false) (hg : Gl X x) :
    PE X (.Call (.Name x p) [.Name y p2] [] pos) (tE X.K T (.lenv i)) := by
  subst hx
  refine imp (pe_callB cr_ln hg (G.bt _ (by decide)) (by decide +kernel) (pa_cons (pe_var hN hv h1 h2) pa_nil rfl) (by decide) (by decide) rfl rfl) fun σ H Q ⟨e, rs, Fr, s, h, w⟩ => ?_
  rw [dE] at w
  cases hd : rd i e with
  | none => rw [hd] at w; exact w.elim
  | some d =>
    rw [hd] at w
    obtain ⟨z, hz, w2⟩ := ofO_ok w
    obtain ⟨v, r0, g, pm, _⟩ := s.get hd
    refine ⟨v, g, ln_i (h.left pm) hz fun n hn => ?_⟩
    subst hn
    exact w2 _ H rs s h.addI

/-! ### isinstance -/
def tyN : Ty → String
  | .non => "NoneType" | .bool => "bool" | .int => "int" | .str => "str" | .list => "list" | .tuple => "tuple" | .dict => "dict"
/-- the types that are written by a name -/
def tyOk : Ty → Bool
  | .non => false
  | _ => true
theorem kit_b : ∀ s t : Ty, tyOk t = true → kitB (tyN s) (tyN t) = some (tyB s t) := by
  intro s t h
  cases s <;> cases t <;> first | decide +kernel | exact absurd h (by decide)
theorem ty_d {K : PySem.W.Frag} {H : Hp} {rs : Rt} {v : V} {d : D} {s : Ty} (h : Rel K H ((v, d) :: rs)) (e : tyOf d = some s) : TyX K H v (.type (tyN s)) := by
  cases d with
  | non =>
    obtain rfl := h.non
    cases e
    exact .base .non
  | bl x =>
    obtain rfl := h.bl
    cases e
    exact .base (.bl _)
  | int x =>
    obtain rfl := h.int
    cases e
    exact .base (.int _)
  | str x =>
    obtain rfl := h.str
    cases e
    exact .base (.str _)
  | tup x =>
    obtain ⟨p, vs, rfl, g1, g2, g3⟩ := h.openT
    cases e
    rcases g1 with (g | ⟨o, g⟩) | ⟨o, _, _, g, c, _⟩
    · exact .base (.tup g)
    · exact .fTuple g
    · exact .kTuple g c
  | lst o x =>
    obtain ⟨p, vs, rfl, g1, g2, g3⟩ := h.open
    cases e
    exact .base (.lst g1)
  | _ => cases e
theorem isi_i {σ : L2.St} {H : Hp} {Q : VK} {t : Ty} (ht : tyOk t = true) {o : Bool} (g : tE X.K T (.isi a [t] o) σ H Q) : tCB (rIsi X.K) (tCons (tE X.K T a) (tCons (tC (.ty (tyN t))) tNil)) σ H Q := by
  obtain ⟨e, rs, Fr, s, h, w⟩ := g
  rw [dE] at w
  refine use wd_p w s h fun da e1 v H1 rs1 _ w1 s1 h1 => ?_
  obtain ⟨d, hd, w2⟩ := ofO_ok w1
  obtain ⟨b, hb, rfl⟩ := map_ok hd
  obtain ⟨y, hy, rfl⟩ := map_ok hb
  refine ⟨v, _, _, _, _, rfl, .ty _, ty_d h1 hy, kit_ty (kit_b y t ht), ?_⟩
  have q := w2 _ H1 rs1 s1 h1.tail.addB
  simpa using q
theorem kit_any {K : PySem.W.Frag} (s : Ty) : ∀ ts : List Ty, ts.all tyOk = true → ts ≠ [] → PySem.W.kitAny K (.type (tyN s)) (ts.map fun t => Value.type (tyN t)) = some (ts.any fun t => tyB s t)
  | [t], h, _ => by
    simp only [List.all_cons, List.all_nil, Bool.and_true] at h
    refine kitAny_cons (kit_ty (kit_b s t h)) (fun z => ?_) fun z => ?_
    · simp [z, PySem.W.kitAny]
    · simp [z]
  | t :: t' :: ts, h, _ => by
    simp only [List.all_cons, Bool.and_eq_true] at h
    refine kitAny_cons (kit_ty (kit_b s t h.1)) (fun z => ?_) fun z => ?_
    · rw [List.any_cons, z, Bool.false_or]
      exact kit_any s (t' :: ts) (by simp [h.2]) (by simp)
    · simp [z]
def tTys : List Ty → TA
  | [] => tNil
  | t :: r => tCons (tC (.ty (tyN t))) (tTys r)
theorem tys_i : ∀ {ts : List Ty} {σ : L2.St} {H : Hp} {Q : List V → Hp → Prop}, Q (ts.map fun t => V.ty (tyN t)) H → tTys ts σ H Q
  | [], _, _, _, q => q
  | t :: r, _, _, _, q => tys_i (ts := r) q
theorem cls_all : ∀ ts : List Ty, Paired ClsV (ts.map fun t => V.ty (tyN t)) (ts.map fun t => Value.type (tyN t))
  | [] => .nil
  | t :: r => .cons (.ty _) (cls_all r)
theorem isiT_i {σ : L2.St} {H : Hp} {Q : VK} {ts : List Ty} (ht : ts.all tyOk = true) (hn : ts ≠ []) (hz : ts.length ≤ big) {o : Bool} (g : tE X.K T (.isi a ts o) σ H Q) : tCB (rIsiT X.K) (tCons (tE X.K T a) (tCons (tTup (tTys ts)) tNil)) σ H Q := by
  obtain ⟨e, rs, Fr, s, h, w⟩ := g
  rw [dE] at w
  refine use wd_p w s h fun da e1 v H1 rs1 _ w1 s1 h1 => ?_
  obtain ⟨d, hd, w2⟩ := ofO_ok w1
  obtain ⟨b, hb, rfl⟩ := map_ok hd
  obtain ⟨y, hy, rfl⟩ := map_ok hb
  refine tys_i ⟨by rw [List.length_map]; exact sz hz, fun p hp => ?_⟩
  exact ⟨v, p, _, _, _, _, rfl, upd_same, cls_all ts, ty_d (h1.new hp) hy, kit_any y ts ht hn, w2 _ _ rs1 s1 (h1.tail.new hp).addB⟩
/-- a type's name, written -/
theorem z_ty (G : Gd X T nm k) {t : Ty} {x : Str} (hx : x = tyN t) (ht : tyOk t = true) (hg : Gl X x) : PE X (.Name x pos) (tC (.ty (tyN t))) := by
  subst hx
  cases t with
  | non => cases ht
  | bool => exact pe_bltn hg (G.bt _ (by decide)) boot_bool rfl (by decide) (by decide)
  | int => exact pe_bltn hg (G.bt _ (by decide)) boot_int rfl (by decide) (by decide)
  | str => exact pe_bltn hg (G.bt _ (by decide)) boot_str rfl (by decide) (by decide)
  | list => exact pe_bltn hg (G.bt _ (by decide)) boot_list rfl (by decide) (by decide)
  | tuple => exact pe_bltn hg (G.bt _ (by decide)) boot_tuple rfl (by decide) (by decide)
  | dict => exact pe_bltn hg (G.bt _ (by decide)) boot_dict rfl (by decide) (by decide)
theorem z_isi (G : Gd X T nm k) {x y : Str} {p2 : Pos} {t : Ty} (hx : x = "isinstance") (hg : Gl X x) (hp : plainE ea = true) (ha : PE X ea (tE X.K T a)) (hy : y = tyN t) (ht : tyOk t = true) (hgy : Gl X y) :
    PE X (.Call (.Name x p) [ea, .Name y p2] [] pos) (tE X.K T (.isi a [t] true)) := by
  subst hx
  exact imp (pe_callB call_isi hg (G.bt _ (by decide)) (by decide +kernel) (pa_cons ha (pa_cons (z_ty G hy ht hgy) pa_nil rfl) (star_cons hp)) (by decide) (by decide) (star_cons hp) (star_none (by simp [hp, plainE]))) fun σ H Q => isi_i ht
theorem z_isiT (G : Gd X T nm k) {x : Str} {kk : Nat} {p2 : Pos} {ts : List Ty} (hx : x = "isinstance") (hg : Gl X x) (hp : plainE ea = true) (ha : PE X ea (tE X.K T a)) (hts : PA X es (tTys ts)) (ht : ts.all tyOk = true) (hn : ts ≠ []) (hz : ts.length ≤ big) :
    PE X (.Call (.Name x p) [ea, .Tuple es kk p2] [] pos) (tE X.K T (.isi a ts false)) := by
  subst hx
  exact imp (pe_callB call_isiT hg (G.bt _ (by decide)) (by decide +kernel) (pa_cons ha (pa_cons (pe_tup hts) pa_nil rfl) (star_cons hp)) (by decide) (by decide) (star_cons hp) (star_none (by simp [hp, plainE]))) fun σ H Q => isiT_i ht hn hz
end
end Z

set_option Elab.async false
set_option linter.all false
set_option autoImplicit false
set_option maxRecDepth 100000
set_option maxHeartbeats 2000000
/-! Z9: targets; what is walked; list comprehensions. -/
namespace Z
open PySem PySem.Spec PyProof.Rows L2

/-! ### targets -/
mutual
  def Tg.slots : Tg → List Nat
    | .n i => [i]
    | .t ts => ts.slots
  def Tgs.slots : Tgs → List Nat
    | .nil => []
    | .cons t r => t.slots ++ r.slots
end
/-- the slots outside of ss are as they were -/
def Eqx (ss : List Nat) (σ σ' : L2.St) : Prop := σ'.length = σ.length ∧ ∀ j : Nat, j ∉ ss → σ'[j]? = σ[j]?
theorem Eqx.rfl {ss : List Nat} {σ : L2.St} : Eqx ss σ σ := ⟨_root_.rfl, fun _ _ => _root_.rfl⟩
theorem Eqx.tr {s1 s2 : List Nat} {σ σ' σ'' : L2.St} (a : Eqx s1 σ σ') (b : Eqx s2 σ' σ'') : Eqx (s1 ++ s2) σ σ'' :=
  ⟨b.1.trans a.1, fun j hj => (b.2 j fun z => hj (List.mem_append_right _ z)).trans (a.2 j fun z => hj (List.mem_append_left _ z))⟩
theorem Eqx.set {σ : L2.St} {i : Nat} {v : Option V} : Eqx [i] σ (σ.set i v) :=
  ⟨List.length_set, fun j hj => List.getElem?_set_ne (fun z => hj (by simp [z]))⟩
section
variable (K : PySem.W.Frag)
def tG (t : Tg) : TG := fun v σ H Q => ∃ e rs Fr d e', Sl σ e rs ∧ Rel K H ((v, d) :: (rs ++ Fr)) ∧ setT t d e = some e' ∧ ∀ σ' H' rs', Eqx t.slots σ σ' → Sl σ' e' rs' → Rel K H' (rs' ++ Fr) → Q σ' H'
def tGs (t : Tgs) : TGs := fun vs σ H Q => ∃ e rs Fr ds e', vs.length = ds.length ∧ Sl σ e rs ∧ Rel K H (vs.zip ds ++ (rs ++ Fr)) ∧ setTs t ds e = some e' ∧ ∀ σ' H' rs', Eqx t.slots σ σ' → Sl σ' e' rs' → Rel K H' (rs' ++ Fr) → Q σ' H'
end
theorem impG {X : Cx} {e : Expr} {t t' : TG} (h : PG X e t) (i : ∀ v σ H Q, t' v σ H Q → t v σ H Q) : PG X e t' :=
  ⟨fun a b c d v u q j r w => h.run a b c d v u q j r (i _ _ _ _ w)⟩
theorem impGs {X : Cx} {e : List Expr} {t t' : TGs} (h : PGs X e t) (i : ∀ v σ H Q, t' v σ H Q → t v σ H Q) : PGs X e t' :=
  ⟨fun a b c d v u q j r w => h.run a b c d v u q j r (i _ _ _ _ w)⟩
theorem swap3 {α : Type} {a b c : List α} : (a ++ (b ++ c)).Perm (b ++ (a ++ c)) := by
  rw [← List.append_assoc, ← List.append_assoc]
  exact List.Perm.append_right _ List.perm_append_comm
section
variable {X : Cx} {pos : Pos} {eg : Expr} {es : List Expr} {t : Tg} {ts : Tgs}
/-- a root beside the slots is stored in one -/
theorem Rel.store {K : PySem.W.Frag} {H : Hp} {σ : L2.St} {e : Ev} {rs Fr : Rt} {v : V} {d : D} {i : Nat} (s : Sl σ e rs) (h : Rel K H ((v, d) :: (rs ++ Fr))) (hi : i < e.length) :
    ∃ r1, Sl (σ.set i (some v)) (e.set i (some d)) r1 ∧ Rel K H (r1 ++ Fr) := by
  obtain ⟨dr, r0, r1, p, s1, q⟩ := s.put hi v d
  refine ⟨r1, s1, ?_⟩
  have h2 : Rel K H (dr ++ ((v, d) :: (r0 ++ Fr))) := by
    refine Rel.mid (h.perm (.cons _ ?_))
    rw [← List.append_assoc]
    exact p.append_right Fr
  exact h2.cut.perm (q.symm.append_right Fr)
theorem zg_n {i : Nat} {x : Str} (hN : X.N.Nodup) (hi : X.N[i]? = some x) (hx : Loc X.env.scope x) (hf : X.fn x = true ∨ X.env.scope.names.lookup x = some .local) : PG X (.Name x pos) (tG X.K (.n i)) := by
  refine impG (pg_name hN hi hx hf) fun v σ H Q ⟨e, rs, Fr, d, e', s, h, w, q⟩ => ?_
  rw [setT] at w
  split at w
  · rename_i hl
    cases w
    obtain ⟨r1, s1, h1⟩ := Rel.store s h hl
    exact q _ H r1 (by rw [Tg.slots]; exact .set) s1 h1
  · cases w
theorem zgs_nil : PGs X [] (tGs X.K .nil) := by
  refine impGs pgs_nil fun vs σ H Q ⟨e, rs, Fr, ds, e', l, s, h, w, q⟩ => ?_
  cases ds with
  | nil =>
    cases vs with
    | nil =>
      cases w
      exact ⟨rfl, q σ H rs .rfl s h⟩
    | cons _ _ => cases l
  | cons _ _ => cases w
theorem assign_cons {e : Expr} {es : List Expr} {env : Env} (h : plainE e = true) : (assignEach (e :: es) env).map (·.2) = assign e env :: (assignEach es env).map (·.2) := by
  cases e <;> first | rfl | cases h
theorem zgs_cons (hp : plainE eg = true) (h1 : PG X eg (tG X.K t)) (h2 : PGs X es (tGs X.K ts)) : PGs X (eg :: es) (tGs X.K (.cons t ts)) := by
  refine impGs (pgs_cons h1 h2 (assign_cons hp)) fun vs σ H Q ⟨e, rs, Fr, ds, e', l, s, h, w, q⟩ => ?_
  cases ds with
  | nil => cases w
  | cons d ds =>
    cases vs with
    | nil => cases l
    | cons v vs =>
      rw [setTs] at w
      cases hd : setT t d e with
      | none => rw [hd] at w; cases w
      | some e1 =>
        rw [hd] at w
        refine ⟨v, vs, rfl, e, rs, vs.zip ds ++ Fr, d, e1, s, ?_, hd, fun σ1 H1 r1 x1 s1 g1 => ?_⟩
        · have h0 : Rel X.K H ((v, d) :: (vs.zip ds ++ (rs ++ Fr))) := h
          exact h0.perm (.cons _ swap3)
        · exact ⟨e1, r1, Fr, ds, e', Nat.succ.inj l, s1, g1.perm swap3, w, fun σ2 H2 r2 x2 => q σ2 H2 r2 (by rw [Tgs.slots]; exact x1.tr x2)⟩
theorem assign_len {env : Env} : ∀ {es : List Expr}, es.all plainE = true → (assignEach es env).length = es.length ∧ (assignEach es env).findIdx? (·.1) = none
  | [], _ => ⟨rfl, rfl⟩
  | e :: es, h => by
    simp only [List.all_cons, Bool.and_eq_true] at h
    obtain ⟨h1, h2⟩ := assign_len (env := env) h.2
    have e1 : ∃ z, assignEach (e :: es) env = (false, z) :: assignEach es env := by
      have hp := h.1
      cases e <;> first | exact ⟨_, rfl⟩ | cases hp
    obtain ⟨z, e1⟩ := e1
    rw [e1]
    exact ⟨congrArg (· + 1) h1, by simp [List.findIdx?_cons, h2]⟩
def Tgs.len : Tgs → Nat
  | .nil => 0
  | .cons _ r => r.len + 1
theorem setTs_len : ∀ {ts : Tgs} {ds : List D} {e e' : Ev}, setTs ts ds e = some e' → ds.length = ts.len
  | .nil, [], _, _, _ => rfl
  | .nil, _ :: _, _, _, h => by cases h
  | .cons _ _, [], _, _, h => by cases h
  | .cons t r, d :: ds, e, e', h => by
    rw [setTs] at h
    cases hd : setT t d e with
    | none => rw [hd] at h; cases h
    | some e1 =>
      rw [hd] at h
      rw [List.length_cons, setTs_len h]
      rfl
theorem zg_t {k : Nat} (hc : X.calm = true) (hp : es.all plainE = true) (hl : es.length = ts.len) (h : PGs X es (tGs X.K ts)) : PG X (.Tuple es k pos) (tG X.K (.t ts)) := by
  refine impG (pg_tup hc h (assign_len hp).1 (assign_len hp).2) fun v σ H Q ⟨e, rs, Fr, d, e', s, h, w, q⟩ => ?_
  cases d with
  | tup ds =>
    rw [setT] at w
    obtain ⟨a, vs, rfl, g1, g2, g3⟩ := h.openT
    exact ⟨a, vs, rfl, g1, by rw [g2, setTs_len w, hl], e, rs, Fr, ds, e', g2, s, g3, w, fun σ2 H2 r2 x2 => q σ2 H2 r2 (by rw [Tg.slots]; exact x2)⟩
  | _ => cases w
end

/-! ### what is walked -/
/-- an iterator that gives the items ds while the roots src stand -/
structure Wk (K : PySem.W.Frag) (J : L2.It) (ds : List D) (src : Rt) : Prop where
  goes : ∀ i H rs, i < ds.length → Rel K H (src ++ rs) → J.go i H
  stops : ∀ H rs, Rel K H (src ++ rs) → J.stop ds.length H
  yields : ∀ i H x H' rs, Rel K H (src ++ rs) → J.yld i H x H' → ∀ d, ds[i]? = some d → Rel K H' ((x, d) :: (src ++ rs))
theorem isFL_at : ∀ {ds : List D} {n : Nat} {d : D}, isFL ds = true → ds[n]? = some d → frz d = d
  | [], _, _, _, h => by simp at h
  | z :: r, 0, d, f, h => by
    cases h
    simp only [isFL, Bool.and_eq_true] at f
    exact isF_frz f.1
  | z :: r, n + 1, d, f, h => by
    simp only [isFL, Bool.and_eq_true] at f
    exact isFL_at f.2 (by simpa using h)
section
variable {K : PySem.W.Frag}
/-- one more name for an item that is shared -/
theorem Rel.of_sh {H Hk : Hp} {rs : Rt} {fp : List Addr} {v : V} {d : D} (s : Sub Hk H) (q : OwR K H Hk rs fp) (n : fp.Nodup) (k : ∀ a ∈ fp, Hk a = none) (sh : Sh K Hk v d) : Rel K H ((v, d) :: rs) :=
  ⟨Hk, [] ++ fp, s, .cons (.sh sh) q, n, k⟩
theorem wk_list {a : Addr} {o : Bool} {ds : List D} (f : isFL ds = true) : Wk K (Itl K a) ds [(.ref a, .lst o ds)] where
  goes := fun i H rs hi h => by
    obtain ⟨p, vs, e, g1, g2, _⟩ := Rel.open h
    cases e
    exact ⟨vs, vs[i]'(by omega), .inl (.inl g1), List.getElem?_eq_getElem _⟩
  stops := fun H rs h => by
    obtain ⟨p, vs, e, g1, g2, _⟩ := Rel.open h
    cases e
    exact ⟨vs, .inl (.inl g1), by omega⟩
  yields := fun i H x H' rs h y d hd => by
    obtain ⟨rfl, y⟩ := y
    obtain ⟨Hk, fp, s, q, n, k⟩ := h
    have q0 := q
    cases q with
    | cons g r =>
      obtain ⟨p, vs, gg, e, h1, h2, _⟩ := g.lst' s
      cases e
      obtain ⟨v, hv, sh⟩ := h2.at' hd (isFL_at f hd)
      have e := y vs (.inl (.inl h1))
      rw [hv] at e
      cases e
      exact Rel.of_sh s q0 n k sh
theorem wk_tup {a : Addr} {ds : List D} (f : isFL ds = true) : Wk K (Itt K a) ds [(.ref a, .tup ds)] where
  goes := fun i H rs hi h => by
    obtain ⟨p, vs, e, g1, g2, _⟩ := Rel.openT h
    cases e
    exact ⟨vs, vs[i]'(by omega), g1, List.getElem?_eq_getElem _⟩
  stops := fun H rs h => by
    obtain ⟨p, vs, e, g1, g2, _⟩ := Rel.openT h
    cases e
    exact ⟨vs, g1, by omega⟩
  yields := fun i H x H' rs h y d hd => by
    obtain ⟨rfl, y⟩ := y
    obtain ⟨Hk, fp, s, q, n, k⟩ := h
    have q0 := q
    cases q with
    | cons g r =>
      obtain ⟨p, vs, e, h1, h2, _⟩ := g.tup' s
      cases e
      obtain ⟨v, hv, sh⟩ := (OwL.of_sh (H := H') h2).at' hd (isFL_at f hd)
      have e := y vs h1
      rw [hv] at e
      cases e
      exact Rel.of_sh s q0 n k sh
theorem Rel.lck {H : Hp} {v : V} {ds : List D} {rs : Rt} (h : Rel K H ((v, .lck ds) :: rs)) : ∃ a vs Hk fp, v = .ref a ∧ SqL K H a vs ∧ Sub Hk H ∧ ShL K Hk vs ds ∧ OwR K H Hk ((v, .lck ds) :: rs) fp ∧ fp.Nodup ∧ ∀ a ∈ fp, Hk a = none := by
  obtain ⟨Hk, fp, s, q, n, k⟩ := h
  have q0 := q
  cases q with
  | cons g r =>
    cases g with
    | sh g =>
      cases g with
      | lck g1 g2 => exact ⟨_, _, Hk, _, rfl, s.lst g1, s, g2, q0, n, k⟩
theorem wk_lck {a : Addr} {ds : List D} (f : isFL ds = true) : Wk K (Itl K a) ds [(.ref a, .lck ds)] where
  goes := fun i H rs hi h => by
    obtain ⟨p, vs, Hk, fp, e, g1, s, g2, _⟩ := Rel.lck h
    cases e
    have l := (OwL.of_sh (H := H) g2).len
    exact ⟨vs, vs[i]'(by omega), g1, List.getElem?_eq_getElem _⟩
  stops := fun H rs h => by
    obtain ⟨p, vs, Hk, fp, e, g1, s, g2, _⟩ := Rel.lck h
    cases e
    have l := (OwL.of_sh (H := H) g2).len
    exact ⟨vs, g1, by omega⟩
  yields := fun i H x H' rs h y d hd => by
    obtain ⟨rfl, y⟩ := y
    obtain ⟨p, vs, Hk, fp, e, g1, s, g2, q, n, k⟩ := Rel.lck h
    cases e
    obtain ⟨v, hv, sh⟩ := (OwL.of_sh (H := H') g2).at' hd (isFL_at f hd)
    have e := y vs g1
    rw [hv] at e
    cases e
    exact Rel.of_sh s q n k sh
theorem wk_str {z : Str} : Wk K (Its z) (z.cps.toList.map one) [] where
  goes := fun i H rs hi h => by
    rw [List.length_map, Array.length_toList] at hi
    exact hi
  stops := fun H rs h => by
    rw [List.length_map, Array.length_toList]
    exact Nat.le_refl _
  yields := fun i H x H' rs h y d hd => by
    obtain ⟨rfl, c, hc, rfl⟩ := y
    rw [List.getElem?_map, Array.getElem?_toList, hc] at hd
    cases hd
    exact Rel.addS h
theorem wk_rng {lo : Int} {n : Nat} : Wk K (Itr lo n) ((List.range n).map fun k => D.int (lo + Int.ofNat k)) [] where
  goes := fun i H rs hi h => by
    rw [List.length_map, List.length_range] at hi
    exact hi
  stops := fun H rs h => by
    rw [List.length_map, List.length_range]
    exact Nat.le_refl _
  yields := fun i H x H' rs h y d hd => by
    obtain ⟨rfl, rfl⟩ := y
    rw [List.getElem?_map] at hd
    cases hr : (List.range n)[i]? with
    | none => rw [hr] at hd; cases hd
    | some j =>
      rw [hr] at hd
      obtain ⟨_, e⟩ := List.getElem?_eq_some_iff.mp hr
      rw [List.getElem_range] at e
      subst e
      cases hd
      exact Rel.addI h
theorem Rel.pair {H : Hp} {x y : V} {a b : D} {T : Addr} {rs : Rt} (h : Rel K H ((x, a) :: (y, b) :: rs)) (fa : frz a = a) (fb : frz b = b) (n : H T = none) : Rel K (upd H T (.tup [x, y])) ((.ref T, .tup [a, b]) :: rs) :=
  Rel.newT (vs := [x, y]) (ds := [a, b]) h rfl (by rw [frzL, frzL, frzL, fa, fb]) n
theorem wk_enm {a : Addr} {o : Bool} {ds : List D} (f : isFL ds = true) : Wk K (Ite K a) (ds.mapIdx fun k d => .tup [.int (Int.ofNat k), d]) [(.ref a, .lst o ds)] where
  goes := fun i H rs hi h => by
    rw [List.length_mapIdx] at hi
    obtain ⟨p, vs, e, g1, g2, _⟩ := Rel.open h
    cases e
    exact ⟨vs, vs[i]'(by omega), .inl (.inl g1), List.getElem?_eq_getElem _⟩
  stops := fun H rs h => by
    obtain ⟨p, vs, e, g1, g2, _⟩ := Rel.open h
    cases e
    exact ⟨vs, .inl (.inl g1), by rw [List.length_mapIdx]; omega⟩
  yields := fun i H x H' rs h y d hd => by
    obtain ⟨T, u, rfl, hT, rfl, y⟩ := y
    obtain ⟨Hk, fp, s, q, n, k⟩ := h
    have q0 := q
    rw [List.getElem?_mapIdx] at hd
    obtain ⟨d', hd', rfl⟩ := map_ok hd
    cases q with
    | cons g r =>
      obtain ⟨p, vs, gg, e, h1, h2, _⟩ := g.lst' s
      cases e
      obtain ⟨v, hv, sh⟩ := h2.at' hd' (isFL_at f hd')
      have e := y vs (.inl (.inl h1))
      rw [hv] at e
      cases e
      exact Rel.pair (Rel.of_sh s q0 n k sh).addI rfl (isFL_at f hd') hT
theorem wk_enmK {a : Addr} {ds : List D} (f : isFL ds = true) : Wk K (Ite K a) (ds.mapIdx fun k d => .tup [.int (Int.ofNat k), d]) [(.ref a, .lck ds)] where
  goes := fun i H rs hi h => by
    rw [List.length_mapIdx] at hi
    obtain ⟨p, vs, Hk, fp, e, g1, s, g2, _⟩ := Rel.lck h
    cases e
    have l := (OwL.of_sh (H := H) g2).len
    exact ⟨vs, vs[i]'(by omega), g1, List.getElem?_eq_getElem _⟩
  stops := fun H rs h => by
    obtain ⟨p, vs, Hk, fp, e, g1, s, g2, _⟩ := Rel.lck h
    cases e
    have l := (OwL.of_sh (H := H) g2).len
    exact ⟨vs, g1, by rw [List.length_mapIdx]; omega⟩
  yields := fun i H x H' rs h y d hd => by
    obtain ⟨T, u, rfl, hT, rfl, y⟩ := y
    obtain ⟨p, vs, Hk, fp, e, g1, s, g2, q, n, k⟩ := Rel.lck h
    cases e
    rw [List.getElem?_mapIdx] at hd
    obtain ⟨d', hd', rfl⟩ := map_ok hd
    obtain ⟨v, hv, sh⟩ := (OwL.of_sh (H := H) g2).at' hd' (isFL_at f hd')
    have e := y vs g1
    rw [hv] at e
    cases e
    exact Rel.pair (Rel.of_sh s q n k sh).addI rfl (isFL_at f hd') hT
end
end Z

set_option Elab.async false
set_option linter.all false
set_option autoImplicit false
set_option maxRecDepth 100000
set_option maxHeartbeats 2000000
/-! Z10: iterators of texts; list comprehensions. -/
namespace Z
open PySem PySem.Spec PyProof.Rows L2 RZ
section
variable {K : PySem.W.Frag}
theorem opn {H : Hp} {a : Addr} {o : Bool} {ds : List D} {rs : Rt} (h : Rel K H ((.ref a, .lst o ds) :: rs)) : ∃ vs, H a = some (.lst vs) ∧ vs.length = ds.length := by
  obtain ⟨p, vs, e, g1, g2, _⟩ := Rel.open h
  cases e
  exact ⟨vs, g1, g2⟩
theorem opnT {H : Hp} {a : Addr} {ds : List D} {rs : Rt} (h : Rel K H ((.ref a, .tup ds) :: rs)) : ∃ vs, SqT K H a vs ∧ vs.length = ds.length := by
  obtain ⟨p, vs, e, g1, g2, _⟩ := Rel.openT h
  cases e
  exact ⟨vs, g1, g2⟩
/-- an item of a list that is a root, as a root of its own -/
theorem itemL {H : Hp} {a : Addr} {o : Bool} {ds : List D} {rs : Rt} {i : Nat} {d : D} {x : V} (h : Rel K H ((.ref a, .lst o ds) :: rs)) (hd : ds[i]? = some d) (f : frz d = d) (y : ∀ xs, SqL K H a xs → xs[i]? = some x) : Rel K H ((x, d) :: (.ref a, .lst o ds) :: rs) := by
  obtain ⟨Hk, fp, s, q, n, k⟩ := h
  have q0 := q
  cases q with
  | cons g r =>
    obtain ⟨p, vs, gg, e, h1, h2, _⟩ := g.lst' s
    cases e
    obtain ⟨v, hv, sh⟩ := h2.at' hd f
    have e := y vs (.inl (.inl h1))
    rw [hv] at e
    cases e
    exact Rel.of_sh s q0 n k sh
theorem itemT {H : Hp} {a : Addr} {ds : List D} {rs : Rt} {i : Nat} {d : D} {x : V} (h : Rel K H ((.ref a, .tup ds) :: rs)) (hd : ds[i]? = some d) (f : frz d = d) (y : ∀ xs, SqT K H a xs → xs[i]? = some x) : Rel K H ((x, d) :: (.ref a, .tup ds) :: rs) := by
  obtain ⟨Hk, fp, s, q, n, k⟩ := h
  have q0 := q
  cases q with
  | cons g r =>
    obtain ⟨p, vs, e, h1, h2, _⟩ := g.tup' s
    cases e
    obtain ⟨v, hv, sh⟩ := (OwL.of_sh (H := H) h2).at' hd f
    have e := y vs h1
    rw [hv] at e
    cases e
    exact Rel.of_sh s q0 n k sh
theorem wk_zip {a b : Addr} {o o' : Bool} {ds es : List D} (f : isFL ds = true) (g : isFL es = true) : Wk K (Itz K a b) ((ds.zip es).map fun z => D.tup [z.1, z.2]) [(.ref a, .lst o ds), (.ref b, .lst o' es)] where
  goes := fun i H rs hi h => by
    rw [List.length_map, List.length_zip] at hi
    obtain ⟨vs, g1, l1⟩ := opn h
    obtain ⟨us, g2, l2⟩ := opn (Rel.tail h)
    exact ⟨vs, us, vs[i]'(by omega), us[i]'(by omega), .inl (.inl g1), .inl (.inl g2), List.getElem?_eq_getElem _, List.getElem?_eq_getElem _⟩
  stops := fun H rs h => by
    obtain ⟨vs, g1, l1⟩ := opn h
    obtain ⟨us, g2, l2⟩ := opn (Rel.tail h)
    exact ⟨vs, us, .inl (.inl g1), .inl (.inl g2), by rw [List.length_map, List.length_zip]; omega⟩
  yields := fun i H x H' rs h y d hd => by
    obtain ⟨T, u, w, rfl, hT, rfl, y1, y2⟩ := y
    rw [List.getElem?_map] at hd
    obtain ⟨z, hz, rfl⟩ := map_ok hd
    obtain ⟨z1, z2⟩ := List.getElem?_zip_eq_some.mp hz
    have h1 := itemL (Rel.perm h (.swap _ _ _)) z2 (isFL_at g z2) y2
    have h2 := itemL (h1.perm (List.Perm.trans (.cons _ (.swap _ _ _)) (.swap _ _ _))) z1 (isFL_at f z1) y1
    refine Rel.pair (h2.perm (.cons _ ?_)) (isFL_at f z1) (isFL_at g z2) hT
    exact .swap _ _ _
theorem wk_zipT {a b : Addr} {ds es : List D} (f : isFL ds = true) (g : isFL es = true) : Wk K (ItzT K a b) ((ds.zip es).map fun z => D.tup [z.1, z.2]) [(.ref a, .tup ds), (.ref b, .tup es)] where
  goes := fun i H rs hi h => by
    rw [List.length_map, List.length_zip] at hi
    obtain ⟨vs, g1, l1⟩ := opnT h
    obtain ⟨us, g2, l2⟩ := opnT (Rel.tail h)
    exact ⟨vs, us, vs[i]'(by omega), us[i]'(by omega), g1, g2, List.getElem?_eq_getElem _, List.getElem?_eq_getElem _⟩
  stops := fun H rs h => by
    obtain ⟨vs, g1, l1⟩ := opnT h
    obtain ⟨us, g2, l2⟩ := opnT (Rel.tail h)
    exact ⟨vs, us, g1, g2, by rw [List.length_map, List.length_zip]; omega⟩
  yields := fun i H x H' rs h y d hd => by
    obtain ⟨T, u, w, rfl, hT, rfl, y1, y2⟩ := y
    rw [List.getElem?_map] at hd
    obtain ⟨z, hz, rfl⟩ := map_ok hd
    obtain ⟨z1, z2⟩ := List.getElem?_zip_eq_some.mp hz
    have h1 := itemT (Rel.perm h (.swap _ _ _)) z2 (isFL_at g z2) y2
    have h2 := itemT (h1.perm (List.Perm.trans (.cons _ (.swap _ _ _)) (.swap _ _ _))) z1 (isFL_at f z1) y1
    refine Rel.pair (h2.perm (.cons _ ?_)) (isFL_at f z1) (isFL_at g z2) hT
    exact .swap _ _ _
end
section
variable {X : Cx} {tg : Expr} {pins : List (Addr × Obj)} {σ : L2.St} {H : Hp} {s : Shared} {R : L2.It → Hp → Prop} {a : Addr} {vs : List V}
theorem it_list (I : Inv X pins σ H s) (h : SqL X.K H a vs) (q : R (Itl X.K a) H) : wpAny (model X.prog X.w) X.A (pyIter (.ref a)) (PIE X pins σ tg R) X.xe s := by
  obtain ⟨_, _, p, _⟩ := I.list h
  exact wpAny_pyIter_list p.isList (pi_one (tk := s.toks) I _ (turn_list a _) ⟨_, Heap.get?_push_size _ rfl, rfl, rfl⟩ q)
theorem it_tup (I : Inv X pins σ H s) (h : SqT X.K H a vs) (q : R (Itt X.K a) H) : wpAny (model X.prog X.w) X.A (pyIter (.ref a)) (PIE X pins σ tg R) X.xe s := by
  obtain ⟨_, _, p, _⟩ := I.tuple h
  exact wpAny_pyIter_tuple (show s.heap.IsTuple a _ from p) (pi_one (tk := s.toks) I _ (turn_tuple a _) ⟨_, Heap.get?_push_size _ rfl, rfl, rfl⟩ q)
theorem it_str {x : Str} {t : Tok} (I : Inv X pins σ H s) (q : R (Its x) H) : wpAny (model X.prog X.w) X.A (pyIter (.str x t)) (PIE X pins σ tg R) X.xe s := by
  cases ha : x.cps.all (· < 128)
  · exact wpAny_pyIter_wide ha (pi_one (tk := s.toks) I _ (turn_str _ x t _ (.inr rfl)) ⟨_, Heap.get?_push_size _ rfl, rfl, rfl⟩ q)
  · exact wpAny_pyIter_ascii ha (pi_one (tk := s.toks) I _ (turn_str _ x t _ (.inl rfl)) ⟨_, Heap.get?_push_size _ rfl, rfl, rfl⟩ q)
/-- a root with items, walked -/
theorem it_seq {v : V} {u : Value} {d : D} {ds : List D} {rs : Rt} (I : Inv X pins σ H s) (rv : L2.RelV v u) (h : Rel X.K H ((v, d) :: rs)) (e : items d = some ds) (f : isFL ds = true)
    (q : ∀ J src, Wk X.K J ds src → (src = [(v, d)] ∨ src = []) → R J H) : wpAny (model X.prog X.w) X.A (pyIter u) (PIE X pins σ tg R) X.xe s := by
  cases d with
  | tup xs =>
    cases e
    obtain ⟨p, vs, rfl, g1, g2, _⟩ := h.openT
    cases rv
    exact it_tup I g1 (q _ _ (wk_tup f) (.inl rfl))
  | lst o xs =>
    cases e
    obtain ⟨p, vs, rfl, g1, g2, _⟩ := h.open
    cases rv
    exact it_list I (.inl (.inl g1)) (q _ _ (wk_list f) (.inl rfl))
  | lck xs =>
    cases e
    obtain ⟨p, vs, _, _, rfl, g1, _⟩ := h.lck
    cases rv
    exact it_list I g1 (q _ _ (wk_lck f) (.inl rfl))
  | str z =>
    cases e
    obtain rfl := h.str
    obtain ⟨t, rfl⟩ := rv
    exact it_str I (q _ _ wk_str (.inr rfl))
  | _ => cases e
end
mutual
  theorem isF_of : ∀ d : D, isF (frz d) = true
    | .tup xs => by rw [frz, isF, isFL_of xs]
    | .lck xs => by rw [frz, isF, isFL_of xs]
    | .lst o xs => by rw [frz, isF, isFL_of xs]; rfl
    | .dic o kvs => by rw [frz, isF, isFK_of kvs]; rfl
    | .non => rfl
    | .bl _ => rfl
    | .int _ => rfl
    | .str _ => rfl
    | .st _ => rfl
    | .ob _ => rfl
    | .obf _ _ x => by rw [frz, isF, isF_of x]
  theorem isFL_of : ∀ d : List D, isFL (frzL d) = true
    | [] => rfl
    | x :: r => by rw [frzL, isFL, isF_of x, isFL_of r]; rfl
  theorem isFK_of : ∀ d : List (DK × D), isFK (frzK d) = true
    | [] => rfl
    | (k, x) :: r => by rw [frzK, isFK, isF_of x, isFK_of r]; rfl
end
theorem isF_fz (d : D) : isF (fz d) = true := by rw [fz_eq, isF_of]
theorem isFL_one (l : List Nat) : isFL (l.map one) = true := by
  induction l with
  | nil => rfl
  | cons x r ih => rw [List.map_cons, isFL, ih]; rfl
theorem items_F {d : D} {ds : List D} (f : isF d = true) (e : items d = some ds) : isFL ds = true := by
  cases d with
  | tup xs => cases e; exact f
  | lck xs => cases e; exact f
  | lst o xs =>
    cases e
    simp only [isF, Bool.and_eq_true] at f
    exact f.2
  | str z => cases e; exact isFL_one _
  | _ => cases e
section
variable (K : PySem.W.Frag) (T : Tab)
def WpI (σ : L2.St) (Fr : Rt) (r : R (List D)) (Q : L2.It → Hp → Prop) : Prop := match r with
  | .ok ds e => ∀ J H rs src, Sl σ e rs → Rel K H (src ++ (rs ++ Fr)) → Wk K J ds src → Q J H
  | _ => False
def tI (x : It) : TI := fun σ H Q => ∃ e rs Fr, Sl σ e rs ∧ Rel K H (rs ++ Fr) ∧ WpI K σ Fr (dI T x e) Q
def WpC (σ : L2.St) (Fr : Rt) (r : R (List D × Option (Nat × D))) (Q : L2.It → Hp → Prop) : Prop := match r with
  | .ok p e => ∀ J H rs src, Sl σ e rs → Rel K H (src ++ (rs ++ Fr)) → Wk K J p.1 src → (∀ i d, p.2 = some (i, d) → ∃ v src', σ[i]? = some (some v) ∧ src.Perm ((v, d) :: src')) → Q J H
  | _ => False
def tIc (x : It) : TI := fun σ H Q => ∃ e rs Fr, Sl σ e rs ∧ Rel K H (rs ++ Fr) ∧ WpC K σ Fr (dIc T x e) Q
end
theorem impI {X : Cx} {tg e : Expr} {t t' : TI} (h : PI X tg e t) (i : ∀ σ H Q, t' σ H Q → t σ H Q) : PI X tg e t' :=
  ⟨fun a b c d q j w => h.run a b c d q j (i _ _ _ w)⟩
/-- dIc is dI where nothing is lent -/
theorem ofO_map {α β : Type} {o : Option α} {f : α → β} {e : Ev} : ofO (o.map f) e = (ofO o e).bind fun a e => .ok (f a) e := by cases o <;> rfl
section
variable {X : Cx} {T : Tab} {nm : Nm} {k : Nat} {tg ea : Expr} {es : List Expr} {a : E} {r : Es} {pos p : Pos}
theorem wd_i {K : PySem.W.Frag} {σ : L2.St} {Fr : Rt} {Q : L2.It → Hp → Prop} : Wd fun r => WpI K σ Fr r Q := ⟨id, fun _ _ => id⟩
theorem wd_c {K : PySem.W.Frag} {σ : L2.St} {Fr : Rt} {Q : L2.It → Hp → Prop} : Wd fun r => WpC K σ Fr r Q := ⟨id, fun _ _ => id⟩
/-- without loan -/
theorem zc_of {x : It} (hx : ∀ e, dIc T x e = (dI T x e).bind fun l e => .ok (l, none) e) (h : PI X tg ea (tI X.K T x)) : PI X tg ea (tIc X.K T x) := by
  refine impI h fun σ H Q ⟨e, rs, Fr, s, g, w⟩ => ⟨e, rs, Fr, s, g, ?_⟩
  rw [hx] at w
  cases hr : dI T x e with
  | ok ds e' =>
    rw [hr] at w
    exact fun J H' rs' src s' h' wk => w J H' rs' src s' h' wk fun _ _ z => nomatch z
  | ex x e' => rw [hr] at w; exact w.elim
  | no => rw [hr] at w; exact w.elim
theorem zi_seq (ha : PE X ea (tE X.K T a)) : PI X tg ea (tI X.K T (.seq a)) := by
  refine ⟨fun pins s σ H R I ⟨e, rs, Fr, sl, h, w⟩ => ?_⟩
  rw [dI] at w
  refine thn (ha.run pins s σ H (fun v H' => ∃ d e' rs', WpI X.K σ Fr (ofO (items (fz d)) e') R ∧ Sl σ e' rs' ∧ Rel X.K H' ((v, d) :: (rs' ++ Fr))) I (use wd_i w sl h fun d e' v H' rs' _ w' s' h' => ⟨d, e', rs', w', s', h'⟩)) fun u s1 ⟨v, H1, I1, rv, d, e', rs', w1, s', h'⟩ => ?_
  cases hi : items (fz d) with
  | none => rw [hi] at w1; exact w1.elim
  | some ds =>
    rw [hi] at w1
    have f := items_F (isF_fz d) hi
    have h2 := h'.froz
    rw [← fz_eq] at h2
    refine it_seq I1 rv h2 hi f fun J src wk hs => w1 J H1 rs' src s' ?_ wk
    rcases hs with rfl | rfl
    · exact h2
    · exact h2.tail
theorem zc_seq (ha : PE X ea (tE X.K T a)) : PI X tg ea (tIc X.K T (.seq a)) := zc_of (fun e => by
  rw [dIc, dI]
  cases dE T a e with
  | ok d e' => exact ofO_map
  | _ => rfl) (zi_seq ha)
theorem rng_i {l : Option (List D)} {ds : List D} (h : rngD l = some ds) : (∃ n : Int, l = some [.int n] ∧ -big < n ∧ n < big ∧ ds = (List.range n.toNat).map fun k => D.int (Int.ofNat k)) ∨
    ∃ a b : Int, l = some [.int a, .int b] ∧ -big < a ∧ a < big ∧ -big < b ∧ b < big ∧ ds = (List.range (b - a).toNat).map fun k => D.int (a + Int.ofNat k) := by
  unfold rngD at h
  split at h
  · split at h
    · rename_i n hn
      exact .inl ⟨n, rfl, hn.1, hn.2, (Option.some.inj h).symm⟩
    · cases h
  · split at h
    · rename_i a b hn
      exact .inr ⟨a, b, rfl, hn.1, hn.2.1, hn.2.2.1, hn.2.2.2, (Option.some.inj h).symm⟩
    · cases h
  · cases h
theorem args_len : ∀ {xs : List (Sum D Nat)} {l : List D}, args1 xs = some l → l.length = xs.length
  | [], l, h => by cases h; rfl
  | .inl d :: r, l, h => by
    rw [args1] at h
    obtain ⟨l', h1, rfl⟩ := map_ok h
    rw [List.length_cons, List.length_cons, args_len h1]
  | .inr _ :: _, _, h => by cases h
theorem zi_rng1 (G : Gd X T nm k) {x : Str} (hx : x = "range") (hg : Gl X x) (hp : plainE ea = true) (ha : PA X [ea] (tA X.K T r)) (hl : r.len = 1) : PI X tg (.Call (.Name x p) [ea] [] pos) (tI X.K T (.rng r)) := by
  subst hx
  refine impI (pi_range1 hg (G.bt _ (by decide)) ha (star_cons hp)) fun σ H Q ⟨e, rs, Fr, s, h, w⟩ => ?_
  rw [dI] at w
  refine useA wd_i w s h fun xs e1 vs H1 rs1 as he w1 s1 g h1 => ?_
  cases hr : rngD (args1 xs) with
  | none => rw [hr] at w1; exact w1.elim
  | some ds =>
    rw [hr] at w1
    have hb : (big : Int) = 1000000 := rfl
    rcases rng_i hr with ⟨n, hn, hy, hz, rfl⟩ | ⟨n, m, hn, _⟩
    · obtain ⟨l1, rfl⟩ := g.all hn
      obtain ⟨v, rfl⟩ := Z.l1 l1
      have h2 : Rel X.K H1 ((v, .int n) :: (rs1 ++ Fr)) := h1
      obtain rfl := h2.int
      refine ⟨n, rfl, by omega, by omega, w1 _ H1 rs1 [] s1 h2.tail ?_⟩
      have wk := wk_rng (K := X.K) (lo := 0) (n := n.toNat)
      simpa using wk
    · have h3 := args_len hn
      rw [dEs_len he, hl] at h3
      cases h3
theorem zi_rng2 (G : Gd X T nm k) {x : Str} {eb : Expr} (hx : x = "range") (hg : Gl X x) (hp : plainE ea = true) (hq : plainE eb = true) (ha : PA X [ea, eb] (tA X.K T r)) (hl : r.len = 2) : PI X tg (.Call (.Name x p) [ea, eb] [] pos) (tI X.K T (.rng r)) := by
  subst hx
  have q1 : starEach [ea, eb] X.env = [(false, eval ea X.env), (false, eval eb X.env)] := by rw [star_cons hp, star_cons hq]; rfl
  refine impI (pi_range2 hg (G.bt _ (by decide)) ha q1 (star_cons hq)) fun σ H Q ⟨e, rs, Fr, s, h, w⟩ => ?_
  rw [dI] at w
  refine useA wd_i w s h fun xs e1 vs H1 rs1 as he w1 s1 g h1 => ?_
  cases hr : rngD (args1 xs) with
  | none => rw [hr] at w1; exact w1.elim
  | some ds =>
    rw [hr] at w1
    have hb : (big : Int) = 1000000 := rfl
    rcases rng_i hr with ⟨n, hn, _⟩ | ⟨n, m, hn, h5, h6, h7, h8, rfl⟩
    · have h3 := args_len hn
      rw [dEs_len he, hl] at h3
      cases h3
    · obtain ⟨l1, rfl⟩ := g.all hn
      obtain ⟨v, u, rfl⟩ := Z.l2 l1
      have h2 : Rel X.K H1 ((v, .int n) :: (u, .int m) :: (rs1 ++ Fr)) := h1
      obtain ⟨rfl, rfl, h3⟩ := ii h2
      exact ⟨n, m, rfl, ⟨by omega, by omega, by omega, by omega⟩, w1 _ H1 rs1 [] s1 h3 wk_rng⟩
theorem zc_rng {w : It → Prop} (h : PI X tg ea (tI X.K T (.rng r))) : PI X tg ea (tIc X.K T (.rng r)) := zc_of (fun e => by
  rw [dIc, dI]
  cases dEs T r e with
  | ok d e' => exact ofO_map
  | _ => rfl) h
/-- a list's enumerate -/
theorem zi_enm (G : Gd X T nm k) {x : Str} {elts : List Expr} {kk : Nat} {tp : Pos} (hx : x = "enumerate") (hg : Gl X x) (hp : plainE ea = true) (ha : PE X ea (tE X.K T a)) :
    PI X (.Tuple elts kk tp) (.Call (.Name x p) [ea] [] pos) (tI X.K T (.enm a)) := by
  subst hx
  refine impI (pi_enum hg (G.bt _ (by decide)) (pa_cons ha pa_nil (star_cons hp)) (star_cons hp)) fun σ H Q ⟨e, rs, Fr, s, h, w⟩ => ?_
  rw [dI] at w
  refine use wd_i w s h fun d e1 v H1 rs1 _ w1 s1 h1 => ?_
  cases hr : enmD (fz d) with
  | none => rw [hr] at w1; exact w1.elim
  | some ds =>
    rw [hr] at w1
    have h2 := h1.froz
    rw [← fz_eq] at h2
    have f := isF_fz d
    generalize fz d = q at hr h2 f
    cases q with
    | lst o xs =>
      cases hr
      obtain ⟨pa, vs, rfl, g1, g2, _⟩ := h2.open
      have f2 : isFL xs = true := by
        simp only [isF, Bool.and_eq_true] at f
        exact f.2
      exact ⟨pa, vs, rfl, .inl (.inl g1), w1 _ H1 rs1 _ s1 h2 (wk_enm f2)⟩
    | lck xs =>
      cases hr
      obtain ⟨pa, vs, _, _, rfl, g1, _⟩ := h2.lck
      exact ⟨pa, vs, rfl, g1, w1 _ H1 rs1 _ s1 h2 (wk_enmK f)⟩
    | _ => cases hr
theorem zc_enm (h : PI X tg ea (tI X.K T (.enm a))) : PI X tg ea (tIc X.K T (.enm a)) := zc_of (fun e => by
  rw [dIc, dI]
  cases dE T a e with
  | ok d e' => exact ofO_map
  | _ => rfl) h
theorem zip_i {l : Option (List D)} {ds : List D} (h : zipD l = some ds) : (∃ o a o' b, l = some [.lst o a, .lst o' b] ∧ ds = (a.zip b).map fun z => D.tup [z.1, z.2]) ∨ ∃ a b, l = some [.tup a, .tup b] ∧ ds = (a.zip b).map fun z => D.tup [z.1, z.2] := by
  unfold zipD at h
  split at h
  · exact .inl ⟨_, _, _, _, rfl, (Option.some.inj h).symm⟩
  · exact .inr ⟨_, _, rfl, (Option.some.inj h).symm⟩
  · cases h
/-- arguments that are not raw are frozen -/
def Es.frozen : Es → Bool
  | .nil => true
  | .cons _ r => r.frozen
  | _ => false
theorem dEs_F : ∀ {r : Es} {e : Ev} {xs e1 l}, r.frozen = true → dEs T r e = .ok xs e1 → args1 xs = some l → isFL l = true
  | .nil, e, xs, e1, l, _, h, g => by
    rw [dEs] at h
    injection h with h _
    subst h
    cases g
    rfl
  | .cons a r, e, xs, e1, l, f, h, g => by
    rw [dEs] at h
    obtain ⟨d, _, _, h⟩ := bind_ok h
    obtain ⟨ds, _, h1, h⟩ := bind_ok h
    injection h with h _
    subst h
    rw [args1] at g
    obtain ⟨l', g1, rfl⟩ := map_ok g
    rw [isFL, isF_fz, dEs_F (r := r) f h1 g1]
    rfl
  | .raw _ _, _, _, _, _, f, _, _ => by cases f
  | .bw _ _, _, _, _, _, f, _, _ => by cases f
theorem zi_zip (G : Gd X T nm k) {x : Str} {eb : Expr} {elts : List Expr} {kk : Nat} {tp : Pos} (hx : x = "zip") (hg : Gl X x) (hp : plainE ea = true) (hq : plainE eb = true) (ha : PA X [ea, eb] (tA X.K T r)) (hf : r.frozen = true) :
    PI X (.Tuple elts kk tp) (.Call (.Name x p) [ea, eb] [] pos) (tI X.K T (.zip r)) := by
  subst hx
  refine impI (RZ.pi_zipA hg (G.bt _ (by decide)) ha (star_cons hp) (star_none (by simp [hq]))) fun σ H Q ⟨e, rs, Fr, s, h, w⟩ => ?_
  rw [dI] at w
  refine useA wd_i w s h fun xs e1 vs H1 rs1 as he w1 s1 g h1 => ?_
  cases hr : zipD (args1 xs) with
  | none => rw [hr] at w1; exact w1.elim
  | some ds =>
    rw [hr] at w1
    rcases zip_i hr with ⟨o, u, o', w, hn, rfl⟩ | ⟨u, w, hn, rfl⟩
    · have f := dEs_F hf he hn
      obtain ⟨l1, rfl⟩ := g.all hn
      obtain ⟨v1, v2, rfl⟩ := Z.l2 l1
      have h2 : Rel X.K H1 ((v1, .lst o u) :: (v2, .lst o' w) :: (rs1 ++ Fr)) := h1
      obtain ⟨pa, vs, rfl, g1, g2, _⟩ := h2.open
      obtain ⟨pb, us, rfl, g3, g4, _⟩ := h2.tail.open
      simp only [isFL, isF, Bool.and_eq_true] at f
      exact ⟨pa, pb, vs, us, rfl, .inl ⟨.inl (.inl g1), .inl (.inl g3), w1 _ H1 rs1 [(.ref pa, .lst o u), (.ref pb, .lst o' w)] s1 h2 (wk_zip f.1.2 f.2.1.2)⟩⟩
    · have f := dEs_F hf he hn
      obtain ⟨l1, rfl⟩ := g.all hn
      obtain ⟨v1, v2, rfl⟩ := Z.l2 l1
      have h2 : Rel X.K H1 ((v1, .tup u) :: (v2, .tup w) :: (rs1 ++ Fr)) := h1
      obtain ⟨pa, vs, rfl, g1, g2, _⟩ := h2.openT
      obtain ⟨pb, us, rfl, g3, g4, _⟩ := h2.tail.openT
      simp only [isFL, isF, Bool.and_eq_true] at f
      exact ⟨pa, pb, vs, us, rfl, .inr ⟨g1, g3, w1 _ H1 rs1 [(.ref pa, .tup u), (.ref pb, .tup w)] s1 h2 (wk_zipT f.1 f.2.1)⟩⟩
theorem zc_zip (h : PI X tg ea (tI X.K T (.zip r))) : PI X tg ea (tIc X.K T (.zip r)) := zc_of (fun e => by
  rw [dIc, dI]
  cases dEs T r e with
  | ok d e' => exact ofO_map
  | _ => rfl) h
/-- a name's own list, lent to a comprehension -/
theorem zc_var {i : Nat} {x : Str} (hN : X.N[i]? = some x) (hv : Vis X.env.scope x) (h1 : (x == ("__debug__" : Str)) = false) (h2 : (x == ("__classdict__" : Str)) = false) : PI X tg (.Name x pos) (tIc X.K T (.var i)) := by
  refine ⟨fun pins s σ H R I ⟨e, rs, Fr, sl, h, w⟩ => ?_⟩
  rw [dIc] at w
  cases hd : rd i e with
  | none => rw [hd] at w; exact w.elim
  | some d =>
    rw [hd] at w
    obtain ⟨v, r0, g, pm, _, r2, s2, q2⟩ := sl.get hd
    refine thn ((pe_var hN hv h1 h2).run pins s σ H (fun u H' => u = v ∧ H' = H) I ⟨v, g, rfl, rfl⟩) fun u s1 ⟨v', H1, I1, rv, e1, e2⟩ => ?_
    subst e1
    subst e2
    have hr := h.left pm
    have plain : ∀ {ds : List D}, isF d = true → items d = some ds → WpC X.K σ Fr (.ok (ds, none) e) R → wpAny (model X.prog X.w) X.A (pyIter u) (PIE X pins σ tg R) X.xe s1 := by
      intro ds hf hi w
      have h9 := (hr.dup (isF_frz hf)).perm (.cons _ (pm.symm.append_right Fr))
      refine it_seq I1 rv h9 hi (items_F hf hi) fun J src wk hs => w J H1 rs src sl ?_ wk fun _ _ z => nomatch z
      rcases hs with rfl | rfl
      · exact h9
      · exact h9.tail
    cases d with
    | lst o xs =>
      cases o with
      | true =>
        dsimp only at w
        split at w
        · rename_i hf
          have h9 := hr.perm (.cons _ (q2.symm.append_right Fr))
          obtain ⟨pa, vs, rfl, g1, g2, _⟩ := h9.open
          cases rv
          refine it_list I1 (.inl (.inl g1)) (w _ H1 r2 [(.ref pa, .lst true xs)] s2 h9 (wk_list hf) fun j d z => ?_)
          cases z
          exact ⟨_, [], g, .refl _⟩
        · exact w.elim
      | false =>
        dsimp only at w
        split at w
        · rename_i hf
          exact plain hf rfl w
        · exact w.elim
    | tup xs =>
      dsimp only at w
      split at w
      · rename_i hf
        exact plain hf rfl w
      · exact w.elim
    | lck xs =>
      dsimp only at w
      split at w
      · rename_i hf
        exact plain hf rfl w
      · exact w.elim
    | str z => exact plain rfl rfl w
    | obf c f x =>
      dsimp only at w
      split at w
      · exact w.elim
      · exact w.elim
    | dic o kvs =>
      dsimp only at w
      split at w
      · exact w.elim
      · exact w.elim
    | _ => exact w.elim
end
end Z

set_option Elab.async false
set_option linter.all false
set_option autoImplicit false
set_option maxRecDepth 100000
set_option maxHeartbeats 2000000
/-! Z11: list comprehensions. -/
namespace Z
open PySem PySem.Spec PyProof.Rows L2
theorem wipe_get {σ : L2.St} {i : Nat} : ∀ {vs : List Nat}, (wipe σ vs)[i]? = if i ∈ vs then (σ[i]?).map fun _ => none else σ[i]?
  | [] => by simp [wipe]
  | v :: vs => by
    unfold wipe
    by_cases h : v = i
    · subst h
      have hl : (wipe σ vs).length = σ.length := wipe_length σ vs
      by_cases hi : v < σ.length
      · rw [List.getElem?_set_self (by omega), if_pos (by simp), List.getElem?_eq_getElem hi]
        rfl
      · rw [List.getElem?_eq_none (by simp; omega), if_pos (by simp), List.getElem?_eq_none (by omega)]
        rfl
    · rw [List.getElem?_set_ne h, wipe_get]
      have e : (i ∈ v :: vs) = (i ∈ vs) := by
        simp [show ¬ i = v from fun z => h z.symm]
      simp only [e]
theorem wipe_eq {σ σ' : L2.St} {ss vs : List Nat} (x : Eqx ss σ σ') (h : ∀ i ∈ ss, i ∈ vs) : wipe σ' vs = wipe σ vs := by
  apply List.ext_getElem?
  intro i
  rw [wipe_get, wipe_get]
  by_cases hi : i ∈ vs
  · rw [if_pos hi, if_pos hi]
    have hl := x.1
    by_cases hz : i < σ.length
    · rw [List.getElem?_eq_getElem hz, List.getElem?_eq_getElem (by omega)]
      rfl
    · rw [List.getElem?_eq_none (by omega), List.getElem?_eq_none (by omega)]
  · rw [if_neg hi, if_neg hi]
    exact x.2 i fun z => hi (h i z)
theorem wipe_self {σ : L2.St} {vs : List Nat} : wipe (wipe σ vs) vs = wipe σ vs := by
  apply List.ext_getElem?
  intro i
  rw [wipe_get, wipe_get]
  split
  · rw [Option.map_map]; rfl
  · rfl
/-- a slot without root may hold anything -/
theorem Sl.any : ∀ {σ : L2.St} {e : Ev} {rs : Rt} {i : Nat} {o : Option V}, Sl σ e rs → rd i e = none → Sl (σ.set i o) e rs
  | _, _, _, _, _, .nil, _ => .nil
  | _, _, _, 0, _, .skip s, _ => .skip s
  | _, _, _, 0, _, .has s, h => by cases h
  | _, _, _, i + 1, _, .skip s, h => .skip (s.any h)
  | _, _, _, i + 1, _, .has s, h => .has (s.any h)
theorem rd_set {e : Ev} {i j : Nat} {d : Option D} : rd i (e.set j d) = if j = i then (if i < e.length then d else none) else rd i e := by
  unfold rd
  rw [List.getElem?_set]
  by_cases h : j = i
  · subst h
    by_cases hl : j < e.length
    · simp [hl]
    · simp [hl]
  · rw [if_neg h, if_neg h]
theorem rd_wipe {e : Ev} {i : Nat} : ∀ {vs : List Nat}, i ∈ vs → rd i (wipeE e vs) = none
  | v :: vs, h => by
    rw [wipeE, rd_set]
    by_cases hv : v = i
    · rw [if_pos hv]
      split <;> rfl
    · rw [if_neg hv]
      exact rd_wipe ((List.mem_cons.mp h).resolve_left fun z => hv z.symm)
theorem rd_wipe_ne {e : Ev} {i : Nat} : ∀ {vs : List Nat}, i ∉ vs → rd i (wipeE e vs) = rd i e
  | [], _ => rfl
  | v :: vs, h => by
    rw [wipeE, rd_set, if_neg fun z => h (by simp [z])]
    exact rd_wipe_ne fun z => h (List.mem_cons_of_mem _ z)
theorem Sl.wipeS {σ : L2.St} {e : Ev} {rs : Rt} : ∀ {vs ws : List Nat}, Sl σ (wipeE e ws) rs → (∀ i ∈ vs, i ∈ ws) → Sl (wipe σ vs) (wipeE e ws) rs
  | [], _, s, _ => s
  | v :: vs, ws, s, h => by
    unfold wipe
    exact (s.wipeS (vs := vs) fun i z => h i (List.mem_cons_of_mem _ z)).any (rd_wipe (h v List.mem_cons_self))
theorem Sl.unwipe : ∀ {σ σ' : L2.St} {e : Ev} {rs : Rt}, Sl σ e rs → σ'.length = σ.length → (∀ (i : Nat) d, rd i e = some d → σ'[i]? = σ[i]?) → Sl σ' e rs
  | [], [], _, _, .nil, _, _ => .nil
  | _ :: σ, _ :: σ', _, _, .skip s, l, h => .skip (s.unwipe (Nat.succ.inj l) fun i d z => by simpa using h (i + 1) d z)
  | _ :: σ, o :: σ', _, _, .has (v := v) (d := d) s, l, h => by
    have e := h 0 d rfl
    simp only [List.getElem?_cons_zero, Option.some.injEq] at e
    subst e
    exact .has (s.unwipe (Nat.succ.inj l) fun i d z => by simpa using h (i + 1) d z)
/-- the roots in the slots vs -/
def ownR (σ : L2.St) (e : Ev) : List Nat → Rt
  | [] => []
  | i :: r => (match (σ[i]?).join, rd i e with | some v, some d => [(v, d)] | _, _ => []) ++ ownR σ e r
theorem set_none {e : Ev} {i : Nat} (h : rd i e = none) : e.set i none = e := by
  apply List.ext_getElem?
  intro j
  rw [List.getElem?_set]
  split
  · rename_i hj
    subst hj
    split
    · rename_i hl
      unfold rd at h
      rw [List.getElem?_eq_getElem hl] at h ⊢
      exact congrArg some h.symm
    · rename_i hl
      rw [List.getElem?_eq_none (by omega)]
  · rfl
theorem Sl.wiped {σ : L2.St} {e : Ev} {rs : Rt} (s : Sl σ e rs) : ∀ {vs : List Nat}, vs.Nodup → ∃ rw', Sl σ (wipeE e vs) rw' ∧ rs.Perm (ownR σ e vs ++ rw')
  | [], _ => ⟨rs, s, .refl _⟩
  | v :: vs, nd => by
    obtain ⟨n1, n2⟩ := List.nodup_cons.mp nd
    obtain ⟨r1, s1, p1⟩ := s.wiped n2
    rw [wipeE, ownR]
    have e1 : rd v (wipeE e vs) = rd v e := rd_wipe_ne n1
    cases hd : rd v e with
    | none =>
      rw [hd] at e1
      rw [set_none e1]
      refine ⟨r1, s1, ?_⟩
      cases (σ[v]?).join <;> exact p1
    | some d =>
      rw [hd] at e1
      obtain ⟨w, r0, g, pm, _, r2, s2, q2⟩ := s1.get e1
      refine ⟨r2, s2, ?_⟩
      rw [g]
      refine p1.trans ?_
      refine (List.Perm.append_left _ (pm.trans (.cons _ q2.symm))).trans ?_
      exact List.perm_middle
theorem wipe_comm {e : Ev} {v : Nat} {d : Option D} : ∀ {vs : List Nat}, v ∉ vs → wipeE (e.set v d) vs = (wipeE e vs).set v d
  | [], _ => rfl
  | u :: vs, h => by
    rw [wipeE, wipeE, wipe_comm fun z => h (List.mem_cons_of_mem _ z), List.set_comm]
    exact fun z => h (by simp [z])
theorem back_comm {e0 e : Ev} {v : Nat} {d : Option D} : ∀ {vs : List Nat}, v ∉ vs → backE e0 (e.set v d) vs = (backE e0 e vs).set v d
  | [], _ => rfl
  | u :: vs, h => by
    rw [backE, backE, back_comm fun z => h (List.mem_cons_of_mem _ z), List.set_comm]
    exact fun z => h (by simp [z])
theorem Sl.fill {σ : L2.St} {e : Ev} {rs : Rt} {i : Nat} {v : V} (s : Sl σ (e.set i none) rs) (g : σ[i]? = some (some v)) (d : D) : ∃ r, Sl σ (e.set i (some d)) r ∧ r.Perm ((v, d) :: rs) := by
  have go : ∀ {σ : L2.St} {e : Ev} {rs : Rt} {i : Nat}, Sl σ (e.set i none) rs → σ[i]? = some (some v) → ∃ r, Sl σ (e.set i (some d)) r ∧ r.Perm ((v, d) :: rs) := by
    intro σ
    induction σ with
    | nil => intro e rs i s g; simp at g
    | cons o σ ih =>
      intro e rs i s g
      cases e with
      | nil => cases s
      | cons u e =>
        cases i with
        | zero =>
          simp only [List.getElem?_cons_zero, Option.some.injEq] at g
          subst g
          cases s with
          | skip s => exact ⟨_, .has s, .refl _⟩
        | succ i =>
          cases s with
          | skip s =>
            obtain ⟨r, s', p⟩ := ih s (by simpa using g)
            exact ⟨r, .skip s', p⟩
          | has s =>
            obtain ⟨r, s', p⟩ := ih s (by simpa using g)
            exact ⟨_, .has s', (p.cons _).trans (.swap _ _ _)⟩
  exact go s g
/-- the slots put back -/
theorem Sl.back {σ : L2.St} {e1 : Ev} {rs1 : Rt} (s1 : Sl σ e1 rs1) : ∀ {vs : List Nat} {e2 : Ev} {rw2 : Rt}, vs.Nodup → Sl σ (wipeE e2 vs) rw2 →
    ∃ rs, Sl σ (backE e1 e2 vs) rs ∧ rs.Perm (ownR σ e1 vs ++ rw2)
  | [], e2, rw2, _, b => ⟨rw2, b, .refl _⟩
  | v :: vs, e2, rw2, nd, b => by
    obtain ⟨n1, n2⟩ := List.nodup_cons.mp nd
    rw [wipeE, ← wipe_comm n1] at b
    obtain ⟨rs, s2, p⟩ := s1.back n2 b
    rw [back_comm n1] at s2
    rw [backE, ownR]
    cases hd : rd v e1 with
    | none =>
      refine ⟨rs, ?_, ?_⟩
      · have hd' : (e1[v]?).join = none := hd
        rw [hd']
        exact s2
      · cases (σ[v]?).join <;> exact p
    | some d =>
      obtain ⟨w, r0, g, _⟩ := s1.get hd
      obtain ⟨r, s3, q⟩ := s2.fill g d
      refine ⟨r, ?_, ?_⟩
      · have hd' : (e1[v]?).join = some d := hd
        rw [hd']
        exact s3
      · rw [g]
        exact q.trans (p.cons _)
/-- a lent list put back -/
theorem Sl.give {σ : L2.St} {e : Ev} {rs : Rt} {i : Nat} {v : V} {d : D} (s : Sl σ e rs) (g : σ[i]? = some (some v)) : ∃ dr r0 r1, rs.Perm (dr ++ r0) ∧ Sl σ (e.set i (some d)) r1 ∧ r1.Perm ((v, d) :: r0) := s.put' g d

section
variable (K : PySem.W.Frag) (T : Tab)
def tTs (x : Tes) : TT := fun σ H Q => ∃ e rs Fr, Sl σ e rs ∧ Rel K H (rs ++ Fr) ∧ WpB K σ Fr (dTs T x e) Q
end
section
variable {X : Cx} {T : Tab}
theorem zts_nil : PTs X [] (tTs X.K T .nil) :=
  ⟨fun a b c d q j w => pts_nil.run a b c d q j (by
    obtain ⟨e, rs, Fr, s, h, w⟩ := w
    exact w d rs s h)⟩
theorem zts_one {ea : Expr} {t : Te} (h : PT X ea (tT X.K T t)) : PTs X [ea] (tTs X.K T (.cons t .nil)) :=
  ⟨fun a b c d q j w => (pts_one h).run a b c d q j (by
    obtain ⟨e, rs, Fr, s, h, w⟩ := w
    rw [dTs] at w
    refine useT wd_b w s h fun k e1 H1 rs1 _ w1 s1 h1 => ?_
    cases k with
    | true =>
      rw [dTs] at w1
      exact w1 H1 rs1 s1 h1
    | false => exact w1 H1 rs1 s1 h1)⟩
end
theorem OwL.cat {K : PySem.W.Frag} {H Hk : Hp} : ∀ {vs us : List V} {ds es : List D} {f g : List Addr}, OwL K H Hk vs ds f → OwL K H Hk us es g → OwL K H Hk (vs ++ us) (ds ++ es) (f ++ g)
  | _, _, _, _, _, _, .nil, q => q
  | _, _, _, _, _, _, .cons h r, q => by
    rw [List.append_assoc]
    exact .cons h (r.cat q)
/-- an item more at the end of an own list -/
theorem Rel.push {K : PySem.W.Frag} {H : Hp} {rs : Rt} {v : V} {d : D} {a : Addr} {ds : List D} (h : Rel K H ((v, d) :: (.ref a, .lst true ds) :: rs)) :
    ∃ vs, H a = some (.lst vs) ∧ vs.length = ds.length ∧ Rel K (upd H a (.lst (vs ++ [v]))) ((.ref a, .lst true (ds ++ [d])) :: rs) := by
  obtain ⟨Hk, fp, s, q, n, k⟩ := h
  cases q with
  | @cons _ _ f _ _ g1 q =>
    cases q with
    | @cons _ _ _ _ r g2 q =>
      cases g2 with
      | sh z => cases z
      | @lst _ vs _ g h1 h2 =>
        refine ⟨vs, h1, h2.len, ?_⟩
        have na : ∀ b, b ∈ f ∨ b ∈ g ∨ b ∈ r → b ≠ a := by
          intro b hb z
          subst z
          rcases hb with hb | hb | hb
          · exact (List.nodup_append.mp n).2.2 b hb b (by simp) rfl
          · have n2 := (List.nodup_append.mp n).2.1
            rw [List.cons_append] at n2
            exact (List.nodup_cons.mp n2).1 (List.mem_append_left _ hb)
          · have n2 := (List.nodup_append.mp n).2.1
            rw [List.cons_append] at n2
            exact (List.nodup_cons.mp n2).1 (List.mem_append_right _ hb)
        have e1 : ∀ b, b ∈ f ∨ b ∈ g ∨ b ∈ r → upd H a (.lst (vs ++ [v])) b = H b := fun b hb => upd_ne (na b hb)
        have one : OwL K (upd H a (.lst (vs ++ [v]))) Hk [v] [d] (f ++ []) := .cons (g1.sub Sub.rfl fun b z => e1 b (.inl z)) .nil
        have pm : (f ++ (a :: g ++ r)).Perm (a :: (g ++ (f ++ [])) ++ r) := by
          rw [List.append_nil, List.cons_append, List.cons_append, List.append_assoc]
          refine List.perm_middle.trans (.cons _ ?_)
          exact swap3
        refine ⟨Hk, a :: (g ++ (f ++ [])) ++ r, fun b o e => ?_, .cons (.lst upd_same ((h2.sub Sub.rfl fun b z => e1 b (.inr (.inl z))).cat one)) (q.sub Sub.rfl fun b z => e1 b (.inr (.inr z))), pm.nodup n, fun b z => k b (pm.symm.subset z)⟩
        have hb : b ≠ a := by
          rintro rfl
          rw [k b (by simp)] at e
          cases e
        rw [upd_ne hb]
        exact s b o e
/-- a comprehension's reading, from what its text gives -/
theorem lc_i {K : PySem.W.Frag} {T : Tab} {own : List Nat} {tg : Tg} {it : It} {cs : Tes} {x : E} {σ : L2.St} {H : Hp} {Q : VK} (nd : own.Nodup) (ht : ∀ i ∈ tg.slots, i ∈ own) (g : tE K T (.lc own tg it cs x) σ H Q) :
    tLc (tIc K T it) (tG K tg) (tTs K T cs) (tE K T x) own σ H Q := by
  obtain ⟨e, rs, Fr, s, h, w⟩ := g
  rw [dE] at w
  refine ⟨e, rs, Fr, s, h, ?_⟩
  cases hr : dIc T it e with
  | ex _ _ => rw [hr] at w; exact w.elim
  | no => rw [hr] at w; exact w.elim
  | ok p e1 =>
    rw [hr] at w
    simp only [R.bind] at w
    intro J H1 rs1 src s1 h1 wk lent Dl hD
    by_cases hbig : p.1.length ≤ big
    case neg =>
      rw [if_neg hbig] at w
      exact w.elim
    rw [if_pos hbig] at w
    obtain ⟨xs, ef, hlc, w⟩ : ∃ xs ef, lcL own tg (dTs T cs) (dE T x) p.1 [] e1 = .ok xs ef ∧ Wp K σ Fr (.ok (.lst true xs) (giveB p.2 (backE e1 ef own))) Q := by
      cases hx : lcL own tg (dTs T cs) (dE T x) p.1 [] e1 with
      | ok xs ef => rw [hx] at w; exact ⟨xs, ef, rfl, w⟩
      | ex _ _ => rw [hx] at w; exact w.elim
      | no => rw [hx] at w; exact w.elim
    obtain ⟨rw1, sw1, pw1⟩ := s1.wiped nd
    -- what holds ahead of turn i
    let Pv : Nat → Hp → Prop := fun i H' => i ≤ p.1.length ∧ ∃ acc e2 rw2, acc.length ≤ i ∧ Sl (wipe σ own) (wipeE e2 own) rw2 ∧
      Rel K H' (src ++ ((.ref Dl, .lst true acc) :: (rw2 ++ (ownR σ e1 own ++ Fr)))) ∧ lcL own tg (dTs T cs) (dE T x) (p.1.drop i) acc e2 = .ok xs ef
    have turned : ∀ {σ2 : L2.St} {i : Nat} {H' : Hp} {acc : List D} {e2 : Ev} {r2 : Rt}, wipe σ2 own = wipe σ own → i ≤ p.1.length → acc.length ≤ i → Sl σ2 e2 r2 → Rel K H' (r2 ++ (src ++ ((.ref Dl, .lst true acc) :: (ownR σ e1 own ++ Fr)))) →
        lcL own tg (dTs T cs) (dE T x) (p.1.drop i) acc e2 = .ok xs ef → Pv i H' := by
      intro σ2 i H' acc e2 r2 ew hi ha s2 h2 el
      obtain ⟨rw2, s3, p3⟩ := s2.wiped nd
      have s4 := s3.wipeS (vs := own) fun i z => z
      rw [ew] at s4
      refine ⟨hi, acc, e2, rw2, ha, s4, ?_, el⟩
      have h3 := h2.left p3
      rw [List.append_assoc] at h3
      refine h3.cut.perm (swap3.trans (List.Perm.append_left src ?_))
      exact List.perm_middle
    refine ⟨fun i m H' => m = p.1.length - i ∧ Pv i H', ⟨p.1.length, by omega, Nat.zero_le _, [], e1, rw1, Nat.le_refl _, sw1.wipeS fun i z => z, ?_, hlc⟩, ?_⟩
    · refine Rel.mid (Rel.newL (vs := []) (ds := []) ?_ rfl hD)
      refine h1.perm (List.Perm.append_left src ?_)
      refine (pw1.append_right Fr).trans ?_
      rw [← List.append_assoc]
      exact List.Perm.append_right _ List.perm_append_comm
    · rintro i m H2 ⟨rfl, hi, acc, e2, rw2, hle, sw2, h2, el⟩
      by_cases hlt : i < p.1.length
      · refine .inr ⟨wk.goes i H2 _ hlt h2, Pv (i + 1), fun H' hN => ⟨_, by omega, rfl, hN⟩, fun y H3 hy => ?_⟩
        have hd : p.1[i]? = some p.1[i] := List.getElem?_eq_getElem hlt
        have h3 := wk.yields i H2 y H3 _ h2 hy _ hd
        rw [← List.getElem_cons_drop hlt, lcL] at el
        cases hs : setT tg p.1[i] (wipeE e2 own) with
        | none => rw [hs] at el; cases el
        | some e3 =>
          rw [hs] at el
          dsimp only at el
          refine ⟨wipeE e2 own, rw2, src ++ ((.ref Dl, .lst true acc) :: (ownR σ e1 own ++ Fr)), p.1[i], e3, sw2, ?_, hs, fun σ2 H4 r4 xq s4 h4 => ?_⟩
          · refine h3.perm (.cons _ ?_)
            refine List.Perm.trans ?_ swap3
            exact List.Perm.append_left src List.perm_middle.symm
          · have ew : wipe σ2 own = wipe σ own := (wipe_eq xq ht).trans wipe_self
            refine ⟨ew, e3, r4, _, s4, h4, ?_⟩
            cases hc : dTs T cs e3 with
            | ex _ _ => rw [hc] at el; cases el
            | no => rw [hc] at el; cases el
            | ok b e4 =>
              rw [hc] at el
              intro H5 r5 s5 h5
              cases b with
              | false =>
                rw [if_neg Bool.false_ne_true]
                exact turned ew hlt (by omega) s5 h5 el
              | true =>
                rw [if_pos rfl]
                refine ⟨e4, r5, _, s5, h5, ?_⟩
                dsimp only at el
                cases hx : dE T x e4 with
                | ex _ _ => rw [hx] at el; cases el
                | no => rw [hx] at el; cases el
                | ok d e5 =>
                  rw [hx] at el
                  intro v H6 r6 s6 h6
                  have h7 : Rel K H6 ((v, d) :: (.ref Dl, .lst true acc) :: (r6 ++ (src ++ (ownR σ e1 own ++ Fr)))) := by
                    refine h6.perm (.cons _ ?_)
                    refine List.Perm.trans (List.Perm.append_left r6 List.perm_middle) ?_
                    exact List.perm_middle
                  obtain ⟨vs, g1, g2, h8⟩ := h7.push
                  refine ⟨vs, g1, ?_, turned (acc := acc ++ [d]) ew hlt (by simp; omega) s6 ?_ el⟩
                  · have hb : big < sizeLine := by decide
                    omega
                  · refine h8.perm ?_
                    refine List.Perm.trans List.perm_middle.symm ?_
                    exact List.Perm.append_left r6 List.perm_middle.symm
      · have e : i = p.1.length := by omega
        subst e
        refine .inl ⟨wk.stops H2 _ h2, ?_⟩
        rw [List.drop_length, lcL] at el
        injection el with e5 e6
        subst e5
        subst e6
        have sw3 : Sl σ (wipeE e2 own) rw2 := sw2.unwipe (by rw [wipe_length]) fun j d hj => by
          rw [wipe_get, if_neg]
          intro hz
          rw [rd_wipe hz] at hj
          cases hj
        obtain ⟨rf, sf, pf⟩ := s1.back nd sw3
        have h4 : Rel K H2 ((.ref Dl, .lst true acc) :: (src ++ (rf ++ Fr))) := by
          refine h2.perm ?_
          refine List.Perm.trans List.perm_middle (.cons _ (List.Perm.append_left src ?_))
          refine swap3.trans ?_
          rw [← List.append_assoc]
          exact pf.symm.append_right Fr
        cases hp : p.2 with
        | none =>
          rw [hp] at w
          refine w _ H2 rf sf ?_
          have h5 : Rel K H2 (src ++ ((.ref Dl, .lst true acc) :: (rf ++ Fr))) := h4.mid
          exact h5.cut
        | some q =>
          obtain ⟨j, dj⟩ := q
          rw [hp] at w
          obtain ⟨v, src', gj, pj⟩ := lent j dj hp
          obtain ⟨dr, r0, r1, q1, s7, q2⟩ := sf.put' gj dj
          refine w _ H2 r1 s7 ?_
          have h5 : Rel K H2 (src' ++ (dr ++ ((.ref Dl, .lst true acc) :: (r1 ++ Fr)))) := by
            refine h4.perm ?_
            classical
            rw [List.perm_iff_count]
            intro z
            have c1 := pj.count_eq z
            have c2 := q1.count_eq z
            have c3 := q2.count_eq z
            simp only [List.count_append, List.count_cons] at c1 c2 c3 ⊢
            omega
          exact h5.cut.cut
end Z

set_option Elab.async false
set_option linter.all false
set_option autoImplicit false
set_option maxRecDepth 100000
set_option maxHeartbeats 2000000
/-! Z12: statements. -/
namespace Z
open PySem PySem.Spec PyProof.Rows L2
def Keep (pr : List Nat) (σ σ' : L2.St) : Prop := ∀ j ∈ pr, σ'[j]? = σ[j]?
theorem Keep.rfl {pr : List Nat} {σ : L2.St} : Keep pr σ σ := fun _ _ => _root_.rfl
theorem Keep.tr {pr : List Nat} {σ σ' σ'' : L2.St} (a : Keep pr σ σ') (b : Keep pr σ' σ'') : Keep pr σ σ'' := fun j h => (b j h).trans (a j h)
theorem Eqx.keep {pr ss : List Nat} {σ σ' : L2.St} (x : Eqx ss σ σ') (h : ∀ i ∈ ss, i ∉ pr) : Keep pr σ σ' := fun j hj => x.2 j fun z => h j z hj
theorem Keep.set {pr : List Nat} {σ : L2.St} {i : Nat} {v : Option V} (h : i ∉ pr) : Keep pr σ (σ.set i v) := fun j hj => List.getElem?_set_ne fun (z : i = j) => h (by rw [z]; exact hj)
section
variable (K : PySem.W.Frag) (T : Tab) (pr : List Nat)
def WpS (σ : L2.St) (Fr : Rt) (r : R Fl) (D : Ends) : Prop := match r with
  | .ok .nx e => ∀ σ' H rs, Keep pr σ σ' → Sl σ' e rs → Rel K H (rs ++ Fr) → D.nx σ' H
  | .ok .bk e => ∀ σ' H rs, Keep pr σ σ' → Sl σ' e rs → Rel K H (rs ++ Fr) → D.bk σ' H
  | .ok .ct e => ∀ σ' H rs, Keep pr σ σ' → Sl σ' e rs → Rel K H (rs ++ Fr) → D.ct σ' H
  | .ok (.rt d) e => ∀ v σ' H rs, Keep pr σ σ' → Sl σ' e rs → Rel K H ((v, d) :: (rs ++ Fr)) → D.rt v H
  | _ => False
def tS (x : S) : TS := fun D σ H => ∃ e rs Fr, Sl σ e rs ∧ Rel K H (rs ++ Fr) ∧ WpS K pr σ Fr (dS T x e) D
def tSs (x : Ss) : TS := fun D σ H => ∃ e rs Fr, Sl σ e rs ∧ Rel K H (rs ++ Fr) ∧ WpS K pr σ Fr (dSs T x e) D
end
theorem impS {X : Cx} {st : Stmt} {t t' : TS} (h : PS X st t) (i : ∀ D σ H, t' D σ H → t D σ H) : PS X st t' :=
  ⟨fun a b c d q j w => h.run a b c d q j (i _ _ _ w)⟩
theorem impSs {X : Cx} {st : List Stmt} {t t' : TS} (h : PSs X st t) (i : ∀ D σ H, t' D σ H → t D σ H) : PSs X st t' :=
  ⟨fun a b c d q j w => h.run a b c d q j (i _ _ _ w)⟩
section
variable {X : Cx} {T : Tab} {pr : List Nat} {nm : Nm} {k : Nat} {pos : Pos} {ea eb eg : Expr} {a b : E} {st : Stmt} {sts : List Stmt} {x : S} {xs ys : Ss} {tg : Tg}
theorem wd_s {K : PySem.W.Frag} {σ : L2.St} {Fr : Rt} {D : Ends} : Wd fun r => WpS K pr σ Fr r D := ⟨id, fun _ _ => id⟩
/-- from a later state on -/
theorem WpS.from {K : PySem.W.Frag} {σ σ' : L2.St} {Fr : Rt} {r : R Fl} {D : Ends} (kp : Keep pr σ σ') (w : WpS K pr σ Fr r D) : WpS K pr σ' Fr r D := by
  cases r with
  | ok f e =>
    cases f with
    | nx => exact fun s H rs q => w s H rs (kp.tr q)
    | bk => exact fun s H rs q => w s H rs (kp.tr q)
    | ct => exact fun s H rs q => w s H rs (kp.tr q)
    | rt d => exact fun v s H rs q => w v s H rs (kp.tr q)
  | ex _ _ => exact w
  | no => exact w
/-- with another end where it goes on -/
theorem WpS.nx {K : PySem.W.Frag} {σ : L2.St} {Fr : Rt} {r : R Fl} {D D' : Ends} (w : WpS K pr σ Fr r D) (h1 : ∀ v H, D.rt v H → D'.rt v H) (h2 : ∀ s H, D.bk s H → D'.bk s H) (h3 : ∀ s H, D.ct s H → D'.ct s H)
    (h : ∀ e, r = .ok .nx e → ∀ σ' H rs, Keep pr σ σ' → Sl σ' e rs → Rel K H (rs ++ Fr) → D'.nx σ' H) : WpS K pr σ Fr r D' := by
  cases r with
  | ok f e =>
    cases f with
    | nx => exact h e rfl
    | bk => exact fun s H rs q p u => h2 _ _ (w s H rs q p u)
    | ct => exact fun s H rs q p u => h3 _ _ (w s H rs q p u)
    | rt d => exact fun v s H rs q p u => h1 _ _ (w v s H rs q p u)
  | ex _ _ => exact w
  | no => exact w
theorem zss_nil : PSs X [] (tSs X.K T pr .nil) := impSs pss_nil fun D σ H ⟨e, rs, Fr, s, h, w⟩ => by
  rw [dSs] at w
  exact w σ H rs .rfl s h
theorem seq_i {D : Ends} {σ : L2.St} {H : Hp} (g : tSs X.K T pr (.cons x xs) D σ H) : tS X.K T pr x { D with nx := tSs X.K T pr xs D } σ H := by
  obtain ⟨e, rs, Fr, s, h, w⟩ := g
  rw [dSs] at w
  refine ⟨e, rs, Fr, s, h, ?_⟩
  cases hr : dS T x e with
  | ok f e1 =>
    rw [hr] at w
    cases f with
    | nx => exact fun σ' H' rs' kp s' h' => ⟨e1, rs', Fr, s', h', w.from kp⟩
    | bk => exact w
    | ct => exact w
    | rt d => exact w
  | ex _ _ => rw [hr] at w; exact w
  | no => rw [hr] at w; exact w
theorem zss_cons (h1 : PS X st (tS X.K T pr x)) (h2 : PSs X sts (tSs X.K T pr xs)) : PSs X (st :: sts) (tSs X.K T pr (.cons x xs)) :=
  impSs (pss_cons h1 h2) fun D σ H g => seq_i g
theorem zs_pass : PS X (.Pass pos) (tS X.K T pr .pass) := impS ps_pass fun D σ H ⟨e, rs, Fr, s, h, w⟩ => by
  rw [dS] at w
  exact w σ H rs .rfl s h
theorem zs_brk : PS X (.Break pos) (tS X.K T pr .brk) := impS ps_break fun D σ H ⟨e, rs, Fr, s, h, w⟩ => by
  rw [dS] at w
  exact w σ H rs .rfl s h
theorem zs_cnt : PS X (.Continue pos) (tS X.K T pr .cnt) := impS ps_continue fun D σ H ⟨e, rs, Fr, s, h, w⟩ => by
  rw [dS] at w
  exact w σ H rs .rfl s h
theorem zs_retN : PS X (.Return none pos) (tS X.K T pr .retN) := impS ps_retN fun D σ H ⟨e, rs, Fr, s, h, w⟩ => by
  rw [dS] at w
  exact w _ σ H rs .rfl s h.addN
theorem zs_ret (ha : PE X ea (tE X.K T a)) : PS X (.Return (some ea) pos) (tS X.K T pr (.ret a)) := impS (ps_ret ha) fun D σ H ⟨e, rs, Fr, s, h, w⟩ => by
  rw [dS] at w
  exact use wd_s w s h fun d e1 v H1 rs1 _ w1 s1 h1 => w1 v σ H1 rs1 .rfl s1 h1
theorem zs_ex (ha : PE X ea (tE X.K T a)) (hs : swapsWith ea none pos.line X.env = pure false) : PS X (.Expr ea pos) (tS X.K T pr (.ex a)) := impS (ps_expr ha hs) fun D σ H ⟨e, rs, Fr, s, h, w⟩ => by
  rw [dS] at w
  exact use wd_s w s h fun d e1 v H1 rs1 _ w1 s1 h1 => w1 σ H1 rs1 .rfl s1 h1.tail
theorem zs_ite {ec : Expr} {t : Te} {s1 s2 : List Stmt} (hc : PT X ec (tT X.K T t)) (ha : PSs X s1 (tSs X.K T pr xs)) (hb : PSs X s2 (tSs X.K T pr ys)) : PS X (.If ec s1 s2 pos) (tS X.K T pr (.ite t xs ys)) :=
  impS (ps_if hc ha hb) fun D σ H ⟨e, rs, Fr, s, h, w⟩ => by
    rw [dS] at w
    refine useT wd_s w s h fun c e1 H1 rs1 _ w1 s1 h1 => ?_
    cases c with
    | true => exact ⟨e1, rs1, Fr, s1, h1, w1⟩
    | false => exact ⟨e1, rs1, Fr, s1, h1, w1⟩
/-! ### stores -/
theorem as_i {D : Ends} {σ : L2.St} {H : Hp} (hp : ∀ i ∈ tg.slots, i ∉ pr) (g : tS X.K T pr (.as tg a) D σ H) : tAsg (tE X.K T a) (tG X.K tg) D σ H := by
  obtain ⟨e, rs, Fr, s, h, w⟩ := g
  rw [dS] at w
  refine use wd_s w s h fun d e1 v H1 rs1 _ w1 s1 h1 => ?_
  cases ht : setT tg d e1 with
  | none => rw [ht] at w1; exact w1.elim
  | some e2 =>
    rw [ht] at w1
    exact ⟨e1, rs1, Fr, d, e2, s1, h1, ht, fun σ' H' r' x' s' h' => w1 σ' H' r' (x'.keep hp) s' h'⟩
theorem zs_as (hp : ∀ i ∈ tg.slots, i ∉ pr) (ha : PE X ea (tE X.K T a)) (hg : PG X eg (tG X.K tg)) (hs : swapsWithSole [eg] ea pos.line X.env = pure false) (hw : swappedStores [eg] ea X.env = pure none) (hq : plainE eg = true) :
    PS X (.Assign [eg] ea pos) (tS X.K T pr (.as tg a)) :=
  impS (ps_asg ha hg hs hw (assign_cons hq)) fun D σ H g => as_i hp g
theorem g_name {K : PySem.W.Frag} {i : Nat} {v : V} {σ : L2.St} {H : Hp} {Q : L2.St → Hp → Prop} (g : tG K (.n i) v σ H Q) : gName i v σ H Q := by
  obtain ⟨e, rs, Fr, d, e', s, h, w, q⟩ := g
  rw [setT] at w
  split at w
  · rename_i hl
    cases w
    obtain ⟨r1, s1, h1⟩ := Rel.store s h hl
    exact q _ H r1 (by rw [Tg.slots]; exact .set) s1 h1
  · cases w
theorem zs_set {i : Nat} {y : Str} {p : Pos} (hN : X.N.Nodup) (hi : X.N[i]? = some y) (hx : Loc X.env.scope y) (hf : X.fn y = true ∨ X.env.scope.names.lookup y = some .local) (hp : i ∉ pr) (ha : PE X ea (tE X.K T a)) (hs : swapsWith ea (some (.Name y p)) pos.line X.env = pure false) :
    PS X (.Assign [.Name y p] ea pos) (tS X.K T pr (.as (.n i) a)) :=
  impS (ps_set hN hi hx ha hs hf) fun D σ H g => by
    obtain ⟨e, rs, Fr, s, h, w⟩ := as_i (by simpa [Tg.slots] using hp) g
    refine ⟨e, rs, Fr, s, h, ?_⟩
    cases hr : dE T a e with
    | ok d e1 =>
      rw [hr] at w
      exact fun v H rs s h => g_name (w v H rs s h)
    | ex _ _ => rw [hr] at w; exact w
    | no => rw [hr] at w; exact w
/-- name = [..] on its own row -/
theorem zs_lc {i : Nat} {y : Str} {p cp : Pos} {elt tgE iter : Expr} {ifs : List Expr} {scope : Scope} {own : List (Str × Nat)} {it : It} {cs : Tes} (hc : X.calm = true) (hN : X.N.Nodup) (hi : X.N[i]? = some y) (hyl : X.env.scope.names.lookup y = some .local) (hp : i ∉ pr)
    (hsw : swapsWith (.ListComp elt [⟨tgE, iter, ifs, 0⟩] scope cp) (some (.Name y p)) pos.line X.env = pure true) (hI : PI X tgE iter (tIc X.K T it)) (ok : BlkOk X.N X.env.scope scope own)
    (hg : ∀ (s : Shared) (H : Hp) (C : Addr) (cl : List (Str × Addr)) (fp : List Addr), PG (X.blk s H scope (compEnvC scope cl C X.env) fp) tgE (tG X.K tg)) (ht : ∀ (s : Shared) (H : Hp) (C : Addr) (cl : List (Str × Addr)) (fp : List Addr), PTs (X.blk s H scope (compEnvC scope cl C X.env) fp) ifs (tTs X.K T cs))
    (he : ∀ (s : Shared) (H : Hp) (C : Addr) (cl : List (Str × Addr)) (fp : List Addr), PE (X.blk s H scope (compEnvC scope cl C X.env) fp) elt (tE X.K T a)) (hs : ∀ x, foldedSetIterable iter X.env x = pure x) (nd : (own.map (·.2)).Nodup) (hsl : ∀ i ∈ tg.slots, i ∈ own.map (·.2)) :
    PS X (.Assign [.Name y p] (.ListComp elt [⟨tgE, iter, ifs, 0⟩] scope cp) pos) (tS X.K T pr (.as (.n i) (.lc (own.map (·.2)) tg it cs a))) :=
  impS (ps_setLc hc hN hi hyl hsw hI ok hg ht he hs) fun D σ H g => by
    obtain ⟨e, rs, Fr, s, h, w⟩ := as_i (by simpa [Tg.slots] using hp) g
    refine lc_i nd hsl ⟨e, rs, Fr, s, h, ?_⟩
    cases hr : dE T (.lc (own.map (·.2)) tg it cs a) e with
    | ok d e1 =>
      rw [hr] at w
      exact fun v H rs s h => g_name (w v H rs s h)
    | ex _ _ => rw [hr] at w; exact w
    | no => rw [hr] at w; exact w
theorem z_lc {cp : Pos} {elt tgE iter : Expr} {ifs : List Expr} {scope : Scope} {own : List (Str × Nat)} {it : It} {cs : Tes} (hc : X.calm = true) (hN : X.N.Nodup) (hI : PI X tgE iter (tIc X.K T it)) (ok : BlkOk X.N X.env.scope scope own)
    (hg : ∀ (s : Shared) (H : Hp) (C : Addr) (cl : List (Str × Addr)) (fp : List Addr), PG (X.blk s H scope (compEnvC scope cl C X.env) fp) tgE (tG X.K tg)) (ht : ∀ (s : Shared) (H : Hp) (C : Addr) (cl : List (Str × Addr)) (fp : List Addr), PTs (X.blk s H scope (compEnvC scope cl C X.env) fp) ifs (tTs X.K T cs))
    (he : ∀ (s : Shared) (H : Hp) (C : Addr) (cl : List (Str × Addr)) (fp : List Addr), PE (X.blk s H scope (compEnvC scope cl C X.env) fp) elt (tE X.K T a)) (hs : ∀ x, foldedSetIterable iter X.env x = pure x) (nd : (own.map (·.2)).Nodup) (hsl : ∀ i ∈ tg.slots, i ∈ own.map (·.2)) :
    PE X (.ListComp elt [⟨tgE, iter, ifs, 0⟩] scope cp) (tE X.K T (.lc (own.map (·.2)) tg it cs a)) :=
  imp (pe_lc hc hN hI ok hg ht he hs) fun σ H Q g => lc_i nd hsl g
/-- name op= e, whole numbers -/
theorem aug_ok {o : Operator} (ho : o = .Add ∨ o = .Sub) : ∃ f : Int → Int → Int, PIp X o (ipI f) ∧ ∀ d y z, augD o d y = some z → ∃ i j, d = .int i ∧ y = .int j ∧ z = .int (f i j) := by
  rcases ho with rfl | rfl
  · refine ⟨_, ip_add, fun d y z h => ?_⟩
    cases d <;> cases y <;> first | cases h | skip
    exact ⟨_, _, rfl, rfl, rfl⟩
  · refine ⟨_, ip_sub, fun d y z h => ?_⟩
    cases d <;> cases y <;> first | cases h | skip
    exact ⟨_, _, rfl, rfl, rfl⟩
theorem zs_aug {i : Nat} {y : Str} {p : Pos} {o : Operator} (ho : o = .Add ∨ o = .Sub) (hN : X.N.Nodup) (hi : X.N[i]? = some y) (hx : Loc X.env.scope y) (hf : X.fn y = true ∨ X.env.scope.names.lookup y = some .local) (hp : i ∉ pr) (ha : PE X ea (tE X.K T a)) :
    PS X (.AugAssign (.Name y p) o ea pos) (tS X.K T pr (.aug i o a)) := by
  obtain ⟨f, h1, h2⟩ := aug_ok (X := X) ho
  refine impS (ps_aug hN hi hx ha h1 hf) fun D σ H ⟨e, rs, Fr, s, h, w⟩ => ?_
  rw [dS] at w
  cases hd : rd i e with
  | none => rw [hd] at w; exact w.elim
  | some d =>
    rw [hd] at w
    obtain ⟨v, r0, g, pm, _⟩ := s.get hd
    refine ⟨v, g, use wd_s w s h fun u e1 v1 H1 rs1 _ w1 s1 h1 => ?_⟩
    cases hz : augD o d u with
    | none => rw [hz] at w1; exact w1.elim
    | some z =>
      rw [hz] at w1
      obtain ⟨m, n, rfl, rfl, rfl⟩ := h2 _ _ _ hz
      obtain rfl := (h.left pm).int
      obtain rfl := h1.int
      have hl : i < e1.length := by
        rw [← s1.len]
        exact (List.getElem?_eq_some_iff.mp g).1
      obtain ⟨r2, s2, h3⟩ := Rel.store (v := .int (f m n)) (d := .int (f m n)) s1 h1.tail.addI hl
      exact ⟨m, n, rfl, rfl, w1 _ H1 r2 (.set hp) s2 h3⟩
end
end Z

set_option Elab.async false
set_option linter.all false
set_option autoImplicit false
set_option maxRecDepth 100000
set_option maxHeartbeats 2000000
/-! Z13: for, while, items stored, append, pop, several targets. -/
namespace Z
open PySem PySem.Spec PyProof.Rows L2
theorem bind_bind {α β γ : Type} {r : R α} {f : α → Ev → R β} {g : β → Ev → R γ} : (r.bind f).bind g = r.bind fun a e => (f a e).bind g := by cases r <;> rfl
section
variable {X : Cx} {T : Tab} {pr : List Nat} {nm : Nm} {k : Nat} {pos : Pos} {ea eb eg : Expr} {a b : E} {st : Stmt} {sts : List Stmt} {x : S} {xs ys : Ss} {tg : Tg} {it : It}
theorem for_i {D : Ends} {σ : L2.St} {H : Hp} (hp : ∀ i ∈ tg.slots, i ∉ pr) (g : tS X.K T pr (.fr tg it xs) D σ H) : tFor (tI X.K T it) (tG X.K tg) (tSs X.K T pr xs) D σ H := by
  obtain ⟨e, rs, Fr, s, h, w⟩ := g
  rw [dS] at w
  refine ⟨e, rs, Fr, s, h, ?_⟩
  cases hr : dI T it e with
  | ex _ _ => rw [hr] at w; exact w.elim
  | no => rw [hr] at w; exact w.elim
  | ok ds e1 =>
    rw [hr] at w
    simp only [R.bind] at w
    intro J H1 rs1 src s1 h1 wk
    generalize hres : frL tg (dSs T xs) ds e1 = res at w
    let Pv : Nat → L2.St → Hp → Prop := fun i σ' H' => i ≤ ds.length ∧ Keep pr σ σ' ∧ ∃ e rs, Sl σ' e rs ∧ Rel X.K H' (src ++ (rs ++ Fr)) ∧ frL tg (dSs T xs) (ds.drop i) e = res
    refine ⟨fun i m σ' H' => m = ds.length - i ∧ Pv i σ' H', ⟨ds.length, by omega, Nat.zero_le _, .rfl, e1, rs1, s1, h1, hres⟩, ?_⟩
    rintro i m σ2 H2 ⟨rfl, hi, kp, e2, r2, s2, h2, el⟩
    by_cases hlt : i < ds.length
    · refine .inr ⟨wk.goes i H2 _ hlt h2, Pv (i + 1), fun σ' H' hN => ⟨_, by have := hN.1; omega, rfl, hN⟩, fun y H3 hy => ?_⟩
      have h3 := wk.yields i H2 y H3 _ h2 hy _ (List.getElem?_eq_getElem hlt)
      rw [← List.getElem_cons_drop hlt, frL] at el
      cases hs : setT tg ds[i] e2 with
      | none => rw [hs] at el; subst el; exact w.elim
      | some e3 =>
        rw [hs] at el
        dsimp only at el
        refine ⟨e2, r2, src ++ Fr, ds[i], e3, s2, h3.perm (.cons _ swap3), hs, fun σ3 H4 r4 xq s4 h4 => ?_⟩
        have kp3 : Keep pr σ σ3 := kp.tr (xq.keep hp)
        refine ⟨e3, r4, src ++ Fr, s4, h4, ?_⟩
        have again : ∀ {e4 : Ev}, frL tg (dSs T xs) (ds.drop (i + 1)) e4 = res → ∀ σ' H' rs, Keep pr σ3 σ' → Sl σ' e4 rs → Rel X.K H' (rs ++ (src ++ Fr)) → Pv (i + 1) σ' H' :=
          fun el σ' H' rs kp' s' h' => ⟨hlt, kp3.tr kp', _, rs, s', h'.perm swap3, el⟩
        cases hb : dSs T xs e3 with
        | ex _ _ => rw [hb] at el; subst el; exact w.elim
        | no => rw [hb] at el; subst el; exact w.elim
        | ok f e4 =>
          rw [hb] at el
          cases f with
          | nx => exact again el
          | ct => exact again el
          | bk =>
            dsimp only at el
            subst el
            exact fun σ' H' rs kp' s' h' => w σ' H' rs (kp3.tr kp') s' (Rel.cut (a := src) (h'.perm swap3))
          | rt d =>
            dsimp only at el
            subst el
            exact fun v σ' H' rs kp' s' h' => w v σ' H' rs (kp3.tr kp') s' (Rel.cut (a := src) (h'.perm ((List.Perm.cons _ swap3).trans List.perm_middle.symm)))
    · have e : i = ds.length := by omega
      subst e
      rw [List.drop_length, frL] at el
      subst el
      exact .inl ⟨wk.stops H2 _ h2, w σ2 H2 r2 kp s2 h2.cut⟩
theorem zs_for (hc : X.calm = true) (hpo : PassesOwn (model X.prog X.w) X.A X.env X.xe) (hp : ∀ i ∈ tg.slots, i ∉ pr) (hI : PI X eg ea (tI X.K T it)) (hg : PG X eg (tG X.K tg)) (hb : PSs X sts (tSs X.K T pr xs)) (hs : ∀ x, foldedSetIterable ea X.env x = pure x) :
    PS X (.For eg ea sts [] pos) (tS X.K T pr (.fr tg it xs)) := impS (ps_for hpo hc hI hg hb hs) fun D σ H g => for_i hp g
theorem wh_i {D : Ends} {σ : L2.St} {H : Hp} {t : Te} (g : tS X.K T pr (.wh t xs) D σ H) : tWhile (tT X.K T t) (tSs X.K T pr xs) D σ H := by
  obtain ⟨e, rs, Fr, s, h, w⟩ := g
  rw [dS] at w
  generalize hres : whL (dT T t) (dSs T xs) big e = res at w
  refine ⟨fun m σ' H' => Keep pr σ σ' ∧ ∃ e rs, Sl σ' e rs ∧ Rel X.K H' (rs ++ Fr) ∧ whL (dT T t) (dSs T xs) m e = res, ⟨big, .rfl, e, rs, s, h, hres⟩, ?_⟩
  rintro m σ2 H2 ⟨kp, e2, r2, s2, h2, el⟩
  cases m with
  | zero =>
    rw [whL] at el
    subst el
    exact w.elim
  | succ m =>
    rw [whL] at el
    refine ⟨e2, r2, Fr, s2, h2, ?_⟩
    cases hc : dT T t e2 with
    | ex _ _ => rw [hc] at el; simp only [R.bind] at el; subst el; exact w.elim
    | no => rw [hc] at el; simp only [R.bind] at el; subst el; exact w.elim
    | ok c e3 =>
      rw [hc] at el
      simp only [R.bind] at el
      intro H3 r3 s3 h3
      cases c with
      | false =>
        rw [if_neg Bool.false_ne_true]
        dsimp only at el
        subst el
        exact w σ2 H3 r3 kp s3 h3
      | true =>
        rw [if_pos rfl]
        dsimp only at el
        refine ⟨fun σ' H' => Keep pr σ σ' ∧ ∃ e rs, Sl σ' e rs ∧ Rel X.K H' (rs ++ Fr) ∧ whL (dT T t) (dSs T xs) m e = res, fun σ' H' q => ⟨m, Nat.lt_succ_self _, q⟩, e3, r3, Fr, s3, h3, ?_⟩
        cases hb : dSs T xs e3 with
        | ex _ _ => rw [hb] at el; subst el; exact w.elim
        | no => rw [hb] at el; subst el; exact w.elim
        | ok f e4 =>
          rw [hb] at el
          cases f with
          | nx => exact fun σ' H' rs kp' s' h' => ⟨kp.tr kp', _, rs, s', h', el⟩
          | ct => exact fun σ' H' rs kp' s' h' => ⟨kp.tr kp', _, rs, s', h', el⟩
          | bk =>
            dsimp only at el
            subst el
            exact fun σ' H' rs kp' s' h' => w σ' H' rs (kp.tr kp') s' h'
          | rt d =>
            dsimp only at el
            subst el
            exact fun v σ' H' rs kp' s' h' => w v σ' H' rs (kp.tr kp') s' h'
theorem zs_wh {t : Te} (hpo : PassesOwn (model X.prog X.w) X.A X.env X.xe) (hc : PT X ea (tT X.K T t)) (hb : PSs X sts (tSs X.K T pr xs)) : PS X (.While ea sts [] pos) (tS X.K T pr (.wh t xs)) :=
  impS (ps_while hpo hc hb) fun D σ H g => wh_i g

/-! ### items of an own list -/
theorem Rel.own {K : PySem.W.Frag} {H : Hp} {rs : Rt} {v : V} {ds : List D} (h : Rel K H ((v, .lst true ds) :: rs)) : ∃ a vs, v = .ref a ∧ H a = some (.lst vs) ∧ vs.length = ds.length := by
  obtain ⟨p, vs, rfl, g1, g2, _⟩ := h.open
  exact ⟨p, vs, rfl, g1, g2⟩
/-- an own list's content exchanged: the new items' roots stand beside it -/
theorem Rel.swapL {K : PySem.W.Frag} {H : Hp} {rs : Rt} {a : Addr} {vs vs' : List V} {ds' : List D} (hv : H a = some (.lst vs)) (l : vs'.length = ds'.length)
    (h : ∃ Hk f g, Sub Hk H ∧ OwL K H Hk vs' ds' f ∧ OwR K H Hk rs g ∧ (a :: (f ++ g)).Nodup ∧ ∀ b ∈ a :: (f ++ g), Hk b = none) : Rel K (upd H a (.lst vs')) ((.ref a, .lst true ds') :: rs) := by
  obtain ⟨Hk, f, g, s, h1, h2, n, k⟩ := h
  have na : ∀ b ∈ f ++ g, b ≠ a := fun b hb z => (List.nodup_cons.mp n).1 (z ▸ hb)
  refine ⟨Hk, (a :: f) ++ g, fun b o e => ?_, .cons (.lst upd_same (h1.sub Sub.rfl fun b z => upd_ne (na b (List.mem_append_left _ z)))) (h2.sub Sub.rfl fun b z => upd_ne (na b (List.mem_append_right _ z))), n, k⟩
  have hb : b ≠ a := by
    rintro rfl
    rw [k b (by simp)] at e
    cases e
  rw [upd_ne hb]
  exact s b o e
theorem OwL.set' {K : PySem.W.Frag} {H Hk : Hp} : ∀ {vs : List V} {ds : List D} {f : List Addr} {n : Nat} {v : V} {d : D} {q : List Addr}, OwL K H Hk vs ds f → n < vs.length → Ow K H Hk v d q → ∃ f' dr, OwL K H Hk (vs.set n v) (ds.set n d) f' ∧ (dr ++ f').Perm (q ++ f)
  | _, _, _, _, _, _, _, .nil, hn, _ => absurd hn (Nat.not_lt_zero _)
  | _, _, _, 0, v, d, q, .cons (f := f) (g := g) h r, _, o => ⟨q ++ g, f, .cons o r, swap3⟩
  | _, _, _, n + 1, v, d, q, .cons (f := f) (g := g) h r, hn, o => by
    obtain ⟨f', dr, h1, h2⟩ := r.set' (Nat.lt_of_succ_lt_succ hn) o
    refine ⟨f ++ f', dr, .cons h h1, swap3.trans ?_⟩
    exact (List.Perm.append_left f h2).trans swap3
theorem Rel.setItem {K : PySem.W.Frag} {H : Hp} {rs : Rt} {v : V} {d : D} {a : Addr} {ds : List D} {n : Nat} (hn : n < ds.length) (h : Rel K H ((v, d) :: (.ref a, .lst true ds) :: rs)) :
    ∃ vs, H a = some (.lst vs) ∧ vs.length = ds.length ∧ Rel K (upd H a (.lst (vs.set n v))) ((.ref a, .lst true (ds.set n d)) :: rs) := by
  obtain ⟨Hk, fp, s, q, nd, k⟩ := h
  cases q with
  | @cons _ _ f _ _ g1 q =>
    cases q with
    | @cons _ _ _ _ r g2 q =>
      cases g2 with
      | sh z => cases z
      | @lst _ vs _ g h1 h2 =>
        refine ⟨vs, h1, h2.len, Rel.swapL h1 (by simp [h2.len]) ?_⟩
        obtain ⟨f', dr, h3, h4⟩ := h2.set' (by rw [h2.len]; exact hn) g1
        have pm : (f ++ (a :: g ++ r)).Perm (dr ++ (a :: (f' ++ r))) := by
          classical
          rw [List.perm_iff_count]
          intro z
          have c := h4.count_eq z
          simp only [List.count_append, List.count_cons] at c ⊢
          omega
        have nd2 := pm.nodup nd
        exact ⟨Hk, f', r, s, h3, q, (List.nodup_append.mp nd2).2.1, fun b z => k b (pm.symm.subset (List.mem_append_right _ z))⟩
theorem OwL.del {K : PySem.W.Frag} {H Hk : Hp} : ∀ {vs : List V} {ds : List D} {f : List Addr} {n : Nat} {d : D}, OwL K H Hk vs ds f → ds[n]? = some d → ∃ v q f', vs[n]? = some v ∧ Ow K H Hk v d q ∧ OwL K H Hk (vs.eraseIdx n) (ds.eraseIdx n) f' ∧ (q ++ f').Perm f
  | _, _, _, _, _, .nil, h => by simp at h
  | _, _, _, 0, _, .cons (v := v) (f := f) (g := g) h r, e => by
    cases e
    exact ⟨v, f, g, rfl, h, r, .refl _⟩
  | _, _, _, n + 1, _, .cons (f := f) (g := g) h r, e => by
    obtain ⟨v, q, f', h1, h2, h3, h4⟩ := r.del (n := n) (by simpa using e)
    exact ⟨v, q, f ++ f', by simpa using h1, h2, .cons h h3, swap3.trans (List.Perm.append_left f h4)⟩
theorem Rel.popItem {K : PySem.W.Frag} {H : Hp} {rs : Rt} {d : D} {a : Addr} {ds : List D} {n : Nat} (hd : ds[n]? = some d) (h : Rel K H ((.ref a, .lst true ds) :: rs)) :
    ∃ vs v, H a = some (.lst vs) ∧ vs.length = ds.length ∧ vs[n]? = some v ∧ Rel K (upd H a (.lst (vs.eraseIdx n))) ((v, d) :: (.ref a, .lst true (ds.eraseIdx n)) :: rs) := by
  obtain ⟨Hk, fp, s, q, nd, k⟩ := h
  cases q with
  | @cons _ _ _ _ r g2 q =>
    cases g2 with
    | sh z => cases z
    | @lst _ vs _ g h1 h2 =>
      obtain ⟨v, p, f', h3, h4, h5, h6⟩ := h2.del hd
      refine ⟨vs, v, h1, h2.len, h3, ?_⟩
      have pm : (a :: g ++ r).Perm (a :: (f' ++ (p ++ r))) := by
        classical
        rw [List.perm_iff_count]
        intro z
        have c := h6.count_eq z
        simp only [List.count_append, List.count_cons] at c ⊢
        omega
      have h7 : Rel K (upd H a (.lst (vs.eraseIdx n))) ((.ref a, .lst true (ds.eraseIdx n)) :: (v, d) :: rs) :=
        Rel.swapL h1 h5.len ⟨Hk, f', p ++ r, s, h5, .cons h4 q, pm.nodup nd, fun b z => k b (pm.symm.subset z)⟩
      exact two h7
theorem zs_sset {i : Nat} {y : Str} {p p2 : Pos} (hN : X.N[i]? = some y) (hv : Vis X.env.scope y) (h1 : (y == ("__debug__" : Str)) = false) (h2 : (y == ("__classdict__" : Str)) = false) (ha : PE X ea (tE X.K T a)) (hb : PE X eb (tE X.K T b))
    (hs : swapsWithSole [.Subscript (.Name y p) eb p2] ea pos.line X.env = pure false) (hw : swappedStores [.Subscript (.Name y p) eb p2] ea X.env = pure none) (hg : ∀ v, assign (.Subscript (.Name y p) eb p2) X.env v = (do
      let ov ← holding [v] (eval (.Name y p) X.env)
      let iv ← holding [v, ov] (eval eb X.env)
      standAt p2
      holding [v, ov, iv] (setItem ov iv v)
      release [v, ov, iv] [])) :
    PS X (.Assign [.Subscript (.Name y p) eb p2] ea pos) (tS X.K T pr (.sset i b a)) :=
  impS (ps_asg ha (pg_sub (pe_var hN hv h1 h2) hb set_list hg) hs hw (assign_cons rfl)) fun D σ H ⟨e, rs, Fr, s, h, w⟩ => by
    rw [dS] at w
    refine use wd_s w s h fun d e1 v H1 rs1 _ w1 s1 g1 => ?_
    cases hd : rd i e1 with
    | none => rw [hd] at w1; exact w1.elim
    | some d0 =>
      rw [hd] at w1
      obtain ⟨o, _, go, _⟩ := s1.get hd
      refine ⟨o, go, ?_⟩
      refine use wd_s w1 s1 g1.mid fun kd e2 u H2 rs2 _ w2 s2 g2 => ?_
      cases hr : rd i e2 with
      | none => rw [hr] at w2; cases kd <;> exact w2.elim
      | some d2 =>
        rw [hr] at w2
        obtain ⟨o', r0, go', pm, p1, _⟩ := s2.get hr
        rw [go] at go'
        cases go'
        cases d2 with
        | lst ow ds =>
          cases ow with
          | true =>
            cases kd with
            | int j =>
              dsimp only at w2
              cases hx : ixN ds.length j with
              | none => rw [hx] at w2; exact w2.elim
              | some n =>
                rw [hx] at w2
                have hn : n < ds.length := (ixN_seq hx).2.1
                obtain rfl := g2.int
                have g3 : Rel X.K H2 ((v, d) :: (o, .lst true ds) :: (r0 ++ Fr)) := by
                  refine g2.tail.perm ?_
                  classical
                  rw [List.perm_iff_count]
                  intro z
                  have c := pm.count_eq z
                  simp only [List.count_append, List.count_cons] at c ⊢
                  omega
                obtain ⟨a0, vs0, rfl, _⟩ := (two g3).own
                obtain ⟨vs, k1, k2, k3⟩ := Rel.setItem hn g3
                obtain ⟨r1, s3, q1⟩ := p1 (.lst true (ds.set n d))
                exact ⟨a0, vs, j, n, rfl, rfl, k1, by rw [k2]; exact hx, w2 σ _ r1 .rfl s3 (k3.perm (q1.symm.append_right Fr))⟩
            | _ => exact w2.elim
          | false => exact w2.elim
        | _ => exact w2.elim
/-- an item's place, in the other words -/
theorem tyv_list {K : PySem.W.Frag} {H : Hp} {a : Addr} {vs : List V} (h : H a = some (.lst vs)) : tyV K "list" (.ref a) H := .inl ⟨rfl, vs, .inl (.inl h)⟩
theorem isL_i {β : Type} {W : R β → Prop} {o : Option D} {r : R β} (n : Wd W) (w : W (match o.map isL with | some true => r | _ => .no)) : ∃ ds, o = some (.lst true ds) ∧ W r := by
  cases o with
  | none => exact (n.no w).elim
  | some d =>
    cases d with
    | lst ow ds =>
      cases ow with
      | true => exact ⟨ds, rfl, w⟩
      | false => exact (n.no w).elim
    | _ => exact (n.no w).elim
theorem few1 {e : Expr} {env : Env} {cp : Pos} (h : plainE e = true) : ((backTo cp (starEach [e] env)).all (fun x => !x.1) && (backToKw cp (keywordEach [] env)).all (fun x => x.1.isSome)
    && decide ([e].length + ([] : List Keyword).length + (if ([] : List Keyword).isEmpty then 0 else 1) < 30)) = true := by
  rw [star_cons h]
  rfl
theorem zs_ap {i : Nat} {y : Str} {p ap cp : Pos} (hN : X.N[i]? = some y) (hv : Vis X.env.scope y) (h1 : (y == ("__debug__" : Str)) = false) (h2 : (y == ("__classdict__" : Str)) = false) (hq : plainE ea = true) (ha : PE X ea (tE X.K T a))
    (hline : (ap.endLine == cp.line) = true) : PS X (.Expr (.Call (.Attribute (.Name y p) "append" ap) [ea] [] cp) pos) (tS X.K T pr (.ap i a)) := by
  have pb := pe_bm (X := X) (cpos := cp) (apos := ap) PySem.F.plainAttrs_list PySem.F.slot_list_append PySem.F.type_list_append mt_append (pe_var hN hv h1 h2 (pos := p)) (pa_cons ha pa_nil (star_cons hq)) rfl (few1 hq) hline (star_cons hq) rfl
  refine impS (ps_expr pb rfl) fun D σ H ⟨e, rs, Fr, s, h, w⟩ => ?_
  rw [dS] at w
  obtain ⟨ds0, hd, w⟩ := isL_i wd_s w
  · obtain ⟨o, r9, go, pm9, _⟩ := s.get hd
    obtain ⟨a0, vs0, rfl, ha0, _⟩ := (h.left pm9).own
    refine ⟨.ref a0, go, tyv_list ha0, ?_⟩
    refine use wd_s w s h fun d e2 v H2 rs2 _ w2 s2 g2 => ?_
    cases hr : rd i e2 with
    | none => rw [hr] at w2; exact w2.elim
    | some d2 =>
      rw [hr] at w2
      obtain ⟨o', r0, go', pm, p1, _⟩ := s2.get hr
      rw [go] at go'
      cases go'
      cases d2 with
      | lst ow ds =>
        cases ow with
        | true =>
          dsimp only at w2
          split at w2
          · rename_i hz
            have g3 : Rel X.K H2 ((v, d) :: (.ref a0, .lst true ds) :: (r0 ++ Fr)) := by
              refine g2.perm (.cons _ ?_)
              exact pm.append_right Fr
            obtain ⟨vs, k1, k2, k3⟩ := Rel.push g3
            obtain ⟨r1, s3, q1⟩ := p1 (.lst true (ds ++ [d]))
            have hb : big < sizeLine := by decide
            exact ⟨a0, vs, v, rfl, rfl, k1, by omega, w2 σ _ r1 .rfl s3 (k3.perm (q1.symm.append_right Fr))⟩
          · exact w2.elim
        | false => exact w2.elim
      | _ => exact w2.elim
/-! ### pop -/
theorem pop_end {K : PySem.W.Frag} {σ : L2.St} {H : Hp} {rs Fr : Rt} {e : Ev} {Q : VK} {i n : Nat} {ds : List D} {d : D} {a : Addr} (s : Sl σ e rs) (h : Rel K H (rs ++ Fr)) (hr : rd i e = some (.lst true ds)) (hd : ds[n]? = some d) (go : σ[i]? = some (some (.ref a)))
    (w : Wp K σ Fr (.ok d (e.set i (some (.lst true (ds.eraseIdx n))))) Q) : ∃ vs v, H a = some (.lst vs) ∧ vs.length = ds.length ∧ vs[n]? = some v ∧ Q v (upd H a (.lst (vs.eraseIdx n))) := by
  obtain ⟨o', r0, go', pm, p1, _⟩ := s.get hr
  rw [go] at go'
  cases go'
  obtain ⟨vs, v, k1, k2, k3, k4⟩ := Rel.popItem hd (h.left pm)
  obtain ⟨r1, s1, q1⟩ := p1 (.lst true (ds.eraseIdx n))
  refine ⟨vs, v, k1, k2, k3, w v _ r1 s1 (k4.perm (.cons _ ?_))⟩
  exact (q1.append_right Fr).symm
theorem z_pop0 {i : Nat} {y : Str} {p ap cp : Pos} (hN : X.N[i]? = some y) (hv : Vis X.env.scope y) (h1 : (y == ("__debug__" : Str)) = false) (h2 : (y == ("__classdict__" : Str)) = false) (hline : (ap.endLine == cp.line) = true) :
    PE X (.Call (.Attribute (.Name y p) "pop" ap) [] [] cp) (tE X.K T (.pop i .no)) := by
  refine imp (pe_bm0 (apos := ap) PySem.F.plainAttrs_list PySem.F.slot_list_pop PySem.F.type_list_pop mt_pop (pe_var hN hv h1 h2 (pos := p)) rfl hline) fun σ H Q ⟨e, rs, Fr, s, h, w⟩ => ?_
  rw [dE] at w
  obtain ⟨ds0, hd, w⟩ := isL_i wd_p w
  obtain ⟨o, r9, go, pm9, _⟩ := s.get hd
  obtain ⟨a0, vs0, rfl, ha0, _⟩ := (h.left pm9).own
  refine ⟨.ref a0, go, tyv_list ha0, ?_⟩
  rw [dO] at w
  simp only [R.bind] at w
  rw [hd] at w
  dsimp only at w
  split at w
  · rename_i n hn
    split at w
    · rename_i d hg
      obtain ⟨vs, v, k1, k2, k3, q⟩ := pop_end s h hd hg go w
      have hn2 : n = ds0.length - 1 := by
        split at hn
        · simp only [Option.getD_none, ixN] at hn
          rw [if_neg (by omega)] at hn
          split at hn
          · cases hn; omega
          · cases hn
        · cases hn
      subst hn2
      rw [← k2] at k3 q
      rw [List.eraseIdx_length_sub_one] at q
      exact ⟨a0, vs, v, rfl, rfl, k1, k3, q⟩
    · exact w.elim
  · exact w.elim
theorem z_popAt {i : Nat} {y : Str} {p ap cp : Pos} (hN : X.N[i]? = some y) (hv : Vis X.env.scope y) (h1 : (y == ("__debug__" : Str)) = false) (h2 : (y == ("__classdict__" : Str)) = false) (hq : plainE ea = true) (ha : PE X ea (tE X.K T a)) (hline : (ap.endLine == cp.line) = true) :
    PE X (.Call (.Attribute (.Name y p) "pop" ap) [ea] [] cp) (tE X.K T (.pop i (.e a))) := by
  refine imp (pe_bm (apos := ap) PySem.F.plainAttrs_list PySem.F.slot_list_pop PySem.F.type_list_pop mt_popAt (pe_var hN hv h1 h2 (pos := p)) (pa_cons ha pa_nil (star_cons hq)) rfl (few1 hq) hline (star_cons hq) rfl) fun σ H Q ⟨e, rs, Fr, s, h, w⟩ => ?_
  rw [dE] at w
  obtain ⟨ds0, hd, w⟩ := isL_i wd_p w
  obtain ⟨o, r9, go, pm9, _⟩ := s.get hd
  obtain ⟨a0, vs0, rfl, ha0, _⟩ := (h.left pm9).own
  refine ⟨.ref a0, go, tyv_list ha0, ?_⟩
  rw [dO, bind_bind] at w
  refine use wd_p w s h fun d e2 v H2 rs2 _ w2 s2 g2 => ?_
  cases d with
  | int j =>
    obtain rfl := g2.int
    simp only [R.bind] at w2
    cases hr : rd i e2 with
    | none => rw [hr] at w2; exact w2.elim
    | some d2 =>
      rw [hr] at w2
      cases d2 with
      | lst ow ds =>
        cases ow with
        | true =>
          dsimp only at w2
          split at w2
          · rename_i n hn
            split at w2
            · rename_i d hg
              obtain ⟨vs, v, k1, k2, k3, q⟩ := pop_end s2 g2.tail hr hg go w2
              split at hn
              · rename_i hz
                obtain ⟨z1, z2, z3, z4⟩ := ixN_seq hn
                have hb : big = 1000000 := rfl
                exact ⟨a0, vs, j, n, v, rfl, rfl, k1, by simp only [Option.getD_some] at z3; omega, by simp only [Option.getD_some] at z4; omega, by rw [k2]; exact z1, k3, q⟩
              · cases hn
            · exact w2.elim
          · exact w2.elim
        | false => exact w2.elim
      | _ => exact w2.elim
  | _ => exact w2.elim
end
section
variable {X : Cx} {T : Tab} {nm : Nm} {k : Nat} {pos p : Pos} {ea eb : Expr} {es : List Expr} {a b : E} {r : Es}
/-! ### a call by keywords alone -/
theorem impK {X : Cx} {ks : List Keyword} {t t' : TA} (h : PK X ks t) (i : ∀ σ H Q, t' σ H Q → t σ H Q) : PK X ks t' :=
  ⟨fun p a b c d q j w => h.run p a b c d q j (i _ _ _ w)⟩
theorem zk_nil : PK X [] (tA X.K T .nil) := impK pk_nil fun σ H Q ⟨e, rs, Fr, s, h, w⟩ => w [] H rs [] s .nil h
theorem zk_raw {kw : Option Str} {kpos : Pos} {kws : List Keyword} (ha : PE X ea (tE X.K T a)) (hr : PK X kws (tA X.K T r)) : PK X (⟨kw, ea, kpos⟩ :: kws) (tA X.K T (.raw a r)) := by
  refine impK (pk_cons ha hr) fun σ H Q ⟨e, rs, Fr, s, h, w⟩ => ?_
  rw [dEs] at w
  refine use wd_a w s h fun d e1 v H1 rs1 _ w1 s1 h1 => ?_
  refine useA wd_a w1 s1 h1.mid fun xs e2 vs H2 rs2 as _ w2 s2 g h2 => ?_
  refine w2 _ H2 rs2 _ s2 (.own g) ?_
  exact h2.mid2
theorem reo_zip {α β : Type} (ix : List Nat) : ∀ {a : List α} {b : List β}, a.length = b.length → (reo ix a).length = (reo ix b).length ∧ (reo ix a).zip (reo ix b) = reo ix (a.zip b) := by
  intro a b h
  induction ix with
  | nil => exact ⟨rfl, rfl⟩
  | cons j ix ih =>
    by_cases hj : j < a.length
    · have h1 : a[j]? = some a[j] := List.getElem?_eq_getElem hj
      have h2 : b[j]? = some (b[j]'(h ▸ hj)) := List.getElem?_eq_getElem _
      have h3 : (a.zip b)[j]? = some (a[j], b[j]'(h ▸ hj)) := by rw [List.getElem?_eq_getElem (by simp; omega)]; simp
      simp only [reo, List.filterMap_cons, h1, h2, h3] at ih ⊢
      exact ⟨by simp [ih.1], by rw [List.zip_cons_cons, ih.2]⟩
    · have h1 : a[j]? = none := List.getElem?_eq_none (by omega)
      have h2 : b[j]? = none := List.getElem?_eq_none (by omega)
      have h3 : (a.zip b)[j]? = none := List.getElem?_eq_none (by simp; omega)
      simp only [reo, List.filterMap_cons, h1, h2, h3] at ih ⊢
      exact ih
theorem Rel.pick {K : PySem.W.Frag} {H : Hp} {as Fr : Rt} (f : ∀ x ∈ as, frz x.2 = x.2) (h : Rel K H (as ++ Fr)) (ix : List Nat) : Rel K H (reo ix as ++ Fr) := by
  have go : Rel K H (reo ix as ++ (as ++ Fr)) := by
    induction ix with
    | nil => exact h
    | cons j ix ih =>
      unfold reo at ih ⊢
      rw [List.filterMap_cons]
      cases hj : as[j]? with
      | none => exact ih
      | some x =>
        have hm := List.mem_of_getElem? hj
        have hf := f x hm
        obtain ⟨a1, a2, rfl⟩ := List.append_of_mem hm
        have p1 : (List.filterMap (fun j => (a1 ++ x :: a2)[j]?) ix ++ (a1 ++ x :: a2 ++ Fr)).Perm (x :: (List.filterMap (fun j => (a1 ++ x :: a2)[j]?) ix ++ (a1 ++ a2 ++ Fr))) := by
          classical
          rw [List.perm_iff_count]
          intro z
          simp only [List.count_append, List.count_cons]
          omega
        have h2 := (ih.perm p1).dup hf
        exact h2.perm (.cons _ p1.symm)
  have := go.perm (show (reo ix as ++ (as ++ Fr)).Perm (as ++ (reo ix as ++ Fr)) from swap3)
  exact this.cut
theorem fnk_i {i : Nat} {n : Nat} {ix : List Nat} {m : Nat} {σ : L2.St} {H : Hp} {Q : VK} (hl : r.len = m) (hn : ∀ l : List V, l.length = m → (reo ix l).length = n) (g : tE X.K T (.fnk i ix r) σ H Q) :
    tCallK (fun vs H Q E => vs.length = n ∧ spD X.K (T i) vs H Q E) (kg ix m) E0 tNil (tA X.K T r) σ H Q := by
  obtain ⟨e, rs, Fr, s, h, w⟩ := g
  rw [dE] at w
  refine useA wd_p w s h fun xs e1 vs H1 rs1 as he w1 s1 g h1 => ?_
  cases hx : args1 xs with
  | none => rw [hx] at w1; exact w1.elim
  | some l =>
    rw [hx] at w1
    dsimp only at w1
    obtain ⟨l1, rfl⟩ := g.all hx
    have lm : l.length = m := by rw [args_len hx, dEs_len he, hl]
    have h2 := h1.frozL l1
    have hz := reo_zip ix (a := vs) (b := l.map fz) (by rw [l1, List.length_map])
    have h3 : Rel X.K H1 ((reo ix vs).zip (reo ix (l.map fz)) ++ (rs1 ++ Fr)) := by
      rw [hz.2]
      refine Rel.pick (fun x hx => ?_) h2 ix
      obtain ⟨y, _, hy⟩ := List.mem_map.mp (List.of_mem_zip hx).2
      rw [← hy]
      exact fz_frz y
    have hk : kg ix m [] vs = reo ix vs := by
      unfold kg
      rw [if_pos (by simp [l1, lm])]
    show _ ∧ spD X.K (T i) _ _ _ _
    rw [hk]
    refine ⟨hn vs (by rw [l1, lm]), reo ix (l.map fz), rs1 ++ Fr, hz.1, h3, ?_⟩
    cases hT : T i (reo ix (l.map fz)) with
    | ok d ps =>
      rw [hT] at w1
      exact fun v H' rs _ hr => w1 v H' rs1 s1 (by
        have q : Rel X.K H' (rs ++ ((v, d) :: (rs1 ++ Fr))) := hr.mid
        exact q.cut)
    | ex _ _ => rw [hT] at w1; exact w1.elim
    | no => rw [hT] at w1; exact w1.elim
def kwNames : List Keyword → Option (List Str)
  | [] => some []
  | ⟨some x, _, _⟩ :: r => (kwNames r).map fun l => x :: l
  | _ => none
theorem kw_ok {env : Env} : ∀ {kws : List Keyword} {ks : List Str}, kwNames kws = some ks → (backToKw pos (keywordEach kws env)).filterMap (·.1) = ks ∧ (backToKw pos (keywordEach kws env)).all (·.1.isSome) = true ∧ (backToKw pos (keywordEach kws env)).any (·.1.isNone) = false
  | [], ks, h => by
    cases h
    exact ⟨rfl, rfl, rfl⟩
  | ⟨some x, e, q⟩ :: r, ks, h => by
    obtain ⟨l, hl, rfl⟩ := map_ok h
    obtain ⟨h1, h2, h3⟩ := kw_ok (env := env) hl
    have hb : backToKw pos (keywordEach (⟨some x, e, q⟩ :: r) env) = (some x, (do let v ← eval e env; standAt pos; pure v)) :: backToKw pos (keywordEach r env) := rfl
    rw [hb]
    exact ⟨by rw [List.filterMap_cons]; simp [h1], by simpa using h2, by simpa using h3⟩
  | ⟨none, _, _⟩ :: _, _, h => by cases h
theorem z_fnk (G : Gd X T nm k) {i : Nat} {x : Str} {n : Nat} {ps ks : List Str} {kk : List (List Str)} {kws : List Keyword} (hi : nm.fn[i]? = some ⟨x, n, ps, kk⟩) (hks : ks ∈ kk) (hl : r.len = ks.length) (hin : ∀ j ∈ ixOf ks ps, j < ks.length) (hg : Gl X x) (hd : (x == ("__debug__" : Str)) = false)
    (hn : kwNames kws = some ks) (hk : PK X kws (tA X.K T r)) : PE X (.Call (.Name x p) [] kws pos) (tE X.K T (.fnk i (ixOf ks ps) r)) := by
  obtain ⟨f, fd, hl', hkb, hm, hk', hb, F⟩ := G.fn i x n ps kk hi
  obtain ⟨n1, n2, n3⟩ := kw_ok (pos := pos) (env := X.env) hn
  have q : PE X (.Call (.Name x p) [] kws pos) (tCallK (fun vs H Q E => vs.length = n ∧ spD X.K (T i) vs H Q E) (kg (ixOf ks ps) ks.length) E0 tNil (tA X.K T r)) := by
    refine ⟨fun pins s σ H Q I h => ?_⟩
    refine wpAny_Call_Name_kw (ld_glob I hg hm ?_ hd)
    refine PySem.W.callWith_KW0 (h₀ := X.base) I.ok.mod.kin hk' n2 (thn (hk.run pos pins s σ H _ I h) fun ws s2 ⟨zs, H2, I2, rz, q2⟩ => ⟨I2.kIn, ?_⟩) (by rw [n3]; rfl)
    rw [n1]
    exact run_fnk F G.room (hkb ks hks) pass0 I2 .nil rz q2
  refine imp q fun σ H Q g => fnk_i hl (fun l hl2 => ?_) g
  have : ∀ ix : List Nat, (∀ j ∈ ix, j < l.length) → (reo ix l).length = ix.length := by
    intro ix
    induction ix with
    | nil => exact fun _ => rfl
    | cons j ix ih =>
      intro hj
      unfold reo at ih ⊢
      rw [List.filterMap_cons, List.getElem?_eq_getElem (hj j (.head _))]
      simp [ih fun j h => hj j (.tail _ h)]
  rw [this _ (by rw [hl2]; exact hin), ← hl']
  simp [ixOf]
end
end Z

set_option Elab.async false
set_option linter.all false
set_option autoImplicit false
set_option maxRecDepth 100000
set_option maxHeartbeats 4000000
/-! Y4: own exceptions in the small language: made, asked for a field, for their class. -/
namespace Z
open PySem PySem.Spec PyProof.Rows L2 Y
/-! ### new objects under a root -/
section
variable {K : PySem.W.Frag} {H H' : Hp} {rs : Rt} {a dx C : Addr} {c f : Str} {v : V} {d : D}
theorem Rel.newOb (h : Rel K H rs) (hc : Cls K c C) (na : H a = none) (ha : H' a = some (exo a C none)) (off : ∀ b, b ≠ a → H' b = H b) : Rel K H' ((.ref a, .ob c) :: rs) := by
  obtain ⟨Hk, fp, s, o, n, k⟩ := h
  have ka : Hk a = none := by
    cases e : Hk a with
    | none => rfl
    | some x => rw [s a x e] at na; cases na
  have s1 : Sub Hk (upd Hk a (exo a C none)) := fun b x e => by rw [upd_ne (ne_of_none e ka)]; exact e
  have apart : ∀ b ∈ fp, b ≠ a := fun b hb z => by
    obtain ⟨x, e⟩ := o.there b hb
    rw [z, na] at e
    cases e
  refine ⟨upd Hk a (exo a C none), [] ++ fp, fun b x e => ?_, .cons (.sh (.ob hc upd_same)) (o.sub s1 fun b hb => off b (apart b hb)), n, fun b hb => by rw [upd_ne (apart b hb)]; exact k b hb⟩
  by_cases hb : b = a
  · subst hb
    rw [upd_same] at e
    rw [ha]
    exact e
  · rw [upd_ne hb] at e
    rw [off b hb]
    exact s b x e
theorem Rel.newObf (h : Rel K H ((v, d) :: rs)) (fr : frz d = d) (hc : Cls K c C) (na : H a = none) (nd : H dx = none) (ne : dx ≠ a) (ha : H' a = some (exo a C (some dx))) (hd : H' dx = some (exd dx [(f, v)])) (off : ∀ b, b ≠ a → b ≠ dx → H' b = H b) : Rel K H' ((.ref a, .obf c f d) :: rs) := by
  obtain ⟨Hk, fp, s, o, n, k⟩ := h
  cases o with
  | @cons _ _ f1 _ f2 hv o =>
    obtain ⟨rfl, sv⟩ := hv.shared fr
    have no : ∀ {b : Addr}, H b = none → Hk b = none := fun {b} z => by
      cases e : Hk b with
      | none => rfl
      | some x => rw [s b x e] at z; cases z
    have ka := no na
    have kd := no nd
    let Hn : Hp := upd (upd Hk dx (exd dx [(f, v)])) a (exo a C (some dx))
    have s1 : Sub Hk Hn := fun b x e => by
      show upd (upd Hk dx (exd dx [(f, v)])) a (exo a C (some dx)) b = _
      rw [upd_ne (ne_of_none e ka), upd_ne (ne_of_none e kd)]
      exact e
    have apart : ∀ b ∈ f2, b ≠ a ∧ b ≠ dx := fun b hb => by
      obtain ⟨x, e⟩ := o.there b hb
      exact ⟨fun z => (by rw [z, na] at e; cases e), fun z => (by rw [z, nd] at e; cases e)⟩
    have nA : Hn a = some (exo a C (some dx)) := upd_same
    have nD : Hn dx = some (exd dx [(f, v)]) := by
      show upd (upd Hk dx (exd dx [(f, v)])) a (exo a C (some dx)) dx = _
      rw [upd_ne ne, upd_same]
    refine ⟨Hn, [] ++ f2, fun b x e => ?_, .cons (.sh (.obf hc nA nD (sv.sub s1))) (o.sub s1 fun b hb => off b (apart b hb).1 (apart b hb).2), n, fun b hb => ?_⟩
    · by_cases hb : b = a
      · subst hb
        rw [nA] at e
        rw [ha]
        exact e
      · by_cases hb2 : b = dx
        · subst hb2
          rw [nD] at e
          rw [hd]
          exact e
        · rw [off b hb hb2]
          refine s b x ?_
          have q : upd (upd Hk dx (exd dx [(f, v)])) a (exo a C (some dx)) b = some x := e
          rw [upd_ne hb, upd_ne hb2] at q
          exact q
    · have q := apart b hb
      show upd (upd Hk dx (exd dx [(f, v)])) a (exo a C (some dx)) b = none
      rw [upd_ne q.1, upd_ne q.2]
      exact k b hb
end
/-! ### C(..) -/
def tMkV (C : Addr) (sp : Sp) (ta : TA) : TE := fun σ H Q => ta σ H fun vs H1 => vs.length ≤ 1000 ∧ ∀ a, H1 a = none → sp (.ref a :: vs) (upd H1 a (exo a C none)) (fun v H2 => v = .non ∧ Q (.ref a) H2) E0
section
variable {X : Cx} {T : Tab} {nm : Nm} {k j : Nat} {pos p : Pos} {ea e : Expr} {es : List Expr} {a : E} {r : Es} {B newId initId : String} {tl : List Value} {C fI : Addr} {fd : FuncData} {ps : List Str} {sp : Sp} {x : Str} {t : TA}
theorem pe_mkv (b : Bs X.K B newId initId tl) (Tc : Xc X.K C newId tl) (iC : PySem.W.findIn X.K (.ref C) "__init__" = some (some (.ref fI))) (tI : PySem.W.typeIn X.K (.ref fI) = some (.type "function")) (F : FnOk X.prog X.w X.K X.mg X.base CX0 j fI fd ps sp) (hr : Room (j + 1) X.A)
    (hb : Binds X.K fd ps []) (hg : Gl X x) (hm : X.mg x = some (.ref C)) (hd : (x == ("__debug__" : Str)) = false) (ha : PA X (e :: es) t) (he : starEach (e :: es) X.env = (false, eval e X.env) :: starEach es X.env) (hpl : (backTo pos (starEach es X.env)).any (·.1) = false) :
    PE X (.Call (.Name x p) (e :: es) [] pos) (tMkV C sp t) := by
  refine ⟨fun pins s σ H Q I h => ?_⟩
  refine wpAny_Call_Name_kw (ld_glob I hg hm ?_ hd)
  refine PySem.W.callWith_K (h₀ := X.base) I.ok.mod.kin Tc.kp (thn (ha.run pos pins s σ H _ I h) fun us s1 ⟨vs, H1, I1, r1, hl, q1⟩ => ⟨I1.kIn, ?_⟩) he hpl
  exact make_ok b Tc iC tI F hr hb I1 r1 hl q1
theorem pe_mkv0 (b : Bs X.K B newId initId tl) (Tc : Xc X.K C newId tl) (iC : PySem.W.findIn X.K (.ref C) "__init__" = some (some (.ref fI))) (tI : PySem.W.typeIn X.K (.ref fI) = some (.type "function")) (F : FnOk X.prog X.w X.K X.mg X.base CX0 j fI fd ps sp) (hr : Room (j + 1) X.A)
    (hb : Binds X.K fd ps []) (hg : Gl X x) (hm : X.mg x = some (.ref C)) (hd : (x == ("__debug__" : Str)) = false) : PE X (.Call (.Name x p) [] [] pos) (tMkV C sp tNil) := by
  refine ⟨fun pins s σ H Q I h => ?_⟩
  refine wpAny_Call_Name_kw (ld_glob I hg hm ?_ hd)
  exact PySem.W.callWith_K0 I.kIn Tc.kp (make_ok (us := []) b Tc iC tI F hr hb I .nil h.1 h.2)
theorem z_mk0 (G : Gd X T nm k) {y : Xn} (hy : y ∈ nm.xs) (hf : y.f = none) (hx : y.c = x) (hg : Gl X x) (hd : (x == ("__debug__" : Str)) = false) : PE X (.Call (.Name x p) [] [] pos) (tE X.K T (.mk x none .nil)) := by
  subst hx
  obtain ⟨C, fI, B, newId, initId, tl, fd, hc, hm, b, Tc, iC, tI, _, _, _, q⟩ := (G.xc y hy).ex
  rw [hf] at q
  refine imp (pe_mkv0 b Tc iC tI q.1 (G.room.mono (by omega)) q.2 hg hm hd) fun σ H Q ⟨e, rs, Fr, s, h, w⟩ => ⟨by simp, fun a na => ?_⟩
  rw [dE, dEs] at w
  refine ⟨a, C, rfl, Tc, upd_same, rfl, w (.ref a) _ rs s ?_⟩
  exact h.newOb hc na upd_same fun b hb => upd_ne hb
theorem z_mk1 (G : Gd X T nm k) {y : Xn} {f : Str} (hy : y ∈ nm.xs) (hf : y.f = some f) (hx : y.c = x) (hg : Gl X x) (hd : (x == ("__debug__" : Str)) = false) (hp : plainE ea = true) (ha : PA X [ea] (tA X.K T r)) : PE X (.Call (.Name x p) [ea] [] pos) (tE X.K T (.mk x (some f) r)) := by
  subst hx
  obtain ⟨C, fI, B, newId, initId, tl, fd, hc, hm, b, Tc, iC, tI, _, _, _, q⟩ := (G.xc y hy).ex
  rw [hf] at q
  obtain ⟨nof, F, hb, _⟩ := q
  refine imp (pe_mkv b Tc iC tI F (G.room.mono (by omega)) hb hg hm hd ha (star_cons hp) rfl) fun σ H Q ⟨e, rs, Fr, s, h, w⟩ => ?_
  rw [dE] at w
  refine useA wd_p w s h fun xs e1 vs H1 rs1 as _ w1 s1 g h1 => ?_
  cases hl : args1 xs with
  | none => rw [hl] at w1; exact w1.elim
  | some l =>
    rw [hl] at w1
    obtain ⟨l1, rfl⟩ := g.all hl
    cases l with
    | nil => exact w1.elim
    | cons d l =>
      cases l with
      | cons _ _ => exact w1.elim
      | nil =>
        obtain ⟨v, rfl⟩ := Z.l1 l1
        have h2 : Rel X.K H1 ((v, fz d) :: (rs1 ++ Fr)) := by
          rw [fz_eq]
          exact Rel.froz (show Rel X.K H1 ((v, d) :: (rs1 ++ Fr)) from h1)
        refine ⟨by simp, fun a na => ⟨a, C, v, rfl, Tc, nof, upd_same, fun dx hdx ne => ⟨rfl, w1 (.ref a) _ rs1 s1 ?_⟩⟩⟩
        rw [upd_ne ne] at hdx
        exact h2.newObf (fz_frz d) hc na hdx ne upd_same (by rw [upd_ne ne, upd_same]) fun b hb hb2 => by rw [upd_ne hb, upd_ne hb2, upd_ne hb]
/-- by keyword -/
def tMkK (C : Addr) (sp : Sp) (t : TA) : TE := fun σ H Q => t σ H fun vs H1 => ∃ v, vs = [v] ∧ ∀ a, H1 a = none → sp [.ref a, v] (upd H1 a (exo a C none)) (fun v H2 => v = .non ∧ Q (.ref a) H2) E0
theorem pe_mkk {prm : Str} {kpos : Pos} (b : Bs X.K B newId initId tl) (Tc : Xc X.K C newId tl) (iC : PySem.W.findIn X.K (.ref C) "__init__" = some (some (.ref fI))) (tI : PySem.W.typeIn X.K (.ref fI) = some (.type "function")) (F : FnOk X.prog X.w X.K X.mg X.base CX0 j fI fd ["self", prm] sp) (hr : Room (j + 1) X.A)
    (hb : ∀ z u : Value, bindArgs fd ⟨[z], [(prm, u)]⟩ = pure [(("self" : Str), z), (prm, u)]) (hg : Gl X x) (hm : X.mg x = some (.ref C)) (hd : (x == ("__debug__" : Str)) = false) (hk : PK X [⟨some prm, e, kpos⟩] t) : PE X (.Call (.Name x p) [] [⟨some prm, e, kpos⟩] pos) (tMkK C sp t) := by
  refine ⟨fun pins s σ H Q I h => ?_⟩
  refine wpAny_Call_Name_kw (ld_glob I hg hm ?_ hd)
  refine PySem.W.callWith_KW0 (h₀ := X.base) I.ok.mod.kin Tc.kp rfl (thn (hk.run pos pins s σ H _ I h) fun us s1 ⟨vs, H1, I1, r1, v, ev, q1⟩ => ⟨I1.kIn, ?_⟩) rfl
  subst ev
  cases r1 with
  | cons rv rr =>
    cases rr
    exact make_kw b Tc iC tI F hr (fun z => hb z _) I1 rv q1
theorem z_mkk (G : Gd X T nm k) {y : Xn} {f : Str} {kpos : Pos} (hy : y ∈ nm.xs) (hf : y.f = some f) (hx : y.c = x) (hg : Gl X x) (hd : (x == ("__debug__" : Str)) = false) (ha : PE X ea (tE X.K T a)) : PE X (.Call (.Name x p) [] [⟨some y.prm, ea, kpos⟩] pos) (tE X.K T (.mk x (some f) (.raw a .nil))) := by
  subst hx
  obtain ⟨C, fI, B, newId, initId, tl, fd, hc, hm, b, Tc, iC, tI, _, _, _, q⟩ := (G.xc y hy).ex
  rw [hf] at q
  obtain ⟨nof, F, hb, hkb⟩ := q
  refine imp (pe_mkk b Tc iC tI F (G.room.mono (by omega)) hkb hg hm hd (zk_raw ha zk_nil)) fun σ H Q ⟨e, rs, Fr, s, h, w⟩ => ?_
  rw [dE] at w
  refine useA wd_p w s h fun xs e1 vs H1 rs1 as _ w1 s1 g h1 => ?_
  cases hl : args1 xs with
  | none => rw [hl] at w1; exact w1.elim
  | some l =>
    rw [hl] at w1
    obtain ⟨l1, rfl⟩ := g.all hl
    cases l with
    | nil => exact w1.elim
    | cons d l =>
      cases l with
      | cons _ _ => exact w1.elim
      | nil =>
        obtain ⟨v, rfl⟩ := Z.l1 l1
        have h2 : Rel X.K H1 ((v, fz d) :: (rs1 ++ Fr)) := by
          rw [fz_eq]
          exact Rel.froz (show Rel X.K H1 ((v, d) :: (rs1 ++ Fr)) from h1)
        refine ⟨v, rfl, fun a na => ⟨a, C, v, rfl, Tc, nof, upd_same, fun dx hdx ne => ⟨rfl, w1 (.ref a) _ rs1 s1 ?_⟩⟩⟩
        rw [upd_ne ne] at hdx
        exact h2.newObf (fz_frz d) hc na hdx ne upd_same (by rw [upd_ne ne, upd_same]) fun b hb hb2 => by rw [upd_ne hb, upd_ne hb2, upd_ne hb]
end
/-! ### fields, classes -/
section
variable {K : PySem.W.Frag} {H : Hp} {rs : Rt} {v : V} {c f : Str} {d : D}
theorem Rel.obf (h : Rel K H ((v, .obf c f d) :: rs)) : ∃ a C dx u, v = .ref a ∧ Cls K c C ∧ H a = some (exo a C (some dx)) ∧ H dx = some (exd dx [(f, u)]) ∧ Rel K H ((u, d) :: rs) := by
  obtain ⟨Hk, fp, s, o, n, k⟩ := h
  cases o with
  | cons w o =>
    cases w with
    | sh w =>
      cases w with
      | obf h1 h2 h3 h4 => exact ⟨_, _, _, _, rfl, h1, s _ _ h2, s _ _ h3, Hk, _, s, .cons (.sh h4) o, n, k⟩
theorem Rel.ob (h : Rel K H ((v, .ob c) :: rs)) : ∃ a C, v = .ref a ∧ Cls K c C ∧ H a = some (exo a C none) := by
  obtain ⟨Hk, fp, s, o, n, k⟩ := h
  cases o with
  | cons w o =>
    cases w with
    | sh w =>
      cases w with
      | ob h1 h2 => exact ⟨_, _, rfl, h1, s _ _ h2⟩
theorem Cls.uniq {C D : Addr} (h1 : Cls K c C) (h2 : Cls K c D) : C = D := by
  have := h1.symm.trans h2
  injection this with this
  injection this with this
  injection this
end
theorem len_one {α : Type} : ∀ {l : List α}, l.length = 1 → ∃ a, l = [a]
  | [a], _ => ⟨a, rfl⟩
def attrB : Expr → Bool
  | .Name _ _ => true
  | .Subscript _ _ _ => true
  | .Call _ (_ :: _) _ _ => true
  | .Call _ [] (_ :: _) _ => true
  | _ => false
theorem attr_ok {e : Expr} {f : Str} {env : Env} (h : attrB e = true) (w : Sem Value) : attributeBase e f env w = w := by
  cases e with
  | Name _ _ => rfl
  | Subscript _ _ _ => rfl
  | Call g as ks p =>
    cases as with
    | cons _ _ => cases g <;> rfl
    | nil =>
      cases ks with
      | cons _ _ => cases g <;> rfl
      | nil => cases h
  | _ => cases h
/-- e.f of an own exception -/
def tFld (K : PySem.W.Frag) (f : Str) (te : TE) : TE := fun σ H Q => te σ H fun x H1 => ∃ (a C dx : Addr) (v : V), x = .ref a ∧ L2.ExcC K C ∧ PySem.W.findIn K (.ref C) f = some none ∧ H1 a = some (exo a C (some dx)) ∧ H1 dx = some (exd dx [(f, v)]) ∧ Q v H1
/-- what isinstance is asked of an own exception -/
def rIsO (K : PySem.W.Frag) : List V → Hp → VK → Prop := fun xs H Q => ∃ (a C : Addr) (c : V) (u : Value) (b : Bool), xs = [.ref a, c] ∧ L2.ExcC K C ∧ (H a = some (exo a C none) ∨ ∃ dx fs, H a = some (exo a C (some dx)) ∧ H dx = some (exd dx fs)) ∧ (∀ z, RelV c z → z = u) ∧ PySem.W.kitOne K (.ref C) u = some b ∧ Q (.bl b) H
section
variable {X : Cx} {T : Tab} {nm : Nm} {k : Nat} {pos p p2 : Pos} {ea e : Expr} {a : E} {te : TE} {f x : Str}
theorem pe_fld (he : PE X e te) (hb : attrB e = true) : PE X (.Attribute e f pos) (tFld X.K f te) := by
  refine ⟨fun pins s σ H Q I h => ?_⟩
  refine attr_of (attr_ok hb _) (thn (he.run pins s σ H _ I h) fun u s1 ⟨x, H1, I1, rx, a, C, dx, v, ex, ec, nof, ea, ed, q⟩ => ?_)
  subst ex
  obtain rfl : u = Value.ref a := rx
  obtain ⟨t1, ho⟩ := exo_at I1.hok ea
  obtain ⟨mA, ns, rel⟩ := exd_at I1.hok ed
  obtain ⟨od, hod, look⟩ := lookIn_ns ns
  have q2 := rel f
  rw [show (([(f, v)] : List (Str × V)).lookup f) = some v by simp [List.lookup]] at q2
  cases hu : mA f with
  | none => rw [hu] at q2; exact q2.elim
  | some u =>
    rw [hu] at q2
    have J : PySem.W.InstAt s1.heap a _ C (some od) := ⟨ho, rfl, rfl, hod⟩
    exact PySem.HandSPX.exc_get I1.kIn J ec.hg ec.hk ec.hs (PySem.W.findObj_own ec.hd nof rfl (by rw [look, hu])) (handed_of q2) ⟨v, H1, I1.tok _, q2, q⟩
theorem cr_isO : CallR X (.builtin "isinstance") (rIsO X.K) := by
  intro pins s σ H xs us Q I r ⟨a, C, c, cv, b, ex, ec, ho, hc, hk, q⟩
  subst ex
  cases r with
  | cons rx rr =>
    cases rr with
    | cons rt rr =>
      cases rr
      cases rx
      have et := hc _ rt
      subst et
      have cl : (PySem.W.clsIn X.K C).isSome = true := by
        obtain ⟨cd, hcd, _⟩ := PySem.W.any_some ec.hd
        rw [hcd]
        rfl
      rcases ho with ho | ⟨dx, fs, ho, hd⟩
      · obtain ⟨t1, g⟩ := exo_at I.hok ho
        have J : PySem.W.InstAt s.heap a { cls := .ref C, dict := none, data := .fields #[.ref t1, .none, .none, .none, .bool false, .none] } C none := ⟨g, rfl, rfl, trivial⟩
        exact PySem.W.kia_one (PySem.W.kitx_exc cl ec.hg ec.hk ec.hs ec.ha ec.hn ec.ht ec.hm) I.kIn J hk (fun z => nomatch z) fun tk => ⟨.bl b, H, I.kept (t' := tk) fun _ _ z => z, rfl, q⟩
      · obtain ⟨t1, g⟩ := exo_at I.hok ho
        obtain ⟨mA, ns, rel⟩ := exd_at I.hok hd
        obtain ⟨od, hod, look⟩ := lookIn_ns ns
        have J : PySem.W.InstAt s.heap a { cls := .ref C, dict := some dx, data := .fields #[.ref t1, .none, .none, .none, .bool false, .none] } C (some od) := ⟨g, rfl, rfl, hod⟩
        exact PySem.W.kia_one (PySem.W.kitx_exc cl ec.hg ec.hk ec.hs ec.ha ec.hn ec.ht ec.hm) I.kIn J hk (fun z => nomatch z) fun tk => ⟨.bl b, H, I.kept (t' := tk) fun _ _ z => z, rfl, q⟩
theorem z_fld (G : Gd X T nm k) {cs : List Str} (hcs : ∀ c ∈ cs, ∃ y ∈ nm.xs, y.c = c ∧ y.f = some f) (ha : PE X ea (tE X.K T a)) (hb : attrB ea = true) : PE X (.Attribute ea f pos) (tE X.K T (.fld a f cs)) := by
  refine imp (pe_fld ha hb) fun σ H Q ⟨e, rs, Fr, s, h, w⟩ => ?_
  rw [dE] at w
  refine use wd_p w s h fun d e1 v H1 rs1 _ w1 s1 h1 => ?_
  have h2 : Rel X.K H1 ((v, fz d) :: (rs1 ++ Fr)) := by
    rw [fz_eq]
    exact h1.froz
  generalize fz d = z at h2 w1
  cases z with
  | obf c g d' =>
    dsimp only at w1
    split at w1
    · rename_i hq
      obtain ⟨hf, hm⟩ := hq
      obtain ⟨y, hy, hc, hyf⟩ := hcs c hm
      obtain ⟨a0, C, dx, u, rfl, k1, k2, k3, h3⟩ := h2.obf
      obtain ⟨C', fI, B, newId, initId, tl, fd, hc', _, _, _, _, _, ec, _, _, q⟩ := (G.xc y hy).ex
      rw [hc] at hc'
      obtain rfl := k1.uniq hc'
      rw [hyf] at q
      subst hf
      exact ⟨a0, C, dx, u, rfl, ec, q.1, k2, k3, w1 u H1 rs1 s1 h3⟩
    · exact w1.elim
  | _ => exact w1.elim
theorem z_isx (G : Gd X T nm k) {yes all : List Str} {y : Str} {c : V} {u : Value} (hx : x = "isinstance") (hg : Gl X x) (hp : plainE ea = true) (ha : PE X ea (tE X.K T a)) (hpe : PE X (.Name y p2) (tC c)) (hrel : ∀ z, RelV c z → z = u)
    (hk : ∀ c' ∈ all, ∀ C, Cls X.K c' C → L2.ExcC X.K C ∧ PySem.W.kitOne X.K (.ref C) u = some (decide (c' ∈ yes))) : PE X (.Call (.Name x p) [ea, .Name y p2] [] pos) (tE X.K T (.isx a yes all)) := by
  subst hx
  refine imp (pe_callB cr_isO hg (G.bt _ (by decide)) (by decide +kernel) (pa_cons ha (pa_cons hpe pa_nil rfl) (star_cons hp)) (by decide) (by decide) (star_cons hp) (star_none (by simp [hp, plainE]))) fun σ H Q ⟨e, rs, Fr, s, h, w⟩ => ?_
  rw [dE] at w
  refine use wd_p w s h fun d e1 v H1 rs1 _ w1 s1 h1 => ?_
  cases d with
  | ob cc =>
    dsimp only at w1
    split at w1
    · rename_i hm
      obtain ⟨a0, C, rfl, k1, k2⟩ := h1.ob
      obtain ⟨ec, ek⟩ := hk cc hm C k1
      exact ⟨a0, C, c, u, _, rfl, ec, .inl k2, hrel, ek, w1 _ H1 rs1 s1 h1.tail.addB⟩
    · exact w1.elim
  | obf cc g d' =>
    dsimp only at w1
    split at w1
    · rename_i hm
      have h2 := h1.froz
      rw [frz] at h2
      obtain ⟨a0, C, dx, u', rfl, k1, k2, k3, _⟩ := h2.obf
      obtain ⟨ec, ek⟩ := hk cc hm C k1
      exact ⟨a0, C, c, u, _, rfl, ec, .inr ⟨dx, _, k2, k3⟩, hrel, ek, w1 _ H1 rs1 s1 h1.tail.addB⟩
    · exact w1.elim
  | _ => exact w1.elim
/-- of an own class -/
theorem z_isC (G : Gd X T nm k) {y : Str} {z : Xn} (hx : x = "isinstance") (hg : Gl X x) (hp : plainE ea = true) (ha : PE X ea (tE X.K T a)) (hz : z ∈ nm.xs) (hzc : z.c = y) (hgy : Gl X y) (hdy : (y == ("__debug__" : Str)) = false) :
    PE X (.Call (.Name x p) [ea, .Name y p2] [] pos) (tE X.K T (.isx a [y] (nm.xs.map (·.c)))) := by
  obtain ⟨D, fI, B, newId, initId, tl, fd, hc, hm, _⟩ := (G.xc z hz).ex
  rw [hzc] at hc hm
  refine z_isx G hx hg hp ha (pe_glob (v := .ref D) (u := .ref D) hgy hm rfl hdy) (fun w r => r) fun c' hc' C hC => ?_
  obtain ⟨t, ht, rfl⟩ := List.mem_map.mp hc'
  obtain ⟨C', _, _, _, _, _, _, hc2, _, _, _, _, _, ec, kt, _⟩ := (G.xc t ht).ex
  obtain rfl := hC.uniq hc2
  refine ⟨ec, ?_⟩
  rw [kt z hz D (by rw [hzc]; exact hc), hzc]
  congr 1
  simp only [List.mem_singleton, decide_eq_decide]
  exact eq_comm
/-- of a built-in exception class -/
theorem z_isB (G : Gd X T nm k) {b : String} {y : Str} (hx : x = "isinstance") (hg : Gl X x) (hp : plainE ea = true) (ha : PE X ea (tE X.K T a)) (hb : b ∈ excNames) (hy : y = Str.ofString b) (hgy : Gl X y) :
    PE X (.Call (.Name x p) [ea, .Name y p2] [] pos) (tE X.K T (.isx a ((nm.xs.filter fun t => decide (b ∈ t.up)).map (·.c)) ((nm.xs.filter fun t => decide ((nm.xs.filter fun s => decide (s.c = t.c)).length = 1)).map (·.c)))) := by
  have hpe : PE X (.Name y p2) (tC (.ty b)) := by
    subst hy
    simp only [excNames, List.mem_cons, List.not_mem_nil, or_false] at hb
    rcases hb with rfl | rfl | rfl | rfl
    · exact pe_bltn hgy (G.bt _ (by decide)) (by decide +kernel) rfl (by decide) (by decide)
    · exact pe_bltn hgy (G.bt _ (by decide)) (by decide +kernel) rfl (by decide) (by decide)
    · exact pe_bltn hgy (G.bt _ (by decide)) (by decide +kernel) rfl (by decide) (by decide)
    · exact pe_bltn hgy (G.bt _ (by decide)) (by decide +kernel) rfl (by decide) (by decide)
  refine z_isx G hx hg hp ha hpe (fun w r => r) fun c' hc' C hC => ?_
  obtain ⟨t, ht, rfl⟩ := List.mem_map.mp hc'
  obtain ⟨ht, h1⟩ := List.mem_filter.mp ht
  obtain ⟨C', _, _, _, _, _, _, hc2, _, _, _, _, _, ec, _, kb, _⟩ := (G.xc t ht).ex
  obtain rfl := hC.uniq hc2
  refine ⟨ec, ?_⟩
  rw [kb b hb]
  congr 1
  simp only [decide_eq_decide, List.mem_map, List.mem_filter, decide_eq_true_eq]
  constructor
  · exact fun h => ⟨t, ⟨ht, h⟩, rfl⟩
  · rintro ⟨s, ⟨hs, h⟩, e⟩
    have h2 := of_decide_eq_true h1
    obtain ⟨q, hq⟩ := len_one h2
    have m1 : s ∈ nm.xs.filter fun s => decide (s.c = t.c) := List.mem_filter.mpr ⟨hs, by simpa using e⟩
    have m2 : t ∈ nm.xs.filter fun s => decide (s.c = t.c) := List.mem_filter.mpr ⟨ht, by simp⟩
    rw [hq] at m1 m2
    rw [List.mem_singleton.mp m2, ← List.mem_singleton.mp m1]
    exact h
end
end Z

set_option Elab.async false
set_option linter.all false
set_option autoImplicit false
set_option maxRecDepth 100000
set_option maxHeartbeats 2000000
/-! Z14: from the written text to the small language. -/
namespace Z
open PySem PySem.Spec PyProof.Rows L2

/-- a def of the table: its name, its parameters' names, which of them are lent -/
structure Dn where
  nm : Str
  ps : List Str
  lent : List Bool
  kws : List (List Str)
/-- where one stands: all names by slot, the defs, the scope that runs, the names whose cells are the block's own -/
structure Cc where
  N : List Str
  ds : List Dn
  xs : List Y.Xn
structure Sc where
  sc : Scope
  fn : Str → Bool
def visB (s : Sc) (x : Str) : Bool := (s.sc.names.lookup x == some .local || s.sc.names.lookup x == some .cell || s.sc.names.lookup x == some .free) && !(x == ("__debug__" : Str)) && !(x == ("__classdict__" : Str))
def locB (s : Sc) (x : Str) : Bool := (s.sc.names.lookup x == some .local || s.sc.names.lookup x == some .cell) && (s.fn x || s.sc.names.lookup x == some .local)
def gloB (s : Sc) (x : Str) : Bool := (s.sc.names.lookup x == some .globalImplicit) && !(x == ("__debug__" : Str))
def slot (N : List Str) (x : Str) : Option Nat := if N[N.idxOf x]? == some x then some (N.idxOf x) else none
def dnAt (ds : List Dn) (x : Str) : Option (Nat × Dn) := match ds.findIdx? fun d => d.nm == x with
  | some i => match ds[i]? with
    | some d => if d.nm == x then some (i, d) else none
    | none => none
  | none => none
def okBin : Operator → Bool
  | .Add | .Sub | .Mult | .FloorDiv | .Mod | .Pow => true
  | _ => false
def biOf (x : Str) : Option Bi :=
  if x == "len" then some .len else if x == "abs" then some .abs else if x == "int" then some .int else if x == "sum" then some .sum else if x == "min" then some .min else if x == "max" then some .max
  else if x == "list" then some .list else if x == "tuple" then some .tuple else if x == "all" then some .all else if x == "any" then some .any else none
def tyOfN (x : Str) : Option Ty :=
  if x == "bool" then some .bool else if x == "int" then some .int else if x == "str" then some .str else if x == "list" then some .list else if x == "tuple" then some .tuple else if x == "dict" then some .dict else none
def tyE (s : Sc) : Expr → Option Ty
  | .Name x _ => if gloB s x then tyOfN x else none
  | _ => none
def tysE (s : Sc) : List Expr → Option (List Ty)
  | [] => some []
  | e :: r => match tyE s e, tysE s r with
    | some t, some ts => some (t :: ts)
    | _, _ => none
def plainI : Expr → Bool
  | .Slice _ _ _ _ => false
  | _ => true
def plainF : Expr → Bool
  | .Set _ _ _ => false
  | _ => true
def nameE : Expr → Option Str
  | .Name x _ => some x
  | _ => none
def ownOf (N : List Str) (scope : Scope) : List (Str × Nat) := scope.names.filterMap fun p => if p.2 == .local || p.2 == .cell then (slot N p.1).map fun i => (p.1, i) else none
mutual
  def cG (c : Cc) (s : Sc) : Nat → Expr → Option Tg
    | 0, _ => none
    | n + 1, .Name x _ => if locB s x then (slot c.N x).map .n else none
    | n + 1, .Tuple es _ _ => if es.all plainE then (cGs c s n es).map .t else none
    | _, _ => none
  def cGs (c : Cc) (s : Sc) : Nat → List Expr → Option Tgs
    | 0, _ => none
    | n + 1, [] => some .nil
    | n + 1, e :: r => match cG c s n e, cGs c s n r with
      | some t, some ts => some (.cons t ts)
      | _, _ => none
end

def xnAt (xs : List Y.Xn) (x : Str) : Option Y.Xn := xs.find? fun y => decide (y.c = x)
def exAt (y : Str) : Option String := Y.excNames.find? fun b => decide (Str.ofString b = y)
def boB : Expr → Bool
  | .BoolOp _ _ _ => true
  | _ => false
/-- where a test asks the value and nothing else, or a comparison -/
def tstB : Expr → Bool
  | .BoolOp _ _ _ => false
  | .UnaryOp .Not _ _ => false
  | .IfExp _ _ _ _ => false
  | _ => true
def cV (c : Cc) (s : Sc) (w : Bool) (e : Expr) (o : Option It) : Option It := match w, nameE e with
  | true, some x => if visB s x = true then (slot c.N x).map .var else none
  | _, _ => o
mutual
  def cE (c : Cc) : Nat → Sc → Expr → Option E
    | 0, _, _ => none
    | n + 1, s, e => match e with
      | .Name x _ => if visB s x = true then (slot c.N x).map .v else none
      | .Constant k _ _ => (cnst k).map .c
      | .BinOp a o b _ => if okBin o = true then (cE c n s a).bind fun x => (cE c n s b).map fun y => .bin o x y else none
      | .UnaryOp u a _ => match u with
        | .USub => (cE c n s a).map .neg
        | .Not => (cE c n s a).map fun x => .tst (.not (.val x))
        | _ => none
      | .Compare a os bs _ => match os, bs with
        | [o], [b] => match o, b with
          | .Is, .Constant .none _ _ => (cE c n s a).map (.isN false)
          | .IsNot, .Constant .none _ _ => (cE c n s a).map (.isN true)
          | o, b => if okCmp o = true ∧ behindInMarks o b = false then (cE c n s a).bind fun x => (cE c n s b).map fun y => .cmp o x y else none
        | [o, o'], [b, d] => if okCmp o = true ∧ okCmp o' = true ∧ lastMarks [o, o'] [b, d] = false then (cE c n s a).bind fun x => (cE c n s b).bind fun y => (cE c n s d).map fun z => .chn o o' x y z else none
        | _, _ => none
      | .BoolOp o vs p => match vs with
        | [] => none
        | [a] => cE c n s a
        | a :: b :: r => (cE c n s a).bind fun x => (cE c n s (.BoolOp o (b :: r) p)).map fun y => match o with
          | .And => .and x y
          | .Or => .or x y
      | .IfExp t a b _ => (cT c n s t).bind fun w => (cE c n s a).bind fun x => (cE c n s b).map fun y => .ite w x y
      | .Tuple es _ _ => (cEs c n s [] es).map .tup
      | .List es _ => (cEs c n s (es.map fun _ => 1) es).map .lst
      | .Subscript a b _ => match b with
        | .Slice lo hi st _ => match st with
          | none => (cE c n s a).bind fun x => (cO c n s lo).bind fun l => (cO c n s hi).map fun h => .slc x l h
          | some _ => none
        | b => if plainI b = true then match nameE a with
          | some x => if visB s x = true then (slot c.N x).bind fun i => (cE c n s b).map fun y => .subv i y else none
          | none => (cE c n s a).bind fun x => (cE c n s b).map fun y => .sub x y
          else none
      | .Attribute o f _ => if attrB o = true then (cE c n s o).map fun x => .fld x f ((c.xs.filter fun y => decide (y.f = some f)).map (·.c)) else none
      | .Call f as ks cp => match f, ks with
        | .Attribute o at_ ap, [] => (nameE o).bind fun y => if at_ = "pop" ∧ visB s y = true ∧ (ap.endLine == cp.line) = true then (slot c.N y).bind fun i => match as with
          | [] => some (.pop i .no)
          | [b] => if plainE b = true then (cE c n s b).map fun x => .pop i (.e x) else none
          | _ => none
          else none
        | .Name f _, kw :: kws => if gloB s f = true then match dnAt c.ds f, as with
          | some (i, d), [] => (kwNames (kw :: kws)).bind fun ks => if ks ∈ d.kws ∧ ∀ j ∈ ixOf ks d.ps, j < ks.length then (cK c n s (kw :: kws)).map fun r => .fnk i (ixOf ks d.ps) r else none
          | none, [] => (xnAt c.xs f).bind fun y => match y.f, kw :: kws with
            | some g, [⟨some q, b, _⟩] => if q = y.prm then (cE c n s b).map fun x => .mk f (some g) (.raw x .nil) else none
            | _, _ => none
          | _, _ => none
          else none
        | .Name f _, [] => if gloB s f = true then match dnAt c.ds f with
          | some (i, d) => match as with
            | [] => if d.ps.length = 0 then some (.fn i .nil) else none
            | a :: r => if d.ps.length = (a :: r).length then (cEs c n s (d.lent.map fun b => if b = true then 2 else 1) (a :: r)).map (.fn i) else none
          | none => match as with
            | [] => (xnAt c.xs f).bind fun y => match y.f with
              | none => some (.mk f none .nil)
              | some _ => none
            | a :: r => if (xnAt c.xs f).isSome = true then (xnAt c.xs f).bind fun y => match y.f, r with
                | some g, [] => if plainE a = true then (cEs c n s [1] [a]).map (.mk f (some g)) else none
                | _, _ => none
              else if f = "isinstance" then match r with
                | [b] => match b with
                  | .Name y p => match tyE s (.Name y p) with
                    | some t => (cE c n s a).bind fun x => if plainE a = true then some (.isi x [t] true) else none
                    | none => if gloB s y = true ∧ plainE a = true then (cE c n s a).bind fun x => match xnAt c.xs y with
                      | some _ => some (.isx x [y] (c.xs.map (·.c)))
                      | none => (exAt y).map fun b => .isx x ((c.xs.filter fun t => decide (b ∈ t.up)).map (·.c)) ((c.xs.filter fun t => decide ((c.xs.filter fun s => decide (s.c = t.c)).length = 1)).map (·.c))
                      else none
                  | .Tuple es _ _ => (tysE s es).bind fun ts => (cE c n s a).bind fun x => if plainE a = true ∧ ts ≠ [] ∧ ts.length ≤ big then some (.isi x ts false) else none
                  | _ => none
                | _ => none
              else if f = "len" then match r with
                | [] => match nameE a with
                  | some y => if visB s y = true then (slot c.N y).map .lenv else none
                  | none => (cEs c n s [] [a]).map (.bi .len)
                | _ => none
              else match biOf f with
                | some b => (cEs c n s [] (a :: r)).map (.bi b)
                | none => none
          else none
        | _, _ => none
      | .ListComp x gs scope _ => match gs with
        | [⟨tg, iter, ifs, 0⟩] =>
          if blkC c.N s.sc scope (ownOf c.N scope) = true ∧ ((ownOf c.N scope).map (·.2)).Nodup ∧ plainF iter = true then
            (cG c ⟨relS scope s.sc, fun x => scope.names.lookup x == some .cell⟩ n tg).bind fun t => (cI c n s tg iter true).bind fun i => (cTs c n ⟨relS scope s.sc, fun x => scope.names.lookup x == some .cell⟩ ifs).bind fun cs =>
              (cE c n ⟨relS scope s.sc, fun x => scope.names.lookup x == some .cell⟩ x).bind fun y => if ∀ j ∈ t.slots, j ∈ (ownOf c.N scope).map (·.2) then some (.lc ((ownOf c.N scope).map (·.2)) t i cs y) else none
          else none
        | _ => none
      | _ => none
  def cEs (c : Cc) : Nat → Sc → List Nat → List Expr → Option Es
    | 0, _, _, _ => none
    | n + 1, s, m, es => match es with
      | [] => some .nil
      | e :: r => if plainE e = true then (cEs c n s m.tail r).bind fun y => match m with
        | 2 :: _ => match nameE e with
          | some x => if visB s x = true then (slot c.N x).map fun i => .bw i y else none
          | none => (cE c n s e).map fun x => .raw x y
        | 1 :: _ => (cE c n s e).map fun x => .raw x y
        | _ => (cE c n s e).map fun x => .cons x y
        else none
  def cK (c : Cc) : Nat → Sc → List Keyword → Option Es
    | 0, _, _ => none
    | n + 1, s, ks => match ks with
      | [] => some .nil
      | ⟨_, e, _⟩ :: r => (cE c n s e).bind fun x => (cK c n s r).map fun y => .raw x y
  def cT (c : Cc) : Nat → Sc → Expr → Option Te
    | 0, _, _ => none
    | n + 1, s, e => match e with
      | .BoolOp o vs p => match vs with
        | [] => none
        | [a] => cT c n s a
        | a :: b :: r => (cT c n s a).bind fun x => (cT c n s (.BoolOp o (b :: r) p)).map fun y => match o with
          | .And => .and x y
          | .Or => .or x y
      | .UnaryOp u a p => match u with
        | .Not => (cT c n s a).map .not
        | u => (cE c n s (.UnaryOp u a p)).map .val
      | e => if tstB e = true then (cE c n s e).map .val else none
  def cTs (c : Cc) : Nat → Sc → List Expr → Option Tes
    | 0, _, _ => none
    | n + 1, s, es => match es with
      | [] => some .nil
      | [e] => (cT c n s e).map fun t => .cons t .nil
      | _ => none
  def cO (c : Cc) : Nat → Sc → Option Expr → Option Oe
    | 0, _, _ => none
    | n + 1, s, o => match o with
      | none => some .no
      | some e => (cE c n s e).map .e
  def cI (c : Cc) : Nat → Sc → Expr → Expr → Bool → Option It
    | 0, _, _, _, _ => none
    | n + 1, s, tg, e, w => match e with
      | .Call f as ks q => match nameE f, ks with
        | some y, [] => if gloB s y = true ∧ y = "range" then match as with
            | [_] => (cEs c n s [] as).map .rng
            | [_, _] => (cEs c n s [] as).map .rng
            | _ => none
          else if gloB s y = true ∧ y = "enumerate" then match as, tg with
            | [a], .Tuple _ _ _ => if plainE a = true then (cE c n s a).map .enm else none
            | _, _ => none
          else if gloB s y = true ∧ y = "zip" then match as, tg with
            | [_, _], .Tuple _ _ _ => (cEs c n s [] as).map .zip
            | _, _ => none
          else (cE c n s (.Call f as ks q)).map .seq
        | _, _ => (cE c n s (.Call f as ks q)).map .seq
      | e => cV c s w e ((cE c n s e).map .seq)
end
end Z

set_option Elab.async false
set_option linter.all false
set_option autoImplicit false
set_option maxRecDepth 100000
set_option maxHeartbeats 4000000
/-! Z15: the small text gives what the written text gives. -/
namespace Z
open PySem PySem.Spec PyProof.Rows L2

structure At (c : Cc) (z : Sc) (X : Cx) : Prop where
  n : X.N = c.N
  s : X.env.scope = z.sc
  f : X.fn = z.fn
def nmOf (c : Cc) : Nm := ⟨c.ds.map fun d => ⟨d.nm, d.ps.length, d.ps, d.kws⟩, c.xs⟩
theorem slot_ok {N : List Str} {x : Str} {i : Nat} (h : slot N x = some i) : N[i]? = some x := by
  unfold slot at h
  split at h
  · rename_i g
    cases h
    exact eq_of_beq g
  · cases h
theorem vis_ok {s : Sc} {x : Str} {X : Cx} (hs : X.env.scope = s.sc) (h : visB s x = true) : Vis X.env.scope x ∧ (x == ("__debug__" : Str)) = false ∧ (x == ("__classdict__" : Str)) = false := by
  unfold visB at h
  simp only [Bool.and_eq_true, Bool.or_eq_true, Bool.not_eq_true', beq_iff_eq] at h
  rw [hs]
  unfold Vis
  obtain ⟨⟨(h1 | h1) | h1, h2⟩, h3⟩ := h
  · exact ⟨.inl h1, by simpa using h2, by simpa using h3⟩
  · exact ⟨.inr (.inl h1), by simpa using h2, by simpa using h3⟩
  · exact ⟨.inr (.inr h1), by simpa using h2, by simpa using h3⟩
theorem loc_ok {c : Cc} {s : Sc} {x : Str} {X : Cx} (a : At c s X) (h : locB s x = true) : Loc X.env.scope x ∧ (X.fn x = true ∨ X.env.scope.names.lookup x = some .local) := by
  unfold locB at h
  simp only [Bool.and_eq_true, Bool.or_eq_true, beq_iff_eq] at h
  rw [a.s, a.f]
  exact h
theorem glo_ok {s : Sc} {x : Str} {X : Cx} (hs : X.env.scope = s.sc) (h : gloB s x = true) : Gl X x ∧ (x == ("__debug__" : Str)) = false := by
  unfold gloB at h
  simp only [Bool.and_eq_true, Bool.not_eq_true', beq_iff_eq] at h
  refine ⟨?_, by simpa using h.2⟩
  show X.env.scope.names.lookup x = some .globalImplicit
  rw [hs]
  exact h.1
theorem dn_ok {c : Cc} {x : Str} {i : Nat} {d : Dn} (h : dnAt c.ds x = some (i, d)) : (nmOf c).fn[i]? = some ⟨x, d.ps.length, d.ps, d.kws⟩ := by
  unfold dnAt at h
  split at h
  · split at h
    · rename_i j _ e he
      split at h
      · rename_i hd
        cases h
        show (c.ds.map fun d => (⟨d.nm, d.ps.length, d.ps, d.kws⟩ : Nx))[i]? = _
        rw [List.getElem?_map, he, ← eq_of_beq hd]
        rfl
      · cases h
    · cases h
  · cases h
section
variable {c : Cc} {X : Cx} {T : Tab} {k : Nat}
theorem g_ok (n : Nat) : (∀ s e t, cG c s n e = some t → X.calm = true → X.N.Nodup → At c s X → PG X e (tG X.K t)) ∧ (∀ s es ts, cGs c s n es = some ts → es.all plainE = true → X.calm = true → X.N.Nodup → At c s X → PGs X es (tGs X.K ts) ∧ es.length = ts.len) := by
  induction n with
  | zero => exact ⟨fun s e t h => (by simp [cG] at h), fun s es ts h => (by simp [cGs] at h)⟩
  | succ n ih =>
    obtain ⟨i1, i2⟩ := ih
    refine ⟨fun s e t h hc nd a => ?_, fun s es ts h hp hc nd a => ?_⟩
    · cases e with
      | Name x p =>
        simp only [cG] at h
        split at h
        · rename_i hl
          obtain ⟨i, hi, rfl⟩ := map_ok h
          obtain ⟨l1, l2⟩ := loc_ok a hl
          exact zg_n nd (by rw [a.n]; exact slot_ok hi) l1 l2
        · cases h
      | Tuple es k p =>
        simp only [cG] at h
        split at h
        · rename_i hq
          obtain ⟨ts, hts, rfl⟩ := map_ok h
          obtain ⟨g1, g2⟩ := i2 s _ ts hts hq hc nd a
          exact zg_t hc hq g2 g1
        · cases h
      | _ => simp [cG] at h
    · cases es with
      | nil =>
        simp only [cGs] at h
        cases h
        exact ⟨zgs_nil, rfl⟩
      | cons e r =>
        simp only [List.all_cons, Bool.and_eq_true] at hp
        simp only [cGs] at h
        split at h
        · rename_i h1 h2
          cases h
          obtain ⟨g1, g2⟩ := i2 s _ _ h2 hp.2 hc nd a
          exact ⟨zgs_cons hp.1 (i1 s _ _ h1 hc nd a) g1, by rw [List.length_cons, g2]; rfl⟩
        · cases h
/-! ### in a comprehension's block all stands as it stood -/
theorem Gd.blk {X : Cx} {T : Tab} {nm : Nm} {k : Nat} (G : Gd X T nm k) (s : Shared) (H : Hp) (scope : Scope) (env : Env) (fp : List Addr) : Gd (X.blk s H scope env fp) T nm k :=
  ⟨G.calm, G.nd, G.hu, G.room, G.bt, G.fn, G.xc⟩
def IsPlain (e : Expr) : Prop := True
/-- what is a plain value where a test is asked -/
def plainT : Expr → Bool
  | .BoolOp _ _ _ => false
  | .UnaryOp .Not _ _ => false
  | .Compare _ _ _ _ => false
  | _ => true
theorem folded_ok {e : Expr} {env : Env} (h : plainF e = true) : ∀ x, foldedSetIterable e env x = pure x := by
  intro x
  cases e <;> first | rfl | cases h
theorem plainI_ok {e : Expr} (h : plainI e = true) : PlainIx e := by
  intro v u
  cases e <;> first | rfl | cases h
theorem bi_ok {x : Str} {b : Bi} (h : biOf x = some b) : x = biN b ∧ biOk b = true := by
  unfold biOf at h
  repeat' split at h
  all_goals first | (cases h; done) | (rename_i hx; cases h; exact ⟨eq_of_beq hx, rfl⟩)
theorem tyN_ok {x : Str} {t : Ty} (h : tyOfN x = some t) : x = tyN t ∧ tyOk t = true := by
  unfold tyOfN at h
  repeat' split at h
  all_goals first | (cases h; done) | (rename_i hx; cases h; exact ⟨eq_of_beq hx, rfl⟩)
theorem tyE_ok {s : Sc} {e : Expr} {t : Ty} (h : tyE s e = some t) : ∃ x p, e = .Name x p ∧ gloB s x = true ∧ x = tyN t ∧ tyOk t = true := by
  cases e with
  | Name x p =>
    simp only [tyE] at h
    split at h
    · rename_i hg
      obtain ⟨h1, h2⟩ := tyN_ok h
      exact ⟨x, p, rfl, hg, h1, h2⟩
    · cases h
  | _ => cases h
theorem tysE_ok {s : Sc} (G : Gd X T (nmOf c) k) (hs : X.env.scope = s.sc) : ∀ {es : List Expr} {ts : List Ty}, tysE s es = some ts → PA X es (tTys ts) ∧ ts.all tyOk = true
  | [], ts, h => by
    cases h
    exact ⟨pa_nil, rfl⟩
  | e :: r, ts, h => by
    simp only [tysE] at h
    split at h
    · rename_i t ts' h1 h2
      cases h
      obtain ⟨g1, g2⟩ := tysE_ok G hs h2
      obtain ⟨x, p, rfl, h3, h4, h5⟩ := tyE_ok h1
      exact ⟨pa_cons (z_ty G h4 h5 (glo_ok hs h3).1) g1 rfl, by simp [h5, g2]⟩
    · cases h
end
end Z

set_option Elab.async false
set_option linter.all false
set_option autoImplicit false
set_option maxRecDepth 100000
set_option maxHeartbeats 4000000
/-! Z16: expressions, tests, arguments, iterables: the small text gives what the written text gives. -/
namespace Z
open PySem PySem.Spec PyProof.Rows L2
theorem bnd_ok {α β : Type} {o : Option α} {f : α → Option β} {d : β} (h : o.bind f = some d) : ∃ k, o = some k ∧ f k = some d := by
  cases o with
  | none => cases h
  | some k => exact ⟨k, rfl, h⟩
theorem ifs_ok {α : Type} {p : Prop} [Decidable p] {o : Option α} {d : α} (h : (if p then o else none) = some d) : p ∧ o = some d := by
  split at h
  · exact ⟨by assumption, h⟩
  · cases h
theorem name_ok {e : Expr} {x : Str} (h : nameE e = some x) : ∃ p, e = .Name x p := by
  cases e with
  | Name y p => cases h; exact ⟨p, rfl⟩
  | _ => cases h
/-- what the compiler gives at this fuel is right -/
structure Snd (c : Cc) (n : Nat) : Prop where
  e : ∀ {k : Nat} {X : Cx} {T : Tab} {s : Sc} {e : Expr} {x : E}, cE c n s e = some x → Gd X T (nmOf c) k → At c s X → PE X e (tE X.K T x) ∧ (tstB e = true → PT X e (tT X.K T (.val x)))
  es : ∀ {k : Nat} {X : Cx} {T : Tab} {s : Sc} {m : List Nat} {es : List Expr} {r : Es}, cEs c n s m es = some r → Gd X T (nmOf c) k → At c s X → PA X es (tA X.K T r) ∧ r.len = es.length ∧ es.all plainE = true ∧ (m = [] → r.frozen = true)
  t : ∀ {k : Nat} {X : Cx} {T : Tab} {s : Sc} {e : Expr} {x : Te}, cT c n s e = some x → Gd X T (nmOf c) k → At c s X → PT X e (tT X.K T x) ∧ (boB e = true → PW X e (tT X.K T x))
  ts : ∀ {k : Nat} {X : Cx} {T : Tab} {s : Sc} {es : List Expr} {x : Tes}, cTs c n s es = some x → Gd X T (nmOf c) k → At c s X → PTs X es (tTs X.K T x)
  o : ∀ {k : Nat} {X : Cx} {T : Tab} {s : Sc} {e : Option Expr} {x : Oe}, cO c n s e = some x → Gd X T (nmOf c) k → At c s X → PO X e (tO X.K T x)
  kw : ∀ {k : Nat} {X : Cx} {T : Tab} {s : Sc} {kws : List Keyword} {r : Es}, cK c n s kws = some r → Gd X T (nmOf c) k → At c s X → PK X kws (tA X.K T r) ∧ r.len = kws.length
  i : ∀ {k : Nat} {X : Cx} {T : Tab} {s : Sc} {tg e : Expr} {w : Bool} {x : It}, cI c n s tg e w = some x → Gd X T (nmOf c) k → At c s X → PI X tg e (if w = true then tIc X.K T x else tI X.K T x)
section
variable {c : Cc} {n k : Nat} {X : Cx} {T : Tab} {s : Sc}
theorem es_s (ih : Snd c n) {m : List Nat} {es : List Expr} {r : Es} (h : cEs c (n + 1) s m es = some r) (G : Gd X T (nmOf c) k) (a : At c s X) : PA X es (tA X.K T r) ∧ r.len = es.length ∧ es.all plainE = true ∧ (m = [] → r.frozen = true) := by
  rw [cEs.eq_def] at h
  dsimp only at h
  cases es with
  | nil => cases h; exact ⟨za_nil, rfl, rfl, fun _ => rfl⟩
  | cons e es =>
    obtain ⟨hp, h⟩ := ifs_ok h
    obtain ⟨y, hy, h⟩ := bnd_ok h
    obtain ⟨g1, g2, g3, g4⟩ := ih.es hy G a
    have plain : ∀ {z}, (cE c n s e).map (fun x => Es.cons x y) = some z → PA X (e :: es) (tA X.K T z) ∧ z.len = (e :: es).length ∧ (e :: es).all plainE = true ∧ (m = [] → z.frozen = true) := fun {z} h => by
      obtain ⟨x, hx, rfl⟩ := map_ok h
      exact ⟨za_cons hp (ih.e hx G a).1 g1, by rw [Es.len, g2, List.length_cons], by rw [List.all_cons, hp, g3]; rfl, fun hm => by subst hm; exact g4 rfl⟩
    have raw : m ≠ [] → ∀ {z}, (cE c n s e).map (fun x => Es.raw x y) = some z → PA X (e :: es) (tA X.K T z) ∧ z.len = (e :: es).length ∧ (e :: es).all plainE = true ∧ (m = [] → z.frozen = true) := fun hm {z} h => by
      obtain ⟨x, hx, rfl⟩ := map_ok h
      exact ⟨za_raw hp (ih.e hx G a).1 g1, by rw [Es.len, g2, List.length_cons], by rw [List.all_cons, hp, g3]; rfl, fun h => absurd h hm⟩
    split at h
    · cases hn : nameE e with
      | none =>
        rw [hn] at h
        exact raw (by simp) h
      | some z =>
        rw [hn] at h
        obtain ⟨p, rfl⟩ := name_ok hn
        obtain ⟨hv, h⟩ := ifs_ok h
        obtain ⟨i, hi, rfl⟩ := map_ok h
        obtain ⟨v1, v2, v3⟩ := vis_ok a.s hv
        exact ⟨za_bw (by rw [a.n]; exact slot_ok hi) v1 v2 v3 g1, by rw [Es.len, g2, List.length_cons], by rw [List.all_cons, hp, g3]; rfl, fun hm => nomatch hm⟩
    · exact raw (by simp) h
    · exact plain h
theorem k_s (ih : Snd c n) {kws : List Keyword} {r : Es} (h : cK c (n + 1) s kws = some r) (G : Gd X T (nmOf c) k) (a : At c s X) : PK X kws (tA X.K T r) ∧ r.len = kws.length := by
  rw [cK.eq_def] at h
  dsimp only at h
  cases kws with
  | nil => cases h; exact ⟨zk_nil, rfl⟩
  | cons kw kws =>
    obtain ⟨x, e, q⟩ := kw
    obtain ⟨y, hy, h⟩ := bnd_ok h
    obtain ⟨z, hz, rfl⟩ := map_ok h
    obtain ⟨g1, g2⟩ := ih.kw hz G a
    exact ⟨zk_raw (ih.e hy G a).1 g1, by rw [Es.len, g2, List.length_cons]⟩
theorem o_s (ih : Snd c n) {e : Option Expr} {x : Oe} (h : cO c (n + 1) s e = some x) (G : Gd X T (nmOf c) k) (a : At c s X) : PO X e (tO X.K T x) := by
  rw [cO.eq_def] at h
  dsimp only at h
  cases e with
  | none => cases h; exact zo_none
  | some e =>
    obtain ⟨x, hx, rfl⟩ := map_ok h
    exact zo_some (ih.e hx G a).1
theorem ts_s (ih : Snd c n) {es : List Expr} {x : Tes} (h : cTs c (n + 1) s es = some x) (G : Gd X T (nmOf c) k) (a : At c s X) : PTs X es (tTs X.K T x) := by
  rw [cTs.eq_def] at h
  dsimp only at h
  split at h
  · cases h; exact zts_nil
  · obtain ⟨t, ht, rfl⟩ := map_ok h
    exact zts_one (ih.t ht G a).1
  · cases h
theorem t_s (ih : Snd c n) {e : Expr} {x : Te} (h : cT c (n + 1) s e = some x) (G : Gd X T (nmOf c) k) (a : At c s X) : PT X e (tT X.K T x) ∧ (boB e = true → PW X e (tT X.K T x)) := by
  rw [cT.eq_def] at h
  dsimp only at h
  have val : ∀ {e x}, boB e = false → tstB e = true → (cE c n s e).map Te.val = some x → PT X e (tT X.K T x) ∧ (boB e = true → PW X e (tT X.K T x)) := fun {e x} hb ht h => by
    obtain ⟨y, hy, rfl⟩ := map_ok h
    exact ⟨(ih.e hy G a).2 ht, fun z => by rw [hb] at z; cases z⟩
  cases e with
  | BoolOp o vs p =>
    dsimp only at h
    have ho : o = .And ∨ o = .Or := by cases o; exact .inl rfl; exact .inr rfl
    split at h
    · cases h
    · have w := zw_one (pos := p) ho (ih.t h G a).1
      exact ⟨w.pt, fun _ => w⟩
    · obtain ⟨x, hx, h⟩ := bnd_ok h
      obtain ⟨y, hy, rfl⟩ := map_ok h
      have h1 := (ih.t hx G a).1
      have h2 := (ih.t hy G a).2 rfl
      cases o with
      | And => have w := zw_and h1 h2; exact ⟨w.pt, fun _ => w⟩
      | Or => have w := zw_or h1 h2; exact ⟨w.pt, fun _ => w⟩
  | UnaryOp u b p =>
    dsimp only at h
    cases u with
    | Not =>
      obtain ⟨x, hx, rfl⟩ := map_ok h
      exact ⟨zt_not (ih.t hx G a).1, fun z => nomatch z⟩
    | _ => exact val rfl rfl h
  | _ =>
    obtain ⟨ht, h⟩ := ifs_ok h
    exact val rfl ht h
theorem i_s (ih : Snd c n) {tg e : Expr} {w : Bool} {x : It} (h : cI c (n + 1) s tg e w = some x) (G : Gd X T (nmOf c) k) (a : At c s X) : PI X tg e (if w = true then tIc X.K T x else tI X.K T x) := by
  rw [cI.eq_def] at h
  dsimp only at h
  have seq : ∀ {e x}, (cE c n s e).map It.seq = some x → PI X tg e (if w = true then tIc X.K T x else tI X.K T x) := fun {e x} h => by
    obtain ⟨y, hy, rfl⟩ := map_ok h
    cases w with
    | true => exact zc_seq (ih.e hy G a).1
    | false => exact zi_seq (ih.e hy G a).1
  have plain : ∀ {e}, cV c s w e ((cE c n s e).map It.seq) = some x → PI X tg e (if w = true then tIc X.K T x else tI X.K T x) := fun {e} h => by
    unfold cV at h
    split at h
    · obtain ⟨p, rfl⟩ := name_ok ‹nameE _ = some _›
      obtain ⟨hv, h⟩ := ifs_ok h
      obtain ⟨i, hi, rfl⟩ := map_ok h
      obtain ⟨v1, v2, v3⟩ := vis_ok a.s hv
      exact zc_var (by rw [a.n]; exact slot_ok hi) v1 v2 v3
    · exact seq h
  cases e with
  | Call f as ks q =>
    dsimp only at h
    split at h
    · obtain ⟨p, rfl⟩ := name_ok ‹nameE _ = some _›
      split at h
      · rename_i hr
        obtain ⟨hg, hr⟩ := hr
        have hg := (glo_ok a.s hg).1
        split at h
        · obtain ⟨r, hr', rfl⟩ := map_ok h
          obtain ⟨g1, g2, g3, g4⟩ := ih.es hr' G a
          simp only [List.all_cons, Bool.and_eq_true] at g3
          have z := zi_rng1 (tg := tg) (p := p) (pos := q) G hr hg g3.1 g1 g2
          cases w with
          | true => exact zc_rng (w := fun _ => True) z
          | false => exact z
        · obtain ⟨r, hr', rfl⟩ := map_ok h
          obtain ⟨g1, g2, g3, g4⟩ := ih.es hr' G a
          simp only [List.all_cons, Bool.and_eq_true] at g3
          have z := zi_rng2 (tg := tg) (p := p) (pos := q) G hr hg g3.1 g3.2.1 g1 g2
          cases w with
          | true => exact zc_rng (w := fun _ => True) z
          | false => exact z
        · cases h
      · split at h
        · rename_i hr
          obtain ⟨hg, hr⟩ := hr
          have hg := (glo_ok a.s hg).1
          split at h
          · obtain ⟨hp, h⟩ := ifs_ok h
            obtain ⟨y, hy, rfl⟩ := map_ok h
            have z := fun elts kk tp => zi_enm (elts := elts) (kk := kk) (tp := tp) (p := p) (pos := q) G hr hg hp (ih.e hy G a).1
            cases w with
            | true => exact zc_enm (z _ _ _)
            | false => exact z _ _ _
          · cases h
        · split at h
          · rename_i hr
            obtain ⟨hg, hr⟩ := hr
            have hg := (glo_ok a.s hg).1
            split at h
            · obtain ⟨r, hr', rfl⟩ := map_ok h
              obtain ⟨g1, g2, g3, g4⟩ := ih.es hr' G a
              simp only [List.all_cons, Bool.and_eq_true] at g3
              have z := fun elts kk tp => zi_zip (elts := elts) (kk := kk) (tp := tp) (p := p) (pos := q) G hr hg g3.1 g3.2.1 g1 (g4 rfl)
              cases w with
              | true => exact zc_zip (z _ _ _)
              | false => exact z _ _ _
            · cases h
          · exact seq h
    · exact seq h
  | _ => exact plain h
end
end Z

set_option Elab.async false
set_option linter.all false
set_option autoImplicit false
set_option maxRecDepth 100000
set_option maxHeartbeats 4000000
/-! Z17: expressions. -/
namespace Z
open PySem PySem.Spec PyProof.Rows L2
section
variable {c : Cc} {n k : Nat} {X : Cx} {T : Tab} {s : Sc}
theorem bin_s {o : Operator} (ho : okBin o = true) : OpR X (binaryOp o) (rBin X.K o) := by
  cases o with
  | Add => exact o_add
  | Sub => exact o_sub
  | Mult => exact o_mul
  | FloorDiv => exact o_fdiv
  | Mod => exact o_mod
  | Pow => exact o_pow
  | _ => cases ho
theorem xn_ok {xs : List Y.Xn} {x : Str} {y : Y.Xn} (h : xnAt xs x = some y) : y ∈ xs ∧ y.c = x := by
  unfold xnAt at h
  have q := List.find?_some h
  exact ⟨List.mem_of_find?_eq_some h, by simpa using q⟩
theorem ex_ok {y : Str} {b : String} (h : exAt y = some b) : b ∈ Y.excNames ∧ y = Str.ofString b := by
  unfold exAt at h
  have q := List.find?_some h
  exact ⟨List.mem_of_find?_eq_some h, by simpa using (of_decide_eq_true q).symm⟩
theorem kw_len : ∀ {kws : List Keyword} {ks : List Str}, kwNames kws = some ks → kws.length = ks.length
  | [], _, h => by cases h; rfl
  | ⟨some _, _, _⟩ :: r, _, h => by
    obtain ⟨l, hl, rfl⟩ := map_ok h
    rw [List.length_cons, List.length_cons, kw_len hl]
  | ⟨none, _, _⟩ :: _, _, h => by cases h
theorem call_s (ih : Snd c n) {f : Str} {p q : Pos} {as : List Expr} {x : E} (h : cE c (n + 1) s (.Call (.Name f p) as [] q) = some x) (G : Gd X T (nmOf c) k) (a : At c s X) : PE X (.Call (.Name f p) as [] q) (tE X.K T x) := by
  rw [cE.eq_def] at h
  dsimp only at h
  obtain ⟨hg, h⟩ := ifs_ok h
  obtain ⟨hg, hd⟩ := glo_ok a.s hg
  split at h
  · rename_i i d hdn
    have hi := dn_ok hdn
    cases as with
    | nil =>
      obtain ⟨hz, h⟩ := ifs_ok h
      cases h
      rw [hz] at hi
      exact z_fn0 G hi hg hd
    | cons b r =>
      obtain ⟨hz, h⟩ := ifs_ok h
      obtain ⟨y, hy, rfl⟩ := map_ok h
      obtain ⟨g1, g2, g3, g4⟩ := ih.es hy G a
      exact z_fn G hi (g2.trans hz.symm) hg hd g3 g1
  · cases as with
    | nil =>
      obtain ⟨y, hy, h⟩ := bnd_ok h
      obtain ⟨y1, y2⟩ := xn_ok hy
      split at h
      · rename_i hf
        cases h
        exact z_mk0 G y1 hf y2 hg hd
      · cases h
    | cons b r =>
      dsimp only at h
      split at h
      · obtain ⟨y, hy, h⟩ := bnd_ok h
        obtain ⟨y1, y2⟩ := xn_ok hy
        split at h
        · have hf := ‹y.f = some _›
          obtain ⟨hp, h⟩ := ifs_ok h
          obtain ⟨z, hz, rfl⟩ := map_ok h
          exact z_mk1 G y1 hf y2 hg hd hp (ih.es hz G a).1
        · cases h
      split at h
      · rename_i hf
        cases r with
        | nil => cases h
        | cons d r =>
          cases r with
          | cons _ _ => cases h
          | nil =>
            cases d with
            | Name y p2 =>
              dsimp only at h
              split at h
              · have ht := ‹tyE s _ = some _›
                obtain ⟨x, hx, h⟩ := bnd_ok h
                obtain ⟨hp, h⟩ := ifs_ok h
                cases h
                obtain ⟨_, _, he, h3, h4, h5⟩ := tyE_ok ht
                cases he
                exact z_isi G hf hg hp (ih.e hx G a).1 h4 h5 (glo_ok a.s h3).1
              · obtain ⟨⟨hgy, hp⟩, h⟩ := ifs_ok h
                obtain ⟨gy, dy⟩ := glo_ok a.s hgy
                obtain ⟨x, hx, h⟩ := bnd_ok h
                cases hn : xnAt c.xs y with
                | some z =>
                  rw [hn] at h
                  cases h
                  obtain ⟨z1, z2⟩ := xn_ok hn
                  exact z_isC G hf hg hp (ih.e hx G a).1 z1 z2 gy dy
                | none =>
                  rw [hn] at h
                  obtain ⟨b', hb', rfl⟩ := map_ok h
                  obtain ⟨e1, e2⟩ := ex_ok hb'
                  exact z_isB G hf hg hp (ih.e hx G a).1 e1 e2 gy
            | Tuple es kk p2 =>
              obtain ⟨ts, ht, h⟩ := bnd_ok h
              obtain ⟨x, hx, h⟩ := bnd_ok h
              obtain ⟨⟨hp, h1, h2⟩, h⟩ := ifs_ok h
              cases h
              obtain ⟨g1, g2⟩ := tysE_ok G a.s ht
              exact z_isiT G hf hg hp (ih.e hx G a).1 g1 g2 h1 h2
            | _ => cases h
      · split at h
        · rename_i hf
          cases r with
          | cons _ _ => cases h
          | nil =>
            dsimp only at h
            split at h
            · obtain ⟨hv, h⟩ := ifs_ok h
              obtain ⟨i, hi, rfl⟩ := map_ok h
              obtain ⟨v1, v2, v3⟩ := vis_ok a.s hv
              obtain ⟨p2, rfl⟩ := name_ok ‹nameE _ = some _›
              exact z_lenv G hf (by rw [a.n]; exact slot_ok hi) v1 v2 v3 hg
            · obtain ⟨y, hy, rfl⟩ := map_ok h
              obtain ⟨g1, g2, g3, g4⟩ := ih.es hy G a
              exact z_bi G hf rfl hg g3 g1
        · split at h
          · rename_i b' hb
            obtain ⟨y, hy, rfl⟩ := map_ok h
            obtain ⟨g1, g2, g3, g4⟩ := ih.es hy G a
            obtain ⟨b1, b2⟩ := bi_ok hb
            exact z_bi G b1 b2 hg g3 g1
          · cases h
theorem lc_s (ih : Snd c n) {elt tg iter : Expr} {ifs : List Expr} {scope : Scope} {p : Pos} {x : E} (h : cE c (n + 1) s (.ListComp elt [⟨tg, iter, ifs, 0⟩] scope p) = some x) (G : Gd X T (nmOf c) k) (a : At c s X) :
    ∃ own tg' it cs y, x = .lc own tg' it cs y ∧ ∃ own', own = own'.map (·.2) ∧ PI X tg iter (tIc X.K T it) ∧ BlkOk X.N X.env.scope scope own' ∧
    (∀ (s : Shared) (H : Hp) (C : Addr) (cl : List (Str × Addr)) (fp : List Addr), PG (X.blk s H scope (compEnvC scope cl C X.env) fp) tg (tG X.K tg')) ∧ (∀ (s : Shared) (H : Hp) (C : Addr) (cl : List (Str × Addr)) (fp : List Addr), PTs (X.blk s H scope (compEnvC scope cl C X.env) fp) ifs (tTs X.K T cs)) ∧
    (∀ (s : Shared) (H : Hp) (C : Addr) (cl : List (Str × Addr)) (fp : List Addr), PE (X.blk s H scope (compEnvC scope cl C X.env) fp) elt (tE X.K T y)) ∧ (∀ x, foldedSetIterable iter X.env x = pure x) ∧ (own'.map (·.2)).Nodup ∧ ∀ i ∈ tg'.slots, i ∈ own'.map (·.2) := by
  rw [cE.eq_def] at h
  dsimp only at h
  obtain ⟨⟨hb, nd, hf⟩, h⟩ := ifs_ok h
  obtain ⟨t, ht, h⟩ := bnd_ok h
  obtain ⟨i, hi, h⟩ := bnd_ok h
  obtain ⟨cs, hcs, h⟩ := bnd_ok h
  obtain ⟨y, hy, h⟩ := bnd_ok h
  obtain ⟨hs, h⟩ := ifs_ok h
  cases h
  have at2 : ∀ (z : Shared) (H : Hp) (C : Addr) (cl : List (Str × Addr)) (fp : List Addr), At c ⟨relS scope s.sc, fun x => scope.names.lookup x == some .cell⟩ (X.blk z H scope (compEnvC scope cl C X.env) fp) := fun z H C cl fp =>
    ⟨a.n, by rw [← a.s]; rfl, rfl⟩
  exact ⟨_, _, _, _, _, rfl, ownOf c.N scope, rfl, ih.i (w := true) hi G a, blkOk_by (by rw [a.n, a.s]; exact hb), fun z H C cl fp => (g_ok n).1 _ _ _ ht G.calm G.nd (at2 z H C cl fp),
    fun z H C cl fp => ih.ts hcs (G.blk z H scope _ fp) (at2 z H C cl fp), fun z H C cl fp => (ih.e hy (G.blk z H scope _ fp) (at2 z H C cl fp)).1, folded_ok hf, nd, hs⟩
theorem e_s (ih : Snd c n) {e : Expr} {x : E} (h : cE c (n + 1) s e = some x) (G : Gd X T (nmOf c) k) (a : At c s X) : PE X e (tE X.K T x) ∧ (tstB e = true → PT X e (tT X.K T (.val x))) := by
  have h0 := h
  rw [cE.eq_def] at h
  dsimp only at h
  cases e with
  | Name y p =>
    obtain ⟨hv, h⟩ := ifs_ok h
    obtain ⟨i, hi, rfl⟩ := map_ok h
    obtain ⟨v1, v2, v3⟩ := vis_ok a.s hv
    have q := z_var (T := T) (pos := p) (by rw [a.n]; exact slot_ok hi) v1 v2 v3
    exact ⟨q, fun _ => zt_val q fun _ => rfl⟩
  | Constant d kk p =>
    obtain ⟨i, hi, rfl⟩ := map_ok h
    have q := z_c (X := X) (T := T) (pos := p) (k := kk) hi
    exact ⟨q, fun _ => zt_val q fun _ => rfl⟩
  | BinOp l o r p =>
    obtain ⟨ho, h⟩ := ifs_ok h
    obtain ⟨x, hx, h⟩ := bnd_ok h
    obtain ⟨y, hy, rfl⟩ := map_ok h
    have q := z_op (pos := p) (bin_s ho) (ih.e hx G a).1 (ih.e hy G a).1
    exact ⟨q, fun _ => zt_val q fun _ => rfl⟩
  | UnaryOp u b p =>
    cases u with
    | USub =>
      obtain ⟨x, hx, rfl⟩ := map_ok h
      have q := z_neg (pos := p) (ih.e hx G a).1
      exact ⟨q, fun _ => zt_val q fun _ => rfl⟩
    | Not =>
      obtain ⟨x, hx, rfl⟩ := map_ok h
      exact ⟨z_not (ih.e hx G a).1, fun z => nomatch z⟩
    | _ => cases h
  | Compare l os bs p =>
    cases os with
    | nil => cases h
    | cons o os =>
      cases os with
      | nil =>
        cases bs with
        | nil => cases h
        | cons b bs =>
          cases bs with
          | cons _ _ => cases h
          | nil =>
            dsimp only at h
            split at h
            · obtain ⟨x, hx, rfl⟩ := map_ok h
              exact ⟨z_isN false (ih.e hx G a).1, fun _ => zt_isN false (ih.e hx G a).1⟩
            · obtain ⟨x, hx, rfl⟩ := map_ok h
              exact ⟨z_isN true (ih.e hx G a).1, fun _ => zt_isN true (ih.e hx G a).1⟩
            · obtain ⟨⟨ho, hm⟩, h⟩ := ifs_ok h
              obtain ⟨x, hx, h⟩ := bnd_ok h
              obtain ⟨y, hy, rfl⟩ := map_ok h
              exact ⟨z_cmp G.hu ho hm (ih.e hx G a).1 (ih.e hy G a).1, fun _ => zt_cmp G.hu ho hm (ih.e hx G a).1 (ih.e hy G a).1⟩
      | cons o' os =>
        cases os with
        | cons _ _ => cases h
        | nil =>
          cases bs with
          | nil => cases h
          | cons b bs =>
            cases bs with
            | nil => cases h
            | cons b' bs =>
              cases bs with
              | cons _ _ => cases h
              | nil =>
                obtain ⟨⟨ho, ho', hm⟩, h⟩ := ifs_ok h
                obtain ⟨x, hx, h⟩ := bnd_ok h
                obtain ⟨y, hy, h⟩ := bnd_ok h
                obtain ⟨z, hz, rfl⟩ := map_ok h
                exact ⟨z_chn G.hu ho ho' hm (ih.e hx G a).1 (ih.e hy G a).1 (ih.e hz G a).1, fun _ => zt_chn G.hu ho ho' hm (ih.e hx G a).1 (ih.e hy G a).1 (ih.e hz G a).1⟩
  | BoolOp o vs p =>
    refine ⟨?_, fun z => nomatch z⟩
    dsimp only at h
    split at h
    · cases h
    · exact z_one (ih.e h G a).1
    · obtain ⟨x, hx, h⟩ := bnd_ok h
      obtain ⟨y, hy, rfl⟩ := map_ok h
      cases o with
      | And => exact z_and (ih.e hx G a).1 (ih.e hy G a).1
      | Or => exact z_or (ih.e hx G a).1 (ih.e hy G a).1
  | IfExp t b d p =>
    obtain ⟨w, hw, h⟩ := bnd_ok h
    obtain ⟨x, hx, h⟩ := bnd_ok h
    obtain ⟨y, hy, rfl⟩ := map_ok h
    exact ⟨z_ite (ih.t hw G a).1 (ih.e hx G a).1 (ih.e hy G a).1, fun z => nomatch z⟩
  | Tuple es kk p =>
    obtain ⟨r, hr, rfl⟩ := map_ok h
    have q := z_tup (k := kk) (pos := p) (ih.es hr G a).1
    exact ⟨q, fun _ => zt_val q fun _ => rfl⟩
  | List es p =>
    obtain ⟨r, hr, rfl⟩ := map_ok h
    have q := z_lst (pos := p) (ih.es hr G a).1
    exact ⟨q, fun _ => zt_val q fun _ => rfl⟩
  | Subscript l b p =>
    have plain : plainI b = true → (match nameE l with
          | some x => if visB s x = true then (slot c.N x).bind fun i => (cE c n s b).map fun y => E.subv i y else none
          | none => (cE c n s l).bind fun x => (cE c n s b).map fun y => .sub x y) = some x → PE X (.Subscript l b p) (tE X.K T x) := fun hp h => by
      split at h
      · obtain ⟨hv, h⟩ := ifs_ok h
        obtain ⟨i, hi, h⟩ := bnd_ok h
        obtain ⟨y, hy, rfl⟩ := map_ok h
        obtain ⟨v1, v2, v3⟩ := vis_ok a.s hv
        obtain ⟨p2, rfl⟩ := name_ok ‹nameE _ = some _›
        exact z_subv (by rw [a.n]; exact slot_ok hi) v1 v2 v3 (plainI_ok hp) (ih.e hy G a).1
      · obtain ⟨x, hx, h⟩ := bnd_ok h
        obtain ⟨y, hy, rfl⟩ := map_ok h
        exact z_sub (plainI_ok hp) (ih.e hx G a).1 (ih.e hy G a).1
    have all : PE X (.Subscript l b p) (tE X.K T x) := by
      cases b with
      | Slice lo hi st p2 =>
        cases st with
        | some _ => cases h
        | none =>
          obtain ⟨x, hx, h⟩ := bnd_ok h
          obtain ⟨y, hy, h⟩ := bnd_ok h
          obtain ⟨z, hz, rfl⟩ := map_ok h
          exact z_slc (ih.e hx G a).1 (ih.o hy G a) (ih.o hz G a)
      | _ =>
        obtain ⟨hp, h⟩ := ifs_ok h
        exact plain hp h
    exact ⟨all, fun _ => zt_val all fun _ => rfl⟩
  | Call f as ks p =>
    cases ks with
    | cons kw kws =>
      cases f with
      | Name y p2 =>
        dsimp only at h
        obtain ⟨hg, h⟩ := ifs_ok h
        obtain ⟨hg, hd⟩ := glo_ok a.s hg
        split at h
        · have hdn := ‹dnAt c.ds y = some _›
          obtain ⟨ks, hks, h⟩ := bnd_ok h
          obtain ⟨⟨h1, h2⟩, h⟩ := ifs_ok h
          obtain ⟨r, hr, rfl⟩ := map_ok h
          obtain ⟨g1, g2⟩ := ih.kw hr G a
          have q := z_fnk (pos := p) (p := p2) G (dn_ok hdn) h1 (by rw [g2, kw_len hks]) h2 hg hd hks g1
          exact ⟨q, fun _ => zt_val q fun _ => rfl⟩
        · obtain ⟨z, hz, h⟩ := bnd_ok h
          obtain ⟨z1, z2⟩ := xn_ok hz
          split at h
          · have hf := ‹z.f = some _›
            have hk := ‹kw :: kws = _›
            obtain ⟨hq, h⟩ := ifs_ok h
            obtain ⟨w, hw, rfl⟩ := map_ok h
            rw [hk, hq]
            have q := fun kp => z_mkk (pos := p) (p := p2) (kpos := kp) G z1 hf z2 hg hd (ih.e hw G a).1
            exact ⟨q _, fun _ => zt_val (q _) fun _ => rfl⟩
          · cases h
        · cases h
      | _ => cases h
    | nil =>
      cases f with
      | Name y p2 =>
        have q := call_s ih h0 G a
        exact ⟨q, fun _ => zt_val q fun _ => rfl⟩
      | Attribute o at_ ap =>
        have q : PE X (.Call (.Attribute o at_ ap) as [] p) (tE X.K T x) := by
          dsimp only at h
          obtain ⟨y, hy, h⟩ := bnd_ok h
          obtain ⟨⟨h1, h2, h3⟩, h⟩ := ifs_ok h
          obtain ⟨i, hi, h⟩ := bnd_ok h
          obtain ⟨v1, v2, v3⟩ := vis_ok a.s h2
          have hN : X.N[i]? = some y := by rw [a.n]; exact slot_ok hi
          cases as with
          | nil =>
            cases h
            obtain ⟨p2, rfl⟩ := name_ok hy
            subst h1
            exact z_pop0 hN v1 v2 v3 h3
          | cons b as =>
            cases as with
            | cons _ _ => cases h
            | nil =>
              obtain ⟨hp, h⟩ := ifs_ok h
              obtain ⟨z, hz, rfl⟩ := map_ok h
              obtain ⟨p2, rfl⟩ := name_ok hy
              subst h1
              exact z_popAt hN v1 v2 v3 hp (ih.e hz G a).1 h3
        exact ⟨q, fun _ => zt_val q fun _ => rfl⟩
      | _ => cases h
  | Attribute o f p =>
    obtain ⟨hb, h⟩ := ifs_ok h
    obtain ⟨x, hx, rfl⟩ := map_ok h
    have q := z_fld (pos := p) (f := f) G (cs := (c.xs.filter fun y => decide (y.f = some f)).map (·.c)) (fun c' hc' => by
      obtain ⟨t, ht, e⟩ := List.mem_map.mp hc'
      obtain ⟨t1, t2⟩ := List.mem_filter.mp ht
      exact ⟨t, t1, e, of_decide_eq_true t2⟩) (ih.e hx G a).1 hb
    exact ⟨q, fun _ => zt_val q fun _ => rfl⟩
  | ListComp y gs scope p =>
    dsimp only at h
    split at h
    · obtain ⟨own, tg', it, cs, y, rfl, own', rfl, h1, h2, h3, h4, h5, h6, h7, h8⟩ := lc_s ih h0 G a
      have q := z_lc (cp := p) G.calm G.nd h1 h2 h3 h4 h5 h6 h7 h8
      exact ⟨q, fun _ => zt_val q fun _ => rfl⟩
    · cases h
  | _ => cases h
theorem snd (c : Cc) : ∀ n, Snd c n
  | 0 => ⟨fun h => (by rw [cE.eq_def] at h; cases h), fun h => (by rw [cEs.eq_def] at h; cases h), fun h => (by rw [cT.eq_def] at h; cases h), fun h => (by rw [cTs.eq_def] at h; cases h), fun h => (by rw [cO.eq_def] at h; cases h), fun h => (by rw [cK.eq_def] at h; cases h), fun h => (by rw [cI.eq_def] at h; cases h)⟩
  | n + 1 => ⟨e_s (snd c n), es_s (snd c n), t_s (snd c n), ts_s (snd c n), o_s (snd c n), k_s (snd c n), i_s (snd c n)⟩
end
end Z

set_option Elab.async false
set_option linter.all false
set_option autoImplicit false
set_option maxRecDepth 100000
set_option maxHeartbeats 4000000
/-! Z18: statements, from the written text to the small one. -/
namespace Z
open PySem PySem.Spec PyProof.Rows L2
def compS : Expr → Option Scope
  | .ListComp _ _ s _ => some s
  | .SetComp _ _ s _ => some s
  | .DictComp _ _ _ s _ => some s
  | _ => none
def bkOf (sc : Scope) : ScopeKind := if sc.kind.isAnnotationScope then .function else sc.kind
def swN (v : Expr) (t : Str) (p : Pos) (sc : Scope) : Bool := match compS v with
  | none => false
  | some k => bkOf sc == .function && sc.names.lookup t == some .local && p.line == v.pos.line && !(k.names.any fun (n, k) => n == t && (k == .local || k == .cell))
theorem swN_ok (v : Expr) (t : Str) (p : Pos) (l : Nat) (env : Env) : swapsWith v (some (.Name t p)) l env = pure (swN v t p env.scope) := by
  cases v <;> rfl
theorem sw0 {v : Expr} {l : Nat} {env : Env} (h : compS v = none) : swapsWith v none l env = pure false := by
  cases v <;> first | rfl | cases h
theorem swT {v : Expr} {es : List Expr} {k : Nat} {p : Pos} {l : Nat} {env : Env} : swapsWithSole [.Tuple es k p] v l env = pure false := by
  cases v <;> rfl
theorem swS {v a b : Expr} {p : Pos} {l : Nat} {env : Env} : swapsWithSole [.Subscript a b p] v l env = pure false := by
  cases v <;> rfl
theorem stS {v a b : Expr} {p : Pos} {env : Env} : swappedStores [.Subscript a b p] v env = pure none := by
  cases v <;> rfl
/-- which stores go from the right -/
def parQ (ts : List Expr) (v : Expr) (sc : Scope) : Option (Option (List Str)) := match v with
  | .Tuple vs _ _ =>
    if (!(ts.length == 2 || ts.length == 3) || vs.length != ts.length || bkOf sc != .function) = true then some none
    else if (vs.any fun | .Starred .. => true | _ => false) = true then some none
    else
      let names := ts.filterMap fun
        | .Name id pos => if (sc.names.lookup id == some .local && pos.line == (ts.head?.map (·.pos.line)).getD 0) = true then some id else none
        | _ => none
      if (names.length != ts.length || names.eraseDups.length != names.length) = true then some none
      else if vs.all (foldedForSure 8) = true then some none
      else if vs.all (constantsAlone 8) = true then none
      else some (some names)
  | _ => some none
theorem parQ_ok {ts : List Expr} {v : Expr} {k : Nat} {p : Pos} {env : Env} {r : Option (List Str)} (h : parQ ts v env.scope = some r) : swappedStores [.Tuple ts k p] v env = pure r := by
  cases v with
  | Tuple vs k2 p2 =>
    unfold parQ at h
    unfold swappedStores
    dsimp only at h ⊢
    change (if (!(ts.length == 2 || ts.length == 3) || vs.length != ts.length || bkOf env.scope != .function) = true then _ else _) = _
    split at h
    · rename_i h1
      rw [if_pos h1]; cases h; rfl
    · rename_i h1
      rw [if_neg h1]
      split at h
      · rename_i h2
        cases h
        exact if_pos h2
      · rename_i h2
        refine (if_neg h2).trans ?_
        split at h
        · rename_i h3
          cases h
          exact if_pos h3
        · rename_i h3
          refine (if_neg h3).trans ?_
          split at h
          · rename_i h4
            cases h
            exact if_pos h4
          · rename_i h4
            refine (if_neg h4).trans ?_
            split at h
            · cases h
            · rename_i h5
              cases h
              exact if_neg h5
  | _ =>
    cases h
    rfl
/-- a name's value leaves with it -/
def mvOf (c : Cc) (pr : List Nat) (s : Sc) (e : Expr) : Option Nat := (nameE e).bind fun x => if visB s x = true then (slot c.N x).bind fun i => if i ∉ pr then some i else none else none
mutual
  def cS (c : Cc) (pr : List Nat) : Nat → Sc → Stmt → Option S
    | 0, _, _ => none
    | n + 1, s, st => match st with
      | .Pass _ => some .pass
      | .Break _ => some .brk
      | .Continue _ => some .cnt
      | .Return v _ => match v with
        | none => some .retN
        | some e => match mvOf c pr s e with
          | some i => some (.ret (.mv i))
          | none => (cE c n s e).map .ret
      | .Expr e p => match e with
        | .Call f as ks cp => match f with
          | .Attribute o at_ ap => if at_ = "pop" then (cE c n s (.Call (.Attribute o at_ ap) as ks cp)).map .ex else match as, ks with
            | [a], [] => (nameE o).bind fun y => if at_ = "append" ∧ visB s y = true ∧ plainE a = true ∧ (ap.endLine == cp.line) = true then (slot c.N y).bind fun i => (cE c n s a).map (.ap i) else none
            | _, _ => none
          | f => (cE c n s (.Call f as ks cp)).map .ex
        | e => if compS e = none then (cE c n s e).map .ex else none
      | .Assign ts v p => match ts with
        | [t] => match t with
          | .Name y q => if locB s y = true then (slot c.N y).bind fun i => if i ∉ pr then match swN v y q s.sc with
              | false => (cE c n s v).map (.as (.n i))
              | true => match v with
                | .ListComp _ [⟨_, _, _, 0⟩] _ _ => (cE c n s v).map (.as (.n i))
                | _ => none
              else none else none
          | .Tuple es k q => match parQ es v s.sc with
            | some none => (cG c s n (.Tuple es k q)).bind fun tg => (cE c n s v).bind fun x => if ∀ i ∈ tg.slots, i ∉ pr then some (.as tg x) else none
            | some (some names) => match es, v with
              | [.Name x _, .Name y _], .Tuple [a, b] _ _ => (slot c.N x).bind fun i => (slot c.N y).bind fun j => (cEs c n s [1, 1] [a, b]).bind fun r =>
                if names = [x, y] ∧ i ≠ j ∧ i ∉ pr ∧ j ∉ pr ∧ s.sc.names.lookup x = some .local ∧ s.sc.names.lookup y = some .local then some (.par [i, j] r) else none
              | _, _ => none
            | none => none
          | .Subscript o b q => match nameE o with
            | some y => if visB s y = true ∧ plainI b = true then (slot c.N y).bind fun i => (cE c n s b).bind fun x => (cE c n s v).map fun z => .sset i x z else none
            | none => none
          | _ => none
        | _ => none
      | .AugAssign t o v _ => match nameE t with
        | some y => if locB s y = true ∧ (o = .Add ∨ o = .Sub) then (slot c.N y).bind fun i => if i ∉ pr then (cE c n s v).map (.aug i o) else none else none
        | none => none
      | .If t a b _ => (cT c n s t).bind fun k => (cSs c pr n s a).bind fun x => (cSs c pr n s b).map fun y => .ite k x y
      | .For t i b o _ => match o with
        | [] => if plainF i = true then (cG c s n t).bind fun tg => (cI c n s t i false).bind fun it => (cSs c pr n s b).bind fun x => if ∀ i ∈ tg.slots, i ∉ pr then some (.fr tg it x) else none else none
        | _ => none
      | .While t b o _ => match o with
        | [] => (cT c n s t).bind fun k => (cSs c pr n s b).map fun x => .wh k x
        | _ => none
      | _ => none
  def cSs (c : Cc) (pr : List Nat) : Nat → Sc → List Stmt → Option Ss
    | 0, _, _ => none
    | n + 1, s, l => match l with
      | [] => some .nil
      | a :: r => (cS c pr n s a).bind fun x => (cSs c pr n s r).map fun y => .cons x y
end
end Z

set_option Elab.async false
set_option linter.all false
set_option autoImplicit false
set_option maxRecDepth 100000
set_option maxHeartbeats 4000000
/-! Z19: statements: the small text gives what the written text gives. -/
namespace Z
open PySem PySem.Spec PyProof.Rows L2
theorem len_two {α : Type} : ∀ {l : List α}, l.length = 2 → ∃ a b, l = [a, b]
  | [a, b], _ => ⟨a, b, rfl⟩
section
variable {K : PySem.W.Frag}
theorem Rel.store' {H : Hp} {σ : L2.St} {e : Ev} {rs Fr : Rt} {v : V} {d : D} {i : Nat} (s : Sl σ e rs) (h : Rel K H ((v, d) :: (rs ++ Fr))) : ∃ r1, Sl (σ.set i (some v)) (e.set i (some d)) r1 ∧ Rel K H (r1 ++ Fr) := by
  by_cases hl : i < e.length
  · exact Rel.store s h hl
  · have h1 : e.set i (some d) = e := List.set_eq_of_length_le (by omega)
    have h2 : σ.set i (some v) = σ := List.set_eq_of_length_le (by rw [s.len]; omega)
    rw [h1, h2]
    exact ⟨rs, s, h.tail⟩
variable {X : Cx} {T : Tab} {pr : List Nat} {pos : Pos} {ea eb : Expr} {r : Es}
theorem par_i {D : Ends} {σ : L2.St} {H : Hp} {i j : Nat} (hi : i ∉ pr) (hj : j ∉ pr) (g : tS X.K T pr (.par [i, j] r) D σ H) : tPar i j (tA X.K T r) D σ H := by
  obtain ⟨e, rs, Fr, s, h, w⟩ := g
  rw [dS] at w
  refine useA wd_s w s h fun xs e1 vs H1 rs1 as _ w1 s1 g h1 => ?_
  cases hl : args1 xs with
  | none => rw [hl] at w1; exact w1.elim
  | some l =>
    rw [hl] at w1
    obtain ⟨l1, rfl⟩ := g.all hl
    dsimp only at w1
    split at w1
    · rename_i l2
      obtain ⟨da, db, rfl⟩ := len_two l2
      obtain ⟨v, u, rfl⟩ := len_two l1
      refine ⟨v, u, rfl, ?_⟩
      have h9 : Rel X.K H1 ((v, da) :: (u, db) :: (rs1 ++ Fr)) := h1
      obtain ⟨r1, s2, h2⟩ := Rel.store' (i := i) s1 (Fr := (u, db) :: Fr) (h9.perm (.cons _ List.perm_middle.symm))
      obtain ⟨r2, s3, h3⟩ := Rel.store' (i := j) s2 (h2.perm List.perm_middle)
      exact w1 _ H1 r2 ((Keep.set hi).tr (.set hj)) s3 h3
    · exact w1.elim
theorem zs_par {i j : Nat} {x y : Str} {px py pt : Pos} {kt k2 : Nat} {pt2 : Pos} (hc : X.calm = true) (hN : X.N.Nodup) (hi : X.N[i]? = some x) (hj : X.N[j]? = some y) (hij : i ≠ j) (pi : i ∉ pr) (pj : j ∉ pr)
    (hx : X.env.scope.names.lookup x = some .local) (hy : X.env.scope.names.lookup y = some .local) (ha : PA X [ea, eb] (tA X.K T r))
    (hw : swappedStores [.Tuple [.Name x px, .Name y py] kt pt] (.Tuple [ea, eb] k2 pt2) X.env = pure (some [x, y])) :
    PS X (.Assign [.Tuple [.Name x px, .Name y py] kt pt] (.Tuple [ea, eb] k2 pt2) pos) (tS X.K T pr (.par [i, j] r)) :=
  impS (ps_par hc hN hi hj hij hx hy ha hw swT) fun D σ H => par_i pi pj
end
structure SndS (c : Cc) (pr : List Nat) (n : Nat) : Prop where
  s : ∀ {k : Nat} {X : Cx} {T : Tab} {s : Sc} {st : Stmt} {x : S}, cS c pr n s st = some x → Gd X T (nmOf c) k → At c s X → (X.xe = fun _ _ => False) → PS X st (tS X.K T pr x)
  ss : ∀ {k : Nat} {X : Cx} {T : Tab} {s : Sc} {st : List Stmt} {x : Ss}, cSs c pr n s st = some x → Gd X T (nmOf c) k → At c s X → (X.xe = fun _ _ => False) → PSs X st (tSs X.K T pr x)
section
variable {c : Cc} {n k : Nat} {X : Cx} {T : Tab} {s : Sc} {pr : List Nat}
theorem mv_ok {e : Expr} {i : Nat} (h : mvOf c pr s e = some i) (a : At c s X) : PE X e (tE X.K T (.mv i)) := by
  obtain ⟨x, hx, h⟩ := bnd_ok h
  obtain ⟨p, rfl⟩ := name_ok hx
  obtain ⟨hv, h⟩ := ifs_ok h
  obtain ⟨j, hj, h⟩ := bnd_ok h
  obtain ⟨_, h⟩ := ifs_ok h
  cases h
  obtain ⟨v1, v2, v3⟩ := vis_ok a.s hv
  exact z_mv (by rw [a.n]; exact slot_ok hj) v1 v2 v3
theorem swN_loc {v : Expr} {y : Str} {q : Pos} {sc : Scope} (h : swN v y q sc = true) : sc.names.lookup y = some .local := by
  unfold swN at h
  split at h
  · cases h
  · simp only [Bool.and_eq_true, beq_iff_eq] at h
    exact h.1.1.2
theorem as_s {t v : Expr} {p : Pos} {x : S} (h : cS c pr (n + 1) s (.Assign [t] v p) = some x) (G : Gd X T (nmOf c) k) (a : At c s X) : PS X (.Assign [t] v p) (tS X.K T pr x) := by
  rw [cS.eq_def] at h
  dsimp only at h
  cases t with
  | Name y q =>
    obtain ⟨hl, h⟩ := ifs_ok h
    obtain ⟨i, hi, h⟩ := bnd_ok h
    obtain ⟨hp, h⟩ := ifs_ok h
    obtain ⟨l1, l2⟩ := loc_ok a hl
    have hs := swN_ok v y q p.line X.env
    rw [a.s] at hs
    have hN : X.N[i]? = some y := by rw [a.n]; exact slot_ok hi
    cases hw : swN v y q s.sc with
    | false =>
      rw [hw] at h hs
      obtain ⟨x, hx, rfl⟩ := map_ok h
      exact zs_set G.nd hN l1 l2 hp ((snd c n).e hx G a).1 hs
    | true =>
      rw [hw] at h hs
      dsimp only at h
      split at h
      · obtain ⟨x, hx, rfl⟩ := map_ok h
        cases n with
        | zero => rw [cE.eq_def] at hx; cases hx
        | succ n =>
          obtain ⟨own, tg', it, cs, y', rfl, own', rfl, h1, h2, h3, h4, h5, h6, h7, h8⟩ := lc_s (snd c n) hx G a
          exact zs_lc G.calm G.nd hN (by rw [a.s]; exact swN_loc hw) hp hs h1 h2 h3 h4 h5 h6 h7 h8
      · cases h
  | Tuple es kk q =>
    dsimp only at h
    split at h
    · rename_i hq
      obtain ⟨tg, ht, h⟩ := bnd_ok h
      obtain ⟨x, hx, h⟩ := bnd_ok h
      obtain ⟨hp, h⟩ := ifs_ok h
      cases h
      exact zs_as hp ((snd c n).e hx G a).1 ((g_ok n).1 _ _ _ ht G.calm G.nd a) swT (parQ_ok (by rw [a.s]; exact hq)) rfl
    · rename_i hq
      split at h
      · obtain ⟨i, hi, h⟩ := bnd_ok h
        obtain ⟨j, hj, h⟩ := bnd_ok h
        obtain ⟨r, hr, h⟩ := bnd_ok h
        obtain ⟨⟨h1, h2, h3, h4, h5, h6⟩, h⟩ := ifs_ok h
        cases h
        subst h1
        exact zs_par G.calm G.nd (by rw [a.n]; exact slot_ok hi) (by rw [a.n]; exact slot_ok hj) h2 h3 h4 (by rw [a.s]; exact h5) (by rw [a.s]; exact h6) ((snd c n).es hr G a).1 (parQ_ok (by rw [a.s]; exact hq))
      · cases h
    · cases h
  | Subscript o b q =>
    dsimp only at h
    split at h
    · obtain ⟨⟨hv, hb⟩, h⟩ := ifs_ok h
      obtain ⟨i, hi, h⟩ := bnd_ok h
      obtain ⟨x, hx, h⟩ := bnd_ok h
      obtain ⟨z, hz, rfl⟩ := map_ok h
      obtain ⟨v1, v2, v3⟩ := vis_ok a.s hv
      obtain ⟨p2, rfl⟩ := name_ok ‹nameE _ = some _›
      exact zs_sset (by rw [a.n]; exact slot_ok hi) v1 v2 v3 ((snd c n).e hz G a).1 ((snd c n).e hx G a).1 swS stS fun u => by cases b <;> first | rfl | cases hb
    · cases h
  | _ => cases h
theorem s_s (ih : SndS c pr n) {st : Stmt} {x : S} (h : cS c pr (n + 1) s st = some x) (G : Gd X T (nmOf c) k) (a : At c s X) (hx : X.xe = fun _ _ => False) : PS X st (tS X.K T pr x) := by
  have h0 := h
  have own : PassesOwn (model X.prog X.w) X.A X.env X.xe := by rw [hx]; exact PassesOwn.never
  rw [cS.eq_def] at h
  dsimp only at h
  cases st with
  | Pass p => cases h; exact zs_pass
  | Break p => cases h; exact zs_brk
  | Continue p => cases h; exact zs_cnt
  | Return v p =>
    cases v with
    | none => cases h; exact zs_retN
    | some e =>
      dsimp only at h
      split at h
      · rename_i hm
        cases h
        exact zs_ret (mv_ok hm a)
      · obtain ⟨x, hx, rfl⟩ := map_ok h
        exact zs_ret ((snd c n).e hx G a).1
  | Expr e p =>
    have plain : compS e = none → (cE c n s e).map S.ex = some x → PS X (.Expr e p) (tS X.K T pr x) := fun hs h => by
      obtain ⟨x, hx, rfl⟩ := map_ok h
      exact zs_ex ((snd c n).e hx G a).1 (sw0 hs)
    cases e with
    | Call f as ks cp =>
      cases f with
      | Attribute o at_ ap =>
        dsimp only at h
        split at h
        · exact plain rfl h
        split at h
        · obtain ⟨y, hy, h⟩ := bnd_ok h
          obtain ⟨⟨h1, h2, h3, h4⟩, h⟩ := ifs_ok h
          obtain ⟨i, hi, h⟩ := bnd_ok h
          obtain ⟨x, hx, rfl⟩ := map_ok h
          obtain ⟨v1, v2, v3⟩ := vis_ok a.s h2
          obtain ⟨p2, rfl⟩ := name_ok hy
          subst h1
          exact zs_ap (by rw [a.n]; exact slot_ok hi) v1 v2 v3 h3 ((snd c n).e hx G a).1 h4
        · cases h
      | _ => exact plain rfl h
    | _ =>
      obtain ⟨hs, h⟩ := ifs_ok h
      exact plain hs h
  | Assign ts v p =>
    cases ts with
    | nil => cases h
    | cons t ts =>
      cases ts with
      | nil => exact as_s h0 G a
      | cons _ _ => cases h
  | AugAssign t o v p =>
    dsimp only at h
    split at h
    · obtain ⟨⟨hl, ho⟩, h⟩ := ifs_ok h
      obtain ⟨i, hi, h⟩ := bnd_ok h
      obtain ⟨hp, h⟩ := ifs_ok h
      obtain ⟨x, hx, rfl⟩ := map_ok h
      obtain ⟨l1, l2⟩ := loc_ok a hl
      obtain ⟨p2, rfl⟩ := name_ok ‹nameE _ = some _›
      exact zs_aug ho G.nd (by rw [a.n]; exact slot_ok hi) l1 l2 hp ((snd c n).e hx G a).1
    · cases h
  | If t b d p =>
    obtain ⟨z, hz, h⟩ := bnd_ok h
    obtain ⟨x, hx', h⟩ := bnd_ok h
    obtain ⟨y, hy, rfl⟩ := map_ok h
    exact zs_ite ((snd c n).t hz G a).1 (ih.ss hx' G a hx) (ih.ss hy G a hx)
  | For t i b o p =>
    cases o with
    | cons _ _ => cases h
    | nil =>
      obtain ⟨hf, h⟩ := ifs_ok h
      obtain ⟨tg, ht, h⟩ := bnd_ok h
      obtain ⟨it, hi, h⟩ := bnd_ok h
      obtain ⟨x, hx', h⟩ := bnd_ok h
      obtain ⟨hp, h⟩ := ifs_ok h
      cases h
      exact zs_for G.calm own hp ((snd c n).i (w := false) hi G a) ((g_ok n).1 _ _ _ ht G.calm G.nd a) (ih.ss hx' G a hx) (folded_ok hf)
  | While t b o p =>
    cases o with
    | cons _ _ => cases h
    | nil =>
      obtain ⟨z, hz, h⟩ := bnd_ok h
      obtain ⟨x, hx', rfl⟩ := map_ok h
      exact zs_wh own ((snd c n).t hz G a).1 (ih.ss hx' G a hx)
  | _ => cases h
theorem ss_s (ih : SndS c pr n) {st : List Stmt} {x : Ss} (h : cSs c pr (n + 1) s st = some x) (G : Gd X T (nmOf c) k) (a : At c s X) (hx : X.xe = fun _ _ => False) : PSs X st (tSs X.K T pr x) := by
  rw [cSs.eq_def] at h
  cases st with
  | nil => cases h; exact zss_nil
  | cons z r =>
    obtain ⟨x, hx', h⟩ := bnd_ok h
    obtain ⟨y, hy, rfl⟩ := map_ok h
    exact zss_cons (ih.s hx' G a hx) (ih.ss hy G a hx)
theorem sndS (c : Cc) (pr : List Nat) : ∀ n, SndS c pr n
  | 0 => ⟨fun h => (by rw [cS.eq_def] at h; cases h), fun h => (by rw [cSs.eq_def] at h; cases h)⟩
  | n + 1 => ⟨s_s (sndS c pr n), ss_s (sndS c pr n)⟩
end
end Z

set_option Elab.async false
set_option linter.all false
set_option autoImplicit false
set_option maxRecDepth 100000
set_option maxHeartbeats 4000000
/-! Z20: the defs, level by level. -/
namespace Z
open PySem PySem.Spec PyProof.Rows L2
theorem Sl.start0 (n : Nat) : Sl (List.replicate n none) (List.replicate n none) [] := by
  induction n with
  | zero => exact .nil
  | succ n ih =>
    rw [List.replicate_succ, List.replicate_succ]
    exact .skip ih
theorem Sl.start (n : Nat) : ∀ {vs : List V} {as : List D}, vs.length = as.length → Sl (vs.map some ++ List.replicate n none) (as.map some ++ List.replicate n none) (vs.zip as)
  | [], [], _ => Sl.start0 n
  | v :: vs, a :: as, h => .has (Sl.start n (Nat.succ.inj h))
/-- what is kept of the slots -/
theorem Sl.part : ∀ {σ : L2.St} {e : Ev} {rs : Rt}, Sl σ e rs → ∀ {σ' : L2.St} {e' : Ev}, σ'.length = e'.length → (∀ (i : Nat) (d : D), rd i e' = some d → rd i e = some d ∧ σ'[i]? = σ[i]?) → ∃ rs' dr, Sl σ' e' rs' ∧ rs.Perm (dr ++ rs')
  | _, _, rs, _, [], [], _, _ => ⟨[], rs, .nil, by simp⟩
  | _, _, _, .nil, v :: σ', d :: e', hl, h => by
    obtain ⟨rs', dr, h1, h2⟩ := Sl.part .nil (σ' := σ') (e' := e') (by simpa using hl) fun i d hi => absurd (h (i + 1) d hi).1 (by simp [rd])
    cases d with
    | none => exact ⟨rs', dr, .skip h1, h2⟩
    | some d => exact absurd (h 0 d rfl).1 (by simp [rd])
  | _, _, _, .skip (o := o) s, v :: σ', d :: e', hl, h => by
    obtain ⟨rs', dr, h1, h2⟩ := s.part (σ' := σ') (e' := e') (by simpa using hl) fun i d hi => by
      have q := h (i + 1) d hi
      exact ⟨q.1, by simpa using q.2⟩
    cases d with
    | none => exact ⟨rs', dr, .skip h1, h2⟩
    | some d => exact absurd (h 0 d rfl).1 (by simp [rd])
  | _, _, _, .has (v := w) (d := u) s, v :: σ', d :: e', hl, h => by
    obtain ⟨rs', dr, h1, h2⟩ := s.part (σ' := σ') (e' := e') (by simpa using hl) fun i d hi => by
      have q := h (i + 1) d hi
      exact ⟨q.1, by simpa using q.2⟩
    cases d with
    | none => exact ⟨rs', (w, u) :: dr, .skip h1, h2.cons _⟩
    | some d =>
      obtain ⟨q1, q2⟩ := h 0 d rfl
      have e1 : u = d := by simpa [rd] using q1
      have e2 : v = some w := by simpa using q2
      subst e1
      subst e2
      exact ⟨_, dr, .has h1, (h2.cons _).trans List.perm_middle.symm⟩
theorem rd_mask {f : Fd} {e : Ev} {i : Nat} {d : D} (h : rd i (maskE f e) = some d) : i < f.ps ∧ f.pr.contains i = true ∧ rd i e = some d := by
  unfold maskE rd at h
  rw [List.getElem?_map] at h
  by_cases hi : i < f.ps
  · rw [List.getElem?_range hi] at h
    simp only [Option.map_some, Option.join_some] at h
    split at h
    · exact ⟨hi, by assumption, h⟩
    · cases h
  · rw [List.getElem?_eq_none (by simpa using hi)] at h
    cases h
/-- a def of the text: its name, its statement, its names by slot, its parameters, which are lent -/
structure Df where
  x : Str
  st : Stmt
  N : List Str
  ps : List Str
  lent : List Bool
  kws : List (List Str)
def prOf (d : Df) : List Nat := (List.range d.ps.length).filter fun i => d.lent.getD i false
def dnOf (d : Df) : Dn := ⟨d.x, d.ps, d.lent, d.kws⟩
def cD (ds : List Df) (xs : List Y.Xn) (fuel : Nat) (d : Df) : Option Fd := (cSs ⟨d.N, ds.map dnOf, xs⟩ (prOf d) fuel ⟨defScope d.st, fun _ => true⟩ (defBody d.st)).map fun b => ⟨d.ps.length, d.N.length, prOf d, b⟩
def cDs (ds : List Df) (xs : List Y.Xn) (fuel : Nat) : List Df → Option (List Fd)
  | [] => some []
  | d :: r => (cD ds xs fuel d).bind fun x => (cDs ds xs fuel r).map fun y => x :: y
theorem cDs_at {ds : List Df} {xs : List Y.Xn} {fuel : Nat} : ∀ {l : List Df} {fs : List Fd}, cDs ds xs fuel l = some fs → ∀ {i : Nat} {d : Df}, l[i]? = some d → ∃ f, fs[i]? = some f ∧ cD ds xs fuel d = some f
  | [], _, _, i, d, h => by simp at h
  | a :: r, fs, h, i, d, hi => by
    obtain ⟨x, hx, h⟩ := bnd_ok h
    obtain ⟨y, hy, rfl⟩ := map_ok h
    cases i with
    | zero => cases hi; exact ⟨x, rfl, hx⟩
    | succ i => exact cDs_at hy (i := i) (by simpa using hi)
section
variable {P : Program} {w : World} {K : PySem.W.Frag} {mg : Str → Option Value} {base : Heap}
/-- what is known of a def's object -/
structure Kn (K : PySem.W.Frag) (mg : Str → Option Value) (d : Df) (f : Addr) (fd : FuncData) : Prop where
  ex : ∃ qual : Str, Fun K d.x qual d.st f fd
  g : mg d.x = some (.ref f)
  b : ∀ us : List Value, us.length = d.ps.length → bindArgs fd ⟨us, []⟩ = pure (d.ps.zip us)
  S : FnScope d.N d.ps (defScope d.st)
  kw : ∀ ks ∈ d.kws, ∀ ws : List Value, ws.length = ks.length → bindArgs fd ⟨[], ks.zip ws⟩ = pure (d.ps.zip (reo (ixOf ks d.ps) ws))
def Know (K : PySem.W.Frag) (mg : Str → Option Value) (d : Df) : Prop := ∃ f fd, Kn K mg d f fd
theorem body_ok {N : List Str} {X : Cx} {T : Tab} {F : Fd} {vs : List V} {H : Hp} {Q : VK} {st : List Stmt} (hN : F.ns = N.length) (hb : PSs X st (tSs X.K T F.pr F.body)) (h : spD X.K (runF T F) vs H Q E0) :
    ∃ t, PSs X st t ∧ t { nx := fun _ H' => Q .non H', rt := Q } (L2.start N vs) H := by
  refine ⟨_, hb, ?_⟩
  obtain ⟨as, Fr, hl, hR, h⟩ := h
  unfold runF at h
  by_cases ha : as.length = F.ps
  · rw [if_pos ha] at h
    have hk : N.length - vs.length = F.ns - F.ps := by rw [hN, hl, ha]
    refine ⟨as.map some ++ List.replicate (F.ns - F.ps) none, vs.zip as, Fr, ?_, hR, ?_⟩
    · unfold L2.start
      rw [hk]
      exact Sl.start _ hl
    · have fin : ∀ {e : Ev} {d : D} {v : V} {σ' : L2.St} {H' : Hp} {rs : Rt}, Keep F.pr (L2.start N vs) σ' → Sl σ' e rs → Rel X.K H' ((v, d) :: (rs ++ Fr)) →
          (∀ v H' rs, Sl (vs.map some) (maskE F e) rs → Rel X.K H' ((v, d) :: (rs ++ Fr)) → Q v H') → Q v H' := by
        intro e d v σ' H' rs kp s hr q
        obtain ⟨rs', dr, s', pm⟩ := s.part (σ' := vs.map some) (e' := maskE F e) (by simp [maskE, hl, ha]) fun i d hd => by
          obtain ⟨h1, h2, h3⟩ := rd_mask hd
          refine ⟨h3, ?_⟩
          rw [kp i (by simpa using h2)]
          unfold L2.start
          rw [List.getElem?_append_left (by simp [hl, ha]; exact h1)]
        have h2 : Rel X.K H' (dr ++ ((v, d) :: (rs' ++ Fr))) := by
          refine hr.perm ?_
          classical
          rw [List.perm_iff_count]
          intro z
          have c := pm.count_eq z
          simp only [List.count_append, List.count_cons] at c ⊢
          omega
        exact q v H' rs' s' h2.cut
      generalize dSs T F.body (as.map some ++ List.replicate (F.ns - F.ps) none) = r at h
      cases r with
      | ok f e =>
        cases f with
        | nx => exact fun σ' H' rs kp s hr => fin kp s hr.addN h
        | rt d => exact fun v σ' H' rs kp s hr => fin kp s hr h
        | bk => exact h.elim
        | ct => exact h.elim
      | ex _ _ => exact h.elim
      | no => exact h.elim
  · rw [if_neg ha] at h
    exact h.elim
theorem vals_len {vs : List V} {us : List Value} (r : Vals vs us) : vs.length = us.length := Paired.length r
theorem reo_vals {vs : List V} {us : List Value} (r : Vals vs us) (ix : List Nat) : Vals (reo ix vs) (reo ix us) := by
  induction ix with
  | nil => exact .nil
  | cons j ix ih =>
    unfold reo at ih ⊢
    rw [List.filterMap_cons, List.filterMap_cons]
    cases hj : vs[j]? with
    | none =>
      have : us[j]? = none := List.getElem?_eq_none (by rw [← vals_len r]; exact List.getElem?_eq_none_iff.mp hj)
      rw [this]
      exact ih
    | some x =>
      obtain ⟨u, hu, ru⟩ := r.get hj
      rw [hu]
      exact .cons ru ih
theorem kb_ok {fd : FuncData} {ps ks : List Str} (h : ∀ ws : List Value, ws.length = ks.length → bindArgs fd ⟨[], ks.zip ws⟩ = pure (ps.zip (reo (ixOf ks ps) ws))) (hp : ps ≠ []) : KBinds K fd ps ks (kg (ixOf ks ps) ks.length) (kg (ixOf ks ps) ks.length) where
  to s us ws _ hl := by
    unfold kg at hl ⊢
    by_cases hc : (us.isEmpty && ws.length == ks.length) = true
    · rw [if_pos hc]
      simp only [Bool.and_eq_true, beq_iff_eq, List.isEmpty_iff] at hc
      obtain ⟨rfl, hc⟩ := hc
      exact .of_eq (h ws hc)
    · rw [if_neg hc] at hl
      exact absurd (List.length_eq_zero_iff.mp hl.symm) hp
  rel {vs us zs ws} r1 r2 := by
    unfold kg
    have e1 : vs.isEmpty = us.isEmpty := by
      cases r1 with
      | nil => rfl
      | cons _ _ => rfl
    rw [e1, vals_len r2]
    split
    · exact reo_vals r2 _
    · exact .nil
theorem onel {ds : List Df} {xs : List Y.Xn} {fs : List Fd} {fuel : Nat} (hc : cDs ds xs fuel ds = some fs) (hx : ∀ x ∈ xs, Y.XOk P w K mg base xs x) (bt : ∀ x ∈ bNames, mg x = none) {n i : Nat} {d : Df} {f : Addr} {fd : FuncData} (hd : ds[i]? = some d) (kn : Kn K mg d f fd)
    (T : FnT P w K mg base n (tab fs n) ⟨ds.map fun d => ⟨d.x, d.ps.length, d.ps, d.kws⟩, xs⟩) : FnOk P w K mg base CX0 (n + 1 + 2) f fd d.ps (fun vs H Q E => vs.length = d.ps.length ∧ spD K (tab fs (n + 1) i) vs H Q E) := by
  obtain ⟨⟨qual, F⟩, h1, h2, S, _⟩ := kn
  obtain ⟨fdz, g1, g2⟩ := cDs_at hc hd
  obtain ⟨b, hb, rfl⟩ := map_ok g2
  refine F.ok S (fun vs H Q E q => q.1) fun cdv A outer s H vs Q E hr ⟨q1, q2⟩ => ?_
  have G : Gd (cxOf CX0 P w K mg base d.N qual (defScope d.st) f cdv A outer s H E).nox (tab fs n) (nmOf ⟨d.N, ds.map dnOf, xs⟩) n :=
    ⟨rfl, S.nd, by have := hr.un; show (A.deeper _).units + 65 < cLine; omega, hr, bt, by
      unfold nmOf
      rw [List.map_map]
      exact T, hx⟩
  refine body_ok (F := ⟨d.ps.length, d.N.length, prOf d, b⟩) rfl ((sndS ⟨d.N, ds.map dnOf, xs⟩ (prOf d) fuel).ss hb G ⟨rfl, rfl, rfl⟩ rfl) ?_
  obtain ⟨as, Fr, q3, q4, q5⟩ := q2
  refine ⟨as, Fr, q3, q4, ?_⟩
  rw [tab, g1] at q5
  exact q5
theorem lev {ds : List Df} {xs : List Y.Xn} {fs : List Fd} {fuel : Nat} (hc : cDs ds xs fuel ds = some fs) (kn : ∀ d ∈ ds, Know K mg d) (hl0 : ∀ d ∈ ds, d.kws ≠ [] → d.ps ≠ []) (hx : ∀ x ∈ xs, Y.XOk P w K mg base xs x) (bt : ∀ x ∈ bNames, mg x = none) : ∀ n, FnT P w K mg base n (tab fs n) ⟨ds.map fun d => ⟨d.x, d.ps.length, d.ps, d.kws⟩, xs⟩
  | n, i, x, m, ps, kk, hi => by
    rw [List.getElem?_map] at hi
    obtain ⟨d, hd, he⟩ := map_ok hi
    cases he
    obtain ⟨f, fd, k⟩ := kn d (List.mem_of_getElem? hd)
    obtain ⟨qual, F⟩ := k.ex
    refine ⟨f, fd, rfl, fun ks hks => kb_ok (k.kw ks hks) (hl0 d (List.mem_of_getElem? hd) fun z => by rw [z] at hks; cases hks), k.g, F.kp, .all k.b, ?_⟩
    cases n with
    | zero => exact ⟨fun vs H Q E q => q.1, fun A outer s H args us vs Q E hr e0 hb hv ⟨_, as, Fr, _, _, q⟩ => q.elim⟩
    | succ n => exact onel hc hx bt hd k (lev hc kn hl0 hx bt n)
end
end Z

set_option Elab.async false
set_option linter.all false
set_option autoImplicit false
set_option maxRecDepth 100000
set_option maxHeartbeats 4000000
/-! Z21: a law's head. -/
namespace Z
open PySem PySem.Spec PyProof.Rows L2
/-- what is asked of the law's def -/
def spLaw (n : Nat) (K : PySem.W.Frag) : Sp := fun vs H Q _ => ∃ (a : Addr) (ns : List Int), vs = [.ref a] ∧ ns.length ≤ n ∧ SqL K H a (ns.map V.int) ∧ ∀ v H', v = V.bl true → Q v H'
theorem shL_ints {K : PySem.W.Frag} {Hk : Hp} : ∀ ns : List Int, ShL K Hk (ns.map V.int) (ns.map D.int)
  | [] => .nil
  | n :: r => .cons (.int n) (shL_ints r)
theorem law_of {P : Program} {w : World} {K : PySem.W.Frag} {mg : Str → Option Value} {base : Heap} {ds : List Df} {xs : List Y.Xn} {fs : List Fd} {fuel n i m : Nat} {d : Df} {f : Addr} {fd : FuncData} {x : Str} (hc : cDs ds xs fuel ds = some fs) (hx : ∀ x ∈ xs, Y.XOk P w K mg base xs x) (bt : ∀ x ∈ bNames, mg x = none)
    (kn : ∀ d ∈ ds, Know K mg d) (hl0 : ∀ d ∈ ds, d.kws ≠ [] → d.ps ≠ []) (hd : ds[i]? = some d) (k : Kn K mg d f fd) (hps : d.ps = [x]) (h : ∀ ns : List Int, ns.length ≤ m → ∃ ps, tab fs (n + 1) i [.lck (ns.map D.int)] = .ok (.bl true) ps) : FnOk P w K mg base CX0 (n + 1 + 2) f fd [x] (spLaw m K) := by
  have F := onel (P := P) (w := w) (base := base) hc hx bt hd k (lev hc kn hl0 hx bt n)
  rw [hps] at F
  refine F.imp fun vs H Q E ⟨a, ns, e, hl, hs, q⟩ => ?_
  subst e
  obtain ⟨ps, hp⟩ := h ns hl
  refine ⟨rfl, [.lck (ns.map D.int)], [], rfl, ⟨H, [] ++ [], Sub.rfl, .cons (.sh (.lck hs (shL_ints ns))) .nil, .nil, fun b z => nomatch z⟩, ?_⟩
  rw [hp]
  exact fun v H' rs _ hr => q v H' hr.bl
theorem kn_mk {K : PySem.W.Frag} {mg : Str → Option Value} {h : Heap} {d : Df} {qual : Str} {f : Addr} {oc kV dc pm cd ct : Value} {od an : Option Addr} {sl : Array (Option Value)} (X : K.In h) (G : h.Ns mainGlobals mg)
    (a : PySem.W.nsIn K mainGlobals d.x = some (some (.ref f))) (l : K.lookup f = some ⟨oc, od, .func (PySem.W.fnOf d.x qual (defArgs d.st) (defBody d.st) (defScope d.st) .none kV dc pm an cd ct), sl⟩) (c : PySem.W.codeIn K cd qual = true) (k : PySem.W.keepIn K (.ref f) = true)
    (b : ∀ us : List Value, us.length = d.ps.length → bindArgs (PySem.W.fnOf d.x qual (defArgs d.st) (defBody d.st) (defScope d.st) .none kV dc pm an cd ct) ⟨us, []⟩ = pure (d.ps.zip us)) (S : FnScope d.N d.ps (defScope d.st))
    (kw : ∀ ks ∈ d.kws, ∀ ws : List Value, ws.length = ks.length → bindArgs (PySem.W.fnOf d.x qual (defArgs d.st) (defBody d.st) (defScope d.st) .none kV dc pm an cd ct) ⟨[], ks.zip ws⟩ = pure (d.ps.zip (reo (ixOf ks d.ps) ws))) :
    Kn K mg d f (PySem.W.fnOf d.x qual (defArgs d.st) (defBody d.st) (defScope d.st) .none kV dc pm an cd ct) :=
  ⟨⟨qual, fun_mk l c k⟩, PySem.W.mg_of X G a, b, S, kw⟩
theorem scopeC {N P : List Str} {sc : Scope} (h : ((match sc.kind with | .function => true | _ => false) && !sc.isCoroutine && !sc.isGenerator && decide N.Nodup && decide (N.take P.length = P) && P.all (fun x => sc.names.lookup x == some .local || sc.names.lookup x == some .cell) && sc.names.all fun y => !(y.2 == .free)) = true) : FnScope N P sc := by
  simp only [Bool.and_eq_true, List.all_eq_true, decide_eq_true_eq, Bool.not_eq_true', Bool.or_eq_true, beq_iff_eq] at h
  obtain ⟨⟨⟨⟨⟨⟨h1, h2⟩, h3⟩, h4⟩, h5⟩, h6⟩, h7⟩ := h
  refine ⟨?_, h2, h3, h4, h5, h6, fun y hy e => ?_⟩
  · split at h1
    · assumption
    · cases h1
  · have q := h7 y hy
    rw [e] at q
    cases q
end Z

set_option Elab.async false
set_option linter.all false
set_option autoImplicit false
set_option maxRecDepth 100000
set_option maxHeartbeats 4000000
/-! Y5: what a law's head has to bring for own exceptions. -/
namespace Y
open PySem PySem.Spec PyProof.Rows L2 Z
section
variable {K : PySem.W.Frag} {C D : Addr} {T newId : String} {b : Bool} {tl : List Value}
theorem kit_T (hm : PySem.W.kitMeta T = true) (h : PySem.W.subIn K (.ref C) (.type T) = some b) : PySem.W.kitOne K (.ref C) (.type T) = some b := by
  unfold PySem.W.kitOne PySem.W.kitCls
  rw [if_neg (by simp)]
  dsimp only
  rw [if_pos hm]
  exact h
/-- what an own class's mro tells -/
theorem sub_ref (T : Xc K C newId tl) (htl : tl.contains (.ref D) = false) (hn : C ≠ D) : PySem.W.subIn K (.ref C) (.ref D) = some false := by
  obtain ⟨c1, c2, c3, c4, c5, c6, c7, c8, c9, k0, k1, k2, k3, k5, hC⟩ := T.cls
  have hcl : PySem.W.clsIn K C = some { name := c1, bases := c4, mro := .ref C :: tl, ns := c3, qualname := c2, hasDict := true, slotNames := c5, subclasses := c6, abstract := c7, collection := c8, hasDel := false } := by
    unfold PySem.W.clsIn
    rw [hC] <;> rfl
  show PySem.W.mroIn K C (.ref D) = some false
  unfold PySem.W.mroIn
  rw [hcl, Option.bind_some, if_neg (by simp), List.contains_cons, htl, Bool.or_false]
  congr 1
  simpa using fun e => hn e.symm
theorem kit_same : PySem.W.kitOne K (.ref C) (.ref C) = some true := by
  unfold PySem.W.kitOne
  rw [if_pos (by simp)]
theorem kit_other (hn : C ≠ D) (hd : PySem.W.hasDictIn K D = true) (ht : PySem.W.typeIn K (.ref D) = some (.type "type")) (h : PySem.W.subIn K (.ref C) (.ref D) = some false) : PySem.W.kitOne K (.ref C) (.ref D) = some false := by
  unfold PySem.W.kitOne PySem.W.kitCls
  rw [if_neg (by simpa using hn)]
  dsimp only
  obtain ⟨cd, hc, _⟩ := PySem.W.any_some hd
  rw [if_pos (by rw [hc, ht]; rfl)]
  exact h
end
theorem bs_VE {K : PySem.W.Frag} (i : PySem.W.findCls K (.type "ValueError") (.type "type") "__init__" = some (.val (.builtin "ValueError.__init__"))) : Bs K "ValueError" "ValueError.__new__" "ValueError.__init__" [.type "ValueError", .type "Exception", .type "BaseException", .type "object"] where
  f := PySem.F.excBase_ValueError
  s := PySem.F.store_ValueError
  b := by decide +kernel
  t := by kernel_rfl
  st := by decide +kernel
  i := i
  hd := by decide +kernel
  nm := by decide
  db := by decide
theorem bs_LE {K : PySem.W.Frag} (i : PySem.W.findCls K (.type "LookupError") (.type "type") "__init__" = some (.val (.builtin "LookupError.__init__"))) : Bs K "LookupError" "LookupError.__new__" "LookupError.__init__" [.type "LookupError", .type "Exception", .type "BaseException", .type "object"] where
  f := PySem.F.excBase_LookupError
  s := PySem.F.store_LookupError
  b := by decide +kernel
  t := by kernel_rfl
  st := by decide +kernel
  i := i
  hd := by decide +kernel
  nm := by decide
  db := by decide
end Y

set_option Elab.async false
set_option linter.all false
set_option autoImplicit false
set_option maxRecDepth 100000
set_option maxHeartbeats 4000000
/-! M1: drawing a number from a law's box. -/
namespace M
open PySem PySem.Spec Z
def bTake : Ss := (Z.Ss.cons
  (Z.S.ite
    (Z.Te.val (Z.E.cmp (PySem.CmpOp.Gt) (Z.E.subv 0 (Z.E.c (Z.D.int 0))) (Z.E.c (Z.D.int 0))))
    (Z.Ss.cons
      (Z.S.as
        (Z.Tg.n 5)
        (Z.E.bin
          (PySem.Operator.Mod)
          (Z.E.bi (Z.Bi.int) (Z.Es.cons (Z.E.subv 0 (Z.E.c (Z.D.int 0))) (Z.Es.nil)))
          (Z.E.v 1)))
      (Z.Ss.cons
        (Z.S.sset 0 (Z.E.c (Z.D.int 0)) (Z.E.bin (PySem.Operator.FloorDiv) (Z.E.subv 0 (Z.E.c (Z.D.int 0))) (Z.E.v 1)))
        (Z.Ss.cons (Z.S.ret (Z.E.mv 5)) (Z.Ss.nil))))
    (Z.Ss.nil))
  (Z.Ss.cons
    (Z.S.sset 0 (Z.E.c (Z.D.int 2)) (Z.E.bin (PySem.Operator.Add) (Z.E.subv 0 (Z.E.c (Z.D.int 2))) (Z.E.c (Z.D.int 1))))
    (Z.Ss.cons
      (Z.S.as
        (Z.Tg.n 2)
        (Z.E.bin
          (PySem.Operator.Mod)
          (Z.E.bi
            (Z.Bi.int)
            (Z.Es.cons
              (Z.E.bin
                (PySem.Operator.Mult)
                (Z.E.bin
                  (PySem.Operator.Add)
                  (Z.E.subv 0 (Z.E.c (Z.D.int 1)))
                  (Z.E.bin (PySem.Operator.Mult) (Z.E.c (Z.D.int 48271)) (Z.E.subv 0 (Z.E.c (Z.D.int 2)))))
                (Z.E.bin (PySem.Operator.Add) (Z.E.c (Z.D.int 39373)) (Z.E.subv 0 (Z.E.c (Z.D.int 2)))))
              (Z.Es.nil)))
          (Z.E.c (Z.D.int 2147483647))))
      (Z.Ss.cons
        (Z.S.as
          (Z.Tg.n 3)
          (Z.E.bin
            (PySem.Operator.Add)
            (Z.E.bin (PySem.Operator.Mod) (Z.E.bi (Z.Bi.int) (Z.Es.cons (Z.E.v 2) (Z.Es.nil))) (Z.E.c (Z.D.int 40009)))
            (Z.E.c (Z.D.int 7))))
        (Z.Ss.cons
          (Z.S.as
            (Z.Tg.n 4)
            (Z.E.bin
              (PySem.Operator.Mod)
              (Z.E.bi
                (Z.Bi.int)
                (Z.Es.cons
                  (Z.E.bin
                    (PySem.Operator.Mult)
                    (Z.E.bin
                      (PySem.Operator.Add)
                      (Z.E.bin (PySem.Operator.Add) (Z.E.v 2) (Z.E.subv 0 (Z.E.c (Z.D.int 2))))
                      (Z.E.bin (PySem.Operator.FloorDiv) (Z.E.subv 0 (Z.E.c (Z.D.int 1))) (Z.E.c (Z.D.int 1000003))))
                    (Z.E.v 3))
                  (Z.Es.nil)))
              (Z.E.c (Z.D.int 2147483629))))
          (Z.Ss.cons
            (Z.S.ret
              (Z.E.bin
                (PySem.Operator.Mod)
                (Z.E.bi
                  (Z.Bi.int)
                  (Z.Es.cons
                    (Z.E.bin
                      (PySem.Operator.FloorDiv)
                      (Z.E.bin
                        (PySem.Operator.Mod)
                        (Z.E.bi
                          (Z.Bi.int)
                          (Z.Es.cons
                            (Z.E.bin
                              (PySem.Operator.Add)
                              (Z.E.bin (PySem.Operator.Mult) (Z.E.v 4) (Z.E.c (Z.D.int 48271)))
                              (Z.E.v 2))
                            (Z.Es.nil)))
                        (Z.E.c (Z.D.int 2147483587)))
                      (Z.E.c (Z.D.int 64)))
                    (Z.Es.nil)))
                (Z.E.v 1)))
            (Z.Ss.nil)))))))
theorem mul_of {i j : Int} (h : 0 ≤ j ∧ j < 2 ^ 64) : mulOk i j = true := by
  unfold mulOk
  rw [Bool.or_eq_true, decide_eq_true_eq, decide_eq_true_eq]
  exact .inr (by omega)
theorem mul_of' {i j : Int} (h : 0 ≤ i ∧ i < 2 ^ 64) : mulOk i j = true := by
  unfold mulOk
  rw [Bool.or_eq_true, decide_eq_true_eq, decide_eq_true_eq]
  exact .inl (by omega)
def box (a b c : Int) : D := .lst true [.int a, .int b, .int c]
theorem take_run (T : Tab) (a b c w : Int) (hw : 0 < w) (hw2 : w < 1073741824) (hb : 0 ≤ b ∧ b < 2 ^ 62) (hc : 0 ≤ c ∧ c < 1000000) :
    ∃ d a' c' e, dSs T bTake [some (box a b c), some (.int w), none, none, none, none] = .ok (.rt (.int d)) e ∧ rd 0 e = some (box a' b c') ∧ 0 ≤ d ∧ d < w ∧ c ≤ c' ∧ c' ≤ c + 1 := by
  by_cases ha : 0 < a
  · refine ⟨a % w, a / w, c, [some (box (a / w) b c), some (.int w), none, none, none, none], ?_, rfl, Int.emod_nonneg _ (by omega), Int.emod_lt_of_pos _ hw, by omega, by omega⟩
    simp [bTake, box, dSs, dS, dT, dE, dEs, R.bind, rd, cmpD, truth, ofO, fz, isF, isFL, subD, L2.atI, L2.ixN, ha, hw, hw2, binD, args1, biD, setT]
  · generalize h1 : ((b + 48271 * (c + 1)) * (39373 + (c + 1))) % 2147483647 = o
    generalize h2 : o % 40009 + 7 = f
    generalize h3 : ((o + (c + 1) + b / 1000003) * f) % 2147483629 = t
    have o1 : 0 ≤ o := by rw [← h1]; exact Int.emod_nonneg _ (by decide)
    have f1 : 0 ≤ f ∧ f < 50000 := by
      have := Int.emod_nonneg o (show (40009 : Int) ≠ 0 by decide)
      have := Int.emod_lt_of_pos o (show (0 : Int) < 40009 by decide)
      omega
    have t1 : 0 ≤ t ∧ t < 2147483629 := ⟨by rw [← h3]; exact Int.emod_nonneg _ (by decide), by rw [← h3]; exact Int.emod_lt_of_pos _ (by decide)⟩
    have m1 : mulOk 48271 (c + 1) = true := mul_of' (by decide)
    have m2 : mulOk (b + 48271 * (c + 1)) (39373 + (c + 1)) = true := mul_of (by omega)
    have m3 : mulOk (o + (c + 1) + b / 1000003) f = true := mul_of (by omega)
    have m4 : mulOk t 48271 = true := mul_of (by decide)
    refine ⟨((t * 48271 + o) % 2147483587 / 64) % w, a, c + 1, [some (box a b (c + 1)), some (.int w), some (.int o), some (.int f), some (.int t), none], ?_, rfl, Int.emod_nonneg _ (by omega), Int.emod_lt_of_pos _ hw, by omega, by omega⟩
    simp [bTake, box, dSs, dS, dT, dE, dEs, R.bind, rd, cmpD, truth, ofO, fz, isF, isFL, subD, L2.atI, L2.ixN, ha, hw, hw2, binD, args1, biD, setT, m1, m2, m3, m4, h1, h2, h3]
def bBox : Ss := (Z.Ss.cons
  (Z.S.as
    (Z.Tg.n 2)
    (Z.E.ite (Z.Te.val (Z.E.cmp (PySem.CmpOp.Lt) (Z.E.v 1) (Z.E.lenv 0))) (Z.E.subv 0 (Z.E.v 1)) (Z.E.c (Z.D.int 0))))
  (Z.Ss.cons
    (Z.S.ret
      (Z.E.lst
        (Z.Es.raw
          (Z.E.bin
            (PySem.Operator.Mult)
            (Z.E.bi (Z.Bi.abs) (Z.Es.cons (Z.E.v 2) (Z.Es.nil)))
            (Z.E.bi
              (Z.Bi.int)
              (Z.Es.cons
                (Z.E.cmp
                  (PySem.CmpOp.GtE)
                  (Z.E.bi (Z.Bi.abs) (Z.Es.cons (Z.E.v 2) (Z.Es.nil)))
                  (Z.E.bin (PySem.Operator.Pow) (Z.E.c (Z.D.int 10)) (Z.E.c (Z.D.int 18))))
                (Z.Es.nil))))
          (Z.Es.raw
            (Z.E.bin
              (PySem.Operator.Add)
              (Z.E.bin
                (PySem.Operator.Add)
                (Z.E.bin
                  (PySem.Operator.Mod)
                  (Z.E.bi (Z.Bi.int) (Z.Es.cons (Z.E.v 2) (Z.Es.nil)))
                  (Z.E.c (Z.D.int 2305843009213693951)))
                (Z.E.bin (PySem.Operator.Mult) (Z.E.c (Z.D.int 39373)) (Z.E.v 1)))
              (Z.E.c (Z.D.int 1053100)))
            (Z.Es.raw (Z.E.c (Z.D.int 0)) (Z.Es.nil))))))
    (Z.Ss.nil)))
theorem box_run (T : Tab) (cs : List Int) (k : Nat) (hk : k < cs.length) (hk2 : k < 1000) : ∃ a b e, dSs T bBox [some (.lst false (cs.map D.int)), some (.int k), none] = .ok (.rt (box a b 0)) e ∧ 0 ≤ b ∧ b < 2 ^ 62 := by
  have hx : (cs.map D.int)[k]? = some (.int cs[k]) := by rw [List.getElem?_map, List.getElem?_eq_getElem hk]; rfl
  have hat : L2.atI (cs.map D.int) (k : Int) = some (.int cs[k]) := by
    unfold L2.atI L2.ixN
    rw [if_pos (by omega), if_pos (by simp; omega)]
    simpa using hx
  generalize cs[k] = z at hat
  have m1 : mulOk (if z < 0 then -z else z) (if 1000000000000000000 ≤ (if z < 0 then -z else z) then 1 else 0) = true := by
    apply mul_of
    generalize (if z < 0 then -z else z) = y
    by_cases h : 1000000000000000000 ≤ y <;> simp [h]
  have m2 : mulOk 39373 (k : Int) = true := mul_of' (by decide)
  refine ⟨(if z < 0 then -z else z) * (if 1000000000000000000 ≤ (if z < 0 then -z else z) then 1 else 0), z % 2305843009213693951 + 39373 * k + 1053100, [some (.lst false (cs.map D.int)), some (.int k), some (.int z)], ?_, ?_, ?_⟩
  · have f : isFL (cs.map D.int) = true := by
      clear hx hat hk
      induction cs with
      | nil => rfl
      | cons c cs ih => simp [isFL, isF, ih]
    simp [bBox, box, dSs, dS, dT, dE, dEs, R.bind, rd, cmpD, truth, ofO, fz, isF, isFL, subD, hat, hk, binD, args1, biD, setT, m1, m2, f, big]
  · have := Int.emod_nonneg z (show (2305843009213693951 : Int) ≠ 0 by decide)
    omega
  · have := Int.emod_lt_of_pos z (show (0 : Int) < 2305843009213693951 by decide)
    omega
def bOf : Ss := (Z.Ss.cons (Z.S.ret (Z.E.subv 1 (Z.E.fn 1 (Z.Es.bw 0 (Z.Es.raw (Z.E.lenv 1) (Z.Es.nil)))))) (Z.Ss.nil))
theorem of_run (T : Tab) (a b c a' c' d : Int) (goods : List D) (x : D) (hT : T 1 [box a b c, .int goods.length] = .ok (.int d) [some (box a' b c'), none]) (hd : L2.atI goods d = some x) (hx : isF x = true) :
    dSs T bOf [some (box a b c), some (.lst true goods)] = .ok (.rt x) [some (box a' b c'), some (.lst true goods)] := by
  unfold box at *
  simp [bOf, dSs, dS, dE, dEs, R.bind, rd, ofO, biD, takeB, putB, hT, subD, hd, hx]
theorem run_rt {T : Tab} {F : Fd} {as : List D} {e : Ev} {d : D} (hl : as.length = F.ps) (h : dSs T F.body (as.map some ++ List.replicate (F.ns - F.ps) none) = .ok (.rt d) e) : runF T F as = .ok d (maskE F e) := by
  unfold runF
  rw [if_pos hl, h]
section
variable {fs : List Fd} (h0 : fs[0]? = some ⟨2, 3, [], bBox⟩) (h1 : fs[1]? = some ⟨2, 6, [0], bTake⟩) (h3 : fs[3]? = some ⟨2, 2, [0], bOf⟩)
include h1 in
theorem take_fn (n : Nat) (a b c w : Int) (hw : 0 < w) (hw2 : w < 1073741824) (hb : 0 ≤ b ∧ b < 2 ^ 62) (hc : 0 ≤ c ∧ c < 1000000) :
    ∃ d a' c', tab fs (n + 1) 1 [box a b c, .int w] = .ok (.int d) [some (box a' b c'), none] ∧ 0 ≤ d ∧ d < w ∧ c ≤ c' ∧ c' ≤ c + 1 := by
  obtain ⟨d, a', c', e, h, hr, k1, k2, k3, k4⟩ := take_run (tab fs n) a b c w hw hw2 hb hc
  refine ⟨d, a', c', ?_, k1, k2, k3, k4⟩
  rw [tab, h1]
  refine (run_rt (F := ⟨2, 6, [0], bTake⟩) rfl h).trans ?_
  show R.ok (D.int d) [rd 0 e, none] = _
  rw [hr]
include h0 in
theorem box_fn (n : Nat) (cs : List Int) (k : Nat) (hk : k < cs.length) (hk2 : k < 1000) : ∃ a b, tab fs (n + 1) 0 [.lst false (cs.map D.int), .int k] = .ok (box a b 0) [none, none] ∧ 0 ≤ b ∧ b < 2 ^ 62 := by
  obtain ⟨a, b, e, h, k1, k2⟩ := box_run (tab fs n) cs k hk hk2
  refine ⟨a, b, ?_, k1, k2⟩
  rw [tab, h0]
  exact run_rt (F := ⟨2, 3, [], bBox⟩) rfl h
include h1 h3 in
theorem of_fn (n : Nat) (a b c : Int) (goods : List D) (hg : isFL goods = true) (hl : 0 < goods.length ∧ goods.length < 1000) (hb : 0 ≤ b ∧ b < 2 ^ 62) (hc : 0 ≤ c ∧ c < 1000000) :
    ∃ x a' c', x ∈ goods ∧ tab fs (n + 2) 3 [box a b c, .lst true goods] = .ok x [some (box a' b c'), none] ∧ c ≤ c' ∧ c' ≤ c + 1 := by
  obtain ⟨d, a', c', hT, k1, k2, k3, k4⟩ := take_fn h1 n a b c goods.length (by omega) (by omega) hb hc
  obtain ⟨m, rfl⟩ := Int.eq_ofNat_of_zero_le k1
  have hm : m < goods.length := by omega
  have hd : L2.atI goods (m : Int) = some goods[m] := by
    unfold L2.atI L2.ixN
    rw [if_pos (by omega), if_pos (by omega)]
    simp
  have hmem : goods[m] ∈ goods := List.getElem_mem hm
  have hf : isF goods[m] = true := by
    have : ∀ l : List D, isFL l = true → ∀ x ∈ l, isF x = true := by
      intro l
      induction l with
      | nil => intro _ x hx; cases hx
      | cons y l ih =>
        intro h x hx
        simp only [isFL, Bool.and_eq_true] at h
        rcases List.mem_cons.mp hx with rfl | hx
        · exact h.1
        · exact ih h.2 x hx
    exact this goods hg _ hmem
  refine ⟨goods[m], a', c', hmem, ?_, k3, k4⟩
  have h := of_run (tab fs (n + 1)) a b c a' c' m goods goods[m] hT hd hf
  rw [tab, h3]
  exact run_rt (T := tab fs (n + 1)) (F := ⟨2, 2, [0], bOf⟩) (as := [box a b c, .lst true goods]) rfl h
end
end M

set_option Elab.async false
set_option linter.all false
set_option autoImplicit false
set_option maxRecDepth 100000
set_option maxHeartbeats 4000000
/-! M4: a law's cells. -/
namespace M
open PySem PySem.Spec Z
def bCells : Ss := (Z.Ss.cons
  (Z.S.as
    (Z.Tg.n 2)
    (Z.E.or
      (Z.E.bi (Z.Bi.list) (Z.Es.cons (Z.E.slc (Z.E.v 0) (Z.Oe.no) (Z.Oe.e (Z.E.v 1))) (Z.Es.nil)))
      (Z.E.lst (Z.Es.raw (Z.E.c (Z.D.int 0)) (Z.Es.nil)))))
  (Z.Ss.cons
    (Z.S.fr
      (Z.Tg.t (Z.Tgs.cons (Z.Tg.n 3) (Z.Tgs.cons (Z.Tg.n 4) (Z.Tgs.nil))))
      (Z.It.enm (Z.E.slc (Z.E.v 0) (Z.Oe.e (Z.E.v 1)) (Z.Oe.e (Z.E.c (Z.D.int 63)))))
      (Z.Ss.cons
        (Z.S.as
          (Z.Tg.n 5)
          (Z.E.bin (PySem.Operator.Mod) (Z.E.bi (Z.Bi.int) (Z.Es.cons (Z.E.v 3) (Z.Es.nil))) (Z.E.v 1)))
        (Z.Ss.cons
          (Z.S.sset
            2
            (Z.E.v 5)
            (Z.E.bin
              (PySem.Operator.Add)
              (Z.E.subv 2 (Z.E.v 5))
              (Z.E.bin (PySem.Operator.Mult) (Z.E.v 4) (Z.E.bin (PySem.Operator.Add) (Z.E.v 3) (Z.E.c (Z.D.int 2))))))
          (Z.Ss.nil))))
    (Z.Ss.cons (Z.S.ret (Z.E.mv 2)) (Z.Ss.nil))))
def bLoop : Ss := match bCells with
  | .cons _ (.cons (.fr _ _ b) _) => b
  | _ => .nil
def tgL : Tg := .t (.cons (.n 3) (.cons (.n 4) .nil))
theorem loop1 (T : Tab) (s : D) (cs : List Int) (k c : Int) (hc : cs.length = 3) (hk : 0 ≤ k ∧ k < 1000) (x3 x4 x5 : Option D) : ∃ cs' : List Int, cs'.length = 3 ∧ ∃ e1, setT tgL (.tup [.int k, .int c]) [some s, some (.int 3), some (.lst true (cs.map D.int)), x3, x4, x5] = some e1 ∧
    dSs T bLoop e1 = .ok .nx [some s, some (.int 3), some (.lst true (cs'.map D.int)), some (.int k), some (.int c), some (.int (k % 3))] := by
  have h0 := Int.emod_nonneg k (show (3 : Int) ≠ 0 by decide)
  have h1 := Int.emod_lt_of_pos k (show (0 : Int) < 3 by decide)
  have m : mulOk c (k + 2) = true := mul_of (by omega)
  match cs, hc with
  | [a, b, d], _ =>
    have h : k % 3 = 0 ∨ k % 3 = 1 ∨ k % 3 = 2 := by omega
    rcases h with h | h | h
    · refine ⟨[a + c * (k + 2), b, d], rfl, _, rfl, ?_⟩
      simp [bLoop, bCells, dSs, dS, dE, dEs, R.bind, rd, ofO, biD, args1, binD, subD, L2.atI, L2.ixN, isF, isFL, setT, fz, m, h]
    · refine ⟨[a, b + c * (k + 2), d], rfl, _, rfl, ?_⟩
      simp [bLoop, bCells, dSs, dS, dE, dEs, R.bind, rd, ofO, biD, args1, binD, subD, L2.atI, L2.ixN, isF, isFL, setT, fz, m, h]
    · refine ⟨[a, b, d + c * (k + 2)], rfl, _, rfl, ?_⟩
      simp [bLoop, bCells, dSs, dS, dE, dEs, R.bind, rd, ofO, biD, args1, binD, subD, L2.atI, L2.ixN, isF, isFL, setT, fz, m, h]
theorem loopN (T : Tab) (s : D) : ∀ (l : List (Int × Int)) (cs : List Int), cs.length = 3 → (∀ p ∈ l, 0 ≤ p.1 ∧ p.1 < 1000) → ∀ x3 x4 x5 : Option D, ∃ cs' : List Int, cs'.length = 3 ∧ ∃ y3 y4 y5 : Option D,
    frL tgL (dSs T bLoop) (l.map fun p => D.tup [.int p.1, .int p.2]) [some s, some (.int 3), some (.lst true (cs.map D.int)), x3, x4, x5] = .ok .nx [some s, some (.int 3), some (.lst true (cs'.map D.int)), y3, y4, y5]
  | [], cs, hc, _, x3, x4, x5 => ⟨cs, hc, x3, x4, x5, rfl⟩
  | p :: l, cs, hc, hl, x3, x4, x5 => by
    obtain ⟨cs1, h1, e1, h2, h3⟩ := loop1 T s cs p.1 p.2 hc (hl p (.head _)) x3 x4 x5
    obtain ⟨cs2, h4, y3, y4, y5, h5⟩ := loopN T s l cs1 h1 (fun q hq => hl q (.tail _ hq)) _ _ _
    refine ⟨cs2, h4, y3, y4, y5, ?_⟩
    rw [List.map_cons, frL, h2]
    dsimp only
    rw [h3]
    exact h5
end M

set_option Elab.async false
set_option linter.all false
set_option autoImplicit false
set_option maxRecDepth 100000
set_option maxHeartbeats 4000000
/-! M5: a law's cells, whole. -/
namespace M
open PySem PySem.Spec Z
theorem cut_map {α β : Type} (f : α → β) (xs : List α) (lo hi : Option Int) : Z.cut (xs.map f) lo hi = (Z.cut xs lo hi).map f := by
  unfold Z.cut
  rw [List.length_map, List.map_take, List.map_drop]
theorem isFL_int : ∀ ns : List Int, isFL (ns.map D.int) = true
  | [] => rfl
  | n :: r => by rw [List.map_cons, isFL, isFL_int r]; rfl
theorem frz_int (ns : List Int) : frzL (ns.map D.int) = ns.map D.int := isFL_frz (isFL_int ns)
theorem enm_map (l : List Int) : (l.map D.int).mapIdx (fun k d => D.tup [.int (Int.ofNat k), d]) = (l.mapIdx fun k z => ((k : Int), z)).map fun p => D.tup [.int p.1, .int p.2] := by
  refine List.ext_getElem? fun i => ?_
  simp [List.getElem?_mapIdx]
  cases l[i]? <;> rfl
def sA : S := match bCells with
  | .cons a _ => a
  | _ => .pass
def itL : It := match bCells with
  | .cons _ (.cons (.fr _ i _) _) => i
  | _ => .var 0
theorem cells_run (T : Tab) (ns : List Int) (hl : ns.length ≤ 63) : ∃ cs : List Int, 0 < cs.length ∧ cs.length ≤ 3 ∧ ∃ e, dSs T bCells [some (.lck (ns.map D.int)), some (.int 3), none, none, none, none] = .ok (.rt (.lst true (cs.map D.int))) e := by
  have s1 : ∀ lo hi, slcD (.lck (ns.map D.int)) lo hi = some (.lst true ((Z.cut ns lo hi).map D.int)) := fun lo hi => by rw [slcD, cut_map]
  have hF : isF (.lck (ns.map D.int)) = true := by rw [isF, isFL_int]
  have l1 : (Z.cut ns none (some 3)).length = min 3 ns.length := by
    unfold Z.cut
    rw [show HT.sIx ns.length ns.length (some 3) = min 3 ns.length from HT.sIx_nat ns.length ns.length 3, HT.sIx_none]
    simp
  have l2 : ns.length ≤ 3 → Z.cut ns (some 3) (some 63) = [] := fun h => by
    unfold Z.cut
    rw [show HT.sIx ns.length 0 (some 3) = min 3 ns.length from HT.sIx_nat ns.length 0 3, List.drop_eq_nil_of_le (by omega)]
    simp
  have l3 : (Z.cut ns (some 3) (some 63)).length < 1000 := by
    unfold Z.cut
    simp
    omega
  have s0 := s1 none (some 3)
  generalize Z.cut ns none (some 3) = as at s0 l1
  have has := s0
  generalize hbs : Z.cut ns (some 3) (some 63) = bs at l2 l3
  have s2 : slcD (.lck (ns.map D.int)) (some 3) (some 63) = some (.lst true (bs.map D.int)) := by
    rw [slcD, cut_map, hbs]
  have s3 : slcD (.lck (ns.map D.int)) none (some 3) = some (.lst true (as.map D.int)) := has
  obtain ⟨cs, hcs, c1, c2⟩ : ∃ cs : List Int, (if as.isEmpty = true then [0] else as) = cs ∧ 0 < cs.length ∧ cs.length ≤ 3 := by
    cases as with
    | nil => exact ⟨[0], rfl, by decide, by decide⟩
    | cons a as =>
      refine ⟨a :: as, rfl, by simp, ?_⟩
      omega
  have e1 : dS T sA [some (.lck (ns.map D.int)), some (.int 3), none, none, none, none] = .ok .nx [some (.lck (ns.map D.int)), some (.int 3), some (.lst true (cs.map D.int)), none, none, none] := by
    subst hcs
    cases as with
    | nil => simp [sA, bCells, dS, dE, dEs, dO, R.bind, rd, isFL_int, isF, s3, ofO, fz, frz, frzL, args1, biD, truth, setT, big]
    | cons a as =>
      have f1 := frz_int as
      simp [sA, bCells, dS, dE, dEs, dO, R.bind, rd, isFL_int, isF, s3, ofO, fz, frz, frzL, f1, args1, biD, truth, setT, big]
  have e2 : dI T itL [some (.lck (ns.map D.int)), some (.int 3), some (.lst true (cs.map D.int)), none, none, none] = .ok ((bs.mapIdx fun k z => ((k : Int), z)).map fun p => D.tup [.int p.1, .int p.2]) [some (.lck (ns.map D.int)), some (.int 3), some (.lst true (cs.map D.int)), none, none, none] := by
    have f2 := frz_int bs
    have f3 := enm_map bs
    simp [itL, bCells, dI, dE, dO, R.bind, rd, isFL_int, isF, s2, ofO, fz, frz, f2, enmD]
    exact f3
  have go : ∃ cs2 : List Int, 0 < cs2.length ∧ cs2.length ≤ 3 ∧ ∃ y3 y4 y5 : Option D, frL tgL (dSs T bLoop) ((bs.mapIdx fun k z => ((k : Int), z)).map fun p => D.tup [.int p.1, .int p.2]) [some (.lck (ns.map D.int)), some (.int 3), some (.lst true (cs.map D.int)), none, none, none] =
      .ok .nx [some (.lck (ns.map D.int)), some (.int 3), some (.lst true (cs2.map D.int)), y3, y4, y5] := by
    by_cases h3 : ns.length ≤ 3
    · rw [l2 h3]
      exact ⟨cs, c1, c2, none, none, none, rfl⟩
    · have hc3 : cs.length = 3 := by
        have : as.length = 3 := by omega
        cases as with
        | nil => cases this
        | cons a as => rw [← hcs]; exact this
      obtain ⟨cs2, k1, y3, y4, y5, k2⟩ := loopN T (.lck (ns.map D.int)) (bs.mapIdx fun k z => ((k : Int), z)) cs hc3 (fun p hp => by
        obtain ⟨i, hi⟩ := List.getElem?_of_mem hp
        rw [List.getElem?_mapIdx] at hi
        cases hb : bs[i]? with
        | none => rw [hb] at hi; cases hi
        | some z =>
          rw [hb] at hi
          cases hi
          have := (List.getElem?_eq_some_iff.mp hb).1
          constructor
          · show (0 : Int) ≤ (i : Int); omega
          · show (i : Int) < 1000; omega) none none none
      exact ⟨cs2, by omega, by omega, y3, y4, y5, k2⟩
  obtain ⟨cs2, k1, k2, y3, y4, y5, k3⟩ := go
  refine ⟨cs2, k1, k2, [some (.lck (ns.map D.int)), some (.int 3), none, y3, y4, y5], ?_⟩
  rw [show bCells = .cons sA (.cons (.fr tgL itL bLoop) (.cons (.ret (.mv 2)) .nil)) from rfl, dSs, e1]
  dsimp only
  rw [dSs, dS, e2]
  simp only [R.bind]
  rw [k3]
  rfl
end M

set_option Elab.async false
set_option linter.all false
set_option autoImplicit false
set_option maxRecDepth 100000
set_option maxHeartbeats 4000000
/-! M6: law k00, its turns. -/
namespace M
open PySem PySem.Spec Z
def bRight : Ss := (Z.Ss.cons
  (Z.S.fr
    (Z.Tg.n 1)
    (Z.It.rng (Z.Es.cons (Z.E.c (Z.D.int 4)) (Z.Es.nil)))
    (Z.Ss.cons
      (Z.S.par
        [2, 3]
        (Z.Es.raw
          (Z.E.fn
            3
            (Z.Es.bw
              0
              (Z.Es.raw
                (Z.E.lst
                  (Z.Es.raw
                    (Z.E.c (Z.D.str { cps := #[97] }))
                    (Z.Es.raw
                      (Z.E.c (Z.D.str { cps := #[99, 111, 114, 101] }))
                      (Z.Es.raw (Z.E.c (Z.D.str { cps := #[122, 122] })) (Z.Es.nil)))))
                (Z.Es.nil))))
          (Z.Es.raw
            (Z.E.fn
              3
              (Z.Es.bw
                0
                (Z.Es.raw
                  (Z.E.lst
                    (Z.Es.raw
                      (Z.E.c (Z.D.str { cps := #[109] }))
                      (Z.Es.raw
                        (Z.E.c (Z.D.str { cps := #[98] }))
                        (Z.Es.raw (Z.E.c (Z.D.str { cps := #[114, 101, 97, 100] })) (Z.Es.nil)))))
                  (Z.Es.nil))))
            (Z.Es.nil))))
      (Z.Ss.cons
        (Z.S.ite
          (Z.Te.not
            (Z.Te.val
              (Z.E.fn
                6
                (Z.Es.raw
                  (Z.E.v 2)
                  (Z.Es.raw
                    (Z.E.tup (Z.Es.cons (Z.E.v 2) (Z.Es.cons (Z.E.v 3) (Z.Es.nil))))
                    (Z.Es.raw
                      (Z.E.bin
                        (PySem.Operator.Sub)
                        (Z.E.fn
                          1
                          (Z.Es.bw
                            0
                            (Z.Es.raw
                              (Z.E.bin (PySem.Operator.Pow) (Z.E.c (Z.D.int 10)) (Z.E.c (Z.D.int 9)))
                              (Z.Es.nil))))
                        (Z.E.bin (PySem.Operator.Pow) (Z.E.c (Z.D.int 10)) (Z.E.c (Z.D.int 8))))
                      (Z.Es.nil)))))))
          (Z.Ss.cons (Z.S.ret (Z.E.c (Z.D.bl false))) (Z.Ss.nil))
          (Z.Ss.nil))
        (Z.Ss.nil))))
  (Z.Ss.cons (Z.S.ret (Z.E.c (Z.D.bl true))) (Z.Ss.nil)))
def bTurn : Ss := match bRight with
  | .cons (.fr _ _ b) _ => b
  | _ => .nil
def tags : List D := [.str ⟨#[97]⟩, .str ⟨#[99, 111, 114, 101]⟩, .str ⟨#[122, 122]⟩]
def fars : List D := [.str ⟨#[109]⟩, .str ⟨#[98]⟩, .str ⟨#[114, 101, 97, 100]⟩]
structure Tb (T : Tab) : Prop where
  t3 : ∀ (a b c : Int) (goods : List D), isFL goods = true → 0 < goods.length ∧ goods.length < 1000 → 0 ≤ b ∧ b < 2 ^ 62 → 0 ≤ c ∧ c < 1000000 → ∃ x a' c', x ∈ goods ∧ T 3 [box a b c, .lst true goods] = .ok x [some (box a' b c'), none] ∧ c ≤ c' ∧ c' ≤ c + 1
  t1 : ∀ (a b c w : Int), 0 < w → w < 1073741824 → 0 ≤ b ∧ b < 2 ^ 62 → 0 ≤ c ∧ c < 1000000 → ∃ d a' c', T 1 [box a b c, .int w] = .ok (.int d) [some (box a' b c'), none] ∧ 0 ≤ d ∧ d < w ∧ c ≤ c' ∧ c' ≤ c + 1
  t6 : ∀ x ∈ tags, ∀ y ∈ fars, ∀ n : Int, T 6 [x, .tup [x, y], .int n] = .ok (.bl true) [none, none, none]
theorem str_of {x : D} (h : x ∈ tags ∨ x ∈ fars) : ∃ z, x = .str z := by
  simp only [tags, fars, List.mem_cons, List.not_mem_nil, or_false] at h
  rcases h with (rfl | rfl | rfl) | (rfl | rfl | rfl) <;> exact ⟨_, rfl⟩
theorem turn (T : Tab) (t : Tb T) (a b c : Int) (hb : 0 ≤ b ∧ b < 2 ^ 62) (hc : 0 ≤ c ∧ c < 900000) (x1 x2 x3 : Option D) : ∃ a' c' y2 y3, dSs T bTurn [some (box a b c), x1, x2, x3] = .ok .nx [some (box a' b c'), x1, y2, y3] ∧ c ≤ c' ∧ c' ≤ c + 3 := by
  obtain ⟨x, a1, c1, hx, h1, k1, k2⟩ := t.t3 a b c tags rfl ⟨by decide, by decide⟩ hb ⟨hc.1, by omega⟩
  obtain ⟨y, a2, c2, hy, h2, k3, k4⟩ := t.t3 a1 b c1 fars rfl ⟨by decide, by decide⟩ hb ⟨by omega, by omega⟩
  obtain ⟨d, a3, c3, h3, _, _, k5, k6⟩ := t.t1 a2 b c2 1000000000 (by decide) (by decide) hb ⟨by omega, by omega⟩
  have h4 := t.t6 x hx y hy (d - 100000000)
  obtain ⟨sx, rfl⟩ := str_of (.inl hx)
  obtain ⟨sy, rfl⟩ := str_of (.inr hy)
  refine ⟨a3, c3, some (.str sx), some (.str sy), ?_, by omega, by omega⟩
  unfold tags at h1
  unfold fars at h2
  unfold box at *
  simp [bTurn, bRight, dSs, dS, dT, dE, dEs, R.bind, rd, ofO, args1, takeB, putB, isF, isFL, fz, binD, truth, h1, h2, h3, h4, big]
theorem turns (T : Tab) (t : Tb T) : ∀ (l : List Int) (a b c : Int), 0 ≤ b ∧ b < 2 ^ 62 → 0 ≤ c → c + 3 * l.length < 900000 → ∀ x1 x2 x3 : Option D, ∃ a' c' y1 y2 y3, frL (.n 1) (dSs T bTurn) (l.map D.int) [some (box a b c), x1, x2, x3] = .ok .nx [some (box a' b c'), y1, y2, y3]
  | [], a, b, c, _, _, _, x1, x2, x3 => ⟨a, c, x1, x2, x3, rfl⟩
  | n :: l, a, b, c, hb, hc, hl, x1, x2, x3 => by
    rw [List.length_cons] at hl
    obtain ⟨a1, c1, y2, y3, h1, k1, k2⟩ := turn T t a b c hb ⟨hc, by omega⟩ (some (.int n)) x2 x3
    obtain ⟨a2, c2, z1, z2, z3, h2⟩ := turns T t l a1 b c1 hb (by omega) (by omega) (some (.int n)) y2 y3
    refine ⟨a2, c2, z1, z2, z3, ?_⟩
    rw [List.map_cons, frL]
    show (match dSs T bTurn [some (box a b c), some (.int n), x2, x3] with
      | .ok .nx e2 => frL (.n 1) (dSs T bTurn) (l.map D.int) e2
      | .ok .ct e2 => frL (.n 1) (dSs T bTurn) (l.map D.int) e2
      | .ok .bk e2 => .ok .nx e2
      | .ok (.rt d) e2 => .ok (.rt d) e2
      | .ex x e2 => .ex x e2
      | .no => .no) = _
    rw [h1]
    exact h2
theorem right_run (T : Tab) (t : Tb T) (a b : Int) (hb : 0 ≤ b ∧ b < 2 ^ 62) : ∃ e, dSs T bRight [some (box a b 0), none, none, none] = .ok (.rt (.bl true)) e := by
  obtain ⟨a', c', y1, y2, y3, h⟩ := turns T t [0, 1, 2, 3] a b 0 hb (by decide) (by decide) none none none
  refine ⟨[some (box a' b c'), y1, y2, y3], ?_⟩
  rw [show bRight = .cons (.fr (.n 1) (.rng (.cons (.c (.int 4)) .nil)) bTurn) (.cons (.ret (.c (.bl true))) .nil) from rfl, dSs, dS]
  rw [show dI T (.rng (.cons (.c (.int 4)) .nil)) [some (box a b 0), none, none, none] = .ok (([0, 1, 2, 3] : List Int).map D.int) [some (box a b 0), none, none, none] from rfl]
  simp only [R.bind]
  rw [h]
  rfl
def bLaw : Ss := (Z.Ss.cons
  (Z.S.ite
    (Z.Te.not (Z.Te.val (Z.E.fn 7 (Z.Es.nil))))
    (Z.Ss.cons (Z.S.ret (Z.E.c (Z.D.bl false))) (Z.Ss.nil))
    (Z.Ss.nil))
  (Z.Ss.cons
    (Z.S.as (Z.Tg.n 1) (Z.E.fn 2 (Z.Es.raw (Z.E.v 0) (Z.Es.raw (Z.E.c (Z.D.int 3)) (Z.Es.nil)))))
    (Z.Ss.cons
      (Z.S.ret
        (Z.E.bi
          (Z.Bi.all)
          (Z.Es.cons
            (Z.E.lc
              [2]
              (Z.Tg.n 2)
              (Z.It.rng (Z.Es.cons (Z.E.lenv 1) (Z.Es.nil)))
              (Z.Tes.nil)
              (Z.E.fn 8 (Z.Es.raw (Z.E.fn 0 (Z.Es.raw (Z.E.v 1) (Z.Es.raw (Z.E.v 2) (Z.Es.nil)))) (Z.Es.nil))))
            (Z.Es.nil))))
      (Z.Ss.nil))))
structure Tl (T : Tab) : Prop where
  t7 : T 7 [] = .ok (.bl true) []
  t2 : ∀ ns : List Int, ns.length ≤ 63 → ∃ cs : List Int, 0 < cs.length ∧ cs.length ≤ 3 ∧ T 2 [.lck (ns.map D.int), .int 3] = .ok (.lst true (cs.map D.int)) [none, none]
  t0 : ∀ (cs : List Int) (k : Nat), k < cs.length → k < 1000 → ∃ a b, T 0 [.lst false (cs.map D.int), .int k] = .ok (box a b 0) [none, none] ∧ 0 ≤ b ∧ b < 2 ^ 62
  t8 : ∀ a b : Int, 0 ≤ b ∧ b < 2 ^ 62 → ∃ p, T 8 [box a b 0] = .ok (.bl true) [p]
def elt : E := .fn 8 (.raw (.fn 0 (.raw (.v 1) (.raw (.v 2) .nil))) .nil)
theorem elt_run (T : Tab) (t : Tl T) (L : D) (cs : List Int) (o : Bool) (k : Nat) (hk : k < cs.length) (h3 : cs.length ≤ 3) : dE T elt [some L, some (.lst o (cs.map D.int)), some (.int k)] = .ok (.bl true) [some L, some (.lst false (cs.map D.int)), some (.int k)] := by
  obtain ⟨a, b, h0, hb⟩ := t.t0 cs k hk (by omega)
  obtain ⟨p, h8⟩ := t.t8 a b hb
  cases o <;> simp [elt, dE, dEs, R.bind, rd, isF, isFL_int, frz, frz_int, takeB, putB, h0, h8]
theorem lc_go (T : Tab) (t : Tl T) (L : D) (cs : List Int) (h3 : cs.length ≤ 3) : ∀ (l : List Nat), (∀ k ∈ l, k < cs.length) → ∀ (acc : List D) (o : Bool) (x : Option D), ∃ o' y, lcL [2] (.n 2) (dTs T .nil) (dE T elt) (l.map fun (k : Nat) => D.int (Int.ofNat k)) acc [some L, some (.lst o (cs.map D.int)), x] = .ok (acc ++ List.replicate l.length (.bl true)) [some L, some (.lst o' (cs.map D.int)), y]
  | [], _, acc, o, x => ⟨o, x, by rw [List.map_nil, lcL]; simp⟩
  | k :: l, hk, acc, o, x => by
    obtain ⟨o', y, h⟩ := lc_go T t L cs h3 l (fun q hq => hk q (.tail _ hq)) (acc ++ [.bl true]) false (some (.int (Int.ofNat k)))
    refine ⟨o', y, ?_⟩
    rw [List.map_cons, lcL]
    have hs : setT (.n 2) (.int (Int.ofNat k)) (wipeE [some L, some (.lst o (cs.map D.int)), x] [2]) = some [some L, some (.lst o (cs.map D.int)), some (.int (Int.ofNat k))] := rfl
    rw [hs]
    dsimp only
    rw [dTs]
    dsimp only
    rw [show dE T elt [some L, some (.lst o (cs.map D.int)), some (.int (Int.ofNat k))] = _ from elt_run T t L cs o k (hk k (.head _)) h3]
    dsimp only
    refine h.trans ?_
    rw [List.length_cons, List.replicate_succ, List.append_assoc]
    rfl
theorem bls_rep (n : Nat) : blsD (List.replicate n (.bl true)) = some (List.replicate n true) := by
  induction n with
  | zero => rfl
  | succ n ih => rw [List.replicate_succ, blsD, ih]; rfl
theorem isFL_rep (n : Nat) : isFL (List.replicate n (.bl true)) = true := by
  induction n with
  | zero => rfl
  | succ n ih => rw [List.replicate_succ, isFL, ih]; rfl
end M

set_option Elab.async false
set_option linter.all false
set_option autoImplicit false
set_option maxRecDepth 100000
set_option maxHeartbeats 4000000
namespace M
open PySem PySem.Spec Z
theorem rngD_n (n : Nat) (h : n < 1000000) : rngD (some [.int (n : Int)]) = some ((List.range n).map (fun (k : Nat) => D.int (Int.ofNat k))) := by
  have hb : (-((big : Nat) : Int) < (n : Int) ∧ (n : Int) < ((big : Nat) : Int)) := by
    constructor
    · show (-((1000000 : Nat) : Int) < (n : Int)); omega
    · show ((n : Int) < ((1000000 : Nat) : Int)); omega
  rw [rngD, if_pos hb]
  rfl
theorem dIc_rng (T : Tab) (as : Es) (e : Ev) : dIc T (.rng as) e = (dEs T as e).bind fun xs e => ofO ((rngD (args1 xs)).map fun l => (l, none)) e := by
  rw [dIc]
theorem dEs_one (T : Tab) (x : E) (e : Ev) : dEs T (.cons x .nil) e = (dE T x e).bind fun d e => .ok [.inl (fz d)] e := by
  rw [dEs]
  simp only [dEs, R.bind]
theorem fz_int (n : Int) : fz (.int n) = .int n := rfl
theorem rng_map (n : Nat) (h : n < 1000000) : (rngD (args1 [.inl (.int (n : Int))])).map (fun l => (l, (none : Option (Nat × D)))) = some ((List.range n).map (fun (k : Nat) => D.int (Int.ofNat k)), none) := by
  have h2 := rngD_n n h
  have : args1 [.inl (.int (n : Int))] = some [.int (n : Int)] := rfl
  rw [this, h2]
  rfl
theorem bind_ok {α β : Type} (a : α) (e : Ev) (f : α → Ev → R β) : (R.ok a e).bind f = f a e := rfl
theorem dEs_int (T : Tab) (e e1 : Ev) (n : Int) (x : E) (h : dE T x e = .ok (.int n) e1) : dEs T (.cons x .nil) e = .ok [.inl (.int n)] e1 := by
  rw [dEs_one, h, bind_ok, fz_int]
theorem dIc_rng' (T : Tab) (e e1 : Ev) (as : Es) (xs : List (Sum D Nat)) (ys : List D) (h : dEs T as e = .ok xs e1) (h2 : (rngD (args1 xs)).map (fun l => (l, (none : Option (Nat × D)))) = some (ys, none)) : dIc T (.rng as) e = .ok (ys, none) e1 := by
  rw [dIc_rng, h, bind_ok, h2]
  rfl
theorem rng_one (T : Tab) (e e1 : Ev) (n : Nat) (x : E) (hn : n < 1000000) (h : dE T x e = .ok (.int n) e1) : dIc T (.rng (.cons x .nil)) e = .ok ((List.range n).map (fun (k : Nat) => D.int (Int.ofNat k)), none) e1 :=
  dIc_rng' T e e1 _ _ _ (dEs_int T e e1 n x h) (rng_map n hn)
theorem lenv_I (T : Tab) (L : D) (cs : List Int) (o : Bool) : dE T (.lenv 1) [some L, some (.lst o (cs.map D.int)), none] = .ok (.int cs.length) [some L, some (.lst o (cs.map D.int)), none] := by
  have : biD .len [.lst o (cs.map D.int)] = some (.int cs.length) := by rw [biD, List.length_map]
  simp only [dE, rd, List.getElem?_cons_succ, List.getElem?_cons_zero, Option.join_some, this, ofO]
theorem rng_I (T : Tab) (L : D) (cs : List Int) (c2 : cs.length ≤ 3) : dIc T (.rng (.cons (.lenv 1) .nil)) [some L, some (.lst true (cs.map D.int)), none] = .ok ((List.range cs.length).map (fun (k : Nat) => D.int (Int.ofNat k)), none) [some L, some (.lst true (cs.map D.int)), none] :=
  rng_one T _ _ cs.length _ (by omega) (lenv_I T L cs true)
theorem law_run (T : Tab) (t : Tl T) (ns : List Int) (hl : ns.length ≤ 63) : ∃ e, dSs T bLaw [some (.lck (ns.map D.int)), none, none] = .ok (.rt (.bl true)) e := by
  obtain ⟨cs, c1, c2, h2⟩ := t.t2 ns hl
  have h7 := t.t7
  have F : isFL (ns.map D.int) = true := isFL_int ns
  obtain ⟨o', y, hlc⟩ := lc_go T t (.lck (ns.map D.int)) cs c2 (List.range cs.length) (fun k hk => List.mem_range.mp hk) [] true none
  rw [List.length_range, List.nil_append] at hlc
  have h1 : dSs T bLaw [some (.lck (ns.map D.int)), none, none] = dSs T (.cons (.ret (.bi .all (.cons (.lc [2] (.n 2) (.rng (.cons (.lenv 1) .nil)) .nil elt) .nil))) .nil) [some (.lck (ns.map D.int)), some (.lst true (cs.map D.int)), none] := by
    rw [show bLaw = .cons (.ite (.not (.val (.fn 7 .nil))) (.cons (.ret (.c (.bl false))) .nil) .nil) (.cons (.as (.n 1) (.fn 2 (.raw (.v 0) (.raw (.c (.int 3)) .nil)))) (.cons (.ret (.bi .all (.cons (.lc [2] (.n 2) (.rng (.cons (.lenv 1) .nil)) .nil elt) .nil))) .nil)) from rfl]
    rw [dSs]
    rw [show dS T (.ite (.not (.val (.fn 7 .nil))) (.cons (.ret (.c (.bl false))) .nil) .nil) [some (.lck (ns.map D.int)), none, none] = .ok .nx [some (.lck (ns.map D.int)), none, none] by
      simp [dS, dSs, dT, dE, dEs, R.bind, takeB, putB, h7, truth, ofO]]
    dsimp only
    rw [dSs]
    rw [show dS T (.as (.n 1) (.fn 2 (.raw (.v 0) (.raw (.c (.int 3)) .nil)))) [some (.lck (ns.map D.int)), none, none] = .ok .nx [some (.lck (ns.map D.int)), some (.lst true (cs.map D.int)), none] by
      simp [dS, dE, dEs, R.bind, rd, isF, F, takeB, putB, h2, setT]]
  have h3 : dE T (.lc [2] (.n 2) (.rng (.cons (.lenv 1) .nil)) .nil elt) [some (.lck (ns.map D.int)), some (.lst true (cs.map D.int)), none] = .ok (.lst true (List.replicate cs.length (.bl true))) (backE [some (.lck (ns.map D.int)), some (.lst true (cs.map D.int)), none] [some (.lck (ns.map D.int)), some (.lst o' (cs.map D.int)), y] [2]) := by
    rw [dE]
    have hI := rng_I T (.lck (ns.map D.int)) cs c2
    rw [hI]
    simp only [R.bind]
    have hle : ((List.range cs.length).map fun (k : Nat) => D.int (Int.ofNat k)).length ≤ big := by
      rw [List.length_map, List.length_range]
      unfold big
      omega
    rw [if_pos hle, hlc]
    rfl
  refine ⟨backE [some (.lck (ns.map D.int)), some (.lst true (cs.map D.int)), none] [some (.lck (ns.map D.int)), some (.lst o' (cs.map D.int)), y] [2], ?_⟩
  · rw [h1, dSs, dS, dE, dEs, h3]
    simp only [R.bind, dEs]
    have hf : fz (.lst true (List.replicate cs.length (.bl true))) = .lst false (List.replicate cs.length (.bl true)) := by
      rw [fz_eq, frz, isFL_frz (isFL_rep _)]
    rw [hf]
    simp [args1, biD, bls_rep, ofO]
end M

set_option Elab.async false
set_option linter.all false
set_option autoImplicit false
set_option maxRecDepth 100000
set_option maxHeartbeats 4000000
/-! Sm: a law's own look at two equal values. -/
namespace M
open PySem PySem.Spec PyProof.Rows L2 Z
def bSame (j : Nat) : Ss := Z.Ss.cons
  (Z.S.ite
    (Z.Te.val (Z.E.isi (Z.E.v 1) [Z.Ty.list, Z.Ty.tuple] false))
    (Z.Ss.cons
      (Z.S.ite
        (Z.Te.or
          (Z.Te.val
            (Z.E.cmp (PySem.CmpOp.NotEq) (Z.E.isi (Z.E.v 0) [Z.Ty.list] true) (Z.E.isi (Z.E.v 1) [Z.Ty.list] true)))
          (Z.Te.val
            (Z.E.cmp (PySem.CmpOp.NotEq) (Z.E.isi (Z.E.v 0) [Z.Ty.tuple] true) (Z.E.isi (Z.E.v 1) [Z.Ty.tuple] true))))
        (Z.Ss.cons (Z.S.ret (Z.E.c (Z.D.bl false))) (Z.Ss.nil))
        (Z.Ss.nil))
      (Z.Ss.cons
        (Z.S.ret
          (Z.E.and
            (Z.E.cmp (PySem.CmpOp.Eq) (Z.E.lenv 0) (Z.E.lenv 1))
            (Z.E.bi
              (Z.Bi.all)
              (Z.Es.cons
                (Z.E.lc
                  [2, 3]
                  (Z.Tg.t (Z.Tgs.cons (Z.Tg.n 2) (Z.Tgs.cons (Z.Tg.n 3) (Z.Tgs.nil))))
                  (Z.It.zip (Z.Es.cons (Z.E.v 0) (Z.Es.cons (Z.E.v 1) (Z.Es.nil))))
                  (Z.Tes.nil)
                  (Z.E.fn j (Z.Es.raw (Z.E.v 2) (Z.Es.raw (Z.E.v 3) (Z.Es.nil)))))
                (Z.Es.nil)))))
        (Z.Ss.nil)))
    (Z.Ss.nil))
  (Z.Ss.cons
    (Z.S.ite
      (Z.Te.or (Z.Te.val (Z.E.isN false (Z.E.v 1))) (Z.Te.val (Z.E.isi (Z.E.v 1) [Z.Ty.bool, Z.Ty.str] false)))
      (Z.Ss.cons
        (Z.S.ret
          (Z.E.and
            (Z.E.cmp (PySem.CmpOp.Eq) (Z.E.v 0) (Z.E.v 1))
            (Z.E.and
              (Z.E.cmp (PySem.CmpOp.Eq) (Z.E.isi (Z.E.v 0) [Z.Ty.bool] true) (Z.E.isi (Z.E.v 1) [Z.Ty.bool] true))
              (Z.E.cmp (PySem.CmpOp.Eq) (Z.E.isN false (Z.E.v 0)) (Z.E.isN false (Z.E.v 1))))))
        (Z.Ss.nil))
      (Z.Ss.nil))
    (Z.Ss.cons
      (Z.S.ret
        (Z.E.and
          (Z.E.isi (Z.E.v 0) [Z.Ty.int] true)
          (Z.E.and
            (Z.E.tst (Z.Te.not (Z.Te.val (Z.E.isi (Z.E.v 0) [Z.Ty.bool] true))))
            (Z.E.cmp (PySem.CmpOp.Eq) (Z.E.v 0) (Z.E.v 1)))))
      (Z.Ss.nil)))
/-- plain values, nested at most k deep -/
def pl : Nat → D → Bool
  | _, .non => true
  | _, .bl _ => true
  | _, .int _ => true
  | _, .str s => PyData.strOk s
  | k + 1, .tup xs => decide (xs.length ≤ 1000) && xs.all (pl k)
  | k + 1, .lst o xs => !o && decide (xs.length ≤ 1000) && xs.all (pl k)
  | _, _ => false
theorem isFL_of {l : List D} (h : ∀ d ∈ l, isF d = true) : isFL l = true := by
  induction l with
  | nil => rfl
  | cons x l ih => rw [isFL, h x (.head _), ih fun d hd => h d (.tail _ hd)]; rfl
theorem isF_pl : ∀ (k : Nat) (d : D), pl k d = true → isF d = true
  | 0, d, h => by cases d <;> first | rfl | (simp [pl] at h)
  | k + 1, d, h => by
    cases d with
    | tup xs =>
      simp only [pl, Bool.and_eq_true, List.all_eq_true] at h
      rw [isF]
      exact isFL_of fun d hd => isF_pl k d (h.2 d hd)
    | lst o xs =>
      simp only [pl, Bool.and_eq_true, List.all_eq_true] at h
      rw [isF, isFL_of fun d hd => isF_pl k d (h.2 d hd), h.1.1]
      rfl
    | _ => first | rfl | (simp [pl] at h)
theorem eqD_int (a b : Int) : eqD (.int a) (.int b) = some (a == b) := rfl
theorem eqD_bl (a b : Bool) : eqD (.bl a) (.bl b) = some (a == b) := rfl
theorem eqD_str {a b : Str} (ha : PyData.strOk a = true) (hb : PyData.strOk b = true) : eqD (.str a) (.str b) = some (a == b) := by
  have s : ∀ {a : Str}, PyData.strOk a = true → SeqAt.shaped (.str a) = true := fun h => by
    unfold SeqAt.shaped
    rw [PyData.canLay0, h]
    rfl
  simp only [eqD, py]
  rw [if_pos ⟨s ha, s hb⟩]
  rfl
theorem same_go (T : Tab) (j : Nat) : ∀ (l : List D), (∀ d ∈ l, isF d = true ∧ T j [d, d] = .ok (.bl true) [none, none]) → ∀ (acc : List D) (a b x y : Option D), ∃ x' y', lcL [2, 3] (.t (.cons (.n 2) (.cons (.n 3) .nil))) (dTs T .nil) (dE T (.fn j (.raw (.v 2) (.raw (.v 3) .nil)))) ((l.zip l).map fun z => D.tup [z.1, z.2]) acc [a, b, x, y] = .ok (acc ++ List.replicate l.length (.bl true)) [a, b, x', y']
  | [], _, acc, a, b, x, y => ⟨x, y, by rw [List.zip_nil_left, List.map_nil, lcL]; simp⟩
  | d :: l, h, acc, a, b, x, y => by
    obtain ⟨x', y', r⟩ := same_go T j l (fun q hq => h q (.tail _ hq)) (acc ++ [.bl true]) a b (some d) (some d)
    refine ⟨x', y', ?_⟩
    obtain ⟨h1, h2⟩ := h d (.head _)
    rw [List.zip_cons_cons, List.map_cons, lcL]
    have hs : setT (.t (.cons (.n 2) (.cons (.n 3) .nil))) (.tup [d, d]) (wipeE [a, b, x, y] [2, 3]) = some [a, b, some d, some d] := rfl
    rw [hs]
    dsimp only
    rw [dTs]
    dsimp only
    rw [show dE T (.fn j (.raw (.v 2) (.raw (.v 3) .nil))) [a, b, some d, some d] = .ok (.bl true) [a, b, some d, some d] by
      simp [dE, dEs, R.bind, rd, h1, takeB, h2, putB]]
    dsimp only
    refine r.trans ?_
    rw [List.length_cons, List.replicate_succ, List.append_assoc]
    rfl
theorem same_seq (T : Tab) (j : Nat) (d : D) (l : List D) (hd : d = .tup l ∨ d = .lst false l) (hn : l.length ≤ 1000) (h : ∀ d ∈ l, isF d = true ∧ T j [d, d] = .ok (.bl true) [none, none]) : ∃ e, dSs T (bSame j) [some d, some d, none, none] = .ok (.rt (.bl true)) e := by
  have hF : isFL l = true := isFL_of fun d hd => (h d hd).1
  obtain ⟨x', y', r⟩ := same_go T j l h [] (some d) (some d) none none
  have hz : ((l.zip l).map fun z => D.tup [z.1, z.2]).length ≤ big := by
    rw [List.length_map, List.length_zip, Nat.min_self]
    unfold big; omega
  have hd1 : isF d = true := by
    rcases hd with rfl | rfl
    · rw [isF, hF]
    · rw [isF, hF]; rfl
  have hl : dE T (.lc [2, 3] (.t (.cons (.n 2) (.cons (.n 3) .nil))) (.zip (.cons (.v 0) (.cons (.v 1) .nil))) .nil (.fn j (.raw (.v 2) (.raw (.v 3) .nil)))) [some d, some d, none, none] = .ok (.lst true (List.replicate l.length (.bl true))) [some d, some d, none, none] := by
    have hI : dIc T (.zip (.cons (.v 0) (.cons (.v 1) .nil))) [some d, some d, none, none] = .ok (((l.zip l).map fun z => D.tup [z.1, z.2]), none) [some d, some d, none, none] := by
      have hf : fz d = d := by unfold fz; rw [if_pos hd1]
      have hz2 : zipD (some [d, d]) = some ((l.zip l).map fun z => D.tup [z.1, z.2]) := by rcases hd with rfl | rfl <;> rfl
      rw [dIc]
      simp only [dEs, dE, rd, List.getElem?_cons_succ, List.getElem?_cons_zero, Option.join_some, hd1, if_true, bind_ok, hf, args1, Option.map_some, hz2, ofO]
    rw [dE, hI, bind_ok, if_pos hz, r]
    rfl
  have hall : biD .all [.lst false (List.replicate l.length (.bl true))] = some (.bl true) := by
    rw [biD, bls_rep]
    simp
  have hfz : fz (.lst true (List.replicate l.length (.bl true))) = .lst false (List.replicate l.length (.bl true)) := by
    rw [fz_eq, frz, isFL_frz (isFL_rep _)]
  have hlen : biD .len [d] = some (.int l.length) := by rcases hd with rfl | rfl <;> rfl
  have t1 : tyAny d [.list, .tuple] = some true := by rcases hd with rfl | rfl <;> rfl
  have t2 : ∃ b, tyAny d [.list] = some b := by rcases hd with rfl | rfl <;> exact ⟨_, rfl⟩
  have t3 : ∃ b, tyAny d [.tuple] = some b := by rcases hd with rfl | rfl <;> exact ⟨_, rfl⟩
  obtain ⟨c2, t2⟩ := t2
  obtain ⟨c3, t3⟩ := t3
  have hfb : ∀ b : Bool, fz (.bl b) = .bl b := fun _ => rfl
  have hne : ∀ b : Bool, (eqD (.bl b) (.bl b)).map (!·) = some false := fun b => by cases b <;> rfl
  have hee : ∀ n : Nat, eqD (.int (n : Int)) (.int n) = some true := fun n => by rw [eqD_int, beq_self_eq_true]
  refine ⟨[some d, some d, none, none], ?_⟩
  unfold bSame
  generalize (Z.E.lc [2, 3] (.t (.cons (.n 2) (.cons (.n 3) .nil))) (.zip (.cons (.v 0) (.cons (.v 1) .nil))) .nil (.fn j (.raw (.v 2) (.raw (.v 3) .nil)))) = X at hl ⊢
  simp only [dSs, dS, dT, dE, dEs, rd, List.getElem?_cons_succ, List.getElem?_cons_zero, Option.join_some, hd1, if_true, bind_ok, t1, t2, t3, Option.map_some, ofO, truth, cmpD, hfb, hne, hlen, fz_int, hee, hl, hfz, args1, Option.bind_some, hall]
/-- lists, one's own or not -/
theorem same_lst (T : Tab) (j : Nat) (o1 o2 : Bool) (l : List D) (hn : l.length ≤ 1000) (h : ∀ d ∈ l, isF d = true ∧ T j [d, d] = .ok (.bl true) [none, none]) : ∃ e, dSs T (bSame j) [some (.lst o1 l), some (.lst o2 l), none, none] = .ok (.rt (.bl true)) e := by
  have hF : isFL l = true := isFL_of fun d hd => (h d hd).1
  have f1 : ∀ o, isF (.lst o l) = !o := fun o => by rw [isF, hF, Bool.and_true]
  have f2 : ∀ o, frz (.lst o l) = .lst false l := fun o => by rw [frz, isFL_frz hF]
  have key : ∀ (a b : D), (a = .lst true l ∨ a = .lst false l) → (b = .lst true l ∨ b = .lst false l) → ∀ r, dSs T (bSame j) [some (.lst false l), some (.lst false l), none, none] = r → dSs T (bSame j) [some a, some b, none, none] = r := by
    intro a b ha hb r hr
    have q1 : dT T (Z.Te.val (Z.E.isi (Z.E.v 1) [Z.Ty.list, Z.Ty.tuple] false)) [some a, some b, none, none] = .ok true [some a, some (.lst false l), none, none] := by
      rcases hb with rfl | rfl <;> simp [dT, dE, R.bind, rd, f1, f2, tyAny, tyOf, tyB, ofO, truth]
    have q2 : dT T (Z.Te.or (Z.Te.val (Z.E.cmp (PySem.CmpOp.NotEq) (Z.E.isi (Z.E.v 0) [Z.Ty.list] true) (Z.E.isi (Z.E.v 1) [Z.Ty.list] true)))
          (Z.Te.val (Z.E.cmp (PySem.CmpOp.NotEq) (Z.E.isi (Z.E.v 0) [Z.Ty.tuple] true) (Z.E.isi (Z.E.v 1) [Z.Ty.tuple] true)))) [some a, some (.lst false l), none, none] = .ok false [some (.lst false l), some (.lst false l), none, none] := by
      have k1 : eqD (.bl true) (.bl true) = some true := rfl
      have k2 : eqD (.bl false) (.bl false) = some true := rfl
      have k3 : ∀ b, fz (.bl b) = .bl b := fun _ => rfl
      have k4 : tyAny (.lst false l) [.list] = some true := rfl
      have k5 : tyAny (.lst false l) [.tuple] = some false := rfl
      rcases ha with rfl | rfl <;> simp [dT, dE, R.bind, rd, f1, f2, ofO, truth, cmpD, k1, k2, k3, k4, k5]
    have g1 : dT T (Z.Te.val (Z.E.isi (Z.E.v 1) [Z.Ty.list, Z.Ty.tuple] false)) [some (.lst false l), some (.lst false l), none, none] = .ok true [some (.lst false l), some (.lst false l), none, none] := by
      simp [dT, dE, R.bind, rd, f1, f2, tyAny, tyOf, tyB, ofO, truth]
    have g2 : dT T (Z.Te.or (Z.Te.val (Z.E.cmp (PySem.CmpOp.NotEq) (Z.E.isi (Z.E.v 0) [Z.Ty.list] true) (Z.E.isi (Z.E.v 1) [Z.Ty.list] true)))
          (Z.Te.val (Z.E.cmp (PySem.CmpOp.NotEq) (Z.E.isi (Z.E.v 0) [Z.Ty.tuple] true) (Z.E.isi (Z.E.v 1) [Z.Ty.tuple] true)))) [some (.lst false l), some (.lst false l), none, none] = .ok false [some (.lst false l), some (.lst false l), none, none] := by
      have k1 : eqD (.bl true) (.bl true) = some true := rfl
      have k2 : eqD (.bl false) (.bl false) = some true := rfl
      have k3 : ∀ b, fz (.bl b) = .bl b := fun _ => rfl
      have k4 : tyAny (.lst false l) [.list] = some true := rfl
      have k5 : tyAny (.lst false l) [.tuple] = some false := rfl
      simp [dT, dE, R.bind, rd, f1, f2, ofO, truth, cmpD, k1, k2, k3, k4, k5]
    rw [← hr]
    unfold bSame
    rw [dSs, dSs, dS, dS, q1, g1, bind_ok, bind_ok]
    dsimp only
    rw [dSs, dSs, dS, dS, q2, g2, bind_ok]
  obtain ⟨e, he⟩ := same_seq T j (.lst false l) l (.inr rfl) hn h
  exact ⟨e, key _ _ (by cases o1 <;> simp) (by cases o2 <;> simp) _ he⟩
theorem same_at (T : Tab) (j : Nat) (d : D) (h : pl 0 d = true) : ∃ e, dSs T (bSame j) [some d, some d, none, none] = .ok (.rt (.bl true)) e := by
  refine ⟨[some d, some d, none, none], ?_⟩
  have hfb : ∀ b : Bool, fz (.bl b) = .bl b := fun _ => rfl
  have hne : ∀ b : Bool, eqD (.bl b) (.bl b) = some true := fun b => by cases b <;> rfl
  cases d with
  | non => rfl
  | bl b => cases b <;> rfl
  | int i =>
    have hee : eqD (.int i) (.int i) = some true := by rw [eqD_int, beq_self_eq_true]
    have t1 : tyAny (.int i) [.list, .tuple] = some false := rfl
    have t2 : tyAny (.int i) [.bool, .str] = some false := rfl
    have t3 : tyAny (.int i) [.int] = some true := rfl
    have t4 : tyAny (.int i) [.bool] = some false := rfl
    have hF : isF (.int i) = true := rfl
    have nn : ((false : Bool) != false) = false := rfl
    simp only [bSame, dSs, dS, dT, dE, dEs, rd, List.getElem?_cons_succ, List.getElem?_cons_zero, Option.join_some, hF, if_true, bind_ok, t1, t2, t3, t4, Option.map_some, ofO, truth, cmpD, fz_int, hee, hfb, nn, Bool.not_false]
  | str s =>
    have hee : eqD (.str s) (.str s) = some true := by rw [eqD_str (by simpa [pl] using h) (by simpa [pl] using h), beq_self_eq_true]
    have hfs : fz (.str s) = .str s := rfl
    have t1 : tyAny (.str s) [.list, .tuple] = some false := rfl
    have t2 : tyAny (.str s) [.bool, .str] = some true := rfl
    have t4 : tyAny (.str s) [.bool] = some false := rfl
    have hF : isF (.str s) = true := rfl
    have nn : ((false : Bool) != false) = false := rfl
    simp only [bSame, dSs, dS, dT, dE, dEs, rd, List.getElem?_cons_succ, List.getElem?_cons_zero, Option.join_some, hF, if_true, bind_ok, t1, t2, t4, Option.map_some, ofO, truth, cmpD, hfs, hee, hfb, hne, nn]
  | _ => simp [pl] at h
theorem same_refl {fs : List Fd} {j : Nat} (hj : fs[j]? = some ⟨2, 4, [], bSame j⟩) : ∀ (k : Nat) (d : D), pl k d = true → ∀ n, k ≤ n → tab fs (n + 1) j [d, d] = .ok (.bl true) [none, none] := by
  intro k
  induction k with
  | zero =>
    intro d hd n _
    rw [tab, hj]
    obtain ⟨e, he⟩ := same_at (tab fs n) j d hd
    exact run_rt (F := ⟨2, 4, [], bSame j⟩) rfl he
  | succ k ih =>
    intro d hd n hn
    obtain ⟨m, rfl⟩ : ∃ m, n = m + 1 := ⟨n - 1, by omega⟩
    have go : ∀ l : List D, l.all (pl k) = true → ∀ d ∈ l, isF d = true ∧ tab fs (m + 1) j [d, d] = .ok (.bl true) [none, none] := fun l hl d hd => by
      have := List.all_eq_true.mp hl d hd
      exact ⟨isF_pl k d this, ih d this m (by omega)⟩
    have fin : ∀ d l, (d = .tup l ∨ d = .lst false l) → l.length ≤ 1000 → l.all (pl k) = true → tab fs (m + 1 + 1) j [d, d] = .ok (.bl true) [none, none] := fun d l h1 h2 h3 => by
      rw [tab, hj]
      obtain ⟨e, he⟩ := same_seq (tab fs (m + 1)) j d l h1 h2 (go l h3)
      exact run_rt (F := ⟨2, 4, [], bSame j⟩) rfl he
    have at0 : pl 0 d = true → tab fs (m + 1 + 1) j [d, d] = .ok (.bl true) [none, none] := fun h => by
      rw [tab, hj]
      obtain ⟨e, he⟩ := same_at (tab fs (m + 1)) j d h
      exact run_rt (F := ⟨2, 4, [], bSame j⟩) rfl he
    cases d with
    | tup xs =>
      simp only [pl, Bool.and_eq_true, decide_eq_true_eq] at hd
      exact fin _ xs (.inl rfl) hd.1 hd.2
    | lst o xs =>
      simp only [pl, Bool.and_eq_true, decide_eq_true_eq, Bool.not_eq_true'] at hd
      obtain ⟨⟨rfl, h1⟩, h2⟩ := hd
      exact fin _ xs (.inr rfl) h1 h2
    | _ => exact at0 (by simpa [pl] using hd)
theorem same_refl_lst {fs : List Fd} {j : Nat} (hj : fs[j]? = some ⟨2, 4, [], bSame j⟩) (k : Nat) (o1 o2 : Bool) (l : List D) (h : pl (k + 1) (.lst false l) = true) (n : Nat) (hn : k + 1 ≤ n) : tab fs (n + 1) j [.lst o1 l, .lst o2 l] = .ok (.bl true) [none, none] := by
  obtain ⟨m, rfl⟩ : ∃ m, n = m + 1 := ⟨n - 1, by omega⟩
  simp only [pl, Bool.and_eq_true, decide_eq_true_eq] at h
  rw [tab, hj]
  obtain ⟨e, he⟩ := same_lst (tab fs (m + 1)) j o1 o2 l h.1.2 fun d hd => by
    have := List.all_eq_true.mp h.2 d hd
    exact ⟨isF_pl k d this, same_refl hj k d this m (by omega)⟩
  exact run_rt (F := ⟨2, 4, [], bSame j⟩) rfl he
end M

set_option Elab.async false
set_option linter.all false
set_option autoImplicit false
set_option maxRecDepth 100000
set_option maxHeartbeats 4000000
/-! H1: a law's head: its classes and defs from the facts that the head answers. -/
namespace Y
open PySem PySem.Spec PyProof.Rows L2 Z
section
variable {P : Program} {w : World} {K : PySem.W.Frag} {mg : Str → Option Value} {base : Heap}
/-- what is known of a class by itself -/
structure XFact (P : Program) (w : World) (K : PySem.W.Frag) (mg : Str → Option Value) (base : Heap) (x : Xn) (C : Addr) : Prop where
  a : Cls K x.c C
  g : mg x.c = some (.ref C)
  ex : L2.ExcC K C
  ty : PySem.W.typeIn K (.ref C) = some (.type "type")
  up : ∀ b ∈ excNames, PySem.W.kitOne K (.ref C) (.type b) = some (decide (b ∈ x.up))
  rest : ∃ (fI : Addr) (B newId initId : String) (tl : List Value) (fd : FuncData), Bs K B newId initId tl ∧ Xc K C newId tl ∧ (∀ D : Addr, tl.contains (.ref D) = false) ∧ PySem.W.findIn K (.ref C) "__init__" = some (some (.ref fI)) ∧ PySem.W.typeIn K (.ref fI) = some (.type "function") ∧
    match x.f with
    | none => FnOk P w K mg base CX0 1 fI fd ["self"] (spI0 K newId tl) ∧ Binds K fd ["self"] []
    | some f => PySem.W.findIn K (.ref C) f = some none ∧ FnOk P w K mg base CX0 1 fI fd ["self", x.prm] (spI1 K newId tl f) ∧ Binds K fd ["self", x.prm] [] ∧ ∀ z u : Value, bindArgs fd ⟨[z], [(x.prm, u)]⟩ = pure [(("self" : Str), z), (x.prm, u)]
theorem nd_map {α β : Type} (f : α → β) : ∀ {l : List α}, (l.map f).Nodup → ∀ {a b : α}, a ∈ l → b ∈ l → f a = f b → a = b
  | [], _, _, _, h, _, _ => nomatch h
  | x :: l, n, a, b, ha, hb, e => by
    rw [List.map_cons, List.nodup_cons] at n
    rcases List.mem_cons.mp ha with p | p
    · rcases List.mem_cons.mp hb with r | r
      · rw [p, r]
      · rw [p] at e
        exact absurd (e ▸ List.mem_map_of_mem r) n.1
    · rcases List.mem_cons.mp hb with r | r
      · rw [r] at e
        exact absurd (e ▸ List.mem_map_of_mem p) n.1
      · exact nd_map f n.2 p r e
theorem xok_all {l : List (Xn × Addr)} (h : ∀ p ∈ l, XFact P w K mg base p.1 p.2) (nn : (l.map fun p => p.1.c).Nodup) (na : (l.map fun p => p.2).Nodup) : ∀ x ∈ l.map (·.1), XOk P w K mg base (l.map (·.1)) x := by
  intro x hx
  obtain ⟨p, hp, rfl⟩ := List.mem_map.mp hx
  have F := h p hp
  obtain ⟨fI, B, newId, initId, tl, fd, h1, h2, h3, h4, h5, h6⟩ := F.rest
  refine ⟨p.2, fI, B, newId, initId, tl, fd, F.a, F.g, h1, h2, h4, h5, F.ex, fun y hy D hD => ?_, F.up, h6⟩
  obtain ⟨q, hq, rfl⟩ := List.mem_map.mp hy
  have G := h q hq
  have e : D = q.2 := by
    have z : some (some (Value.ref D)) = some (some (Value.ref q.2)) := hD.symm.trans G.a
    injection z with z; injection z with z; injection z
  subst e
  by_cases c : q.1.c = p.1.c
  · have := nd_map (fun p : Xn × Addr => p.1.c) nn hq hp c
    subst this
    rw [decide_eq_true rfl]
    exact kit_same
  · rw [decide_eq_false c]
    have hn : p.2 ≠ q.2 := fun e => c (by rw [nd_map (fun p : Xn × Addr => p.2) na hp hq e])
    exact kit_other hn G.ex.hd G.ty (sub_ref h2 (h3 _) hn)
theorem excC_mk {C : Addr} (hg : PySem.W.findIn K (.ref C) "__getattribute__" = some (some (.builtin "BaseException.__getattribute__"))) (hk : PySem.W.findIn K (.ref C) "__getattr__" = some none) (hs : PySem.W.subIn K (.ref C) (.type "BaseException") = some true) (hd : PySem.W.hasDictIn K C = true)
    (ha : PySem.W.findIn K (.ref C) "__class__" = some (some (.builtin "object.__class__"))) (hn : PySem.W.specialIn K (.builtin "object.__class__") "__get__" = some (some (.builtin "getset_descriptor.__get__"))) (ht : PySem.W.takesIn K (.builtin "object.__class__") = some true) (hm : PySem.W.mroIn K C (.type "object") = some true) : L2.ExcC K C := ⟨hg, hk, hs, hd, ha, hn, ht, hm⟩
theorem up_LE {C : Addr} (h1 : PySem.W.subIn K (.ref C) (.type "LookupError") = some true) (h2 : PySem.W.subIn K (.ref C) (.type "ValueError") = some false) (h3 : PySem.W.subIn K (.ref C) (.type "KeyError") = some false) (h4 : PySem.W.subIn K (.ref C) (.type "IndexError") = some false) :
    ∀ b ∈ excNames, PySem.W.kitOne K (.ref C) (.type b) = some (decide (b ∈ ["LookupError"])) := by
  intro b hb
  simp only [excNames, List.mem_cons, List.not_mem_nil, or_false] at hb
  rcases hb with rfl | rfl | rfl | rfl
  · exact kit_T (by decide +kernel) h1
  · exact kit_T (by decide +kernel) h2
  · exact kit_T (by decide +kernel) h3
  · exact kit_T (by decide +kernel) h4
theorem up_VE {C : Addr} (h1 : PySem.W.subIn K (.ref C) (.type "LookupError") = some false) (h2 : PySem.W.subIn K (.ref C) (.type "ValueError") = some true) (h3 : PySem.W.subIn K (.ref C) (.type "KeyError") = some false) (h4 : PySem.W.subIn K (.ref C) (.type "IndexError") = some false) :
    ∀ b ∈ excNames, PySem.W.kitOne K (.ref C) (.type b) = some (decide (b ∈ ["ValueError"])) := by
  intro b hb
  simp only [excNames, List.mem_cons, List.not_mem_nil, or_false] at hb
  rcases hb with rfl | rfl | rfl | rfl
  · exact kit_T (by decide +kernel) h1
  · exact kit_T (by decide +kernel) h2
  · exact kit_T (by decide +kernel) h3
  · exact kit_T (by decide +kernel) h4
abbrev tlV : List Value := [.type "ValueError", .type "Exception", .type "BaseException", .type "object"]
abbrev tlL : List Value := [.type "LookupError", .type "Exception", .type "BaseException", .type "object"]
theorem tlV_no (D : Addr) : tlV.contains (.ref D) = false := rfl
theorem tlL_no (D : Addr) : tlL.contains (.ref D) = false := rfl
end
end Y
namespace Y
open PySem PySem.Spec PyProof.Rows L2 Z
section
variable {P : Program} {w : World} {K : PySem.W.Frag} {mg : Str → Option Value} {base h : Heap} {C fI : Addr} {B newId initId : String} {tl : List Value} {c f prm qual : Str} {ups : List String} {st : Stmt}
  {nm q : Str} {N : Addr} {bs : List Value} {sn : List Str} {sub : List Value} {ab : Bool} {col : Option Bool} {dd : Option Addr} {k0 k1 k2 k3 k5 : Option Value} {oc kV dc pm cd ct : Value} {od an : Option Addr} {sl : Array (Option Value)} {p1 p2 p3 p4 p5 p6 q1 q2 q3 q4 : Pos}
theorem xf1 (X : K.In h) (G : h.Ns mainGlobals mg) (b : Bs K B newId initId tl) (hm : mg (Str.ofString B) = none) (ntl : ∀ D : Addr, tl.contains (.ref D) = false) (up : ∀ b ∈ excNames, PySem.W.kitOne K (.ref C) (.type b) = some (decide (b ∈ ups)))
    (aC : PySem.W.nsIn K mainGlobals c = some (some (.ref C))) (xL : K.lookup C = some (excClassObj nm q C N bs tl true sn sub ab col dd k0 k1 k2 k3 k5 newId)) (sa : PySem.W.findIn K (.ref C) "__setattr__" = some (some (.builtin "object.__setattr__"))) (kp : PySem.W.keepIn K (.ref C) = true)
    (iC : PySem.W.findIn K (.ref C) "__init__" = some (some (.ref fI))) (tI : PySem.W.typeIn K (.ref fI) = some (.type "function")) (lI : K.lookup fI = some ⟨oc, od, .func (PySem.W.fnOf "__init__" qual (defArgs st) (defBody st) (defScope st) .none kV dc pm an cd ct), sl⟩) (cI : PySem.W.codeIn K cd qual = true) (kf : PySem.W.keepIn K (.ref fI) = true)
    (nf : PySem.W.findIn K (.ref C) f = some none) (E : L2.ExcC K C) (ty : PySem.W.typeIn K (.ref C) = some (.type "type"))
    (S : FnScope ["self", prm] ["self", prm] (defScope st)) (hg : (defScope st).names.lookup (Str.ofString B) = some .globalImplicit) (h1 : (prm == ("__debug__" : Str)) = false) (h2 : (prm == ("__classdict__" : Str)) = false)
    (hb : defBody st = [.Expr (.Call (.Attribute (.Name (Str.ofString B) p1) "__init__" p2) [.Name "self" p3, .Name prm p4] [] p5) p6, .Assign [.Attribute (.Name "self" q1) f q2] (.Name prm q3) q4])
    (hc : ∀ env : Env, ∃ pl : Sem Bool, eval (.Call (.Attribute (.Name (Str.ofString B) p1) "__init__" p2) [.Name "self" p3, .Name prm p4] [] p5) env = (do
      let ov ← eval (.Name (Str.ofString B) p1) env
      standAt p2.atName
      let (f, first) ← holding [ov] (getMethod ov "__init__" pl)
      callWith p5 f first (backTo p5 (starEach [.Name "self" p3, .Name prm p4] env)) (backToKw p5 (keywordEach [] env))))
    (b1 : ∀ us : List Value, us.length = 2 → bindArgs (PySem.W.fnOf "__init__" qual (defArgs st) (defBody st) (defScope st) .none kV dc pm an cd ct) ⟨us, []⟩ = pure ((["self", prm] : List Str).zip us))
    (b2 : ∀ z u : Value, bindArgs (PySem.W.fnOf "__init__" qual (defArgs st) (defBody st) (defScope st) .none kV dc pm an cd ct) ⟨[z], [(prm, u)]⟩ = pure [(("self" : Str), z), (prm, u)]) : XFact P w K mg base ⟨c, some f, prm, ups⟩ C where
  a := aC
  g := PySem.W.mg_of X G aC
  ex := E
  ty := ty
  up := up
  rest := ⟨fI, B, newId, initId, tl, _, b, ⟨⟨_, _, _, _, _, _, _, _, _, _, _, _, _, _, xL⟩, sa, kp⟩, ntl, iC, tI, nf, init1 b (fun_mk (st := st) lI cI kf) hm S hg h1 h2 hb hc, .all b1, b2⟩
theorem xf0 (X : K.In h) (G : h.Ns mainGlobals mg) (b : Bs K B newId initId tl) (hm : mg (Str.ofString B) = none) (ntl : ∀ D : Addr, tl.contains (.ref D) = false) (up : ∀ b ∈ excNames, PySem.W.kitOne K (.ref C) (.type b) = some (decide (b ∈ ups)))
    (aC : PySem.W.nsIn K mainGlobals c = some (some (.ref C))) (xL : K.lookup C = some (excClassObj nm q C N bs tl true sn sub ab col dd k0 k1 k2 k3 k5 newId)) (sa : PySem.W.findIn K (.ref C) "__setattr__" = some (some (.builtin "object.__setattr__"))) (kp : PySem.W.keepIn K (.ref C) = true)
    (iC : PySem.W.findIn K (.ref C) "__init__" = some (some (.ref fI))) (tI : PySem.W.typeIn K (.ref fI) = some (.type "function")) (lI : K.lookup fI = some ⟨oc, od, .func (PySem.W.fnOf "__init__" qual (defArgs st) (defBody st) (defScope st) .none kV dc pm an cd ct), sl⟩) (cI : PySem.W.codeIn K cd qual = true) (kf : PySem.W.keepIn K (.ref fI) = true)
    (E : L2.ExcC K C) (ty : PySem.W.typeIn K (.ref C) = some (.type "type"))
    (S : FnScope ["self"] ["self"] (defScope st)) (hg : (defScope st).names.lookup (Str.ofString B) = some .globalImplicit)
    (hb : defBody st = [.Expr (.Call (.Attribute (.Name (Str.ofString B) p1) "__init__" p2) [.Name "self" p3] [] p5) p6])
    (hc : ∀ env : Env, ∃ pl : Sem Bool, eval (.Call (.Attribute (.Name (Str.ofString B) p1) "__init__" p2) [.Name "self" p3] [] p5) env = (do
      let ov ← eval (.Name (Str.ofString B) p1) env
      standAt p2.atName
      let (f, first) ← holding [ov] (getMethod ov "__init__" pl)
      callWith p5 f first (backTo p5 (starEach [.Name "self" p3] env)) (backToKw p5 (keywordEach [] env))))
    (b1 : ∀ us : List Value, us.length = 1 → bindArgs (PySem.W.fnOf "__init__" qual (defArgs st) (defBody st) (defScope st) .none kV dc pm an cd ct) ⟨us, []⟩ = pure ((["self"] : List Str).zip us)) : XFact P w K mg base ⟨c, none, "", ups⟩ C where
  a := aC
  g := PySem.W.mg_of X G aC
  ex := E
  ty := ty
  up := up
  rest := ⟨fI, B, newId, initId, tl, _, b, ⟨⟨_, _, _, _, _, _, _, _, _, _, _, _, _, _, xL⟩, sa, kp⟩, ntl, iC, tI, init0 b (fun_mk (st := st) lI cI kf) hm S hg hb hc, .all b1⟩
end
end Y

set_option Elab.async false
set_option linter.all false
set_option maxRecDepth 100000
set_option maxHeartbeats 4000000
namespace P00
open PySem PySem.Spec PyProof.Rows L2 Z
def topS (i : Nat) : Stmt := PySem.Challenge.pw_runsbehind_k00_errors_by_themselves.main.body.getD i (.Pass ⟨0, 0, 0, 0⟩)
def d0 : Df := ⟨"_law_box", topS 15, ["_law_script", "_law_k", "_law_cell"], ["_law_script", "_law_k"], [false, false], []⟩
def d1 : Df := ⟨"_law_take", topS 16, ["_law_box_here", "_law_wide_so", "_law_once", "_law_far", "_law_twice", "_law_drawn"], ["_law_box_here", "_law_wide_so"], [true, false], []⟩
def d2 : Df := ⟨"_law_cells", topS 17, ["_law_script", "_law_top_so", "_law_cells_here", "_law_k", "_law_cell", "_law_at_so"], ["_law_script", "_law_top_so"], [false, false], []⟩
def d3 : Df := ⟨"_law_of", topS 18, ["_law_box_here", "_law_goods_so"], ["_law_box_here", "_law_goods_so"], [true, false], []⟩
def d4 : Df := ⟨"_law_same", topS 19, ["_law_got", "_law_due", "_law_mine", "_law_its"], ["_law_got", "_law_due"], [false, false], []⟩
def d5 : Df := ⟨"_law_sorts", topS 20, ["_law_own", "_law_looked_so"], ["_law_own"], [false], []⟩
def d6 : Df := ⟨"_law_made_right", topS 21, ["_law_tag_so", "_law_tie_so", "_law_much_so", "_law_every", "_law_got", "_law_k", "_law_own", "_law_j"], ["_law_tag_so", "_law_tie_so", "_law_much_so"], [false, false, false], []⟩
def d7 : Df := ⟨"_law_by_hand_right", topS 22, [], [], [], []⟩
def d8 : Df := ⟨"_law_right", topS 23, ["_law_box_here", "_law_turn", "_law_tag_so", "_law_far_so"], ["_law_box_here"], [true], []⟩
def d9 : Df := ⟨"law", topS 24, ["_law_script", "_law_cells_here", "_law_k"], ["_law_script"], [false], []⟩
def x0 : Y.Xn := ⟨"NoBlock", some "block", "block", ["LookupError"]⟩
def x1 : Y.Xn := ⟨"NoEdge", some "edge", "edge", ["LookupError"]⟩
def x2 : Y.Xn := ⟨"NoNumber", some "number", "number", ["LookupError"]⟩
def x3 : Y.Xn := ⟨"NoDay", some "day", "day", ["LookupError"]⟩
def x4 : Y.Xn := ⟨"NothingDone", none, "", ["LookupError"]⟩
def x5 : Y.Xn := ⟨"Known", some "edge", "edge", ["ValueError"]⟩
def x6 : Y.Xn := ⟨"Twice", some "name", "name", ["ValueError"]⟩
def x7 : Y.Xn := ⟨"NoGraph", none, "", ["ValueError"]⟩
def x8 : Y.Xn := ⟨"NoCounts", none, "", ["ValueError"]⟩
def x9 : Y.Xn := ⟨"NoLot", none, "", ["ValueError"]⟩
def x10 : Y.Xn := ⟨"Unfit", none, "", ["ValueError"]⟩
def x11 : Y.Xn := ⟨"BadText", none, "", ["ValueError"]⟩
def x12 : Y.Xn := ⟨"BadLine", some "number", "number", ["ValueError"]⟩
def xs : List Y.Xn := [x0, x1, x2, x3, x4, x5, x6, x7, x8, x9, x10, x11, x12]
def ds : List Df := [d0, d1, d2, d3, d4, d5, d6, d7, d8, d9]
/- law: 9 -/
def b0 : Ss := Z.Ss.cons
  (Z.S.as
    (Z.Tg.n 2)
    (Z.E.ite (Z.Te.val (Z.E.cmp (PySem.CmpOp.Lt) (Z.E.v 1) (Z.E.lenv 0))) (Z.E.subv 0 (Z.E.v 1)) (Z.E.c (Z.D.int 0))))
  (Z.Ss.cons
    (Z.S.ret
      (Z.E.lst
        (Z.Es.raw
          (Z.E.bin
            (PySem.Operator.Mult)
            (Z.E.bi (Z.Bi.abs) (Z.Es.cons (Z.E.v 2) (Z.Es.nil)))
            (Z.E.bi
              (Z.Bi.int)
              (Z.Es.cons
                (Z.E.cmp
                  (PySem.CmpOp.GtE)
                  (Z.E.bi (Z.Bi.abs) (Z.Es.cons (Z.E.v 2) (Z.Es.nil)))
                  (Z.E.bin (PySem.Operator.Pow) (Z.E.c (Z.D.int 10)) (Z.E.c (Z.D.int 18))))
                (Z.Es.nil))))
          (Z.Es.raw
            (Z.E.bin
              (PySem.Operator.Add)
              (Z.E.bin
                (PySem.Operator.Add)
                (Z.E.bin
                  (PySem.Operator.Mod)
                  (Z.E.bi (Z.Bi.int) (Z.Es.cons (Z.E.v 2) (Z.Es.nil)))
                  (Z.E.c (Z.D.int 2305843009213693951)))
                (Z.E.bin (PySem.Operator.Mult) (Z.E.c (Z.D.int 39373)) (Z.E.v 1)))
              (Z.E.c (Z.D.int 1053100)))
            (Z.Es.raw (Z.E.c (Z.D.int 0)) (Z.Es.nil))))))
    (Z.Ss.nil))
def b1 : Ss := Z.Ss.cons
  (Z.S.ite
    (Z.Te.val (Z.E.cmp (PySem.CmpOp.Gt) (Z.E.subv 0 (Z.E.c (Z.D.int 0))) (Z.E.c (Z.D.int 0))))
    (Z.Ss.cons
      (Z.S.as
        (Z.Tg.n 5)
        (Z.E.bin
          (PySem.Operator.Mod)
          (Z.E.bi (Z.Bi.int) (Z.Es.cons (Z.E.subv 0 (Z.E.c (Z.D.int 0))) (Z.Es.nil)))
          (Z.E.v 1)))
      (Z.Ss.cons
        (Z.S.sset 0 (Z.E.c (Z.D.int 0)) (Z.E.bin (PySem.Operator.FloorDiv) (Z.E.subv 0 (Z.E.c (Z.D.int 0))) (Z.E.v 1)))
        (Z.Ss.cons (Z.S.ret (Z.E.mv 5)) (Z.Ss.nil))))
    (Z.Ss.nil))
  (Z.Ss.cons
    (Z.S.sset 0 (Z.E.c (Z.D.int 2)) (Z.E.bin (PySem.Operator.Add) (Z.E.subv 0 (Z.E.c (Z.D.int 2))) (Z.E.c (Z.D.int 1))))
    (Z.Ss.cons
      (Z.S.as
        (Z.Tg.n 2)
        (Z.E.bin
          (PySem.Operator.Mod)
          (Z.E.bi
            (Z.Bi.int)
            (Z.Es.cons
              (Z.E.bin
                (PySem.Operator.Mult)
                (Z.E.bin
                  (PySem.Operator.Add)
                  (Z.E.subv 0 (Z.E.c (Z.D.int 1)))
                  (Z.E.bin (PySem.Operator.Mult) (Z.E.c (Z.D.int 48271)) (Z.E.subv 0 (Z.E.c (Z.D.int 2)))))
                (Z.E.bin (PySem.Operator.Add) (Z.E.c (Z.D.int 39373)) (Z.E.subv 0 (Z.E.c (Z.D.int 2)))))
              (Z.Es.nil)))
          (Z.E.c (Z.D.int 2147483647))))
      (Z.Ss.cons
        (Z.S.as
          (Z.Tg.n 3)
          (Z.E.bin
            (PySem.Operator.Add)
            (Z.E.bin (PySem.Operator.Mod) (Z.E.bi (Z.Bi.int) (Z.Es.cons (Z.E.v 2) (Z.Es.nil))) (Z.E.c (Z.D.int 40009)))
            (Z.E.c (Z.D.int 7))))
        (Z.Ss.cons
          (Z.S.as
            (Z.Tg.n 4)
            (Z.E.bin
              (PySem.Operator.Mod)
              (Z.E.bi
                (Z.Bi.int)
                (Z.Es.cons
                  (Z.E.bin
                    (PySem.Operator.Mult)
                    (Z.E.bin
                      (PySem.Operator.Add)
                      (Z.E.bin (PySem.Operator.Add) (Z.E.v 2) (Z.E.subv 0 (Z.E.c (Z.D.int 2))))
                      (Z.E.bin (PySem.Operator.FloorDiv) (Z.E.subv 0 (Z.E.c (Z.D.int 1))) (Z.E.c (Z.D.int 1000003))))
                    (Z.E.v 3))
                  (Z.Es.nil)))
              (Z.E.c (Z.D.int 2147483629))))
          (Z.Ss.cons
            (Z.S.ret
              (Z.E.bin
                (PySem.Operator.Mod)
                (Z.E.bi
                  (Z.Bi.int)
                  (Z.Es.cons
                    (Z.E.bin
                      (PySem.Operator.FloorDiv)
                      (Z.E.bin
                        (PySem.Operator.Mod)
                        (Z.E.bi
                          (Z.Bi.int)
                          (Z.Es.cons
                            (Z.E.bin
                              (PySem.Operator.Add)
                              (Z.E.bin (PySem.Operator.Mult) (Z.E.v 4) (Z.E.c (Z.D.int 48271)))
                              (Z.E.v 2))
                            (Z.Es.nil)))
                        (Z.E.c (Z.D.int 2147483587)))
                      (Z.E.c (Z.D.int 64)))
                    (Z.Es.nil)))
                (Z.E.v 1)))
            (Z.Ss.nil))))))
def b2 : Ss := Z.Ss.cons
  (Z.S.as
    (Z.Tg.n 2)
    (Z.E.or
      (Z.E.bi (Z.Bi.list) (Z.Es.cons (Z.E.slc (Z.E.v 0) (Z.Oe.no) (Z.Oe.e (Z.E.v 1))) (Z.Es.nil)))
      (Z.E.lst (Z.Es.raw (Z.E.c (Z.D.int 0)) (Z.Es.nil)))))
  (Z.Ss.cons
    (Z.S.fr
      (Z.Tg.t (Z.Tgs.cons (Z.Tg.n 3) (Z.Tgs.cons (Z.Tg.n 4) (Z.Tgs.nil))))
      (Z.It.enm (Z.E.slc (Z.E.v 0) (Z.Oe.e (Z.E.v 1)) (Z.Oe.e (Z.E.c (Z.D.int 63)))))
      (Z.Ss.cons
        (Z.S.as
          (Z.Tg.n 5)
          (Z.E.bin (PySem.Operator.Mod) (Z.E.bi (Z.Bi.int) (Z.Es.cons (Z.E.v 3) (Z.Es.nil))) (Z.E.v 1)))
        (Z.Ss.cons
          (Z.S.sset
            2
            (Z.E.v 5)
            (Z.E.bin
              (PySem.Operator.Add)
              (Z.E.subv 2 (Z.E.v 5))
              (Z.E.bin (PySem.Operator.Mult) (Z.E.v 4) (Z.E.bin (PySem.Operator.Add) (Z.E.v 3) (Z.E.c (Z.D.int 2))))))
          (Z.Ss.nil))))
    (Z.Ss.cons (Z.S.ret (Z.E.mv 2)) (Z.Ss.nil)))
def b3 : Ss := Z.Ss.cons (Z.S.ret (Z.E.subv 1 (Z.E.fn 1 (Z.Es.bw 0 (Z.Es.raw (Z.E.lenv 1) (Z.Es.nil)))))) (Z.Ss.nil)
def b4 : Ss := Z.Ss.cons
  (Z.S.ite
    (Z.Te.val (Z.E.isi (Z.E.v 1) [Z.Ty.list, Z.Ty.tuple] false))
    (Z.Ss.cons
      (Z.S.ite
        (Z.Te.or
          (Z.Te.val
            (Z.E.cmp (PySem.CmpOp.NotEq) (Z.E.isi (Z.E.v 0) [Z.Ty.list] true) (Z.E.isi (Z.E.v 1) [Z.Ty.list] true)))
          (Z.Te.val
            (Z.E.cmp (PySem.CmpOp.NotEq) (Z.E.isi (Z.E.v 0) [Z.Ty.tuple] true) (Z.E.isi (Z.E.v 1) [Z.Ty.tuple] true))))
        (Z.Ss.cons (Z.S.ret (Z.E.c (Z.D.bl false))) (Z.Ss.nil))
        (Z.Ss.nil))
      (Z.Ss.cons
        (Z.S.ret
          (Z.E.and
            (Z.E.cmp (PySem.CmpOp.Eq) (Z.E.lenv 0) (Z.E.lenv 1))
            (Z.E.bi
              (Z.Bi.all)
              (Z.Es.cons
                (Z.E.lc
                  [2, 3]
                  (Z.Tg.t (Z.Tgs.cons (Z.Tg.n 2) (Z.Tgs.cons (Z.Tg.n 3) (Z.Tgs.nil))))
                  (Z.It.zip (Z.Es.cons (Z.E.v 0) (Z.Es.cons (Z.E.v 1) (Z.Es.nil))))
                  (Z.Tes.nil)
                  (Z.E.fn 4 (Z.Es.raw (Z.E.v 2) (Z.Es.raw (Z.E.v 3) (Z.Es.nil)))))
                (Z.Es.nil)))))
        (Z.Ss.nil)))
    (Z.Ss.nil))
  (Z.Ss.cons
    (Z.S.ite
      (Z.Te.or (Z.Te.val (Z.E.isN false (Z.E.v 1))) (Z.Te.val (Z.E.isi (Z.E.v 1) [Z.Ty.bool, Z.Ty.str] false)))
      (Z.Ss.cons
        (Z.S.ret
          (Z.E.and
            (Z.E.cmp (PySem.CmpOp.Eq) (Z.E.v 0) (Z.E.v 1))
            (Z.E.and
              (Z.E.cmp (PySem.CmpOp.Eq) (Z.E.isi (Z.E.v 0) [Z.Ty.bool] true) (Z.E.isi (Z.E.v 1) [Z.Ty.bool] true))
              (Z.E.cmp (PySem.CmpOp.Eq) (Z.E.isN false (Z.E.v 0)) (Z.E.isN false (Z.E.v 1))))))
        (Z.Ss.nil))
      (Z.Ss.nil))
    (Z.Ss.cons
      (Z.S.ret
        (Z.E.and
          (Z.E.isi (Z.E.v 0) [Z.Ty.int] true)
          (Z.E.and
            (Z.E.tst (Z.Te.not (Z.Te.val (Z.E.isi (Z.E.v 0) [Z.Ty.bool] true))))
            (Z.E.cmp (PySem.CmpOp.Eq) (Z.E.v 0) (Z.E.v 1)))))
      (Z.Ss.nil)))
def b5 : Ss := Z.Ss.cons
  (Z.S.as
    (Z.Tg.n 1)
    (Z.E.lst
      (Z.Es.raw
        (Z.E.isx
          (Z.E.v 0)
          [{ cps := #[78, 111, 66, 108, 111, 99, 107] }]
          [{ cps := #[78, 111, 66, 108, 111, 99, 107] },
           { cps := #[78, 111, 69, 100, 103, 101] },
           { cps := #[78, 111, 78, 117, 109, 98, 101, 114] },
           { cps := #[78, 111, 68, 97, 121] },
           { cps := #[78, 111, 116, 104, 105, 110, 103, 68, 111, 110, 101] },
           { cps := #[75, 110, 111, 119, 110] },
           { cps := #[84, 119, 105, 99, 101] },
           { cps := #[78, 111, 71, 114, 97, 112, 104] },
           { cps := #[78, 111, 67, 111, 117, 110, 116, 115] },
           { cps := #[78, 111, 76, 111, 116] },
           { cps := #[85, 110, 102, 105, 116] },
           { cps := #[66, 97, 100, 84, 101, 120, 116] },
           { cps := #[66, 97, 100, 76, 105, 110, 101] }])
        (Z.Es.raw
          (Z.E.isx
            (Z.E.v 0)
            [{ cps := #[78, 111, 69, 100, 103, 101] }]
            [{ cps := #[78, 111, 66, 108, 111, 99, 107] },
             { cps := #[78, 111, 69, 100, 103, 101] },
             { cps := #[78, 111, 78, 117, 109, 98, 101, 114] },
             { cps := #[78, 111, 68, 97, 121] },
             { cps := #[78, 111, 116, 104, 105, 110, 103, 68, 111, 110, 101] },
             { cps := #[75, 110, 111, 119, 110] },
             { cps := #[84, 119, 105, 99, 101] },
             { cps := #[78, 111, 71, 114, 97, 112, 104] },
             { cps := #[78, 111, 67, 111, 117, 110, 116, 115] },
             { cps := #[78, 111, 76, 111, 116] },
             { cps := #[85, 110, 102, 105, 116] },
             { cps := #[66, 97, 100, 84, 101, 120, 116] },
             { cps := #[66, 97, 100, 76, 105, 110, 101] }])
          (Z.Es.raw
            (Z.E.isx
              (Z.E.v 0)
              [{ cps := #[78, 111, 78, 117, 109, 98, 101, 114] }]
              [{ cps := #[78, 111, 66, 108, 111, 99, 107] },
               { cps := #[78, 111, 69, 100, 103, 101] },
               { cps := #[78, 111, 78, 117, 109, 98, 101, 114] },
               { cps := #[78, 111, 68, 97, 121] },
               { cps := #[78, 111, 116, 104, 105, 110, 103, 68, 111, 110, 101] },
               { cps := #[75, 110, 111, 119, 110] },
               { cps := #[84, 119, 105, 99, 101] },
               { cps := #[78, 111, 71, 114, 97, 112, 104] },
               { cps := #[78, 111, 67, 111, 117, 110, 116, 115] },
               { cps := #[78, 111, 76, 111, 116] },
               { cps := #[85, 110, 102, 105, 116] },
               { cps := #[66, 97, 100, 84, 101, 120, 116] },
               { cps := #[66, 97, 100, 76, 105, 110, 101] }])
            (Z.Es.raw
              (Z.E.isx
                (Z.E.v 0)
                [{ cps := #[78, 111, 68, 97, 121] }]
                [{ cps := #[78, 111, 66, 108, 111, 99, 107] },
                 { cps := #[78, 111, 69, 100, 103, 101] },
                 { cps := #[78, 111, 78, 117, 109, 98, 101, 114] },
                 { cps := #[78, 111, 68, 97, 121] },
                 { cps := #[78, 111, 116, 104, 105, 110, 103, 68, 111, 110, 101] },
                 { cps := #[75, 110, 111, 119, 110] },
                 { cps := #[84, 119, 105, 99, 101] },
                 { cps := #[78, 111, 71, 114, 97, 112, 104] },
                 { cps := #[78, 111, 67, 111, 117, 110, 116, 115] },
                 { cps := #[78, 111, 76, 111, 116] },
                 { cps := #[85, 110, 102, 105, 116] },
                 { cps := #[66, 97, 100, 84, 101, 120, 116] },
                 { cps := #[66, 97, 100, 76, 105, 110, 101] }])
              (Z.Es.nil)))))))
  (Z.Ss.cons
    (Z.S.as
      (Z.Tg.n 1)
      (Z.E.bin
        (PySem.Operator.Add)
        (Z.E.v 1)
        (Z.E.lst
          (Z.Es.raw
            (Z.E.isx
              (Z.E.v 0)
              [{ cps := #[78, 111, 116, 104, 105, 110, 103, 68, 111, 110, 101] }]
              [{ cps := #[78, 111, 66, 108, 111, 99, 107] },
               { cps := #[78, 111, 69, 100, 103, 101] },
               { cps := #[78, 111, 78, 117, 109, 98, 101, 114] },
               { cps := #[78, 111, 68, 97, 121] },
               { cps := #[78, 111, 116, 104, 105, 110, 103, 68, 111, 110, 101] },
               { cps := #[75, 110, 111, 119, 110] },
               { cps := #[84, 119, 105, 99, 101] },
               { cps := #[78, 111, 71, 114, 97, 112, 104] },
               { cps := #[78, 111, 67, 111, 117, 110, 116, 115] },
               { cps := #[78, 111, 76, 111, 116] },
               { cps := #[85, 110, 102, 105, 116] },
               { cps := #[66, 97, 100, 84, 101, 120, 116] },
               { cps := #[66, 97, 100, 76, 105, 110, 101] }])
            (Z.Es.raw
              (Z.E.isx
                (Z.E.v 0)
                [{ cps := #[75, 110, 111, 119, 110] }]
                [{ cps := #[78, 111, 66, 108, 111, 99, 107] },
                 { cps := #[78, 111, 69, 100, 103, 101] },
                 { cps := #[78, 111, 78, 117, 109, 98, 101, 114] },
                 { cps := #[78, 111, 68, 97, 121] },
                 { cps := #[78, 111, 116, 104, 105, 110, 103, 68, 111, 110, 101] },
                 { cps := #[75, 110, 111, 119, 110] },
                 { cps := #[84, 119, 105, 99, 101] },
                 { cps := #[78, 111, 71, 114, 97, 112, 104] },
                 { cps := #[78, 111, 67, 111, 117, 110, 116, 115] },
                 { cps := #[78, 111, 76, 111, 116] },
                 { cps := #[85, 110, 102, 105, 116] },
                 { cps := #[66, 97, 100, 84, 101, 120, 116] },
                 { cps := #[66, 97, 100, 76, 105, 110, 101] }])
              (Z.Es.raw
                (Z.E.isx
                  (Z.E.v 0)
                  [{ cps := #[84, 119, 105, 99, 101] }]
                  [{ cps := #[78, 111, 66, 108, 111, 99, 107] },
                   { cps := #[78, 111, 69, 100, 103, 101] },
                   { cps := #[78, 111, 78, 117, 109, 98, 101, 114] },
                   { cps := #[78, 111, 68, 97, 121] },
                   { cps := #[78, 111, 116, 104, 105, 110, 103, 68, 111, 110, 101] },
                   { cps := #[75, 110, 111, 119, 110] },
                   { cps := #[84, 119, 105, 99, 101] },
                   { cps := #[78, 111, 71, 114, 97, 112, 104] },
                   { cps := #[78, 111, 67, 111, 117, 110, 116, 115] },
                   { cps := #[78, 111, 76, 111, 116] },
                   { cps := #[85, 110, 102, 105, 116] },
                   { cps := #[66, 97, 100, 84, 101, 120, 116] },
                   { cps := #[66, 97, 100, 76, 105, 110, 101] }])
                (Z.Es.nil)))))))
    (Z.Ss.cons
      (Z.S.as
        (Z.Tg.n 1)
        (Z.E.bin
          (PySem.Operator.Add)
          (Z.E.v 1)
          (Z.E.lst
            (Z.Es.raw
              (Z.E.isx
                (Z.E.v 0)
                [{ cps := #[78, 111, 71, 114, 97, 112, 104] }]
                [{ cps := #[78, 111, 66, 108, 111, 99, 107] },
                 { cps := #[78, 111, 69, 100, 103, 101] },
                 { cps := #[78, 111, 78, 117, 109, 98, 101, 114] },
                 { cps := #[78, 111, 68, 97, 121] },
                 { cps := #[78, 111, 116, 104, 105, 110, 103, 68, 111, 110, 101] },
                 { cps := #[75, 110, 111, 119, 110] },
                 { cps := #[84, 119, 105, 99, 101] },
                 { cps := #[78, 111, 71, 114, 97, 112, 104] },
                 { cps := #[78, 111, 67, 111, 117, 110, 116, 115] },
                 { cps := #[78, 111, 76, 111, 116] },
                 { cps := #[85, 110, 102, 105, 116] },
                 { cps := #[66, 97, 100, 84, 101, 120, 116] },
                 { cps := #[66, 97, 100, 76, 105, 110, 101] }])
              (Z.Es.raw
                (Z.E.isx
                  (Z.E.v 0)
                  [{ cps := #[78, 111, 67, 111, 117, 110, 116, 115] }]
                  [{ cps := #[78, 111, 66, 108, 111, 99, 107] },
                   { cps := #[78, 111, 69, 100, 103, 101] },
                   { cps := #[78, 111, 78, 117, 109, 98, 101, 114] },
                   { cps := #[78, 111, 68, 97, 121] },
                   { cps := #[78, 111, 116, 104, 105, 110, 103, 68, 111, 110, 101] },
                   { cps := #[75, 110, 111, 119, 110] },
                   { cps := #[84, 119, 105, 99, 101] },
                   { cps := #[78, 111, 71, 114, 97, 112, 104] },
                   { cps := #[78, 111, 67, 111, 117, 110, 116, 115] },
                   { cps := #[78, 111, 76, 111, 116] },
                   { cps := #[85, 110, 102, 105, 116] },
                   { cps := #[66, 97, 100, 84, 101, 120, 116] },
                   { cps := #[66, 97, 100, 76, 105, 110, 101] }])
                (Z.Es.raw
                  (Z.E.isx
                    (Z.E.v 0)
                    [{ cps := #[78, 111, 76, 111, 116] }]
                    [{ cps := #[78, 111, 66, 108, 111, 99, 107] },
                     { cps := #[78, 111, 69, 100, 103, 101] },
                     { cps := #[78, 111, 78, 117, 109, 98, 101, 114] },
                     { cps := #[78, 111, 68, 97, 121] },
                     { cps := #[78, 111, 116, 104, 105, 110, 103, 68, 111, 110, 101] },
                     { cps := #[75, 110, 111, 119, 110] },
                     { cps := #[84, 119, 105, 99, 101] },
                     { cps := #[78, 111, 71, 114, 97, 112, 104] },
                     { cps := #[78, 111, 67, 111, 117, 110, 116, 115] },
                     { cps := #[78, 111, 76, 111, 116] },
                     { cps := #[85, 110, 102, 105, 116] },
                     { cps := #[66, 97, 100, 84, 101, 120, 116] },
                     { cps := #[66, 97, 100, 76, 105, 110, 101] }])
                  (Z.Es.nil)))))))
      (Z.Ss.cons
        (Z.S.ret
          (Z.E.bin
            (PySem.Operator.Add)
            (Z.E.v 1)
            (Z.E.lst
              (Z.Es.raw
                (Z.E.isx
                  (Z.E.v 0)
                  [{ cps := #[85, 110, 102, 105, 116] }]
                  [{ cps := #[78, 111, 66, 108, 111, 99, 107] },
                   { cps := #[78, 111, 69, 100, 103, 101] },
                   { cps := #[78, 111, 78, 117, 109, 98, 101, 114] },
                   { cps := #[78, 111, 68, 97, 121] },
                   { cps := #[78, 111, 116, 104, 105, 110, 103, 68, 111, 110, 101] },
                   { cps := #[75, 110, 111, 119, 110] },
                   { cps := #[84, 119, 105, 99, 101] },
                   { cps := #[78, 111, 71, 114, 97, 112, 104] },
                   { cps := #[78, 111, 67, 111, 117, 110, 116, 115] },
                   { cps := #[78, 111, 76, 111, 116] },
                   { cps := #[85, 110, 102, 105, 116] },
                   { cps := #[66, 97, 100, 84, 101, 120, 116] },
                   { cps := #[66, 97, 100, 76, 105, 110, 101] }])
                (Z.Es.raw
                  (Z.E.isx
                    (Z.E.v 0)
                    [{ cps := #[66, 97, 100, 84, 101, 120, 116] }]
                    [{ cps := #[78, 111, 66, 108, 111, 99, 107] },
                     { cps := #[78, 111, 69, 100, 103, 101] },
                     { cps := #[78, 111, 78, 117, 109, 98, 101, 114] },
                     { cps := #[78, 111, 68, 97, 121] },
                     { cps := #[78, 111, 116, 104, 105, 110, 103, 68, 111, 110, 101] },
                     { cps := #[75, 110, 111, 119, 110] },
                     { cps := #[84, 119, 105, 99, 101] },
                     { cps := #[78, 111, 71, 114, 97, 112, 104] },
                     { cps := #[78, 111, 67, 111, 117, 110, 116, 115] },
                     { cps := #[78, 111, 76, 111, 116] },
                     { cps := #[85, 110, 102, 105, 116] },
                     { cps := #[66, 97, 100, 84, 101, 120, 116] },
                     { cps := #[66, 97, 100, 76, 105, 110, 101] }])
                  (Z.Es.raw
                    (Z.E.isx
                      (Z.E.v 0)
                      [{ cps := #[66, 97, 100, 76, 105, 110, 101] }]
                      [{ cps := #[78, 111, 66, 108, 111, 99, 107] },
                       { cps := #[78, 111, 69, 100, 103, 101] },
                       { cps := #[78, 111, 78, 117, 109, 98, 101, 114] },
                       { cps := #[78, 111, 68, 97, 121] },
                       { cps := #[78, 111, 116, 104, 105, 110, 103, 68, 111, 110, 101] },
                       { cps := #[75, 110, 111, 119, 110] },
                       { cps := #[84, 119, 105, 99, 101] },
                       { cps := #[78, 111, 71, 114, 97, 112, 104] },
                       { cps := #[78, 111, 67, 111, 117, 110, 116, 115] },
                       { cps := #[78, 111, 76, 111, 116] },
                       { cps := #[85, 110, 102, 105, 116] },
                       { cps := #[66, 97, 100, 84, 101, 120, 116] },
                       { cps := #[66, 97, 100, 76, 105, 110, 101] }])
                    (Z.Es.nil)))))))
        (Z.Ss.nil))))
def b6 : Ss := Z.Ss.cons
  (Z.S.as
    (Z.Tg.n 3)
    (Z.E.lst
      (Z.Es.raw
        (Z.E.mk
          { cps := #[78, 111, 66, 108, 111, 99, 107] }
          (some { cps := #[98, 108, 111, 99, 107] })
          (Z.Es.raw (Z.E.v 0) (Z.Es.nil)))
        (Z.Es.raw
          (Z.E.mk
            { cps := #[78, 111, 69, 100, 103, 101] }
            (some { cps := #[101, 100, 103, 101] })
            (Z.Es.raw (Z.E.v 1) (Z.Es.nil)))
          (Z.Es.raw
            (Z.E.mk
              { cps := #[78, 111, 78, 117, 109, 98, 101, 114] }
              (some { cps := #[110, 117, 109, 98, 101, 114] })
              (Z.Es.raw (Z.E.v 2) (Z.Es.nil)))
            (Z.Es.raw
              (Z.E.mk
                { cps := #[78, 111, 68, 97, 121] }
                (some { cps := #[100, 97, 121] })
                (Z.Es.raw (Z.E.v 2) (Z.Es.nil)))
              (Z.Es.raw
                (Z.E.mk { cps := #[78, 111, 116, 104, 105, 110, 103, 68, 111, 110, 101] } none (Z.Es.nil))
                (Z.Es.raw
                  (Z.E.mk
                    { cps := #[75, 110, 111, 119, 110] }
                    (some { cps := #[101, 100, 103, 101] })
                    (Z.Es.raw (Z.E.v 1) (Z.Es.nil)))
                  (Z.Es.nil)))))))))
  (Z.Ss.cons
    (Z.S.as
      (Z.Tg.n 3)
      (Z.E.bin
        (PySem.Operator.Add)
        (Z.E.v 3)
        (Z.E.lst
          (Z.Es.raw
            (Z.E.mk
              { cps := #[84, 119, 105, 99, 101] }
              (some { cps := #[110, 97, 109, 101] })
              (Z.Es.raw (Z.E.v 0) (Z.Es.nil)))
            (Z.Es.raw
              (Z.E.mk { cps := #[78, 111, 71, 114, 97, 112, 104] } none (Z.Es.nil))
              (Z.Es.raw
                (Z.E.mk { cps := #[78, 111, 67, 111, 117, 110, 116, 115] } none (Z.Es.nil))
                (Z.Es.raw
                  (Z.E.mk { cps := #[78, 111, 76, 111, 116] } none (Z.Es.nil))
                  (Z.Es.raw
                    (Z.E.mk { cps := #[85, 110, 102, 105, 116] } none (Z.Es.nil))
                    (Z.Es.raw
                      (Z.E.mk { cps := #[66, 97, 100, 84, 101, 120, 116] } none (Z.Es.nil))
                      (Z.Es.raw
                        (Z.E.mk
                          { cps := #[66, 97, 100, 76, 105, 110, 101] }
                          (some { cps := #[110, 117, 109, 98, 101, 114] })
                          (Z.Es.raw (Z.E.v 2) (Z.Es.nil)))
                        (Z.Es.nil)))))))))))
    (Z.Ss.cons
      (Z.S.fr
        (Z.Tg.t (Z.Tgs.cons (Z.Tg.n 5) (Z.Tgs.cons (Z.Tg.n 6) (Z.Tgs.nil))))
        (Z.It.enm (Z.E.v 3))
        (Z.Ss.cons
          (Z.S.ite
            (Z.Te.not
              (Z.Te.val
                (Z.E.fn
                  4
                  (Z.Es.raw
                    (Z.E.fn 5 (Z.Es.raw (Z.E.v 6) (Z.Es.nil)))
                    (Z.Es.raw
                      (Z.E.lc
                        [7]
                        (Z.Tg.n 7)
                        (Z.It.rng (Z.Es.cons (Z.E.c (Z.D.int 13)) (Z.Es.nil)))
                        (Z.Tes.nil)
                        (Z.E.cmp (PySem.CmpOp.Eq) (Z.E.v 7) (Z.E.v 5)))
                      (Z.Es.nil))))))
            (Z.Ss.cons (Z.S.ret (Z.E.c (Z.D.bl false))) (Z.Ss.nil))
            (Z.Ss.nil))
          (Z.Ss.cons
            (Z.S.ite
              (Z.Te.not
                (Z.Te.val
                  (Z.E.fn
                    4
                    (Z.Es.raw
                      (Z.E.lst
                        (Z.Es.raw
                          (Z.E.isx
                            (Z.E.v 6)
                            [{ cps := #[78, 111, 66, 108, 111, 99, 107] },
                             { cps := #[78, 111, 69, 100, 103, 101] },
                             { cps := #[78, 111, 78, 117, 109, 98, 101, 114] },
                             { cps := #[78, 111, 68, 97, 121] },
                             { cps := #[78, 111, 116, 104, 105, 110, 103, 68, 111, 110, 101] }]
                            [{ cps := #[78, 111, 66, 108, 111, 99, 107] },
                             { cps := #[78, 111, 69, 100, 103, 101] },
                             { cps := #[78, 111, 78, 117, 109, 98, 101, 114] },
                             { cps := #[78, 111, 68, 97, 121] },
                             { cps := #[78, 111, 116, 104, 105, 110, 103, 68, 111, 110, 101] },
                             { cps := #[75, 110, 111, 119, 110] },
                             { cps := #[84, 119, 105, 99, 101] },
                             { cps := #[78, 111, 71, 114, 97, 112, 104] },
                             { cps := #[78, 111, 67, 111, 117, 110, 116, 115] },
                             { cps := #[78, 111, 76, 111, 116] },
                             { cps := #[85, 110, 102, 105, 116] },
                             { cps := #[66, 97, 100, 84, 101, 120, 116] },
                             { cps := #[66, 97, 100, 76, 105, 110, 101] }])
                          (Z.Es.raw
                            (Z.E.isx
                              (Z.E.v 6)
                              [{ cps := #[75, 110, 111, 119, 110] },
                               { cps := #[84, 119, 105, 99, 101] },
                               { cps := #[78, 111, 71, 114, 97, 112, 104] },
                               { cps := #[78, 111, 67, 111, 117, 110, 116, 115] },
                               { cps := #[78, 111, 76, 111, 116] },
                               { cps := #[85, 110, 102, 105, 116] },
                               { cps := #[66, 97, 100, 84, 101, 120, 116] },
                               { cps := #[66, 97, 100, 76, 105, 110, 101] }]
                              [{ cps := #[78, 111, 66, 108, 111, 99, 107] },
                               { cps := #[78, 111, 69, 100, 103, 101] },
                               { cps := #[78, 111, 78, 117, 109, 98, 101, 114] },
                               { cps := #[78, 111, 68, 97, 121] },
                               { cps := #[78, 111, 116, 104, 105, 110, 103, 68, 111, 110, 101] },
                               { cps := #[75, 110, 111, 119, 110] },
                               { cps := #[84, 119, 105, 99, 101] },
                               { cps := #[78, 111, 71, 114, 97, 112, 104] },
                               { cps := #[78, 111, 67, 111, 117, 110, 116, 115] },
                               { cps := #[78, 111, 76, 111, 116] },
                               { cps := #[85, 110, 102, 105, 116] },
                               { cps := #[66, 97, 100, 84, 101, 120, 116] },
                               { cps := #[66, 97, 100, 76, 105, 110, 101] }])
                            (Z.Es.nil))))
                      (Z.Es.raw
                        (Z.E.lst
                          (Z.Es.raw
                            (Z.E.cmp (PySem.CmpOp.Lt) (Z.E.v 5) (Z.E.c (Z.D.int 5)))
                            (Z.Es.raw (Z.E.cmp (PySem.CmpOp.GtE) (Z.E.v 5) (Z.E.c (Z.D.int 5))) (Z.Es.nil))))
                        (Z.Es.nil))))))
              (Z.Ss.cons (Z.S.ret (Z.E.c (Z.D.bl false))) (Z.Ss.nil))
              (Z.Ss.nil))
            (Z.Ss.cons
              (Z.S.ite
                (Z.Te.or
                  (Z.Te.val
                    (Z.E.isx
                      (Z.E.v 6)
                      []
                      [{ cps := #[78, 111, 66, 108, 111, 99, 107] },
                       { cps := #[78, 111, 69, 100, 103, 101] },
                       { cps := #[78, 111, 78, 117, 109, 98, 101, 114] },
                       { cps := #[78, 111, 68, 97, 121] },
                       { cps := #[78, 111, 116, 104, 105, 110, 103, 68, 111, 110, 101] },
                       { cps := #[75, 110, 111, 119, 110] },
                       { cps := #[84, 119, 105, 99, 101] },
                       { cps := #[78, 111, 71, 114, 97, 112, 104] },
                       { cps := #[78, 111, 67, 111, 117, 110, 116, 115] },
                       { cps := #[78, 111, 76, 111, 116] },
                       { cps := #[85, 110, 102, 105, 116] },
                       { cps := #[66, 97, 100, 84, 101, 120, 116] },
                       { cps := #[66, 97, 100, 76, 105, 110, 101] }]))
                  (Z.Te.val
                    (Z.E.isx
                      (Z.E.v 6)
                      []
                      [{ cps := #[78, 111, 66, 108, 111, 99, 107] },
                       { cps := #[78, 111, 69, 100, 103, 101] },
                       { cps := #[78, 111, 78, 117, 109, 98, 101, 114] },
                       { cps := #[78, 111, 68, 97, 121] },
                       { cps := #[78, 111, 116, 104, 105, 110, 103, 68, 111, 110, 101] },
                       { cps := #[75, 110, 111, 119, 110] },
                       { cps := #[84, 119, 105, 99, 101] },
                       { cps := #[78, 111, 71, 114, 97, 112, 104] },
                       { cps := #[78, 111, 67, 111, 117, 110, 116, 115] },
                       { cps := #[78, 111, 76, 111, 116] },
                       { cps := #[85, 110, 102, 105, 116] },
                       { cps := #[66, 97, 100, 84, 101, 120, 116] },
                       { cps := #[66, 97, 100, 76, 105, 110, 101] }])))
                (Z.Ss.cons (Z.S.ret (Z.E.c (Z.D.bl false))) (Z.Ss.nil))
                (Z.Ss.nil))
              (Z.Ss.nil)))))
      (Z.Ss.cons
        (Z.S.as
          (Z.Tg.n 4)
          (Z.E.lst
            (Z.Es.raw
              (Z.E.fld
                (Z.E.subv 3 (Z.E.c (Z.D.int 0)))
                { cps := #[98, 108, 111, 99, 107] }
                [{ cps := #[78, 111, 66, 108, 111, 99, 107] }])
              (Z.Es.raw
                (Z.E.fld
                  (Z.E.subv 3 (Z.E.c (Z.D.int 1)))
                  { cps := #[101, 100, 103, 101] }
                  [{ cps := #[78, 111, 69, 100, 103, 101] }, { cps := #[75, 110, 111, 119, 110] }])
                (Z.Es.raw
                  (Z.E.fld
                    (Z.E.subv 3 (Z.E.c (Z.D.int 2)))
                    { cps := #[110, 117, 109, 98, 101, 114] }
                    [{ cps := #[78, 111, 78, 117, 109, 98, 101, 114] }, { cps := #[66, 97, 100, 76, 105, 110, 101] }])
                  (Z.Es.raw
                    (Z.E.fld
                      (Z.E.subv 3 (Z.E.c (Z.D.int 3)))
                      { cps := #[100, 97, 121] }
                      [{ cps := #[78, 111, 68, 97, 121] }])
                    (Z.Es.raw
                      (Z.E.fld
                        (Z.E.subv 3 (Z.E.c (Z.D.int 5)))
                        { cps := #[101, 100, 103, 101] }
                        [{ cps := #[78, 111, 69, 100, 103, 101] }, { cps := #[75, 110, 111, 119, 110] }])
                      (Z.Es.raw
                        (Z.E.fld
                          (Z.E.subv 3 (Z.E.c (Z.D.int 6)))
                          { cps := #[110, 97, 109, 101] }
                          [{ cps := #[84, 119, 105, 99, 101] }])
                        (Z.Es.raw
                          (Z.E.fld
                            (Z.E.subv 3 (Z.E.c (Z.D.int 12)))
                            { cps := #[110, 117, 109, 98, 101, 114] }
                            [{ cps := #[78, 111, 78, 117, 109, 98, 101, 114] },
                             { cps := #[66, 97, 100, 76, 105, 110, 101] }])
                          (Z.Es.nil))))))))))
        (Z.Ss.cons
          (Z.S.as
            (Z.Tg.n 4)
            (Z.E.bin
              (PySem.Operator.Add)
              (Z.E.v 4)
              (Z.E.lst
                (Z.Es.raw
                  (Z.E.fld
                    (Z.E.mk
                      { cps := #[78, 111, 66, 108, 111, 99, 107] }
                      (some { cps := #[98, 108, 111, 99, 107] })
                      (Z.Es.raw (Z.E.v 0) (Z.Es.nil)))
                    { cps := #[98, 108, 111, 99, 107] }
                    [{ cps := #[78, 111, 66, 108, 111, 99, 107] }])
                  (Z.Es.raw
                    (Z.E.fld
                      (Z.E.mk
                        { cps := #[78, 111, 69, 100, 103, 101] }
                        (some { cps := #[101, 100, 103, 101] })
                        (Z.Es.raw (Z.E.v 1) (Z.Es.nil)))
                      { cps := #[101, 100, 103, 101] }
                      [{ cps := #[78, 111, 69, 100, 103, 101] }, { cps := #[75, 110, 111, 119, 110] }])
                    (Z.Es.raw
                      (Z.E.fld
                        (Z.E.mk
                          { cps := #[78, 111, 78, 117, 109, 98, 101, 114] }
                          (some { cps := #[110, 117, 109, 98, 101, 114] })
                          (Z.Es.raw (Z.E.v 2) (Z.Es.nil)))
                        { cps := #[110, 117, 109, 98, 101, 114] }
                        [{ cps := #[78, 111, 78, 117, 109, 98, 101, 114] },
                         { cps := #[66, 97, 100, 76, 105, 110, 101] }])
                      (Z.Es.nil)))))))
          (Z.Ss.cons
            (Z.S.as
              (Z.Tg.n 4)
              (Z.E.bin
                (PySem.Operator.Add)
                (Z.E.v 4)
                (Z.E.lst
                  (Z.Es.raw
                    (Z.E.fld
                      (Z.E.mk
                        { cps := #[78, 111, 68, 97, 121] }
                        (some { cps := #[100, 97, 121] })
                        (Z.Es.raw (Z.E.v 2) (Z.Es.nil)))
                      { cps := #[100, 97, 121] }
                      [{ cps := #[78, 111, 68, 97, 121] }])
                    (Z.Es.raw
                      (Z.E.fld
                        (Z.E.mk
                          { cps := #[75, 110, 111, 119, 110] }
                          (some { cps := #[101, 100, 103, 101] })
                          (Z.Es.raw (Z.E.v 1) (Z.Es.nil)))
                        { cps := #[101, 100, 103, 101] }
                        [{ cps := #[78, 111, 69, 100, 103, 101] }, { cps := #[75, 110, 111, 119, 110] }])
                      (Z.Es.raw
                        (Z.E.fld
                          (Z.E.mk
                            { cps := #[84, 119, 105, 99, 101] }
                            (some { cps := #[110, 97, 109, 101] })
                            (Z.Es.raw (Z.E.v 0) (Z.Es.nil)))
                          { cps := #[110, 97, 109, 101] }
                          [{ cps := #[84, 119, 105, 99, 101] }])
                        (Z.Es.nil)))))))
            (Z.Ss.cons
              (Z.S.ap
                4
                (Z.E.fld
                  (Z.E.mk
                    { cps := #[66, 97, 100, 76, 105, 110, 101] }
                    (some { cps := #[110, 117, 109, 98, 101, 114] })
                    (Z.Es.raw (Z.E.v 2) (Z.Es.nil)))
                  { cps := #[110, 117, 109, 98, 101, 114] }
                  [{ cps := #[78, 111, 78, 117, 109, 98, 101, 114] }, { cps := #[66, 97, 100, 76, 105, 110, 101] }]))
              (Z.Ss.cons
                (Z.S.ret
                  (Z.E.fn
                    4
                    (Z.Es.raw
                      (Z.E.v 4)
                      (Z.Es.raw
                        (Z.E.bin
                          (PySem.Operator.Mult)
                          (Z.E.lst
                            (Z.Es.raw
                              (Z.E.v 0)
                              (Z.Es.raw
                                (Z.E.v 1)
                                (Z.Es.raw
                                  (Z.E.v 2)
                                  (Z.Es.raw
                                    (Z.E.v 2)
                                    (Z.Es.raw (Z.E.v 1) (Z.Es.raw (Z.E.v 0) (Z.Es.raw (Z.E.v 2) (Z.Es.nil)))))))))
                          (Z.E.c (Z.D.int 2)))
                        (Z.Es.nil)))))
                (Z.Ss.nil))))))))
def b7 : Ss := Z.Ss.cons
  (Z.S.ret
    (Z.E.and
      (Z.E.fn
        6
        (Z.Es.raw
          (Z.E.c (Z.D.str { cps := #[97] }))
          (Z.Es.raw
            (Z.E.tup
              (Z.Es.cons (Z.E.c (Z.D.str { cps := #[97] })) (Z.Es.cons (Z.E.c (Z.D.str { cps := #[98] })) (Z.Es.nil))))
            (Z.Es.raw (Z.E.c (Z.D.int 0)) (Z.Es.nil)))))
      (Z.E.fn
        6
        (Z.Es.raw
          (Z.E.c (Z.D.str { cps := #[122, 122, 122, 122, 122, 122, 122, 122] }))
          (Z.Es.raw
            (Z.E.tup
              (Z.Es.cons
                (Z.E.c (Z.D.str { cps := #[115] }))
                (Z.Es.cons (Z.E.c (Z.D.str { cps := #[122, 122] })) (Z.Es.nil))))
            (Z.Es.raw (Z.E.bin (PySem.Operator.Pow) (Z.E.c (Z.D.int 10)) (Z.E.c (Z.D.int 30))) (Z.Es.nil)))))))
  (Z.Ss.nil)
def b8 : Ss := Z.Ss.cons
  (Z.S.fr
    (Z.Tg.n 1)
    (Z.It.rng (Z.Es.cons (Z.E.c (Z.D.int 4)) (Z.Es.nil)))
    (Z.Ss.cons
      (Z.S.par
        [2, 3]
        (Z.Es.raw
          (Z.E.fn
            3
            (Z.Es.bw
              0
              (Z.Es.raw
                (Z.E.lst
                  (Z.Es.raw
                    (Z.E.c (Z.D.str { cps := #[97] }))
                    (Z.Es.raw
                      (Z.E.c (Z.D.str { cps := #[99, 111, 114, 101] }))
                      (Z.Es.raw (Z.E.c (Z.D.str { cps := #[122, 122] })) (Z.Es.nil)))))
                (Z.Es.nil))))
          (Z.Es.raw
            (Z.E.fn
              3
              (Z.Es.bw
                0
                (Z.Es.raw
                  (Z.E.lst
                    (Z.Es.raw
                      (Z.E.c (Z.D.str { cps := #[109] }))
                      (Z.Es.raw
                        (Z.E.c (Z.D.str { cps := #[98] }))
                        (Z.Es.raw (Z.E.c (Z.D.str { cps := #[114, 101, 97, 100] })) (Z.Es.nil)))))
                  (Z.Es.nil))))
            (Z.Es.nil))))
      (Z.Ss.cons
        (Z.S.ite
          (Z.Te.not
            (Z.Te.val
              (Z.E.fn
                6
                (Z.Es.raw
                  (Z.E.v 2)
                  (Z.Es.raw
                    (Z.E.tup (Z.Es.cons (Z.E.v 2) (Z.Es.cons (Z.E.v 3) (Z.Es.nil))))
                    (Z.Es.raw
                      (Z.E.bin
                        (PySem.Operator.Sub)
                        (Z.E.fn
                          1
                          (Z.Es.bw
                            0
                            (Z.Es.raw
                              (Z.E.bin (PySem.Operator.Pow) (Z.E.c (Z.D.int 10)) (Z.E.c (Z.D.int 9)))
                              (Z.Es.nil))))
                        (Z.E.bin (PySem.Operator.Pow) (Z.E.c (Z.D.int 10)) (Z.E.c (Z.D.int 8))))
                      (Z.Es.nil)))))))
          (Z.Ss.cons (Z.S.ret (Z.E.c (Z.D.bl false))) (Z.Ss.nil))
          (Z.Ss.nil))
        (Z.Ss.nil))))
  (Z.Ss.cons (Z.S.ret (Z.E.c (Z.D.bl true))) (Z.Ss.nil))
def b9 : Ss := Z.Ss.cons
  (Z.S.ite
    (Z.Te.not (Z.Te.val (Z.E.fn 7 (Z.Es.nil))))
    (Z.Ss.cons (Z.S.ret (Z.E.c (Z.D.bl false))) (Z.Ss.nil))
    (Z.Ss.nil))
  (Z.Ss.cons
    (Z.S.as (Z.Tg.n 1) (Z.E.fn 2 (Z.Es.raw (Z.E.v 0) (Z.Es.raw (Z.E.c (Z.D.int 3)) (Z.Es.nil)))))
    (Z.Ss.cons
      (Z.S.ret
        (Z.E.bi
          (Z.Bi.all)
          (Z.Es.cons
            (Z.E.lc
              [2]
              (Z.Tg.n 2)
              (Z.It.rng (Z.Es.cons (Z.E.lenv 1) (Z.Es.nil)))
              (Z.Tes.nil)
              (Z.E.fn 8 (Z.Es.raw (Z.E.fn 0 (Z.Es.raw (Z.E.v 1) (Z.Es.raw (Z.E.v 2) (Z.Es.nil)))) (Z.Es.nil))))
            (Z.Es.nil))))
      (Z.Ss.nil)))
def fs : List Fd := [⟨2, 3, [], b0⟩, ⟨2, 6, [0], b1⟩, ⟨2, 6, [], b2⟩, ⟨2, 2, [0], b3⟩, ⟨2, 4, [], b4⟩, ⟨1, 2, [], b5⟩, ⟨3, 8, [], b6⟩, ⟨0, 0, [], b7⟩, ⟨1, 4, [0], b8⟩, ⟨1, 3, [], b9⟩]
theorem hc : cDs ds xs 60 ds = some fs := by kernel_rfl
end P00

set_option Elab.async false
set_option linter.all false
set_option autoImplicit false
set_option maxRecDepth 100000
set_option maxHeartbeats 4000000
/-! N00: law k00, whole. -/
namespace M
open PySem PySem.Spec PyProof.Rows L2 Z
def tk : Nat → Ss → Ss
  | 0, _ => .nil
  | _, .nil => .nil
  | n + 1, .cons s r => .cons s (tk n r)
def dp : Nat → Ss → Ss
  | 0, s => s
  | _, .nil => .nil
  | n + 1, .cons s r => dp n r
theorem dSs_cut (T : Tab) : ∀ (n : Nat) (s : Ss) (e : Ev), dSs T s e = match dSs T (tk n s) e with
    | .ok .nx e1 => dSs T (dp n s) e1
    | o => o
  | 0, s, e => by rw [tk, dSs]; rfl
  | n + 1, .nil, e => by
    have h1 : tk (n + 1) .nil = .nil := rfl
    have h2 : dp (n + 1) .nil = .nil := rfl
    rw [h1, h2, dSs]
    dsimp only
    rw [dSs]
  | n + 1, .cons s r, e => by
    rw [tk, dSs, dSs]
    cases h : dS T s e with
    | ok f e1 =>
      cases f with
      | nx => exact dSs_cut T n r e1
      | _ => rfl
    | _ => rfl
theorem cut_ok {T : Tab} {n : Nat} {s : Ss} {e e1 : Ev} {r : R Fl} (h : dSs T (tk n s) e = .ok .nx e1) (h2 : dSs T (dp n s) e1 = r) : dSs T s e = r := by
  rw [dSs_cut T n s e, h]
  exact h2
end M
namespace P00
open PySem PySem.Spec PyProof.Rows L2 Z M
def every (x y : Str) (n : Int) : List D := [.obf "NoBlock" "block" (.str x), .obf "NoEdge" "edge" (.tup [.str x, .str y]), .obf "NoNumber" "number" (.int n), .obf "NoDay" "day" (.int n), .ob "NothingDone", .obf "Known" "edge" (.tup [.str x, .str y]), .obf "Twice" "name" (.str x), .ob "NoGraph", .ob "NoCounts", .ob "NoLot", .ob "Unfit", .ob "BadText", .obf "BadLine" "number" (.int n)]
def gots (x y : Str) (n : Int) : List D := [.str x, .tup [.str x, .str y], .int n, .int n, .tup [.str x, .str y], .str x, .int n, .str x, .tup [.str x, .str y], .int n, .int n, .tup [.str x, .str y], .str x, .int n]
def e7 (x y : Str) (n : Int) : Ev := [some (.str x), some (.tup [.str x, .str y]), some (.int n), some (.lst false (every x y n)), some (.lst true (gots x y n)), some (.int 12), some (.obf "BadLine" "number" (.int n)), none]
theorem s7 (x y : Str) (n : Int) : dSs (tab fs 9) (tk 7 b6) [some (.str x), some (.tup [.str x, .str y]), some (.int n), none, none, none, none, none] = .ok .nx (e7 x y n) := by kernel_rfl
theorem pl_gots {x y : Str} (hx : PyData.strOk x = true) (hy : PyData.strOk y = true) (n : Int) : pl 2 (.lst false (gots x y n)) = true := by
  simp [gots, pl, hx, hy]
theorem h4 : fs[4]? = some ⟨2, 4, [], bSame 4⟩ := rfl
def arg8 : Es := .raw (.v 4) (.raw (.bin .Mult (.lst (.raw (.v 0) (.raw (.v 1) (.raw (.v 2) (.raw (.v 2) (.raw (.v 1) (.raw (.v 0) (.raw (.v 2) .nil)))))))) (.c (.int 2))) .nil)
def ev8 (x y : Str) (n : Int) : Ev := [some (.str x), some (.tup [.str x, .str y]), some (.int n), some (.lst false (every x y n)), some (.lst false (gots x y n)), some (.int 12), some (.obf "BadLine" "number" (.int n)), none]
theorem dp8 : dp 7 b6 = .cons (.ret (.fn 4 arg8)) .nil := by kernel_rfl
theorem aE8 (T : Tab) (x y : Str) (n : Int) : dEs T arg8 (e7 x y n) = .ok [.inl (.lst false (gots x y n)), .inl (.lst true (gots x y n))] (ev8 x y n) := by kernel_rfl
theorem t6 {x y : Str} (hx : PyData.strOk x = true) (hy : PyData.strOk y = true) (n : Int) : tab fs 10 6 [.str x, .tup [.str x, .str y], .int n] = .ok (.bl true) [none, none, none] := by
  have hs := same_refl_lst (fs := fs) (j := 4) h4 1 false true _ (pl_gots hx hy n) 8 (by decide)
  have h8 : dSs (tab fs 9) (dp 7 b6) (e7 x y n) = .ok (.rt (.bl true)) (ev8 x y n) := by
    rw [dp8, dSs, dS, dE, aE8]
    simp only [M.bind_ok, takeB, Option.map_some, hs]
    rfl
  rw [tab, show fs[6]? = some ⟨3, 8, [], b6⟩ from rfl]
  exact run_rt (F := ⟨3, 8, [], b6⟩) rfl (cut_ok (s7 x y n) h8)
theorem t7 : tab fs 11 7 [] = .ok (.bl true) [] := by kernel_rfl
theorem tag_ok : ∀ z, .str z ∈ tags ∨ .str z ∈ fars → PyData.strOk z = true := by
  intro z h
  simp only [tags, fars, List.mem_cons, List.not_mem_nil, or_false, D.str.injEq] at h
  rcases h with (rfl | rfl | rfl) | (rfl | rfl | rfl) <;> decide +kernel
theorem tb : Tb (tab fs 10) where
  t3 := of_fn (fs := fs) rfl rfl 8
  t1 := take_fn (fs := fs) rfl 9
  t6 := by
    intro x hx y hy n
    obtain ⟨a, rfl⟩ := str_of (.inl hx)
    obtain ⟨b, rfl⟩ := str_of (.inr hy)
    exact t6 (tag_ok a (.inl hx)) (tag_ok b (.inr hy)) n
theorem tl : Tl (tab fs 11) where
  t7 := t7
  t2 := by
    intro ns hl
    obtain ⟨cs, c1, c2, e, h⟩ := cells_run (tab fs 10) ns hl
    refine ⟨cs, c1, c2, ?_⟩
    rw [tab, show fs[2]? = some ⟨2, 6, [], bCells⟩ from rfl]
    exact run_rt (F := ⟨2, 6, [], bCells⟩) rfl h
  t0 := box_fn (fs := fs) rfl 10
  t8 := by
    intro a b hb
    obtain ⟨e, h⟩ := right_run (tab fs 10) tb a b hb
    refine ⟨rd 0 e, ?_⟩
    rw [tab, show fs[8]? = some ⟨1, 4, [0], bRight⟩ from rfl]
    exact run_rt (F := ⟨1, 4, [0], bRight⟩) rfl h
theorem main (ns : List Int) (hl : ns.length ≤ 63) : ∃ ps, tab fs 12 9 [.lck (ns.map D.int)] = .ok (.bl true) ps := by
  obtain ⟨e, h⟩ := law_run (tab fs 11) tl ns hl
  refine ⟨maskE ⟨1, 3, [], bLaw⟩ e, ?_⟩
  rw [tab, show fs[9]? = some ⟨1, 3, [], bLaw⟩ from rfl]
  exact run_rt (F := ⟨1, 3, [], bLaw⟩) rfl h
end P00

set_option Elab.async false
set_option linter.all false
set_option maxRecDepth 100000
set_option maxHeartbeats 4000000
namespace P00
open PySem PySem.Spec PyProof.Rows L2 Z
theorem hl0 : ∀ d ∈ ds, d.kws ≠ [] → d.ps ≠ [] := by decide +kernel
theorem kws (p : List Str → Prop) : ∀ ks ∈ ([] : List (List Str)), p ks := fun _ h => nomatch h
def clS (i j : Nat) : Stmt := match topS i with
  | .ClassDef _ _ _ b _ _ _ _ _ _ _ => b.getD j (.Pass ⟨0, 0, 0, 0⟩)
  | s => s
theorem xnd : (xs.map (·.c)).Nodup := by decide +kernel
set_option maxHeartbeats 0 in
theorem all_mk {P : Program} {w : World} {K : PySem.W.Frag} {h : Heap} {mg : Str → Option Value} {fa : Addr} (X : K.In h) (G : h.Ns mainGlobals mg) (hfa : mg "law" = some (.ref fa))
    {f0 f1 f2 f3 f4 f5 f6 f7 f8 f9 C0 F0 C1 F1 C2 F2 C3 F3 C4 F4 C5 F5 C6 F6 C7 F7 C8 F8 C9 F9 C10 F10 C11 F11 C12 F12 : Addr}
    {od0 an0 od1 an1 od2 an2 od3 an3 od4 an4 od5 an5 od6 an6 od7 an7 od8 an8 od9 an9 : Option Addr} {sl0 sl1 sl2 sl3 sl4 sl5 sl6 sl7 sl8 sl9 : Array (Option Value)} {oc0 kV0 dc0 pm0 cd0 ct0 oc1 kV1 dc1 pm1 cd1 ct1 oc2 kV2 dc2 pm2 cd2 ct2 oc3 kV3 dc3 pm3 cd3 ct3 oc4 kV4 dc4 pm4 cd4 ct4 oc5 kV5 dc5 pm5 cd5 ct5 oc6 kV6 dc6 pm6 cd6 ct6 oc7 kV7 dc7 pm7 cd7 ct7 oc8 kV8 dc8 pm8 cd8 ct8 oc9 kV9 dc9 pm9 cd9 ct9 : Value}
    {nm0 q0 nm1 q1 nm2 q2 nm3 q3 nm4 q4 nm5 q5 nm6 q6 nm7 q7 nm8 q8 nm9 q9 nm10 q10 nm11 q11 nm12 q12 : Str} {N0 N1 N2 N3 N4 N5 N6 N7 N8 N9 N10 N11 N12 : Addr} {bs0 sub0 bs1 sub1 bs2 sub2 bs3 sub3 bs4 sub4 bs5 sub5 bs6 sub6 bs7 sub7 bs8 sub8 bs9 sub9 bs10 sub10 bs11 sub11 bs12 sub12 : List Value} {sn0 sn1 sn2 sn3 sn4 sn5 sn6 sn7 sn8 sn9 sn10 sn11 sn12 : List Str} {ab0 ab1 ab2 ab3 ab4 ab5 ab6 ab7 ab8 ab9 ab10 ab11 ab12 : Bool} {co0 co1 co2 co3 co4 co5 co6 co7 co8 co9 co10 co11 co12 : Option Bool} {dd0 od_0 an_0 dd1 od_1 an_1 dd2 od_2 an_2 dd3 od_3 an_3 dd4 od_4 an_4 dd5 od_5 an_5 dd6 od_6 an_6 dd7 od_7 an_7 dd8 od_8 an_8 dd9 od_9 an_9 dd10 od_10 an_10 dd11 od_11 an_11 dd12 od_12 an_12 : Option Addr} {m0100 m1100 m2100 m3100 m5100 m0101 m1101 m2101 m3101 m5101 m0102 m1102 m2102 m3102 m5102 m0103 m1103 m2103 m3103 m5103 m0104 m1104 m2104 m3104 m5104 m0105 m1105 m2105 m3105 m5105 m0106 m1106 m2106 m3106 m5106 m0107 m1107 m2107 m3107 m5107 m0108 m1108 m2108 m3108 m5108 m0109 m1109 m2109 m3109 m5109 m0110 m1110 m2110 m3110 m5110 m0111 m1111 m2111 m3111 m5111 m0112 m1112 m2112 m3112 m5112 : Option Value} {oc_0 kV_0 dc_0 pm_0 cd_0 ct_0 oc_1 kV_1 dc_1 pm_1 cd_1 ct_1 oc_2 kV_2 dc_2 pm_2 cd_2 ct_2 oc_3 kV_3 dc_3 pm_3 cd_3 ct_3 oc_4 kV_4 dc_4 pm_4 cd_4 ct_4 oc_5 kV_5 dc_5 pm_5 cd_5 ct_5 oc_6 kV_6 dc_6 pm_6 cd_6 ct_6 oc_7 kV_7 dc_7 pm_7 cd_7 ct_7 oc_8 kV_8 dc_8 pm_8 cd_8 ct_8 oc_9 kV_9 dc_9 pm_9 cd_9 ct_9 oc_10 kV_10 dc_10 pm_10 cd_10 ct_10 oc_11 kV_11 dc_11 pm_11 cd_11 ct_11 oc_12 kV_12 dc_12 pm_12 cd_12 ct_12 : Value} {sl_0 sl_1 sl_2 sl_3 sl_4 sl_5 sl_6 sl_7 sl_8 sl_9 sl_10 sl_11 sl_12 : Array (Option Value)}
    (a0 : PySem.W.nsIn K mainGlobals "_law_box" = some (some (.ref f0)))
    (l0 : K.lookup f0 = some ⟨oc0, od0, .func (PySem.W.fnOf "_law_box" "_law_box" (defArgs (topS 15)) (defBody (topS 15)) (defScope (topS 15)) .none kV0 dc0 pm0 an0 cd0 ct0), sl0⟩)
    (c0 : PySem.W.codeIn K cd0 "_law_box" = true)
    (k0 : PySem.W.keepIn K (.ref f0) = true)
    (a1 : PySem.W.nsIn K mainGlobals "_law_take" = some (some (.ref f1)))
    (l1 : K.lookup f1 = some ⟨oc1, od1, .func (PySem.W.fnOf "_law_take" "_law_take" (defArgs (topS 16)) (defBody (topS 16)) (defScope (topS 16)) .none kV1 dc1 pm1 an1 cd1 ct1), sl1⟩)
    (c1 : PySem.W.codeIn K cd1 "_law_take" = true)
    (k1 : PySem.W.keepIn K (.ref f1) = true)
    (a2 : PySem.W.nsIn K mainGlobals "_law_cells" = some (some (.ref f2)))
    (l2 : K.lookup f2 = some ⟨oc2, od2, .func (PySem.W.fnOf "_law_cells" "_law_cells" (defArgs (topS 17)) (defBody (topS 17)) (defScope (topS 17)) .none kV2 dc2 pm2 an2 cd2 ct2), sl2⟩)
    (c2 : PySem.W.codeIn K cd2 "_law_cells" = true)
    (k2 : PySem.W.keepIn K (.ref f2) = true)
    (a3 : PySem.W.nsIn K mainGlobals "_law_of" = some (some (.ref f3)))
    (l3 : K.lookup f3 = some ⟨oc3, od3, .func (PySem.W.fnOf "_law_of" "_law_of" (defArgs (topS 18)) (defBody (topS 18)) (defScope (topS 18)) .none kV3 dc3 pm3 an3 cd3 ct3), sl3⟩)
    (c3 : PySem.W.codeIn K cd3 "_law_of" = true)
    (k3 : PySem.W.keepIn K (.ref f3) = true)
    (a4 : PySem.W.nsIn K mainGlobals "_law_same" = some (some (.ref f4)))
    (l4 : K.lookup f4 = some ⟨oc4, od4, .func (PySem.W.fnOf "_law_same" "_law_same" (defArgs (topS 19)) (defBody (topS 19)) (defScope (topS 19)) .none kV4 dc4 pm4 an4 cd4 ct4), sl4⟩)
    (c4 : PySem.W.codeIn K cd4 "_law_same" = true)
    (k4 : PySem.W.keepIn K (.ref f4) = true)
    (a5 : PySem.W.nsIn K mainGlobals "_law_sorts" = some (some (.ref f5)))
    (l5 : K.lookup f5 = some ⟨oc5, od5, .func (PySem.W.fnOf "_law_sorts" "_law_sorts" (defArgs (topS 20)) (defBody (topS 20)) (defScope (topS 20)) .none kV5 dc5 pm5 an5 cd5 ct5), sl5⟩)
    (c5 : PySem.W.codeIn K cd5 "_law_sorts" = true)
    (k5 : PySem.W.keepIn K (.ref f5) = true)
    (a6 : PySem.W.nsIn K mainGlobals "_law_made_right" = some (some (.ref f6)))
    (l6 : K.lookup f6 = some ⟨oc6, od6, .func (PySem.W.fnOf "_law_made_right" "_law_made_right" (defArgs (topS 21)) (defBody (topS 21)) (defScope (topS 21)) .none kV6 dc6 pm6 an6 cd6 ct6), sl6⟩)
    (c6 : PySem.W.codeIn K cd6 "_law_made_right" = true)
    (k6 : PySem.W.keepIn K (.ref f6) = true)
    (a7 : PySem.W.nsIn K mainGlobals "_law_by_hand_right" = some (some (.ref f7)))
    (l7 : K.lookup f7 = some ⟨oc7, od7, .func (PySem.W.fnOf "_law_by_hand_right" "_law_by_hand_right" (defArgs (topS 22)) (defBody (topS 22)) (defScope (topS 22)) .none kV7 dc7 pm7 an7 cd7 ct7), sl7⟩)
    (c7 : PySem.W.codeIn K cd7 "_law_by_hand_right" = true)
    (k7 : PySem.W.keepIn K (.ref f7) = true)
    (a8 : PySem.W.nsIn K mainGlobals "_law_right" = some (some (.ref f8)))
    (l8 : K.lookup f8 = some ⟨oc8, od8, .func (PySem.W.fnOf "_law_right" "_law_right" (defArgs (topS 23)) (defBody (topS 23)) (defScope (topS 23)) .none kV8 dc8 pm8 an8 cd8 ct8), sl8⟩)
    (c8 : PySem.W.codeIn K cd8 "_law_right" = true)
    (k8 : PySem.W.keepIn K (.ref f8) = true)
    (a9 : PySem.W.nsIn K mainGlobals "law" = some (some (.ref f9)))
    (l9 : K.lookup f9 = some ⟨oc9, od9, .func (PySem.W.fnOf "law" "law" (defArgs (topS 24)) (defBody (topS 24)) (defScope (topS 24)) .none kV9 dc9 pm9 an9 cd9 ct9), sl9⟩)
    (c9 : PySem.W.codeIn K cd9 "law" = true)
    (k9 : PySem.W.keepIn K (.ref f9) = true)
    (z0 : PySem.W.nsIn K mainGlobals "len" = some none)
    (z1 : PySem.W.nsIn K mainGlobals "abs" = some none)
    (z2 : PySem.W.nsIn K mainGlobals "int" = some none)
    (z3 : PySem.W.nsIn K mainGlobals "bool" = some none)
    (z4 : PySem.W.nsIn K mainGlobals "sum" = some none)
    (z5 : PySem.W.nsIn K mainGlobals "min" = some none)
    (z6 : PySem.W.nsIn K mainGlobals "max" = some none)
    (z7 : PySem.W.nsIn K mainGlobals "sorted" = some none)
    (z8 : PySem.W.nsIn K mainGlobals "list" = some none)
    (z9 : PySem.W.nsIn K mainGlobals "tuple" = some none)
    (z10 : PySem.W.nsIn K mainGlobals "all" = some none)
    (z11 : PySem.W.nsIn K mainGlobals "any" = some none)
    (z12 : PySem.W.nsIn K mainGlobals "set" = some none)
    (z13 : PySem.W.nsIn K mainGlobals "str" = some none)
    (z14 : PySem.W.nsIn K mainGlobals "isinstance" = some none)
    (z15 : PySem.W.nsIn K mainGlobals "range" = some none)
    (z16 : PySem.W.nsIn K mainGlobals "enumerate" = some none)
    (z17 : PySem.W.nsIn K mainGlobals "zip" = some none)
    (z18 : PySem.W.nsIn K mainGlobals "dict" = some none)
    (z19 : PySem.W.nsIn K mainGlobals "reversed" = some none)
    (z20 : PySem.W.nsIn K mainGlobals "LookupError" = some none)
    (z21 : PySem.W.nsIn K mainGlobals "ValueError" = some none)
    (z22 : PySem.W.nsIn K mainGlobals "KeyError" = some none)
    (z23 : PySem.W.nsIn K mainGlobals "IndexError" = some none)
    (iL : PySem.W.findCls K (.type "LookupError") (.type "type") "__init__" = some (.val (.builtin "LookupError.__init__")))
    (iV : PySem.W.findCls K (.type "ValueError") (.type "type") "__init__" = some (.val (.builtin "ValueError.__init__")))
    (sp : PySem.W.specialIn K (.builtin "object.__class__") "__get__" = some (some (.builtin "getset_descriptor.__get__")))
    (tk : PySem.W.takesIn K (.builtin "object.__class__") = some true)
    (aC_0 : PySem.W.nsIn K mainGlobals "NoBlock" = some (some (.ref C0)))
    (xL_0 : K.lookup C0 = some (excClassObj nm0 q0 C0 N0 bs0 [.type "LookupError", .type "Exception", .type "BaseException", .type "object"] true sn0 sub0 ab0 co0 dd0 m0100 m1100 m2100 m3100 m5100 "LookupError.__new__"))
    (sa_0 : PySem.W.findIn K (.ref C0) "__setattr__" = some (some (.builtin "object.__setattr__")))
    (kp_0 : PySem.W.keepIn K (.ref C0) = true)
    (iC_0 : PySem.W.findIn K (.ref C0) "__init__" = some (some (.ref F0)))
    (tI_0 : PySem.W.typeIn K (.ref F0) = some (.type "function"))
    (lI_0 : K.lookup F0 = some ⟨oc_0, od_0, .func (PySem.W.fnOf "__init__" "NoBlock.__init__" (defArgs (clS 1 0)) (defBody (clS 1 0)) (defScope (clS 1 0)) .none kV_0 dc_0 pm_0 an_0 cd_0 ct_0), sl_0⟩)
    (cI_0 : PySem.W.codeIn K cd_0 "NoBlock.__init__" = true)
    (kf_0 : PySem.W.keepIn K (.ref F0) = true)
    (nf_0 : PySem.W.findIn K (.ref C0) "block" = some none)
    (ga_0 : PySem.W.findIn K (.ref C0) "__getattribute__" = some (some (.builtin "BaseException.__getattribute__")))
    (gg_0 : PySem.W.findIn K (.ref C0) "__getattr__" = some none)
    (sb_0 : PySem.W.subIn K (.ref C0) (.type "BaseException") = some true)
    (hd_0 : PySem.W.hasDictIn K C0 = true)
    (cl_0 : PySem.W.findIn K (.ref C0) "__class__" = some (some (.builtin "object.__class__")))
    (mo_0 : PySem.W.mroIn K C0 (.type "object") = some true)
    (u0_0 : PySem.W.subIn K (.ref C0) (.type "LookupError") = some true)
    (u1_0 : PySem.W.subIn K (.ref C0) (.type "ValueError") = some false)
    (u2_0 : PySem.W.subIn K (.ref C0) (.type "KeyError") = some false)
    (u3_0 : PySem.W.subIn K (.ref C0) (.type "IndexError") = some false)
    (ty_0 : PySem.W.typeIn K (.ref C0) = some (.type "type"))
    (aC_1 : PySem.W.nsIn K mainGlobals "NoEdge" = some (some (.ref C1)))
    (xL_1 : K.lookup C1 = some (excClassObj nm1 q1 C1 N1 bs1 [.type "LookupError", .type "Exception", .type "BaseException", .type "object"] true sn1 sub1 ab1 co1 dd1 m0101 m1101 m2101 m3101 m5101 "LookupError.__new__"))
    (sa_1 : PySem.W.findIn K (.ref C1) "__setattr__" = some (some (.builtin "object.__setattr__")))
    (kp_1 : PySem.W.keepIn K (.ref C1) = true)
    (iC_1 : PySem.W.findIn K (.ref C1) "__init__" = some (some (.ref F1)))
    (tI_1 : PySem.W.typeIn K (.ref F1) = some (.type "function"))
    (lI_1 : K.lookup F1 = some ⟨oc_1, od_1, .func (PySem.W.fnOf "__init__" "NoEdge.__init__" (defArgs (clS 2 0)) (defBody (clS 2 0)) (defScope (clS 2 0)) .none kV_1 dc_1 pm_1 an_1 cd_1 ct_1), sl_1⟩)
    (cI_1 : PySem.W.codeIn K cd_1 "NoEdge.__init__" = true)
    (kf_1 : PySem.W.keepIn K (.ref F1) = true)
    (nf_1 : PySem.W.findIn K (.ref C1) "edge" = some none)
    (ga_1 : PySem.W.findIn K (.ref C1) "__getattribute__" = some (some (.builtin "BaseException.__getattribute__")))
    (gg_1 : PySem.W.findIn K (.ref C1) "__getattr__" = some none)
    (sb_1 : PySem.W.subIn K (.ref C1) (.type "BaseException") = some true)
    (hd_1 : PySem.W.hasDictIn K C1 = true)
    (cl_1 : PySem.W.findIn K (.ref C1) "__class__" = some (some (.builtin "object.__class__")))
    (mo_1 : PySem.W.mroIn K C1 (.type "object") = some true)
    (u0_1 : PySem.W.subIn K (.ref C1) (.type "LookupError") = some true)
    (u1_1 : PySem.W.subIn K (.ref C1) (.type "ValueError") = some false)
    (u2_1 : PySem.W.subIn K (.ref C1) (.type "KeyError") = some false)
    (u3_1 : PySem.W.subIn K (.ref C1) (.type "IndexError") = some false)
    (ty_1 : PySem.W.typeIn K (.ref C1) = some (.type "type"))
    (aC_2 : PySem.W.nsIn K mainGlobals "NoNumber" = some (some (.ref C2)))
    (xL_2 : K.lookup C2 = some (excClassObj nm2 q2 C2 N2 bs2 [.type "LookupError", .type "Exception", .type "BaseException", .type "object"] true sn2 sub2 ab2 co2 dd2 m0102 m1102 m2102 m3102 m5102 "LookupError.__new__"))
    (sa_2 : PySem.W.findIn K (.ref C2) "__setattr__" = some (some (.builtin "object.__setattr__")))
    (kp_2 : PySem.W.keepIn K (.ref C2) = true)
    (iC_2 : PySem.W.findIn K (.ref C2) "__init__" = some (some (.ref F2)))
    (tI_2 : PySem.W.typeIn K (.ref F2) = some (.type "function"))
    (lI_2 : K.lookup F2 = some ⟨oc_2, od_2, .func (PySem.W.fnOf "__init__" "NoNumber.__init__" (defArgs (clS 3 0)) (defBody (clS 3 0)) (defScope (clS 3 0)) .none kV_2 dc_2 pm_2 an_2 cd_2 ct_2), sl_2⟩)
    (cI_2 : PySem.W.codeIn K cd_2 "NoNumber.__init__" = true)
    (kf_2 : PySem.W.keepIn K (.ref F2) = true)
    (nf_2 : PySem.W.findIn K (.ref C2) "number" = some none)
    (ga_2 : PySem.W.findIn K (.ref C2) "__getattribute__" = some (some (.builtin "BaseException.__getattribute__")))
    (gg_2 : PySem.W.findIn K (.ref C2) "__getattr__" = some none)
    (sb_2 : PySem.W.subIn K (.ref C2) (.type "BaseException") = some true)
    (hd_2 : PySem.W.hasDictIn K C2 = true)
    (cl_2 : PySem.W.findIn K (.ref C2) "__class__" = some (some (.builtin "object.__class__")))
    (mo_2 : PySem.W.mroIn K C2 (.type "object") = some true)
    (u0_2 : PySem.W.subIn K (.ref C2) (.type "LookupError") = some true)
    (u1_2 : PySem.W.subIn K (.ref C2) (.type "ValueError") = some false)
    (u2_2 : PySem.W.subIn K (.ref C2) (.type "KeyError") = some false)
    (u3_2 : PySem.W.subIn K (.ref C2) (.type "IndexError") = some false)
    (ty_2 : PySem.W.typeIn K (.ref C2) = some (.type "type"))
    (aC_3 : PySem.W.nsIn K mainGlobals "NoDay" = some (some (.ref C3)))
    (xL_3 : K.lookup C3 = some (excClassObj nm3 q3 C3 N3 bs3 [.type "LookupError", .type "Exception", .type "BaseException", .type "object"] true sn3 sub3 ab3 co3 dd3 m0103 m1103 m2103 m3103 m5103 "LookupError.__new__"))
    (sa_3 : PySem.W.findIn K (.ref C3) "__setattr__" = some (some (.builtin "object.__setattr__")))
    (kp_3 : PySem.W.keepIn K (.ref C3) = true)
    (iC_3 : PySem.W.findIn K (.ref C3) "__init__" = some (some (.ref F3)))
    (tI_3 : PySem.W.typeIn K (.ref F3) = some (.type "function"))
    (lI_3 : K.lookup F3 = some ⟨oc_3, od_3, .func (PySem.W.fnOf "__init__" "NoDay.__init__" (defArgs (clS 4 0)) (defBody (clS 4 0)) (defScope (clS 4 0)) .none kV_3 dc_3 pm_3 an_3 cd_3 ct_3), sl_3⟩)
    (cI_3 : PySem.W.codeIn K cd_3 "NoDay.__init__" = true)
    (kf_3 : PySem.W.keepIn K (.ref F3) = true)
    (nf_3 : PySem.W.findIn K (.ref C3) "day" = some none)
    (ga_3 : PySem.W.findIn K (.ref C3) "__getattribute__" = some (some (.builtin "BaseException.__getattribute__")))
    (gg_3 : PySem.W.findIn K (.ref C3) "__getattr__" = some none)
    (sb_3 : PySem.W.subIn K (.ref C3) (.type "BaseException") = some true)
    (hd_3 : PySem.W.hasDictIn K C3 = true)
    (cl_3 : PySem.W.findIn K (.ref C3) "__class__" = some (some (.builtin "object.__class__")))
    (mo_3 : PySem.W.mroIn K C3 (.type "object") = some true)
    (u0_3 : PySem.W.subIn K (.ref C3) (.type "LookupError") = some true)
    (u1_3 : PySem.W.subIn K (.ref C3) (.type "ValueError") = some false)
    (u2_3 : PySem.W.subIn K (.ref C3) (.type "KeyError") = some false)
    (u3_3 : PySem.W.subIn K (.ref C3) (.type "IndexError") = some false)
    (ty_3 : PySem.W.typeIn K (.ref C3) = some (.type "type"))
    (aC_4 : PySem.W.nsIn K mainGlobals "NothingDone" = some (some (.ref C4)))
    (xL_4 : K.lookup C4 = some (excClassObj nm4 q4 C4 N4 bs4 [.type "LookupError", .type "Exception", .type "BaseException", .type "object"] true sn4 sub4 ab4 co4 dd4 m0104 m1104 m2104 m3104 m5104 "LookupError.__new__"))
    (sa_4 : PySem.W.findIn K (.ref C4) "__setattr__" = some (some (.builtin "object.__setattr__")))
    (kp_4 : PySem.W.keepIn K (.ref C4) = true)
    (iC_4 : PySem.W.findIn K (.ref C4) "__init__" = some (some (.ref F4)))
    (tI_4 : PySem.W.typeIn K (.ref F4) = some (.type "function"))
    (lI_4 : K.lookup F4 = some ⟨oc_4, od_4, .func (PySem.W.fnOf "__init__" "NothingDone.__init__" (defArgs (clS 5 0)) (defBody (clS 5 0)) (defScope (clS 5 0)) .none kV_4 dc_4 pm_4 an_4 cd_4 ct_4), sl_4⟩)
    (cI_4 : PySem.W.codeIn K cd_4 "NothingDone.__init__" = true)
    (kf_4 : PySem.W.keepIn K (.ref F4) = true)
    (ga_4 : PySem.W.findIn K (.ref C4) "__getattribute__" = some (some (.builtin "BaseException.__getattribute__")))
    (gg_4 : PySem.W.findIn K (.ref C4) "__getattr__" = some none)
    (sb_4 : PySem.W.subIn K (.ref C4) (.type "BaseException") = some true)
    (hd_4 : PySem.W.hasDictIn K C4 = true)
    (cl_4 : PySem.W.findIn K (.ref C4) "__class__" = some (some (.builtin "object.__class__")))
    (mo_4 : PySem.W.mroIn K C4 (.type "object") = some true)
    (u0_4 : PySem.W.subIn K (.ref C4) (.type "LookupError") = some true)
    (u1_4 : PySem.W.subIn K (.ref C4) (.type "ValueError") = some false)
    (u2_4 : PySem.W.subIn K (.ref C4) (.type "KeyError") = some false)
    (u3_4 : PySem.W.subIn K (.ref C4) (.type "IndexError") = some false)
    (ty_4 : PySem.W.typeIn K (.ref C4) = some (.type "type"))
    (aC_5 : PySem.W.nsIn K mainGlobals "Known" = some (some (.ref C5)))
    (xL_5 : K.lookup C5 = some (excClassObj nm5 q5 C5 N5 bs5 [.type "ValueError", .type "Exception", .type "BaseException", .type "object"] true sn5 sub5 ab5 co5 dd5 m0105 m1105 m2105 m3105 m5105 "ValueError.__new__"))
    (sa_5 : PySem.W.findIn K (.ref C5) "__setattr__" = some (some (.builtin "object.__setattr__")))
    (kp_5 : PySem.W.keepIn K (.ref C5) = true)
    (iC_5 : PySem.W.findIn K (.ref C5) "__init__" = some (some (.ref F5)))
    (tI_5 : PySem.W.typeIn K (.ref F5) = some (.type "function"))
    (lI_5 : K.lookup F5 = some ⟨oc_5, od_5, .func (PySem.W.fnOf "__init__" "Known.__init__" (defArgs (clS 6 0)) (defBody (clS 6 0)) (defScope (clS 6 0)) .none kV_5 dc_5 pm_5 an_5 cd_5 ct_5), sl_5⟩)
    (cI_5 : PySem.W.codeIn K cd_5 "Known.__init__" = true)
    (kf_5 : PySem.W.keepIn K (.ref F5) = true)
    (nf_5 : PySem.W.findIn K (.ref C5) "edge" = some none)
    (ga_5 : PySem.W.findIn K (.ref C5) "__getattribute__" = some (some (.builtin "BaseException.__getattribute__")))
    (gg_5 : PySem.W.findIn K (.ref C5) "__getattr__" = some none)
    (sb_5 : PySem.W.subIn K (.ref C5) (.type "BaseException") = some true)
    (hd_5 : PySem.W.hasDictIn K C5 = true)
    (cl_5 : PySem.W.findIn K (.ref C5) "__class__" = some (some (.builtin "object.__class__")))
    (mo_5 : PySem.W.mroIn K C5 (.type "object") = some true)
    (u0_5 : PySem.W.subIn K (.ref C5) (.type "LookupError") = some false)
    (u1_5 : PySem.W.subIn K (.ref C5) (.type "ValueError") = some true)
    (u2_5 : PySem.W.subIn K (.ref C5) (.type "KeyError") = some false)
    (u3_5 : PySem.W.subIn K (.ref C5) (.type "IndexError") = some false)
    (ty_5 : PySem.W.typeIn K (.ref C5) = some (.type "type"))
    (aC_6 : PySem.W.nsIn K mainGlobals "Twice" = some (some (.ref C6)))
    (xL_6 : K.lookup C6 = some (excClassObj nm6 q6 C6 N6 bs6 [.type "ValueError", .type "Exception", .type "BaseException", .type "object"] true sn6 sub6 ab6 co6 dd6 m0106 m1106 m2106 m3106 m5106 "ValueError.__new__"))
    (sa_6 : PySem.W.findIn K (.ref C6) "__setattr__" = some (some (.builtin "object.__setattr__")))
    (kp_6 : PySem.W.keepIn K (.ref C6) = true)
    (iC_6 : PySem.W.findIn K (.ref C6) "__init__" = some (some (.ref F6)))
    (tI_6 : PySem.W.typeIn K (.ref F6) = some (.type "function"))
    (lI_6 : K.lookup F6 = some ⟨oc_6, od_6, .func (PySem.W.fnOf "__init__" "Twice.__init__" (defArgs (clS 7 0)) (defBody (clS 7 0)) (defScope (clS 7 0)) .none kV_6 dc_6 pm_6 an_6 cd_6 ct_6), sl_6⟩)
    (cI_6 : PySem.W.codeIn K cd_6 "Twice.__init__" = true)
    (kf_6 : PySem.W.keepIn K (.ref F6) = true)
    (nf_6 : PySem.W.findIn K (.ref C6) "name" = some none)
    (ga_6 : PySem.W.findIn K (.ref C6) "__getattribute__" = some (some (.builtin "BaseException.__getattribute__")))
    (gg_6 : PySem.W.findIn K (.ref C6) "__getattr__" = some none)
    (sb_6 : PySem.W.subIn K (.ref C6) (.type "BaseException") = some true)
    (hd_6 : PySem.W.hasDictIn K C6 = true)
    (cl_6 : PySem.W.findIn K (.ref C6) "__class__" = some (some (.builtin "object.__class__")))
    (mo_6 : PySem.W.mroIn K C6 (.type "object") = some true)
    (u0_6 : PySem.W.subIn K (.ref C6) (.type "LookupError") = some false)
    (u1_6 : PySem.W.subIn K (.ref C6) (.type "ValueError") = some true)
    (u2_6 : PySem.W.subIn K (.ref C6) (.type "KeyError") = some false)
    (u3_6 : PySem.W.subIn K (.ref C6) (.type "IndexError") = some false)
    (ty_6 : PySem.W.typeIn K (.ref C6) = some (.type "type"))
    (aC_7 : PySem.W.nsIn K mainGlobals "NoGraph" = some (some (.ref C7)))
    (xL_7 : K.lookup C7 = some (excClassObj nm7 q7 C7 N7 bs7 [.type "ValueError", .type "Exception", .type "BaseException", .type "object"] true sn7 sub7 ab7 co7 dd7 m0107 m1107 m2107 m3107 m5107 "ValueError.__new__"))
    (sa_7 : PySem.W.findIn K (.ref C7) "__setattr__" = some (some (.builtin "object.__setattr__")))
    (kp_7 : PySem.W.keepIn K (.ref C7) = true)
    (iC_7 : PySem.W.findIn K (.ref C7) "__init__" = some (some (.ref F7)))
    (tI_7 : PySem.W.typeIn K (.ref F7) = some (.type "function"))
    (lI_7 : K.lookup F7 = some ⟨oc_7, od_7, .func (PySem.W.fnOf "__init__" "NoGraph.__init__" (defArgs (clS 8 0)) (defBody (clS 8 0)) (defScope (clS 8 0)) .none kV_7 dc_7 pm_7 an_7 cd_7 ct_7), sl_7⟩)
    (cI_7 : PySem.W.codeIn K cd_7 "NoGraph.__init__" = true)
    (kf_7 : PySem.W.keepIn K (.ref F7) = true)
    (ga_7 : PySem.W.findIn K (.ref C7) "__getattribute__" = some (some (.builtin "BaseException.__getattribute__")))
    (gg_7 : PySem.W.findIn K (.ref C7) "__getattr__" = some none)
    (sb_7 : PySem.W.subIn K (.ref C7) (.type "BaseException") = some true)
    (hd_7 : PySem.W.hasDictIn K C7 = true)
    (cl_7 : PySem.W.findIn K (.ref C7) "__class__" = some (some (.builtin "object.__class__")))
    (mo_7 : PySem.W.mroIn K C7 (.type "object") = some true)
    (u0_7 : PySem.W.subIn K (.ref C7) (.type "LookupError") = some false)
    (u1_7 : PySem.W.subIn K (.ref C7) (.type "ValueError") = some true)
    (u2_7 : PySem.W.subIn K (.ref C7) (.type "KeyError") = some false)
    (u3_7 : PySem.W.subIn K (.ref C7) (.type "IndexError") = some false)
    (ty_7 : PySem.W.typeIn K (.ref C7) = some (.type "type"))
    (aC_8 : PySem.W.nsIn K mainGlobals "NoCounts" = some (some (.ref C8)))
    (xL_8 : K.lookup C8 = some (excClassObj nm8 q8 C8 N8 bs8 [.type "ValueError", .type "Exception", .type "BaseException", .type "object"] true sn8 sub8 ab8 co8 dd8 m0108 m1108 m2108 m3108 m5108 "ValueError.__new__"))
    (sa_8 : PySem.W.findIn K (.ref C8) "__setattr__" = some (some (.builtin "object.__setattr__")))
    (kp_8 : PySem.W.keepIn K (.ref C8) = true)
    (iC_8 : PySem.W.findIn K (.ref C8) "__init__" = some (some (.ref F8)))
    (tI_8 : PySem.W.typeIn K (.ref F8) = some (.type "function"))
    (lI_8 : K.lookup F8 = some ⟨oc_8, od_8, .func (PySem.W.fnOf "__init__" "NoCounts.__init__" (defArgs (clS 9 0)) (defBody (clS 9 0)) (defScope (clS 9 0)) .none kV_8 dc_8 pm_8 an_8 cd_8 ct_8), sl_8⟩)
    (cI_8 : PySem.W.codeIn K cd_8 "NoCounts.__init__" = true)
    (kf_8 : PySem.W.keepIn K (.ref F8) = true)
    (ga_8 : PySem.W.findIn K (.ref C8) "__getattribute__" = some (some (.builtin "BaseException.__getattribute__")))
    (gg_8 : PySem.W.findIn K (.ref C8) "__getattr__" = some none)
    (sb_8 : PySem.W.subIn K (.ref C8) (.type "BaseException") = some true)
    (hd_8 : PySem.W.hasDictIn K C8 = true)
    (cl_8 : PySem.W.findIn K (.ref C8) "__class__" = some (some (.builtin "object.__class__")))
    (mo_8 : PySem.W.mroIn K C8 (.type "object") = some true)
    (u0_8 : PySem.W.subIn K (.ref C8) (.type "LookupError") = some false)
    (u1_8 : PySem.W.subIn K (.ref C8) (.type "ValueError") = some true)
    (u2_8 : PySem.W.subIn K (.ref C8) (.type "KeyError") = some false)
    (u3_8 : PySem.W.subIn K (.ref C8) (.type "IndexError") = some false)
    (ty_8 : PySem.W.typeIn K (.ref C8) = some (.type "type"))
    (aC_9 : PySem.W.nsIn K mainGlobals "NoLot" = some (some (.ref C9)))
    (xL_9 : K.lookup C9 = some (excClassObj nm9 q9 C9 N9 bs9 [.type "ValueError", .type "Exception", .type "BaseException", .type "object"] true sn9 sub9 ab9 co9 dd9 m0109 m1109 m2109 m3109 m5109 "ValueError.__new__"))
    (sa_9 : PySem.W.findIn K (.ref C9) "__setattr__" = some (some (.builtin "object.__setattr__")))
    (kp_9 : PySem.W.keepIn K (.ref C9) = true)
    (iC_9 : PySem.W.findIn K (.ref C9) "__init__" = some (some (.ref F9)))
    (tI_9 : PySem.W.typeIn K (.ref F9) = some (.type "function"))
    (lI_9 : K.lookup F9 = some ⟨oc_9, od_9, .func (PySem.W.fnOf "__init__" "NoLot.__init__" (defArgs (clS 10 0)) (defBody (clS 10 0)) (defScope (clS 10 0)) .none kV_9 dc_9 pm_9 an_9 cd_9 ct_9), sl_9⟩)
    (cI_9 : PySem.W.codeIn K cd_9 "NoLot.__init__" = true)
    (kf_9 : PySem.W.keepIn K (.ref F9) = true)
    (ga_9 : PySem.W.findIn K (.ref C9) "__getattribute__" = some (some (.builtin "BaseException.__getattribute__")))
    (gg_9 : PySem.W.findIn K (.ref C9) "__getattr__" = some none)
    (sb_9 : PySem.W.subIn K (.ref C9) (.type "BaseException") = some true)
    (hd_9 : PySem.W.hasDictIn K C9 = true)
    (cl_9 : PySem.W.findIn K (.ref C9) "__class__" = some (some (.builtin "object.__class__")))
    (mo_9 : PySem.W.mroIn K C9 (.type "object") = some true)
    (u0_9 : PySem.W.subIn K (.ref C9) (.type "LookupError") = some false)
    (u1_9 : PySem.W.subIn K (.ref C9) (.type "ValueError") = some true)
    (u2_9 : PySem.W.subIn K (.ref C9) (.type "KeyError") = some false)
    (u3_9 : PySem.W.subIn K (.ref C9) (.type "IndexError") = some false)
    (ty_9 : PySem.W.typeIn K (.ref C9) = some (.type "type"))
    (aC_10 : PySem.W.nsIn K mainGlobals "Unfit" = some (some (.ref C10)))
    (xL_10 : K.lookup C10 = some (excClassObj nm10 q10 C10 N10 bs10 [.type "ValueError", .type "Exception", .type "BaseException", .type "object"] true sn10 sub10 ab10 co10 dd10 m0110 m1110 m2110 m3110 m5110 "ValueError.__new__"))
    (sa_10 : PySem.W.findIn K (.ref C10) "__setattr__" = some (some (.builtin "object.__setattr__")))
    (kp_10 : PySem.W.keepIn K (.ref C10) = true)
    (iC_10 : PySem.W.findIn K (.ref C10) "__init__" = some (some (.ref F10)))
    (tI_10 : PySem.W.typeIn K (.ref F10) = some (.type "function"))
    (lI_10 : K.lookup F10 = some ⟨oc_10, od_10, .func (PySem.W.fnOf "__init__" "Unfit.__init__" (defArgs (clS 11 0)) (defBody (clS 11 0)) (defScope (clS 11 0)) .none kV_10 dc_10 pm_10 an_10 cd_10 ct_10), sl_10⟩)
    (cI_10 : PySem.W.codeIn K cd_10 "Unfit.__init__" = true)
    (kf_10 : PySem.W.keepIn K (.ref F10) = true)
    (ga_10 : PySem.W.findIn K (.ref C10) "__getattribute__" = some (some (.builtin "BaseException.__getattribute__")))
    (gg_10 : PySem.W.findIn K (.ref C10) "__getattr__" = some none)
    (sb_10 : PySem.W.subIn K (.ref C10) (.type "BaseException") = some true)
    (hd_10 : PySem.W.hasDictIn K C10 = true)
    (cl_10 : PySem.W.findIn K (.ref C10) "__class__" = some (some (.builtin "object.__class__")))
    (mo_10 : PySem.W.mroIn K C10 (.type "object") = some true)
    (u0_10 : PySem.W.subIn K (.ref C10) (.type "LookupError") = some false)
    (u1_10 : PySem.W.subIn K (.ref C10) (.type "ValueError") = some true)
    (u2_10 : PySem.W.subIn K (.ref C10) (.type "KeyError") = some false)
    (u3_10 : PySem.W.subIn K (.ref C10) (.type "IndexError") = some false)
    (ty_10 : PySem.W.typeIn K (.ref C10) = some (.type "type"))
    (aC_11 : PySem.W.nsIn K mainGlobals "BadText" = some (some (.ref C11)))
    (xL_11 : K.lookup C11 = some (excClassObj nm11 q11 C11 N11 bs11 [.type "ValueError", .type "Exception", .type "BaseException", .type "object"] true sn11 sub11 ab11 co11 dd11 m0111 m1111 m2111 m3111 m5111 "ValueError.__new__"))
    (sa_11 : PySem.W.findIn K (.ref C11) "__setattr__" = some (some (.builtin "object.__setattr__")))
    (kp_11 : PySem.W.keepIn K (.ref C11) = true)
    (iC_11 : PySem.W.findIn K (.ref C11) "__init__" = some (some (.ref F11)))
    (tI_11 : PySem.W.typeIn K (.ref F11) = some (.type "function"))
    (lI_11 : K.lookup F11 = some ⟨oc_11, od_11, .func (PySem.W.fnOf "__init__" "BadText.__init__" (defArgs (clS 12 0)) (defBody (clS 12 0)) (defScope (clS 12 0)) .none kV_11 dc_11 pm_11 an_11 cd_11 ct_11), sl_11⟩)
    (cI_11 : PySem.W.codeIn K cd_11 "BadText.__init__" = true)
    (kf_11 : PySem.W.keepIn K (.ref F11) = true)
    (ga_11 : PySem.W.findIn K (.ref C11) "__getattribute__" = some (some (.builtin "BaseException.__getattribute__")))
    (gg_11 : PySem.W.findIn K (.ref C11) "__getattr__" = some none)
    (sb_11 : PySem.W.subIn K (.ref C11) (.type "BaseException") = some true)
    (hd_11 : PySem.W.hasDictIn K C11 = true)
    (cl_11 : PySem.W.findIn K (.ref C11) "__class__" = some (some (.builtin "object.__class__")))
    (mo_11 : PySem.W.mroIn K C11 (.type "object") = some true)
    (u0_11 : PySem.W.subIn K (.ref C11) (.type "LookupError") = some false)
    (u1_11 : PySem.W.subIn K (.ref C11) (.type "ValueError") = some true)
    (u2_11 : PySem.W.subIn K (.ref C11) (.type "KeyError") = some false)
    (u3_11 : PySem.W.subIn K (.ref C11) (.type "IndexError") = some false)
    (ty_11 : PySem.W.typeIn K (.ref C11) = some (.type "type"))
    (aC_12 : PySem.W.nsIn K mainGlobals "BadLine" = some (some (.ref C12)))
    (xL_12 : K.lookup C12 = some (excClassObj nm12 q12 C12 N12 bs12 [.type "ValueError", .type "Exception", .type "BaseException", .type "object"] true sn12 sub12 ab12 co12 dd12 m0112 m1112 m2112 m3112 m5112 "ValueError.__new__"))
    (sa_12 : PySem.W.findIn K (.ref C12) "__setattr__" = some (some (.builtin "object.__setattr__")))
    (kp_12 : PySem.W.keepIn K (.ref C12) = true)
    (iC_12 : PySem.W.findIn K (.ref C12) "__init__" = some (some (.ref F12)))
    (tI_12 : PySem.W.typeIn K (.ref F12) = some (.type "function"))
    (lI_12 : K.lookup F12 = some ⟨oc_12, od_12, .func (PySem.W.fnOf "__init__" "BadLine.__init__" (defArgs (clS 13 0)) (defBody (clS 13 0)) (defScope (clS 13 0)) .none kV_12 dc_12 pm_12 an_12 cd_12 ct_12), sl_12⟩)
    (cI_12 : PySem.W.codeIn K cd_12 "BadLine.__init__" = true)
    (kf_12 : PySem.W.keepIn K (.ref F12) = true)
    (nf_12 : PySem.W.findIn K (.ref C12) "number" = some none)
    (ga_12 : PySem.W.findIn K (.ref C12) "__getattribute__" = some (some (.builtin "BaseException.__getattribute__")))
    (gg_12 : PySem.W.findIn K (.ref C12) "__getattr__" = some none)
    (sb_12 : PySem.W.subIn K (.ref C12) (.type "BaseException") = some true)
    (hd_12 : PySem.W.hasDictIn K C12 = true)
    (cl_12 : PySem.W.findIn K (.ref C12) "__class__" = some (some (.builtin "object.__class__")))
    (mo_12 : PySem.W.mroIn K C12 (.type "object") = some true)
    (u0_12 : PySem.W.subIn K (.ref C12) (.type "LookupError") = some false)
    (u1_12 : PySem.W.subIn K (.ref C12) (.type "ValueError") = some true)
    (u2_12 : PySem.W.subIn K (.ref C12) (.type "KeyError") = some false)
    (u3_12 : PySem.W.subIn K (.ref C12) (.type "IndexError") = some false)
    (ty_12 : PySem.W.typeIn K (.ref C12) = some (.type "type"))
    (na : ([C0, C1, C2, C3, C4, C5, C6, C7, C8, C9, C10, C11, C12] : List Addr).Nodup)
    : ∃ fd : FuncData, (∀ (s : Shared) (v : Value), BindsTo s fd ⟨[v], []⟩ [("_law_script", v)]) ∧ ∀ base : Heap, K.In base → base.Ns mainGlobals mg → FnOk P w K mg base CX0 14 fa fd ["_law_script"] (spLaw 63 K) := by
  have e := hfa.symm.trans (PySem.W.mg_of X G a9)
  cases e
  have bt : ∀ x ∈ bNames, mg x = none := List.forall_mem_cons.2 ⟨PySem.W.mg_none_of X G z0, List.forall_mem_cons.2 ⟨PySem.W.mg_none_of X G z1, List.forall_mem_cons.2 ⟨PySem.W.mg_none_of X G z2, List.forall_mem_cons.2 ⟨PySem.W.mg_none_of X G z3, List.forall_mem_cons.2 ⟨PySem.W.mg_none_of X G z4, List.forall_mem_cons.2 ⟨PySem.W.mg_none_of X G z5, List.forall_mem_cons.2 ⟨PySem.W.mg_none_of X G z6, List.forall_mem_cons.2 ⟨PySem.W.mg_none_of X G z7, List.forall_mem_cons.2 ⟨PySem.W.mg_none_of X G z8, List.forall_mem_cons.2 ⟨PySem.W.mg_none_of X G z9, List.forall_mem_cons.2 ⟨PySem.W.mg_none_of X G z10, List.forall_mem_cons.2 ⟨PySem.W.mg_none_of X G z11, List.forall_mem_cons.2 ⟨PySem.W.mg_none_of X G z12, List.forall_mem_cons.2 ⟨PySem.W.mg_none_of X G z13, List.forall_mem_cons.2 ⟨PySem.W.mg_none_of X G z14, List.forall_mem_cons.2 ⟨PySem.W.mg_none_of X G z15, List.forall_mem_cons.2 ⟨PySem.W.mg_none_of X G z16, List.forall_mem_cons.2 ⟨PySem.W.mg_none_of X G z17, List.forall_mem_cons.2 ⟨PySem.W.mg_none_of X G z18, List.forall_mem_cons.2 ⟨PySem.W.mg_none_of X G z19, List.forall_mem_cons.2 ⟨PySem.W.mg_none_of X G z20, List.forall_mem_cons.2 ⟨PySem.W.mg_none_of X G z21, List.forall_mem_cons.2 ⟨PySem.W.mg_none_of X G z22, List.forall_mem_cons.2 ⟨PySem.W.mg_none_of X G z23, List.forall_mem_nil _⟩⟩⟩⟩⟩⟩⟩⟩⟩⟩⟩⟩⟩⟩⟩⟩⟩⟩⟩⟩⟩⟩⟩⟩
  have n0 := kn_mk (d := d0) X G a0 l0 c0 k0 (fun us hl => match us, hl with | [_, _], _ => rfl) (scopeC (by decide +kernel)) (kws _)
  have n1 := kn_mk (d := d1) X G a1 l1 c1 k1 (fun us hl => match us, hl with | [_, _], _ => rfl) (scopeC (by decide +kernel)) (kws _)
  have n2 := kn_mk (d := d2) X G a2 l2 c2 k2 (fun us hl => match us, hl with | [_, _], _ => rfl) (scopeC (by decide +kernel)) (kws _)
  have n3 := kn_mk (d := d3) X G a3 l3 c3 k3 (fun us hl => match us, hl with | [_, _], _ => rfl) (scopeC (by decide +kernel)) (kws _)
  have n4 := kn_mk (d := d4) X G a4 l4 c4 k4 (fun us hl => match us, hl with | [_, _], _ => rfl) (scopeC (by decide +kernel)) (kws _)
  have n5 := kn_mk (d := d5) X G a5 l5 c5 k5 (fun us hl => match us, hl with | [_], _ => rfl) (scopeC (by decide +kernel)) (kws _)
  have n6 := kn_mk (d := d6) X G a6 l6 c6 k6 (fun us hl => match us, hl with | [_, _, _], _ => rfl) (scopeC (by decide +kernel)) (kws _)
  have n7 := kn_mk (d := d7) X G a7 l7 c7 k7 (fun us hl => match us, hl with | [], _ => rfl) (scopeC (by decide +kernel)) (kws _)
  have n8 := kn_mk (d := d8) X G a8 l8 c8 k8 (fun us hl => match us, hl with | [_], _ => rfl) (scopeC (by decide +kernel)) (kws _)
  have n9 := kn_mk (d := d9) X G a9 l9 c9 k9 (fun us hl => match us, hl with | [_], _ => rfl) (scopeC (by decide +kernel)) (kws _)
  have kn : ∀ d ∈ ds, Know K mg d := List.forall_mem_cons.2 ⟨⟨_, _, n0⟩, List.forall_mem_cons.2 ⟨⟨_, _, n1⟩, List.forall_mem_cons.2 ⟨⟨_, _, n2⟩, List.forall_mem_cons.2 ⟨⟨_, _, n3⟩, List.forall_mem_cons.2 ⟨⟨_, _, n4⟩, List.forall_mem_cons.2 ⟨⟨_, _, n5⟩, List.forall_mem_cons.2 ⟨⟨_, _, n6⟩, List.forall_mem_cons.2 ⟨⟨_, _, n7⟩, List.forall_mem_cons.2 ⟨⟨_, _, n8⟩, List.forall_mem_cons.2 ⟨⟨_, _, n9⟩, List.forall_mem_nil _⟩⟩⟩⟩⟩⟩⟩⟩⟩⟩
  refine ⟨PySem.W.fnOf "law" "law" (defArgs (topS 24)) (defBody (topS 24)) (defScope (topS 24)) .none kV9 dc9 pm9 an9 cd9 ct9, fun s v => .of_eq rfl, fun base KB GB => ?_⟩
  have X0 : Y.XFact P w K mg base x0 C0 := Y.xf1 (st := (clS 1 0)) X G (Y.bs_LE iL) (PySem.W.mg_none_of X G z20) Y.tlL_no (Y.up_LE u0_0 u1_0 u2_0 u3_0) aC_0 xL_0 sa_0 kp_0 iC_0 tI_0 lI_0 cI_0 kf_0 nf_0 (Y.excC_mk ga_0 gg_0 sb_0 hd_0 cl_0 sp tk mo_0) ty_0 (scopeC (by decide +kernel)) (by rfl) (by decide +kernel) (by decide +kernel) (by rfl) (fun _ => ⟨_, rfl⟩) (fun us hl => match us, hl with | [_, _], _ => rfl) (fun _ _ => rfl)
  have X1 : Y.XFact P w K mg base x1 C1 := Y.xf1 (st := (clS 2 0)) X G (Y.bs_LE iL) (PySem.W.mg_none_of X G z20) Y.tlL_no (Y.up_LE u0_1 u1_1 u2_1 u3_1) aC_1 xL_1 sa_1 kp_1 iC_1 tI_1 lI_1 cI_1 kf_1 nf_1 (Y.excC_mk ga_1 gg_1 sb_1 hd_1 cl_1 sp tk mo_1) ty_1 (scopeC (by decide +kernel)) (by rfl) (by decide +kernel) (by decide +kernel) (by rfl) (fun _ => ⟨_, rfl⟩) (fun us hl => match us, hl with | [_, _], _ => rfl) (fun _ _ => rfl)
  have X2 : Y.XFact P w K mg base x2 C2 := Y.xf1 (st := (clS 3 0)) X G (Y.bs_LE iL) (PySem.W.mg_none_of X G z20) Y.tlL_no (Y.up_LE u0_2 u1_2 u2_2 u3_2) aC_2 xL_2 sa_2 kp_2 iC_2 tI_2 lI_2 cI_2 kf_2 nf_2 (Y.excC_mk ga_2 gg_2 sb_2 hd_2 cl_2 sp tk mo_2) ty_2 (scopeC (by decide +kernel)) (by rfl) (by decide +kernel) (by decide +kernel) (by rfl) (fun _ => ⟨_, rfl⟩) (fun us hl => match us, hl with | [_, _], _ => rfl) (fun _ _ => rfl)
  have X3 : Y.XFact P w K mg base x3 C3 := Y.xf1 (st := (clS 4 0)) X G (Y.bs_LE iL) (PySem.W.mg_none_of X G z20) Y.tlL_no (Y.up_LE u0_3 u1_3 u2_3 u3_3) aC_3 xL_3 sa_3 kp_3 iC_3 tI_3 lI_3 cI_3 kf_3 nf_3 (Y.excC_mk ga_3 gg_3 sb_3 hd_3 cl_3 sp tk mo_3) ty_3 (scopeC (by decide +kernel)) (by rfl) (by decide +kernel) (by decide +kernel) (by rfl) (fun _ => ⟨_, rfl⟩) (fun us hl => match us, hl with | [_, _], _ => rfl) (fun _ _ => rfl)
  have X4 : Y.XFact P w K mg base x4 C4 := Y.xf0 (st := (clS 5 0)) X G (Y.bs_LE iL) (PySem.W.mg_none_of X G z20) Y.tlL_no (Y.up_LE u0_4 u1_4 u2_4 u3_4) aC_4 xL_4 sa_4 kp_4 iC_4 tI_4 lI_4 cI_4 kf_4 (Y.excC_mk ga_4 gg_4 sb_4 hd_4 cl_4 sp tk mo_4) ty_4 (scopeC (by decide +kernel)) (by rfl) (by rfl) (fun _ => ⟨_, rfl⟩) (fun us hl => match us, hl with | [_], _ => rfl)
  have X5 : Y.XFact P w K mg base x5 C5 := Y.xf1 (st := (clS 6 0)) X G (Y.bs_VE iV) (PySem.W.mg_none_of X G z21) Y.tlV_no (Y.up_VE u0_5 u1_5 u2_5 u3_5) aC_5 xL_5 sa_5 kp_5 iC_5 tI_5 lI_5 cI_5 kf_5 nf_5 (Y.excC_mk ga_5 gg_5 sb_5 hd_5 cl_5 sp tk mo_5) ty_5 (scopeC (by decide +kernel)) (by rfl) (by decide +kernel) (by decide +kernel) (by rfl) (fun _ => ⟨_, rfl⟩) (fun us hl => match us, hl with | [_, _], _ => rfl) (fun _ _ => rfl)
  have X6 : Y.XFact P w K mg base x6 C6 := Y.xf1 (st := (clS 7 0)) X G (Y.bs_VE iV) (PySem.W.mg_none_of X G z21) Y.tlV_no (Y.up_VE u0_6 u1_6 u2_6 u3_6) aC_6 xL_6 sa_6 kp_6 iC_6 tI_6 lI_6 cI_6 kf_6 nf_6 (Y.excC_mk ga_6 gg_6 sb_6 hd_6 cl_6 sp tk mo_6) ty_6 (scopeC (by decide +kernel)) (by rfl) (by decide +kernel) (by decide +kernel) (by rfl) (fun _ => ⟨_, rfl⟩) (fun us hl => match us, hl with | [_, _], _ => rfl) (fun _ _ => rfl)
  have X7 : Y.XFact P w K mg base x7 C7 := Y.xf0 (st := (clS 8 0)) X G (Y.bs_VE iV) (PySem.W.mg_none_of X G z21) Y.tlV_no (Y.up_VE u0_7 u1_7 u2_7 u3_7) aC_7 xL_7 sa_7 kp_7 iC_7 tI_7 lI_7 cI_7 kf_7 (Y.excC_mk ga_7 gg_7 sb_7 hd_7 cl_7 sp tk mo_7) ty_7 (scopeC (by decide +kernel)) (by rfl) (by rfl) (fun _ => ⟨_, rfl⟩) (fun us hl => match us, hl with | [_], _ => rfl)
  have X8 : Y.XFact P w K mg base x8 C8 := Y.xf0 (st := (clS 9 0)) X G (Y.bs_VE iV) (PySem.W.mg_none_of X G z21) Y.tlV_no (Y.up_VE u0_8 u1_8 u2_8 u3_8) aC_8 xL_8 sa_8 kp_8 iC_8 tI_8 lI_8 cI_8 kf_8 (Y.excC_mk ga_8 gg_8 sb_8 hd_8 cl_8 sp tk mo_8) ty_8 (scopeC (by decide +kernel)) (by rfl) (by rfl) (fun _ => ⟨_, rfl⟩) (fun us hl => match us, hl with | [_], _ => rfl)
  have X9 : Y.XFact P w K mg base x9 C9 := Y.xf0 (st := (clS 10 0)) X G (Y.bs_VE iV) (PySem.W.mg_none_of X G z21) Y.tlV_no (Y.up_VE u0_9 u1_9 u2_9 u3_9) aC_9 xL_9 sa_9 kp_9 iC_9 tI_9 lI_9 cI_9 kf_9 (Y.excC_mk ga_9 gg_9 sb_9 hd_9 cl_9 sp tk mo_9) ty_9 (scopeC (by decide +kernel)) (by rfl) (by rfl) (fun _ => ⟨_, rfl⟩) (fun us hl => match us, hl with | [_], _ => rfl)
  have X10 : Y.XFact P w K mg base x10 C10 := Y.xf0 (st := (clS 11 0)) X G (Y.bs_VE iV) (PySem.W.mg_none_of X G z21) Y.tlV_no (Y.up_VE u0_10 u1_10 u2_10 u3_10) aC_10 xL_10 sa_10 kp_10 iC_10 tI_10 lI_10 cI_10 kf_10 (Y.excC_mk ga_10 gg_10 sb_10 hd_10 cl_10 sp tk mo_10) ty_10 (scopeC (by decide +kernel)) (by rfl) (by rfl) (fun _ => ⟨_, rfl⟩) (fun us hl => match us, hl with | [_], _ => rfl)
  have X11 : Y.XFact P w K mg base x11 C11 := Y.xf0 (st := (clS 12 0)) X G (Y.bs_VE iV) (PySem.W.mg_none_of X G z21) Y.tlV_no (Y.up_VE u0_11 u1_11 u2_11 u3_11) aC_11 xL_11 sa_11 kp_11 iC_11 tI_11 lI_11 cI_11 kf_11 (Y.excC_mk ga_11 gg_11 sb_11 hd_11 cl_11 sp tk mo_11) ty_11 (scopeC (by decide +kernel)) (by rfl) (by rfl) (fun _ => ⟨_, rfl⟩) (fun us hl => match us, hl with | [_], _ => rfl)
  have X12 : Y.XFact P w K mg base x12 C12 := Y.xf1 (st := (clS 13 0)) X G (Y.bs_VE iV) (PySem.W.mg_none_of X G z21) Y.tlV_no (Y.up_VE u0_12 u1_12 u2_12 u3_12) aC_12 xL_12 sa_12 kp_12 iC_12 tI_12 lI_12 cI_12 kf_12 nf_12 (Y.excC_mk ga_12 gg_12 sb_12 hd_12 cl_12 sp tk mo_12) ty_12 (scopeC (by decide +kernel)) (by rfl) (by decide +kernel) (by decide +kernel) (by rfl) (fun _ => ⟨_, rfl⟩) (fun us hl => match us, hl with | [_, _], _ => rfl) (fun _ _ => rfl)
  have hx : ∀ x ∈ xs, Y.XOk P w K mg base xs x := Y.xok_all (l := [(x0, C0), (x1, C1), (x2, C2), (x3, C3), (x4, C4), (x5, C5), (x6, C6), (x7, C7), (x8, C8), (x9, C9), (x10, C10), (x11, C11), (x12, C12)]) (List.forall_mem_cons.2 ⟨X0, List.forall_mem_cons.2 ⟨X1, List.forall_mem_cons.2 ⟨X2, List.forall_mem_cons.2 ⟨X3, List.forall_mem_cons.2 ⟨X4, List.forall_mem_cons.2 ⟨X5, List.forall_mem_cons.2 ⟨X6, List.forall_mem_cons.2 ⟨X7, List.forall_mem_cons.2 ⟨X8, List.forall_mem_cons.2 ⟨X9, List.forall_mem_cons.2 ⟨X10, List.forall_mem_cons.2 ⟨X11, List.forall_mem_cons.2 ⟨X12, List.forall_mem_nil _⟩⟩⟩⟩⟩⟩⟩⟩⟩⟩⟩⟩⟩) xnd na
  exact law_of (n := 11) (i := 9) hc hx bt kn hl0 rfl n9 rfl main
end P00
open PySem PySem.W PyProof.Rows
open P00
set_option maxHeartbeats 0 in
theorem PySem.Challenge.cw_runsbehind_k00_errors_by_themselves_holds : PySem.Challenge.rw_runsbehind_k00_errors_by_themselves.Holds := by
  w_on; o_law; k_head; (case hw => w_witness2)
  k_fill
  refine L2.walk_of (l := PySem.Challenge.rw_runsbehind_k00_errors_by_themselves) (n := 63) (k := 14) (x := "_law_script") (CX := fun _ => L2.CX0) (sp := fun w => Z.spLaw 63 _) rfl (by decide) rfl ⟨rfl, by decide, by decide⟩ (fun w h Y => PySem.W.kIn_of Y) ?F (fun _ _ a ns hl _ hS => ⟨a, ns, rfl, hl, hS, fun _ _ e => e⟩) (fun _ _ _ _ _ h => h)
  case F =>
    intro w mg fa h KX G hmg
    refine' all_mk KX G hmg ?a0 ?l0 ?c0 ?k0 ?a1 ?l1 ?c1 ?k1 ?a2 ?l2 ?c2 ?k2 ?a3 ?l3 ?c3 ?k3 ?a4 ?l4 ?c4 ?k4 ?a5 ?l5 ?c5 ?k5 ?a6 ?l6 ?c6 ?k6 ?a7 ?l7 ?c7 ?k7 ?a8 ?l8 ?c8 ?k8 ?a9 ?l9 ?c9 ?k9 ?z0 ?z1 ?z2 ?z3 ?z4 ?z5 ?z6 ?z7 ?z8 ?z9 ?z10 ?z11 ?z12 ?z13 ?z14 ?z15 ?z16 ?z17 ?z18 ?z19 ?z20 ?z21 ?z22 ?z23 ?iL ?iV ?sp ?tk ?aC_0 ?xL_0 ?sa_0 ?kp_0 ?iC_0 ?tI_0 ?lI_0 ?cI_0 ?kf_0 ?nf_0 ?ga_0 ?gg_0 ?sb_0 ?hd_0 ?cl_0 ?mo_0 ?u0_0 ?u1_0 ?u2_0 ?u3_0 ?ty_0 ?aC_1 ?xL_1 ?sa_1 ?kp_1 ?iC_1 ?tI_1 ?lI_1 ?cI_1 ?kf_1 ?nf_1 ?ga_1 ?gg_1 ?sb_1 ?hd_1 ?cl_1 ?mo_1 ?u0_1 ?u1_1 ?u2_1 ?u3_1 ?ty_1 ?aC_2 ?xL_2 ?sa_2 ?kp_2 ?iC_2 ?tI_2 ?lI_2 ?cI_2 ?kf_2 ?nf_2 ?ga_2 ?gg_2 ?sb_2 ?hd_2 ?cl_2 ?mo_2 ?u0_2 ?u1_2 ?u2_2 ?u3_2 ?ty_2 ?aC_3 ?xL_3 ?sa_3 ?kp_3 ?iC_3 ?tI_3 ?lI_3 ?cI_3 ?kf_3 ?nf_3 ?ga_3 ?gg_3 ?sb_3 ?hd_3 ?cl_3 ?mo_3 ?u0_3 ?u1_3 ?u2_3 ?u3_3 ?ty_3 ?aC_4 ?xL_4 ?sa_4 ?kp_4 ?iC_4 ?tI_4 ?lI_4 ?cI_4 ?kf_4 ?ga_4 ?gg_4 ?sb_4 ?hd_4 ?cl_4 ?mo_4 ?u0_4 ?u1_4 ?u2_4 ?u3_4 ?ty_4 ?aC_5 ?xL_5 ?sa_5 ?kp_5 ?iC_5 ?tI_5 ?lI_5 ?cI_5 ?kf_5 ?nf_5 ?ga_5 ?gg_5 ?sb_5 ?hd_5 ?cl_5 ?mo_5 ?u0_5 ?u1_5 ?u2_5 ?u3_5 ?ty_5 ?aC_6 ?xL_6 ?sa_6 ?kp_6 ?iC_6 ?tI_6 ?lI_6 ?cI_6 ?kf_6 ?nf_6 ?ga_6 ?gg_6 ?sb_6 ?hd_6 ?cl_6 ?mo_6 ?u0_6 ?u1_6 ?u2_6 ?u3_6 ?ty_6 ?aC_7 ?xL_7 ?sa_7 ?kp_7 ?iC_7 ?tI_7 ?lI_7 ?cI_7 ?kf_7 ?ga_7 ?gg_7 ?sb_7 ?hd_7 ?cl_7 ?mo_7 ?u0_7 ?u1_7 ?u2_7 ?u3_7 ?ty_7 ?aC_8 ?xL_8 ?sa_8 ?kp_8 ?iC_8 ?tI_8 ?lI_8 ?cI_8 ?kf_8 ?ga_8 ?gg_8 ?sb_8 ?hd_8 ?cl_8 ?mo_8 ?u0_8 ?u1_8 ?u2_8 ?u3_8 ?ty_8 ?aC_9 ?xL_9 ?sa_9 ?kp_9 ?iC_9 ?tI_9 ?lI_9 ?cI_9 ?kf_9 ?ga_9 ?gg_9 ?sb_9 ?hd_9 ?cl_9 ?mo_9 ?u0_9 ?u1_9 ?u2_9 ?u3_9 ?ty_9 ?aC_10 ?xL_10 ?sa_10 ?kp_10 ?iC_10 ?tI_10 ?lI_10 ?cI_10 ?kf_10 ?ga_10 ?gg_10 ?sb_10 ?hd_10 ?cl_10 ?mo_10 ?u0_10 ?u1_10 ?u2_10 ?u3_10 ?ty_10 ?aC_11 ?xL_11 ?sa_11 ?kp_11 ?iC_11 ?tI_11 ?lI_11 ?cI_11 ?kf_11 ?ga_11 ?gg_11 ?sb_11 ?hd_11 ?cl_11 ?mo_11 ?u0_11 ?u1_11 ?u2_11 ?u3_11 ?ty_11 ?aC_12 ?xL_12 ?sa_12 ?kp_12 ?iC_12 ?tI_12 ?lI_12 ?cI_12 ?kf_12 ?nf_12 ?ga_12 ?gg_12 ?sb_12 ?hd_12 ?cl_12 ?mo_12 ?u0_12 ?u1_12 ?u2_12 ?u3_12 ?ty_12 ?na
    (case a0 => k_is); (case l0 => k_is); (case c0 => k_is); (case k0 => k_is); (case a1 => k_is); (case l1 => k_is)
    (case c1 => k_is); (case k1 => k_is); (case a2 => k_is); (case l2 => k_is); (case c2 => k_is); (case k2 => k_is)
    (case a3 => k_is); (case l3 => k_is); (case c3 => k_is); (case k3 => k_is); (case a4 => k_is); (case l4 => k_is)
    (case c4 => k_is); (case k4 => k_is); (case a5 => k_is); (case l5 => k_is); (case c5 => k_is); (case k5 => k_is)
    (case a6 => k_is); (case l6 => k_is); (case c6 => k_is); (case k6 => k_is); (case a7 => k_is); (case l7 => k_is)
    (case c7 => k_is); (case k7 => k_is); (case a8 => k_is); (case l8 => k_is); (case c8 => k_is); (case k8 => k_is)
    (case a9 => k_is); (case l9 => k_is); (case c9 => k_is); (case k9 => k_is); (case z0 => k_is); (case z1 => k_is)
    (case z2 => k_is); (case z3 => k_is); (case z4 => k_is); (case z5 => k_is); (case z6 => k_is); (case z7 => k_is)
    (case z8 => k_is); (case z9 => k_is); (case z10 => k_is); (case z11 => k_is); (case z12 => k_is); (case z13 => k_is)
    (case z14 => k_is); (case z15 => k_is); (case z16 => k_is); (case z17 => k_is); (case z18 => k_is); (case z19 => k_is)
    (case z20 => k_is); (case z21 => k_is); (case z22 => k_is); (case z23 => k_is); (case iL => k_is); (case iV => k_is)
    (case sp => k_is); (case tk => k_is); (case aC_0 => k_is); (case xL_0 => k_is); (case sa_0 => k_is); (case kp_0 => k_is)
    (case iC_0 => k_is); (case tI_0 => k_is); (case lI_0 => k_is); (case cI_0 => k_is); (case kf_0 => k_is); (case nf_0 => k_is)
    (case ga_0 => k_is); (case gg_0 => k_is); (case sb_0 => k_is); (case hd_0 => k_is); (case cl_0 => k_is); (case mo_0 => k_is)
    (case u0_0 => k_is); (case u1_0 => k_is); (case u2_0 => k_is); (case u3_0 => k_is); (case ty_0 => k_is); (case aC_1 => k_is)
    (case xL_1 => k_is); (case sa_1 => k_is); (case kp_1 => k_is); (case iC_1 => k_is); (case tI_1 => k_is); (case lI_1 => k_is)
    (case cI_1 => k_is); (case kf_1 => k_is); (case nf_1 => k_is); (case ga_1 => k_is); (case gg_1 => k_is); (case sb_1 => k_is)
    (case hd_1 => k_is); (case cl_1 => k_is); (case mo_1 => k_is); (case u0_1 => k_is); (case u1_1 => k_is); (case u2_1 => k_is)
    (case u3_1 => k_is); (case ty_1 => k_is); (case aC_2 => k_is); (case xL_2 => k_is); (case sa_2 => k_is); (case kp_2 => k_is)
    (case iC_2 => k_is); (case tI_2 => k_is); (case lI_2 => k_is); (case cI_2 => k_is); (case kf_2 => k_is); (case nf_2 => k_is)
    (case ga_2 => k_is); (case gg_2 => k_is); (case sb_2 => k_is); (case hd_2 => k_is); (case cl_2 => k_is); (case mo_2 => k_is)
    (case u0_2 => k_is); (case u1_2 => k_is); (case u2_2 => k_is); (case u3_2 => k_is); (case ty_2 => k_is); (case aC_3 => k_is)
    (case xL_3 => k_is); (case sa_3 => k_is); (case kp_3 => k_is); (case iC_3 => k_is); (case tI_3 => k_is); (case lI_3 => k_is)
    (case cI_3 => k_is); (case kf_3 => k_is); (case nf_3 => k_is); (case ga_3 => k_is); (case gg_3 => k_is); (case sb_3 => k_is)
    (case hd_3 => k_is); (case cl_3 => k_is); (case mo_3 => k_is); (case u0_3 => k_is); (case u1_3 => k_is); (case u2_3 => k_is)
    (case u3_3 => k_is); (case ty_3 => k_is); (case aC_4 => k_is); (case xL_4 => k_is); (case sa_4 => k_is); (case kp_4 => k_is)
    (case iC_4 => k_is); (case tI_4 => k_is); (case lI_4 => k_is); (case cI_4 => k_is); (case kf_4 => k_is); (case ga_4 => k_is)
    (case gg_4 => k_is); (case sb_4 => k_is); (case hd_4 => k_is); (case cl_4 => k_is); (case mo_4 => k_is); (case u0_4 => k_is)
    (case u1_4 => k_is); (case u2_4 => k_is); (case u3_4 => k_is); (case ty_4 => k_is); (case aC_5 => k_is); (case xL_5 => k_is)
    (case sa_5 => k_is); (case kp_5 => k_is); (case iC_5 => k_is); (case tI_5 => k_is); (case lI_5 => k_is); (case cI_5 => k_is)
    (case kf_5 => k_is); (case nf_5 => k_is); (case ga_5 => k_is); (case gg_5 => k_is); (case sb_5 => k_is); (case hd_5 => k_is)
    (case cl_5 => k_is); (case mo_5 => k_is); (case u0_5 => k_is); (case u1_5 => k_is); (case u2_5 => k_is); (case u3_5 => k_is)
    (case ty_5 => k_is); (case aC_6 => k_is); (case xL_6 => k_is); (case sa_6 => k_is); (case kp_6 => k_is); (case iC_6 => k_is)
    (case tI_6 => k_is); (case lI_6 => k_is); (case cI_6 => k_is); (case kf_6 => k_is); (case nf_6 => k_is); (case ga_6 => k_is)
    (case gg_6 => k_is); (case sb_6 => k_is); (case hd_6 => k_is); (case cl_6 => k_is); (case mo_6 => k_is); (case u0_6 => k_is)
    (case u1_6 => k_is); (case u2_6 => k_is); (case u3_6 => k_is); (case ty_6 => k_is); (case aC_7 => k_is); (case xL_7 => k_is)
    (case sa_7 => k_is); (case kp_7 => k_is); (case iC_7 => k_is); (case tI_7 => k_is); (case lI_7 => k_is); (case cI_7 => k_is)
    (case kf_7 => k_is); (case ga_7 => k_is); (case gg_7 => k_is); (case sb_7 => k_is); (case hd_7 => k_is); (case cl_7 => k_is)
    (case mo_7 => k_is); (case u0_7 => k_is); (case u1_7 => k_is); (case u2_7 => k_is); (case u3_7 => k_is); (case ty_7 => k_is)
    (case aC_8 => k_is); (case xL_8 => k_is); (case sa_8 => k_is); (case kp_8 => k_is); (case iC_8 => k_is); (case tI_8 => k_is)
    (case lI_8 => k_is); (case cI_8 => k_is); (case kf_8 => k_is); (case ga_8 => k_is); (case gg_8 => k_is); (case sb_8 => k_is)
    (case hd_8 => k_is); (case cl_8 => k_is); (case mo_8 => k_is); (case u0_8 => k_is); (case u1_8 => k_is); (case u2_8 => k_is)
    (case u3_8 => k_is); (case ty_8 => k_is); (case aC_9 => k_is); (case xL_9 => k_is); (case sa_9 => k_is); (case kp_9 => k_is)
    (case iC_9 => k_is); (case tI_9 => k_is); (case lI_9 => k_is); (case cI_9 => k_is); (case kf_9 => k_is); (case ga_9 => k_is)
    (case gg_9 => k_is); (case sb_9 => k_is); (case hd_9 => k_is); (case cl_9 => k_is); (case mo_9 => k_is); (case u0_9 => k_is)
    (case u1_9 => k_is); (case u2_9 => k_is); (case u3_9 => k_is); (case ty_9 => k_is); (case aC_10 => k_is); (case xL_10 => k_is)
    (case sa_10 => k_is); (case kp_10 => k_is); (case iC_10 => k_is); (case tI_10 => k_is); (case lI_10 => k_is); (case cI_10 => k_is)
    (case kf_10 => k_is); (case ga_10 => k_is); (case gg_10 => k_is); (case sb_10 => k_is); (case hd_10 => k_is); (case cl_10 => k_is)
    (case mo_10 => k_is); (case u0_10 => k_is); (case u1_10 => k_is); (case u2_10 => k_is); (case u3_10 => k_is); (case ty_10 => k_is)
    (case aC_11 => k_is); (case xL_11 => k_is); (case sa_11 => k_is); (case kp_11 => k_is); (case iC_11 => k_is); (case tI_11 => k_is)
    (case lI_11 => k_is); (case cI_11 => k_is); (case kf_11 => k_is); (case ga_11 => k_is); (case gg_11 => k_is); (case sb_11 => k_is)
    (case hd_11 => k_is); (case cl_11 => k_is); (case mo_11 => k_is); (case u0_11 => k_is); (case u1_11 => k_is); (case u2_11 => k_is)
    (case u3_11 => k_is); (case ty_11 => k_is); (case aC_12 => k_is); (case xL_12 => k_is); (case sa_12 => k_is); (case kp_12 => k_is)
    (case iC_12 => k_is); (case tI_12 => k_is); (case lI_12 => k_is); (case cI_12 => k_is); (case kf_12 => k_is); (case nf_12 => k_is)
    (case ga_12 => k_is); (case gg_12 => k_is); (case sb_12 => k_is); (case hd_12 => k_is); (case cl_12 => k_is); (case mo_12 => k_is)
    (case u0_12 => k_is); (case u1_12 => k_is); (case u2_12 => k_is); (case u3_12 => k_is); (case ty_12 => k_is); (case na => decide)

