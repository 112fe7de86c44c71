import PyProof.Rows.All
import Wide.All
import OpenK.AllK
import Wide.FinOn
import HandS.ForMost
import HandS.ForExc
import HandS.GenList
import HandS.AnyAll
import HandS.EndOwn
import PyProof.SumAny
import HandS.IsInst
import HandS.More
import HandS.WideBits
import HandS.Zip
import PyProof.TypeEq
import HandS.Text
import HandS.TupLe
import HandS.Comp
import HandS.Deep
import HandS.Sort
import HandS.SortRule
import HandS.Conv
import HandS.Iter
import HandS.Style
import HandS.TupSets
import PyProof.WalksMore
import HandS.SetKeys
import HandS.ListItems
import KE.SortData
import KE.KDictList
import HandS.SortKw
import KE.DataMinMax
import PyProof.ReprRoads
import PyProof.ReprLen
import PyProof.Rows.ReprShort
import HandS.ExcOwn
import HandS.TryMany
import HandS.TryOnly
import HandS.SetFor
import HandS.DictComp
import HandS.Strs
import HandS.TupAny
import HandS.HeadHook4
import HandS.ExcInit
import HandS.ExcField
import HandS.ExcIs
import KE.KExcIs
import HandS.TupMul
import HandS.SortInts
import HandS.HeadWalk
import HandS.Head2
import HandS.HeadNt
import PySem.Challenge.RW_wardsdrawn_k22_whole_rings_rows_and_mesh
set_option Elab.async false
set_option linter.all false
set_option maxRecDepth 100000
set_option maxHeartbeats 4000000
/-! Gx: a generator expression over anything that PI serves, drained by all, any, sum, tuple; its element may be any expression of the layer. -/
namespace Gx
open PySem PySem.Spec PyProof.Rows L2 GenW

/-! ### the context in which the generator's code runs -/
abbrev genv (X : Cx) (scope : Scope) (code : Value) (C : Addr) : Env := genEnv scope (cloFrom X.env.cells scope.names []) C code builtinsNs X.env
def gcx (X : Cx) (N : List Str) (scope : Scope) (code : Value) (A : Around) (s : Shared) (H : Hp) (fp : List Addr) : Cx :=
  { X with
    A := A.deeper (genv X scope code s.heap.objs.size)
    N := N
    s_0 := s
    H_0 := H
    env := genv X scope code s.heap.objs.size
    outer := X.stack
    stack := genv X scope code s.heap.objs.size :: X.stack
    ex := fp
    fn := fun _ => false
    calm := true
    pn := []
    xe := fun _ _ => False }
/-- the names of the generator expression: N, its own ones and captured ones; src tells where a captured one stands in the def -/
structure GOk (ND : List Str) (sc scope : Scope) (N : List Str) (src : List (Option Nat)) : Prop where
  kind : scope.kind = .function
  co : scope.isCoroutine = false
  cell : ∀ y ∈ scope.names, y.2 ≠ .cell
  dot : scope.names.lookup (".0" : Str) = some NameKind.local
  free : ∀ y ∈ scope.names, y.2 = .free → sc.names.lookup y.1 = some .cell ∨ sc.names.lookup y.1 = some .free
  len : src.length = N.length
  src : ∀ (i j : Nat), src[i]? = some (some j) → ∃ x, N[i]? = some x ∧ ND[j]? = some x ∧ scope.names.lookup x = some .free
def gsl (σ : L2.St) (src : List (Option Nat)) : L2.St := src.map fun o => match o with
  | some j => σ.getD j none
  | none => none
theorem gsl_some {σ : L2.St} {src : List (Option Nat)} {i : Nat} {v : V} (h : (gsl σ src)[i]? = some (some v)) : ∃ j, src[i]? = some (some j) ∧ σ[j]? = some (some v) := by
  unfold gsl at h
  rw [List.getElem?_map] at h
  cases e : src[i]? with
  | none => rw [e] at h; cases h
  | some o =>
    rw [e] at h
    cases o with
    | none => cases h
    | some j =>
      refine ⟨j, rfl, ?_⟩
      have h2 : σ.getD j none = some v := Option.some.inj h
      rw [List.getD_eq_getElem?_getD] at h2
      cases e2 : σ[j]? with
      | none => rw [e2] at h2; cases h2
      | some w => rw [e2] at h2; exact congrArg some h2
theorem over_gl {A : Around} {elt iter tg : Expr} {ifs : List Expr} {scope : Scope} {pos : Pos} {it acc : Value} {env : Env} :
    A.over (.compLoop (.GeneratorExp elt [⟨tg, iter, ifs, 0⟩] scope pos) 0 it acc env) [] = A.deeper env := by
  first
    | rfl
    | (obtain ⟨hd, d, fr, gs, u⟩ := A; simp [Around.over, Around.deeper, marksOver, frameCount, unitsOf, envsOf, guardsOf, pushEnvs, pushGuards, Code.envs, Code.env?, Code.isFrame, Code.guards, Code.isGuard, Code.weight, Code.frames, Code.isCreation, Code.isCaller, Code.cUnits])
theorem over_gs {A : Around} {elt iter tg : Expr} {ifs : List Expr} {scope : Scope} {pos : Pos} {it acc : Value} {env : Env} :
    A.over (.compStart (.GeneratorExp elt [⟨tg, iter, ifs, 0⟩] scope pos) 0 it acc env) [] = A.deeper env := by
  first
    | rfl
    | (obtain ⟨hd, d, fr, gs, u⟩ := A; simp [Around.over, Around.deeper, marksOver, frameCount, unitsOf, envsOf, guardsOf, pushEnvs, pushGuards, Code.envs, Code.env?, Code.isFrame, Code.guards, Code.isGuard, Code.weight, Code.frames, Code.isCreation, Code.isCaller, Code.cUnits])
section
variable {X : Cx} {pins : List (Addr × Obj)} {σ : L2.St} {H : Hp} {s s' : Shared} {scope : Scope} {N : List Str} {src : List (Option Nat)} {fp : List Addr} {code : Value} {A : Around} {m0 : Str → Option Value}
theorem g_start (I : Inv X pins σ H s) (ok : GOk X.N X.env.scope scope N src) (hfp : ∀ b ∈ fp, FpOk X pins H b ∧ b < s.heap.objs.size) (hA : A.frames = some X.stack) (hh : A.handled = none)
    (os : s'.os = s.os) (bare : AllBare s'.gens) (kp : ∀ b o, s.heap.get? b = some o → s'.heap.get? b = some o) (hn : s'.heap.Ns s.heap.objs.size m0) :
    Inv (gcx X N scope code A s H fp) [] (gsl σ src) H s' := by
  have hfree : ∀ y ∈ scope.names, y.2 = .free → ∃ c, X.env.cells.lookup y.1 = some c := fun y hy e => by
    rcases ok.free y hy e with k | k
    · exact I.ok.has _ (.inl k)
    · exact I.ok.has _ (.inr k)
  have cm : ∀ {y c}, (y, c) ∈ cloFrom X.env.cells scope.names [] → X.env.cells.lookup y = some c ∧ c < s.heap.objs.size := fun {y c} hm => by
    rcases cloFrom_mem hm with hm | ⟨h1, rfl⟩
    · cases hm
    · obtain ⟨c, hc⟩ := hfree _ h1 rfl
      rw [hc]
      obtain ⟨w, z⟩ := I.cell _ _ hc
      exact ⟨rfl, z.lt⟩
  have look : ∀ {y}, scope.names.lookup y = some .free → ∃ c, (cloFrom X.env.cells scope.names []).lookup y = some c ∧ X.env.cells.lookup y = some c := fun {y} hl => by
    have hy : (y, NameKind.free) ∈ scope.names := PySem.mem_of_lookup hl
    obtain ⟨c', e'⟩ := mem_lookup (cloFrom_has (cells := X.env.cells) (acc := []) hy)
    exact ⟨c', e', (cm (PySem.mem_of_lookup e')).1⟩
  refine ⟨⟨I.ok.mod, ok.kind, I.ok.glob, rfl, Nat.le_refl _, fun y z c e1 e2 => ?_, fun y hy => ?_, fun y c z _ => ?_, fun _ => hh, Around.frames_deeper hA, .inr ⟨rfl, rfl⟩, fun b hb => ⟨?_, fun y c e z => ?_⟩, I.bs, Nat.le_trans I.ok.bsz I.sz, fun b o e hb => ?_, fun b hb z => ?_, I.stack, I.stkFree⟩,
    os, bare, Un.kept kp, ⟨m0, hn, fun i y v e1 e2 e3 => ?_⟩, fun y c e => ?_, I.hok.fresh (Nat.le_refl _), fun y c e => ?_, fun p hp => absurd (show p ∈ ([] : List (Addr × Obj)) ++ [] from hp) (by simp), I.hok.kept kp, ?_⟩
  · exact I.ok.inj y z c (cm (PySem.mem_of_lookup e1)).1 (cm (PySem.mem_of_lookup e2)).1
  · have hy : scope.names.lookup y = some .cell ∨ scope.names.lookup y = some .free := hy
    rcases hy with hy | hy
    · exact absurd rfl (ok.cell _ (PySem.mem_of_lookup hy))
    · obtain ⟨c, h1, _⟩ := look hy
      exact ⟨c, h1⟩
  · cases z
  · exact Nat.ne_of_lt (hfp b hb).2
  · exact (hfp b hb).1.2.2.2.2.1 y c (cm (PySem.mem_of_lookup e)).1 z
  · rcases (hfp b hb).1.2.2.2.1 with z | z
    · exact I.ok.noex b o e z
    · exact absurd (Nat.lt_of_lt_of_le (Heap.lt_size e) (Nat.le_trans I.ok.bsz z)) (Nat.lt_irrefl _)
  · rcases List.mem_cons.mp (I.stkSub b z) with z | z
    · exact (hfp b hb).1.2.1 z
    · exact (hfp b hb).1.2.2.1 z
  · obtain ⟨j, h1, h2⟩ := gsl_some e2
    obtain ⟨x, hx1, hx2, hx3⟩ := ok.src i j h1
    have e1 : N[i]? = some y := e1
    rw [hx1] at e1
    cases e1
    obtain ⟨m, _, hl⟩ := I.loc
    have hf := ok.free _ (PySem.mem_of_lookup hx3) rfl
    obtain ⟨w, r, q⟩ := hl j y v hx2 h2 (hf.elim (fun k => .inr (.inl k)) fun k => .inr (.inr k))
    refine ⟨w, r, .inr ⟨.inr hx3, ?_⟩⟩
    obtain ⟨c, h1, h2⟩ := look hx3
    rcases q with ⟨k, _⟩ | ⟨_, c', e', z⟩
    · have k : X.env.scope.names.lookup y = some .local := k
      rcases hf with k' | k' <;> rw [show X.env.scope.names.lookup y = _ from k'] at k <;> cases k
    · rw [h2] at e'; cases e'
      exact ⟨c, h1, z.keeps kp⟩
  · obtain ⟨w, z⟩ := I.cell y c (cm (PySem.mem_of_lookup e)).1
    exact ⟨w, z.keeps kp⟩
  · exact I.freeC y c (cm (PySem.mem_of_lookup e)).1
  · show (gsl σ src).length = N.length
    unfold gsl
    rw [List.length_map, ok.len]
end

/-! ### the loop of the generator's code -/
/-- what is pinned while the generator runs: its own object and what its consumer keeps -/
structure PinsOk (G : Cx) (fp : List Addr) (pins : List (Addr × Obj)) : Prop where
  young : ∀ p ∈ pins, G.s_0.heap.objs.size ≤ p.1
  ne : ∀ p ∈ pins, p.1 ≠ G.env.locals
  nfp : ∀ p ∈ pins, p.1 ∉ fp
  ncell : ∀ p ∈ pins, ∀ x c, G.env.cells.lookup x = some c → c ≠ p.1
abbrev TPost := V → List V → Hp → Prop → Prop
/-- the consumer has taken its item: what it keeps may have changed, all else stands -/
structure Woke (pins pins' : List (Addr × Obj)) (s s' : Shared) : Prop where
  os : s'.os = s.os
  bare : AllBare s'.gens
  keep : ∀ b o, b ∉ pins.map (·.1) → s.heap.get? b = some o → s'.heap.get? b = some o
  same : pins'.map (·.1) = pins.map (·.1)
  at_ : ∀ p ∈ pins', s'.heap.get? p.1 = some p.2
  data : ∀ p ∈ pins', ∀ v, p.2.data ≠ .cell v
def GYx (G : Cx) (fp : List Addr) (Pn : List V → List (Addr × Obj) → Prop) (post : TPost) : Protocol := fun n s₀ v s kap =>
  ∃ x ys σ H pins C, RelV x v ∧ Inv G pins σ H s ∧ PinsOk G fp pins ∧ Pn ys pins ∧ (∀ p ∈ pins, s₀.heap.get? p.1 = some p.2) ∧ post x ys H C ∧
    (C → ∀ s' pins', Woke pins pins' s s' → Pn (ys ++ [x]) pins' → kap (.send .none) s')
def GEx (G : Cx) (fp : List Addr) (Pn : List V → List (Addr × Obj) → Prop) (Fin : List V → Hp → Prop) : Shared → Shared → Prop := fun s₀ s =>
  ∃ ys σ H pins, Inv G pins σ H s ∧ PinsOk G fp pins ∧ Pn ys pins ∧ (∀ p ∈ pins, s₀.heap.get? p.1 = some p.2) ∧ Fin ys H
/-- the reading of a turn -/
def GTurn (J : It) (g : TG) (tt : TT) (te : TE) (vs : List Nat) (σg : L2.St) (post : TPost) (Fin : List V → Hp → Prop) (W : Nat → Nat → List V → Hp → Prop) : Prop :=
  ∀ i m ys H, W i m ys H → (J.stop i H ∧ Fin ys H) ∨ (J.go i H ∧ ∀ x H', J.yld i H x H' → g x σg H' fun σ2 H2 => wipe σ2 vs = σg ∧ tt σ2 H2 fun b H3 =>
    if b = true then te σ2 H3 fun v H4 => post v ys H4 (∃ m', m' < m ∧ W (i + 1) m' (ys ++ [v]) H4) else ∃ m', m' < m ∧ W (i + 1) m' ys H3)
theorem Inv.woke {G : Cx} {fp : List Addr} {pins pins' : List (Addr × Obj)} {σ : L2.St} {H : Hp} {s s' : Shared} (I : Inv G pins σ H s) (hpn : G.pn = []) (hp : PinsOk G fp pins) (z : Woke pins pins' s s') : Inv G pins' σ H s' ∧ PinsOk G fp pins' := by
  have hm : ∀ b, b ∈ pins.map (·.1) → ∃ p ∈ pins, p.1 = b := fun b hb => by
    obtain ⟨p, h1, h2⟩ := List.mem_map.mp hb
    exact ⟨p, h1, h2⟩
  have h0 : ∀ b ∈ pins.map (·.1), H b = none ∧ b ∉ G.fs := fun b hb => by
    obtain ⟨p, h1, rfl⟩ := hm b hb
    have q := I.pin p (List.mem_append_right _ h1)
    exact ⟨q.2.1, q.2.2.2.1⟩
  have h1 : ∀ b ∈ pins.map (·.1), G.s_0.heap.objs.size ≤ b ∧ b ≠ G.env.locals ∧ b ∉ fp ∧ ∀ x c, G.env.cells.lookup x = some c → c ≠ b := fun b hb => by
    obtain ⟨p, h1, rfl⟩ := hm b hb
    exact ⟨hp.young p h1, hp.ne p h1, hp.nfp p h1, hp.ncell p h1⟩
  have I0 : Inv G [] σ H s := I.pins_of fun p hp => by simp at hp
  have nt : ∀ b u, H b = some u → b ∉ pins.map (·.1) := fun b u q hb => by rw [(h0 b hb).1] at q; cases q
  obtain ⟨hh, g, d, t, o⟩ := s'
  have ho : o = s.os := z.os
  subst ho
  have J : Inv G [] σ H { s with heap := hh, gens := g, drawn := d, toks := t } := by
    refine I0.step (g' := g) (t' := t) (d' := d) (ch := pins.map (·.1)) (fun b hb => ?_)
      (fun b ob _ _ hc q _ => z.keep b ob hc q) (fun b ob _ _ hc q _ => ⟨ob.slots, z.keep b ob hc q⟩) (fun _ _ _ _ n => n) (fun b ob hc q => ⟨ob, z.keep b ob hc q⟩)
      (fun _ _ q => q) (fun _ _ _ q => q) (fun b ps q => ⟨#[], by rw [q]; simp⟩) (fun m hm => ?_) (fun b u q => ?_) z.bare
    · obtain ⟨q1, q2, _, q4⟩ := h1 b hb
      refine ⟨.inr q1, q2, q4, fun p hp => ?_⟩
      rw [hpn] at hp
      simp at hp
    · obtain ⟨ob, es, ep, ho, r⟩ := hm
      exact ⟨ob, es, ep, z.keep _ ob (fun hb => (h1 _ hb).2.1 rfl) ho, r⟩
    · refine (I0.hok b u q).stay (fun c v hc y => z.keep c v ?_ y) (fun _ y => y) fun _ _ y => y
      rcases hc with y | y
      · rw [y]; exact nt b u q
      · exact nt c _ y
  have hsub : ∀ p ∈ pins', p.1 ∈ pins.map (·.1) := fun p hp => by rw [← z.same]; exact List.mem_map.mpr ⟨p, hp, rfl⟩
  refine ⟨J.pins_of fun p hp => ⟨z.at_ p hp, (h0 _ (hsub p hp)).1, (h1 _ (hsub p hp)).2.1, (h0 _ (hsub p hp)).2, z.data p hp⟩,
    ⟨fun p hp => (h1 _ (hsub p hp)).1, fun p hp => (h1 _ (hsub p hp)).2.1, fun p hp => (h1 _ (hsub p hp)).2.2.1, fun p hp => (h1 _ (hsub p hp)).2.2.2⟩⟩

section
variable {X : Cx} {H4 : Hp} {s4 : Shared} {scope : Scope} {N : List Str} {fp : List Addr} {code : Value} {A : Around}
variable {elt tg iter : Expr} {ifs : List Expr} {pos : Pos} {it : Addr} {J : It} {tn : Nat → Heap → Prop} {g : TG} {tt : TT} {te : TE} {vs : List Nat} {σg : L2.St} {post : TPost} {Fin : List V → Hp → Prop}
  {W : Nat → Nat → List V → Hp → Prop} {Pn : List V → List (Addr × Obj) → Prop}
theorem g_loop (hco : scope.isCoroutine = false) (hh : A.handled = none) (T : Turn X.prog X.w X.K tg J fp it tn)
    (pg : PG (gcx X N scope code A s4 H4 fp) tg g) (pt : PTs (gcx X N scope code A s4 H4 fp) ifs tt) (pe : PE (gcx X N scope code A s4 H4 fp) elt te)
    (turn : GTurn J g tt te vs σg post Fin W) :
    ∀ (m n i : Nat) (ys : List V) (H : Hp) (s₀ s : Shared) (pins : List (Addr × Obj)), m < n → W i m ys H → Inv (gcx X N scope code A s4 H4 fp) pins σg H s → PinsOk (gcx X N scope code A s4 H4 fp) fp pins → Pn ys pins → (∀ p ∈ pins, s₀.heap.get? p.1 = some p.2) →
      tn i s.heap → (∀ b ∈ fp, H b = none) →
      Seg (model X.prog X.w) A (fun n s₀ r s₁ => r = .ok .next ∧ GEx (gcx X N scope code A s4 H4 fp) fp Pn Fin s₀ s₁) (GYx (gcx X N scope code A s4 H4 fp) fp Pn post) n s₀
        (.compLoop (.GeneratorExp elt [⟨tg, iter, ifs, 0⟩] scope pos) 0 (.ref it) .none (genv X scope code s4.heap.objs.size))
        ((model X.prog X.w).den (.compLoop (.GeneratorExp elt [⟨tg, iter, ifs, 0⟩] scope pos) 0 (.ref it) .none (genv X scope code s4.heap.objs.size))) [] s := by
  intro m
  induction m using Nat.strongRecOn with
  | ind m ih =>
  intro n i ys H s₀ s pins hmn w I P hPn hs0 st nf
  have stat : ∀ {pins' : List (Addr × Obj)} {σ' : L2.St} {H' : Hp} {s' : Shared}, Inv (gcx X N scope code A s4 H4 fp) pins' σ' H' s' → PinsOk (gcx X N scope code A s4 H4 fp) fp pins' → (∀ b ∈ fp, H' b = none) → ∀ b ∈ fp, FpOk (gcx X N scope code A s4 H4 fp) pins' H' b := fun {pins' σ' H' s'} I' P' hn b hb =>
    ⟨hn b hb, (I'.ok.exf b hb).1, I'.ok.exfs b hb, .inl hb, fun x c e => (I'.ok.exf b hb).2 x c e, fun p hp => by
      have hp : p ∈ ([] : List (Addr × Obj)) ++ pins' := hp
      rw [List.nil_append] at hp
      intro e
      exact P'.nfp p hp (by rw [e]; exact hb)⟩
  show Seg _ A _ _ _ s₀ _ ((compTurn (.GeneratorExp elt [⟨tg, iter, ifs, 0⟩] scope pos) 0 (.ref it) .none (genv X scope code s4.heap.objs.size)).onRaise (leaving (genv X scope code s4.heap.objs.size))) [] s
  rw [compTurn_gen, Sem.onRaise_eq_wrap]
  refine seg_bind_wrap (wpAny_standAt ?_)
  rcases turn i m ys H w with ⟨stop, fin⟩ | ⟨go, step⟩
  · refine seg_bind_wrap ?_
    rw [over_gl]
    refine thnF (T.done (gcx X N scope code A s4 H4 fp) rfl rfl rfl rfl i pins s _ H (fun _ _ => False) I (stat I P nf) st stop) fun r s6 ⟨hr, I6⟩ => ?_
    subst hr
    exact seg_end (.ok .next) ⟨rfl, ys, _, H, pins, I6, P, hPn, hs0, fin⟩
  · refine seg_bind_wrap ?_
    rw [over_gl]
    refine thnF (T.item (gcx X N scope code A s4 H4 fp) rfl rfl rfl rfl i pins s _ H (fun _ _ => False) I (stat I P nf) st go) fun r s6 ⟨u, hr, h6⟩ => ?_
    subst hr
    refine seg_bind_wrap ?_
    rw [over_gl]
    refine thnF h6 fun _ s7 ⟨x, H7, I7, r7, y7, st7, n7⟩ => ?_
    have I7' := I7.pinned (stat I7 P n7) (T.obj _ _ st7)
    refine seg_bind_wrap ?_
    rw [over_gl]
    refine thnF (pg.run _ s7 _ H7 x u _ I7' r7 (step x H7 y7)) fun _ s8 ⟨σ8, H8, I8, hw8, q8⟩ => ?_
    refine seg_bind_wrap ?_
    rw [over_gl]
    refine thnF (pt.run _ s8 σ8 H8 _ I8 q8) fun b s9 ⟨H9, I9, q9⟩ => ?_
    -- the turn's end
    have fin : ∀ {s' : Shared} {H' : Hp}, Inv (gcx X N scope code A s4 H4 fp) (pins ++ pinsAt fp s7.heap) σ8 H' s' → Inv (gcx X N scope code A s4 H4 fp) pins σg H' s' ∧ tn (i + 1) s'.heap ∧ ∀ b ∈ fp, H' b = none := fun {s' H'} I' => by
      have pin' : ∀ b ∈ fp, ∀ o, s7.heap.get? b = some o → s'.heap.get? b = some o ∧ H' b = none := fun b hb o e =>
        let z := I'.pin (b, o) (List.mem_append_right _ (List.mem_append_right _ (mem_pinsAt hb e)))
        ⟨z.1, z.2.1⟩
      have hl : σg.length = σ8.length := by rw [← hw8, wipe_length]
      refine ⟨(I'.unpinned (pins := pins)).weak hl (fun j v e => ?_), T.keep _ _ _ st7 fun b hb o e => (pin' b hb o e).1, fun b hb => ?_⟩
      · rw [← hw8] at e
        exact (wipe_some e).1
      · obtain ⟨o, e, _⟩ := T.obj _ _ st7 b hb
        exact (pin' b hb o e).2
    cases b with
    | false =>
      simp only [Bool.false_eq_true, if_false] at q9 ⊢
      obtain ⟨m', hm, w'⟩ := q9
      obtain ⟨J1, J2, J3⟩ := fin I9
      exact seg_again rfl (ih m' hm n (i + 1) ys H9 s₀ s9 pins (by omega) w' J1 P hPn hs0 J2 J3)
    | true =>
      simp only [if_true] at q9 ⊢
      obtain ⟨n', rfl⟩ : ∃ n', n = n' + 1 := ⟨n - 1, by omega⟩
      have hy : ∀ v, yieldOut (genv X scope code s4.heap.objs.size) v = yieldValue v := fun v => by
        have hco' : (genv X scope code s4.heap.objs.size).scope.isCoroutine = false := hco
        simp only [yieldOut, hco', Bool.false_eq_true, if_false]
      simp only [hy]
      rw [Sem.bind_eq_wrap', Sem.bind_eq_wrap', Sem.wrap_wrap, Sem.wrap_wrap]
      refine seg_wrap ?_
      rw [over_gl]
      refine thnF (pe.run _ s9 σ8 H9 _ I9 q9) fun v s10 ⟨yv, H10, I10, r10, q10⟩ => ?_
      obtain ⟨J1, J2, J3⟩ := fin I10
      refine seg_at (seg_yield rfl rfl rfl ⟨yv, ys, _, H10, pins, _, r10, J1, P, hPn, hs0, q10, fun hC s' pins' hw hP' => ?_⟩)
      obtain ⟨m', hm, w'⟩ := hC
      obtain ⟨K1, K2⟩ := Gx.Inv.woke J1 rfl P hw
      refine seg_again rfl (ih m' hm n' (i + 1) (ys ++ [yv]) H10 s' s' pins' (by omega) w' K1 K2 hP' hw.at_ (T.keep _ _ _ J2 fun b hb o e => hw.keep b o (fun hm => ?_) e) J3)
      obtain ⟨p, hp, e⟩ := List.mem_map.mp hm
      exact P.nfp p hp (by rw [e]; exact hb)

theorem g_begin (hco : scope.isCoroutine = false) (hh : A.handled = none) (T : Turn X.prog X.w X.K tg J fp it tn)
    (pg : PG (gcx X N scope code A s4 H4 fp) tg g) (pt : PTs (gcx X N scope code A s4 H4 fp) ifs tt) (pe : PE (gcx X N scope code A s4 H4 fp) elt te)
    (turn : GTurn J g tt te vs σg post Fin W) {m n : Nat} {ys : List V} {H : Hp} {s₀ s : Shared} {pins : List (Addr × Obj)} (hmn : m < n) (w : W 0 m ys H) (I : Inv (gcx X N scope code A s4 H4 fp) pins σg H s) (P : PinsOk (gcx X N scope code A s4 H4 fp) fp pins) (hPn : Pn ys pins)
    (hs0 : ∀ p ∈ pins, s₀.heap.get? p.1 = some p.2) (st : tn 0 s.heap) (nf : ∀ b ∈ fp, H b = none) :
      Seg (model X.prog X.w) A (fun n s₀ r s₁ => r = .ok .next ∧ GEx (gcx X N scope code A s4 H4 fp) fp Pn Fin s₀ s₁) (GYx (gcx X N scope code A s4 H4 fp) fp Pn post) n s₀
        (.compStart (.GeneratorExp elt [⟨tg, iter, ifs, 0⟩] scope pos) 0 (.ref it) .none (genv X scope code s4.heap.objs.size))
        ((model X.prog X.w).den (.compStart (.GeneratorExp elt [⟨tg, iter, ifs, 0⟩] scope pos) 0 (.ref it) .none (genv X scope code s4.heap.objs.size))) [] s := by
  have loop := g_loop (elt := elt) (iter := iter) (ifs := ifs) (pos := pos) hco hh T pg pt pe turn m n 0 ys H s₀ s pins hmn w I P hPn hs0 st nf
  show Seg _ A _ _ _ s₀ _ ((compStart (.GeneratorExp elt [⟨tg, iter, ifs, 0⟩] scope pos) 0 (.ref it) .none (genv X scope code s4.heap.objs.size)).onRaise (leaving (genv X scope code s4.heap.objs.size))) [] s
  unfold compStart
  rw [Sem.onRaise_eq_wrap]
  show Seg _ A _ _ _ s₀ _ ((ask >>= _).wrap _ _ _ _) [] s
  refine seg_bind_wrap (wpAny_askSetting ?_)
  split
  · exact seg_again rfl loop
  · first
      | exact seg_bind_wrap (wpAny_rule (seg_bind_wrap (wpAny_standAt (seg_bind_wrap (T.self _ 0 s _ _ st (seg_again rfl loop))))))
      | (refine seg_bind_wrap (wpAny_rule ?_); show Seg _ A _ _ _ s₀ _ ((standAt iter.pos >>= _).wrap _ _ _ _) [] s; exact seg_bind_wrap (wpAny_standAt (seg_bind_wrap (T.self _ 0 s _ _ st (seg_again rfl loop)))))

/-! ### one step of a consumer -/
/-- back with the def: what its frame asks -/
structure Back (X : Cx) (H4 : Hp) (s4 : Shared) (fp : List Addr) (H : Hp) (s' : Shared) : Prop where
  os : s'.os = s4.os
  un : Un (frs X.stack) fp H4 H s4.heap s'.heap
  hok : HOk X.prog X.w H s'.heap
  bare : AllBare s'.gens
theorem Back.of {N : List Str} {scope : Scope} {code : Value} {A : Around} {pins : List (Addr × Obj)} {σ : L2.St} {H : Hp} {s1 : Shared} (I : Inv (gcx X N scope code A s4 H4 fp) pins σ H s1) : Back X H4 s4 fp H s1 := ⟨I.os, I.base, I.hok, I.bare⟩
theorem Back.setGen {H : Hp} {s1 : Shared} (b : Back X H4 s4 fp H s1) {g : Nat} {x : GenState} (hx : x.bare = true) : Back X H4 s4 fp H (s1.setGen g x) := ⟨b.os, b.un, b.hok, allBare_setGen b.bare hx⟩
theorem Back.kept {H : Hp} {s1 : Shared} (b : Back X H4 s4 fp H s1) {h' : Heap} {tk : Nat} (k : ∀ b o, s1.heap.get? b = some o → h'.get? b = some o) : Back X H4 s4 fp H { s1 with heap := h', toks := tk } :=
  ⟨b.os, b.un.trans (Un.kept k), b.hok.kept k, b.bare⟩
theorem Back.inv {pins : List (Addr × Obj)} {σ : L2.St} {H : Hp} {s' : Shared} (b : Back X H4 s4 fp H s') (I : Inv X pins σ H4 s4) (hfp : ∀ b ∈ fp, FpOk X pins H4 b) : Inv X pins σ H s' :=
  I.call' (ch := fp) b.os b.un b.hok b.bare fun b hb => ⟨(hfp b hb).2.2.2.1, (hfp b hb).2.1, (hfp b hb).2.2.2.2.1, (hfp b hb).2.2.2.2.2⟩

abbrev GR (G : Cx) (fp : List Addr) (Pn : List V → List (Addr × Obj) → Prop) (Fin : List V → Hp → Prop) : GenEnd := fun n s₀ r s₁ => r = .ok .next ∧ GEx G fp Pn Fin s₀ s₁
/-- the generator at a, number gi, ready to be asked within A -/
structure Rdy (M : Model) (A : Around) (R : GenEnd) (Y : Protocol) (a : Addr) (go : Obj) (gi n : Nat) (s : Shared) : Prop where
  obj : s.heap.get? a = some go
  lim : s.heap.NoLimit
  go : ∃ gs, s.gens[gi]? = some gs ∧ gs.Goes M A R Y n (.send .none) (s.setGen gi .running)
theorem g_next {B : Around} {G : Cx} {a : Addr} {go : Obj} {gi n : Nat} {s : Shared} {Q : Option Value → Shared → Prop} {E : Value → Shared → Prop} (hh : B.handled = none) (hd : B.depth < recursionLimit)
    (hgen : ∀ h : Heap, h.get? a = some go → h.IsGen a gi)
    (hr : Rdy (model X.prog X.w) B.in1 (GR G fp Pn Fin) (GYx G fp Pn post) a go gi n s)
    (hY : ∀ x v ys σ H pins C s1 gs', gs'.bare = true → RelV x v → Inv G pins σ H s1 → PinsOk G fp pins → Pn ys pins → (∀ p ∈ pins, s.heap.get? p.1 = some p.2) → post x ys H C → gi < s1.gens.size →
      (C → ∀ s' pins', Woke pins pins' s1 s' → Pn (ys ++ [x]) pins' → ∃ n', n = n' + 1 ∧ gs'.Goes (model X.prog X.w) B.in1 (GR G fp Pn Fin) (GYx G fp Pn post) n' (.send .none) s') → Q (some v) (s1.setGen gi gs'))
    (hP : ∀ s1 ys σ H pins h', Inv G pins σ H s1 → PinsOk G fp pins → Pn ys pins → (∀ p ∈ pins, s.heap.get? p.1 = some p.2) → Fin ys H → (∀ b o, s1.heap.get? b = some o → h'.get? b = some o) → Q none { s1.setGen gi .finished with heap := h' }) :
    wpAny (model X.prog X.w) B (pyNext (.ref a)) Q E s := by
  obtain ⟨gs, hgs, hgo⟩ := hr.go
  have hgl : gi < s.gens.size := (Array.getElem?_eq_some_iff.mp hgs).1
  refine wpAny_gsz (n := gi + 1) hgl (wpAny_pyNext_genexpQ (P := fun _ s₀ s₁ => GEx G fp Pn Fin s₀ s₁) hh hr.lim hd (hgen _ hr.obj) hgs hgo (fun v s₁ gs' hb hv => ?_) fun s₁ hp h' hk => ?_)
  · intro hsz
    obtain ⟨x, ys, σ, H, pins, C, r, I, P, hPn, hs0, hpost, hkap⟩ := hv
    have hsz1 : gi < s₁.gens.size := by
      have q : (s₁.setGen gi gs').gens.size = s₁.gens.size := setGen_size _ _ _
      have hsz' : gi + 1 ≤ (s₁.setGen gi gs').gens.size := hsz
      omega
    refine hY x v ys σ H pins C s₁ gs' hb r I P hPn hs0 hpost hsz1 fun hC s' pins' hw hP' => ?_
    have q := hkap hC s' pins' hw hP'
    cases n with
    | zero => exact q.elim
    | succ n' => exact ⟨n', rfl, q⟩
  · intro _
    obtain ⟨ys, σ, H, pins, I, P, hPn, hs0, hfin⟩ := hp
    exact hP s₁ ys σ H pins h' I P hPn hs0 hfin hk
end
end Gx

set_option Elab.async false
set_option linter.all false
set_option maxRecDepth 100000
set_option maxHeartbeats 4000000
/-! Gy: the consumers all, any, sum, tuple. -/
namespace Gx
open PySem PySem.Spec PyProof.Rows L2 GenW

section
variable {X : Cx} {H4 : Hp} {s4 : Shared} {scope : Scope} {N : List Str} {fp : List Addr} {code : Value} {AG A : Around} {a S : Addr} {go : Obj} {gi : Nat} {Fin : List V → Hp → Prop} {Qf : Hp → Prop} {R' : Result → Shared → Prop}

def pAll (Qf : Hp → Prop) : TPost := fun v _ H C => ∃ b, v = .bl b ∧ if b = true then C else Qf H
def pAny (Qt : Hp → Prop) : TPost := fun v _ H C => ∃ b, v = .bl b ∧ if b = true then Qt H else C
def nAll (a : Addr) (go : Obj) : List V → List (Addr × Obj) → Prop := fun _ pins => pins = [(a, go)]

theorem woke_same {G : Cx} {fp : List Addr} {pins : List (Addr × Obj)} {σ : L2.St} {H : Hp} {s1 : Shared} {gs' : GenState} (I : Inv G pins σ H s1) (hb : gs'.bare = true) : Woke pins pins s1 ((s1.setGen gi gs').setGen gi .running) where
  os := rfl
  bare := allBare_setGen (s := s1.setGen gi gs') (allBare_setGen I.bare hb) rfl
  keep := fun _ _ _ e => e
  same := rfl
  at_ := fun p hp => (I.pin p (List.mem_append_right _ hp)).1
  data := fun p hp => (I.pin p (List.mem_append_right _ hp)).2.2.2.2

theorem drain_all (hh : A.handled = none) (hd : A.depth < recursionLimit) (hgen : ∀ h : Heap, h.get? a = some go → h.IsGen a gi)
    (hT : ∀ s' ys H, Back X H4 s4 fp H s' → Fin ys H → R' (.ok (.ret (.bool true))) s') (hF : ∀ s' H, Back X H4 s4 fp H s' → Qf H → R' (.ok (.ret (.bool false))) s') :
    ∀ (n : Nat) (s : Shared), Rdy (model X.prog X.w) A.in1.in1 (GR (gcx X N scope code AG s4 H4 fp) fp (nAll a go) Fin) (GYx (gcx X N scope code AG s4 H4 fp) fp (nAll a go) (pAll Qf)) a go gi n s →
      codeAny (model X.prog X.w) A (.builtin "all.loop" ⟨[.ref a], []⟩) R' s := by
  intro n
  induction n using Nat.strongRecOn with
  | ind n ih =>
  intro s hr
  refine codeAny_builtin F.entry_all_loop ?_
  rw [Around.under_plainId F.plain_all_loop _]
  show wpAny _ A.in1 (pyNext (.ref a) >>= _) _ _ s
  refine wpAny_bind (g_next (B := A.in1) hh hd hgen hr (fun x v ys σ H pins C s1 gs' hb rv I P hPn hs0 hpost hsz hk => ?_) fun s1 ys σ H pins h' I P hPn hs0 hfin hkh => ?_)
  · obtain ⟨b, rfl, hpost⟩ := hpost
    cases rv
    refine wpAny_bind (wpAny_holding (wpAny_truthy_bool ?_))
    refine wpAny_bind (wpAny_letGo ?_)
    have hPn' : pins = [(a, go)] := hPn
    subst hPn'
    cases b with
    | true =>
      simp only [if_true] at hpost ⊢
      obtain ⟨n', rfl, hgo⟩ := hk hpost _ _ (woke_same (fp := fp) (gi := gi) I hb) rfl
      refine wpAny_pure ⟨plainId_quiet F.plain_all_loop _, ih n' (Nat.lt_succ_self _) _ ⟨?_, I.nolimit, gs', setGen_at hsz, hgo⟩⟩
      exact (I.pin (a, go) (List.mem_append_right _ List.mem_cons_self)).1
    | false =>
      simp only [Bool.false_eq_true, if_false] at hpost ⊢
      exact wpAny_bind (wpAny_rule (wpAny_pure (hF _ H ((Back.of I).setGen hb) hpost)))
  · exact wpAny_bind (wpAny_rule (wpAny_pure (hT _ ys H (Back.kept (tk := s1.toks) ((Back.of I).setGen (g := gi) (x := .finished) rfl) hkh) hfin)))
theorem drain_any {Qt : Hp → Prop} (hh : A.handled = none) (hd : A.depth < recursionLimit) (hgen : ∀ h : Heap, h.get? a = some go → h.IsGen a gi)
    (hF : ∀ s' ys H, Back X H4 s4 fp H s' → Fin ys H → R' (.ok (.ret (.bool false))) s') (hT : ∀ s' H, Back X H4 s4 fp H s' → Qt H → R' (.ok (.ret (.bool true))) s') :
    ∀ (n : Nat) (s : Shared), Rdy (model X.prog X.w) A.in1.in1 (GR (gcx X N scope code AG s4 H4 fp) fp (nAll a go) Fin) (GYx (gcx X N scope code AG s4 H4 fp) fp (nAll a go) (pAny Qt)) a go gi n s →
      codeAny (model X.prog X.w) A (.builtin "any.loop" ⟨[.ref a], []⟩) R' s := by
  intro n
  induction n using Nat.strongRecOn with
  | ind n ih =>
  intro s hr
  refine codeAny_builtin F.entry_any_loop ?_
  rw [Around.under_plainId F.plain_any_loop _]
  show wpAny _ A.in1 (pyNext (.ref a) >>= _) _ _ s
  refine wpAny_bind (g_next (B := A.in1) hh hd hgen hr (fun x v ys σ H pins C s1 gs' hb rv I P hPn hs0 hpost hsz hk => ?_) fun s1 ys σ H pins h' I P hPn hs0 hfin hkh => ?_)
  · obtain ⟨b, rfl, hpost⟩ := hpost
    cases rv
    refine wpAny_bind (wpAny_holding (wpAny_truthy_bool ?_))
    refine wpAny_bind (wpAny_letGo ?_)
    have hPn' : pins = [(a, go)] := hPn
    subst hPn'
    cases b with
    | false =>
      simp only [Bool.false_eq_true, if_false] at hpost ⊢
      obtain ⟨n', rfl, hgo⟩ := hk hpost _ _ (woke_same (fp := fp) (gi := gi) I hb) rfl
      refine wpAny_pure ⟨plainId_quiet F.plain_any_loop _, ih n' (Nat.lt_succ_self _) _ ⟨?_, I.nolimit, gs', setGen_at hsz, hgo⟩⟩
      exact (I.pin (a, go) (List.mem_append_right _ List.mem_cons_self)).1
    | true =>
      simp only [if_true] at hpost ⊢
      exact wpAny_bind (wpAny_rule (wpAny_pure (hT _ H ((Back.of I).setGen hb) hpost)))
  · exact wpAny_bind (wpAny_rule (wpAny_pure (hF _ ys H (Back.kept (tk := s1.toks) ((Back.of I).setGen (g := gi) (x := .finished) rfl) hkh) hfin)))

/-! ### tuple -/
def pTup : TPost := fun _ ys _ C => ys.length < sizeLine ∧ C
def nTup (a : Addr) (go : Obj) (S : Addr) : List V → List (Addr × Obj) → Prop := fun ys pins => ∃ acc c, Vals ys acc.toList ∧ ys.length ≤ sizeLine ∧ pins = [(a, go), (S, lstObj acc c)]
theorem drain_tup {res : Value} (hh : A.handled = none) (hd : A.depth < recursionLimit) (hgen : ∀ h : Heap, h.get? a = some go → h.IsGen a gi) (hSa : S ≠ a) (hSc : S ≠ cStatics)
    (hEnd : ∀ s' ys H acc c, Back X H4 s4 fp H s' → Fin ys H → Vals ys acc.toList → ys.length ≤ sizeLine → s'.heap.get? S = some (lstObj acc c) → R' (.ok (.ret res)) s') :
    ∀ (n : Nat) (s : Shared), Rdy (model X.prog X.w) A.in1.in1 (GR (gcx X N scope code AG s4 H4 fp) fp (nTup a go S) Fin) (GYx (gcx X N scope code AG s4 H4 fp) fp (nTup a go S) pTup) a go gi n s →
      codeAny (model X.prog X.w) A (.builtin "list.extend.loop" ⟨[.ref S, .ref a, res], []⟩) R' s := by
  intro n
  induction n using Nat.strongRecOn with
  | ind n ih =>
  intro s hr
  refine codeAny_builtin F.entry_extend_loop ?_
  rw [Around.under_plainId F.plain_extend_loop _]
  show wpAny _ A.in1 (pyNext (.ref a) >>= _) _ _ s
  refine wpAny_bind (g_next (B := A.in1) hh hd hgen hr (fun x v ys σ H pins C s1 gs' hb rv I P hPn hs0 hpost hsz hk => ?_) fun s1 ys σ H pins h' I P hPn hs0 hfin hkh => ?_)
  · obtain ⟨hlt, hC⟩ := hpost
    obtain ⟨acc, c, hv, hle, rfl⟩ := hPn
    have pa := I.pin (a, go) (List.mem_append_right _ List.mem_cons_self)
    have pS := I.pin (S, lstObj acc c) (List.mem_append_right _ (List.mem_cons_of_mem _ List.mem_cons_self))
    have hS1 : s1.heap.get? S = some (lstObj acc c) := pS.1
    have hasz : acc.size = ys.length := by
      have e1 := hv.length
      have e2 : acc.toList.length = acc.size := by simp
      omega
    show wpAny _ A.in1 (updateSeq S (·.push v) >>= _) _ _ _
    refine wpAny_bind ?_
    refine wpAny_updateSeq (s := s1.setGen gi gs') hS1 rfl (wpAny_pure ⟨plainId_quiet F.plain_extend_loop _, ?_⟩) (by omega) (by show (acc.push v).size ≤ sizeLine + 1; rw [Array.size_push]; omega)
    have keep3 : ∀ b o, b ≠ S → s1.heap.get? b = some o → (s1.heap.update S (Obj.mapSeq (·.push v))).get? b = some o := fun b o hbS e => (Heap.get?_update_other _ _ (Ne.symm hbS)).trans e
    have at3 : (s1.heap.update S (Obj.mapSeq (·.push v))).get? S = some (lstObj (acc.push v) (c + 1)) ∨ ∃ c', (s1.heap.update S (Obj.mapSeq (·.push v))).get? S = some (lstObj (acc.push v) c') := .inr ⟨_, Heap.get?_update_self _ hS1 rfl⟩
    obtain ⟨c', at4⟩ : ∃ c', (s1.heap.update S (Obj.mapSeq (·.push v))).get? S = some (lstObj (acc.push v) c') := by
      rcases at3 with z | z
      · exact ⟨_, z⟩
      · exact z
    have hk2 := hk hC ({ (s1.setGen gi gs').setGen gi .running with heap := s1.heap.update S (Obj.mapSeq (·.push v)) }) [(a, go), (S, lstObj (acc.push v) c')]
      { os := rfl
        bare := allBare_setGen (s := s1.setGen gi gs') (allBare_setGen I.bare hb) rfl
        keep := fun b o hb e => keep3 b o (fun z => hb (by rw [z]; simp)) e
        same := rfl
        at_ := fun p hp => by
          rcases List.mem_cons.mp hp with z | z
          · rw [z]
            exact keep3 a go (Ne.symm hSa) pa.1
          · rw [List.mem_singleton.mp z]
            exact at4
        data := fun p hp => by
          rcases List.mem_cons.mp hp with z | z
          · rw [z]
            exact pa.2.2.2.2
          · rw [List.mem_singleton.mp z]
            intro v q
            cases q }
      ⟨acc.push v, c', by rw [Array.toList_push]; exact hv.append (.cons rv .nil), by rw [List.length_append]; exact hlt, rfl⟩
    obtain ⟨n', rfl, hgo⟩ := hk2
    refine ih n' (Nat.lt_succ_self _) { s1.setGen gi gs' with heap := s1.heap.update S (Obj.mapSeq (·.push v)) } ⟨keep3 a go (Ne.symm hSa) pa.1, ?_, gs', setGen_at hsz, hgo⟩
    obtain ⟨mc, hns, hnn⟩ := I.nolimit
    exact ⟨mc, hns.at' fun o e => keep3 _ o (Ne.symm hSc) e, hnn⟩
  · obtain ⟨acc, c, hv, hle, rfl⟩ := hPn
    have hS1 : s1.heap.get? S = some (lstObj acc c) := (I.pin (S, lstObj acc c) (List.mem_append_right _ (List.mem_cons_of_mem _ List.mem_cons_self))).1
    exact wpAny_pure (hEnd _ ys H acc c (Back.kept (tk := s1.toks) ((Back.of I).setGen (g := gi) (x := .finished) rfl) hkh) hfin hv hle (hkh _ _ hS1))

/-! ### sum -/
def pSum : TPost := fun v _ _ C => (∃ j, v = .int j) ∧ C
abbrev sumObj (z : Int) (t : Tok) (c : Nat) : Obj := { cls := .type "list", dict := none, data := .seq #[.int z t] c, slots := #[] }
def nSum (a : Addr) (go : Obj) (S : Addr) : List V → List (Addr × Obj) → Prop := fun ys pins => ∃ (ns : List Int) (t : Tok) (c : Nat), ys = ns.map V.int ∧ pins = [(a, go), (S, sumObj ns.sum t c)]
theorem drain_sum (hh : A.handled = none) (hd : A.depth < recursionLimit) (hgen : ∀ h : Heap, h.get? a = some go → h.IsGen a gi) (hSa : S ≠ a) (hSc : S ≠ cStatics)
    (hEnd : ∀ s' (ns : List Int) H t, Back X H4 s4 fp H s' → Fin (ns.map V.int) H → R' (.ok (.ret (.int ns.sum t))) s') :
    ∀ (n : Nat) (s : Shared) (st z : Int) (tA : Tok) (c : Nat), (st = 0 ∨ st = 2) → s.heap.get? S = some (sumObj z tA c) →
      Rdy (model X.prog X.w) A.in1.in1 (GR (gcx X N scope code AG s4 H4 fp) fp (nSum a go S) Fin) (GYx (gcx X N scope code AG s4 H4 fp) fp (nSum a go S) pSum) a go gi n s →
      codeAny (model X.prog X.w) A (.builtin "sum.loop" ⟨[.ref a, .ref S, rawInt st, rawInt 0], []⟩) R' s := by
  intro n
  induction n using Nat.strongRecOn with
  | ind n ih =>
  intro s st z tA c hst hS hr
  refine codeAny_builtin F.entry_sum_loop ?_
  rw [Around.under_plainId F.plain_sum_loop _]
  show wpAny _ A.in1 (seqItems? (.ref S) >>= _) _ _ s
  refine wpAny_bind (wpAny_seqItems hS rfl ?_)
  show wpAny _ A.in1 (tryCatch (pyNext (.ref a)) _ >>= _) _ _ s
  refine wpAny_bind (wpAny_tryCatch (g_next (B := A.in1) hh hd hgen hr (fun x v ys σ H pins C s1 gs' hb rv I P hPn hs0 hpost hsz hk => ?_) fun s1 ys σ H pins h' I P hPn hs0 hfin hkh => ?_))
  · obtain ⟨⟨j, rfl⟩, hC⟩ := hpost
    obtain ⟨t, rfl⟩ := rv
    obtain ⟨ns, tB, cB, rfl, rfl⟩ := hPn
    have pa := I.pin (a, go) (List.mem_append_right _ List.mem_cons_self)
    have pS := I.pin (S, sumObj ns.sum tB cB) (List.mem_append_right _ (List.mem_cons_of_mem _ List.mem_cons_self))
    have e0 := hs0 (S, sumObj ns.sum tB cB) (List.mem_cons_of_mem _ List.mem_cons_self)
    have e1 : s.heap.get? S = some (sumObj ns.sum tB cB) := e0
    rw [hS] at e1
    have ez : z = ns.sum ∧ tA = tB := by
      have e2 := congrArg Obj.data (Option.some.inj e1)
      have e3 : Data.seq #[Value.int z tA] c = Data.seq #[Value.int ns.sum tB] cB := e2
      injection e3 with e4 _
      have e5 := congrArg Array.toList e4
      simp at e5
      exact e5
    obtain ⟨rfl, rfl⟩ := ez
    have hS1 : s1.heap.get? S = some (sumObj ns.sum tA cB) := pS.1
    -- what follows the write
    have next : ∀ (h2 : Heap) (tk c' : Nat) (t' : Tok) (st' : Int), (st' = 0 ∨ st' = 2) → (∀ b o, b ≠ S → s1.heap.get? b = some o → h2.get? b = some o) → h2.get? S = some (sumObj (ns.sum + j) t' c') →
        codeAny (model X.prog X.w) A (.builtin "sum.loop" ⟨[.ref a, .ref S, rawInt st', rawInt 0], []⟩) R' { s1.setGen gi gs' with heap := h2, toks := tk } := fun h2 tk c' t' st' hst' keep3 at3 => by
      have es : (ns ++ [j]).sum = ns.sum + j := by simp
      have hk2 := hk hC ({ (s1.setGen gi gs').setGen gi .running with heap := h2, toks := tk }) [(a, go), (S, sumObj (ns ++ [j]).sum t' c')]
        { os := rfl
          bare := allBare_setGen (s := s1.setGen gi gs') (allBare_setGen I.bare hb) rfl
          keep := fun b o hb e => keep3 b o (fun z => hb (by rw [z]; simp)) e
          same := rfl
          at_ := fun p hp => by
            rcases List.mem_cons.mp hp with z | z
            · rw [z]
              exact keep3 a go (Ne.symm hSa) pa.1
            · rw [List.mem_singleton.mp z, es]
              exact at3
          data := fun p hp => by
            rcases List.mem_cons.mp hp with z | z
            · rw [z]
              exact pa.2.2.2.2
            · rw [List.mem_singleton.mp z]
              intro v q
              cases q }
        ⟨ns ++ [j], t', c', by simp, rfl⟩
      obtain ⟨n', rfl, hgo⟩ := hk2
      refine ih n' (Nat.lt_succ_self _) _ st' _ t' c' hst' at3 ⟨keep3 a go (Ne.symm hSa) pa.1, ?_, gs', setGen_at hsz, hgo⟩
      obtain ⟨mc, hns, hnn⟩ := I.nolimit
      exact ⟨mc, hns.at' fun o e => keep3 _ o (Ne.symm hSc) e, hnn⟩
    have up : ∀ (h : Heap) (f : Obj → Obj) b o, b ≠ S → h.get? b = some o → (h.update S f).get? b = some o := fun h f b o hbS e => (Heap.get?_update_other _ _ (Ne.symm hbS)).trans e
    rcases hst with rfl | rfl
    · show wpAny _ A.in1 (if (_ : Bool) = true then (mkInt (ns.sum + j) >>= _) else _) _ _ _
      split
      · refine wpAny_bind (wpAny_mkInt ?_)
        show wpAny _ A.in1 (updateSeq S (fun _ => #[.int (ns.sum + j) (s1.setGen gi gs').toks]) >>= _) _ _ _
        refine wpAny_bind ?_
        refine wpAny_updateSeq (s := { s1.setGen gi gs' with toks := (s1.setGen gi gs').toks + 1 }) hS1 rfl (wpAny_pure ⟨plainId_quiet F.plain_sum_loop _, ?_⟩)
        exact next _ _ _ _ 0 (.inl rfl) (up _ _) (Heap.get?_update_self _ hS1 rfl)
      · refine wpAny_bind (wpAny_rule ?_)
        refine wpAny_bind (wpAny_attempt (wpAny_holding (wpAny_add_int ?_)))
        show wpAny _ A.in1 (updateSeq S (fun _ => #[.int (ns.sum + j) (s1.setGen gi gs').toks]) >>= _) _ _ _
        refine wpAny_bind (wpAny_updateSeq (s := { s1.setGen gi gs' with toks := (s1.setGen gi gs').toks + 1 }) hS1 rfl ?_)
        have hS2 := Heap.get?_update_self (Obj.mapSeq fun _ => #[Value.int (ns.sum + j) (s1.setGen gi gs').toks]) hS1 rfl
        refine wpAny_bind (wpAny_letGo ?_)
        refine wpAny_bind (wpAny_updateSeq hS2 rfl (wpAny_pure ⟨plainId_quiet F.plain_sum_loop _, ?_⟩))
        exact next _ _ _ _ 2 (.inr rfl) (fun b o hb e => up _ _ b o hb (up _ _ b o hb e)) (Heap.get?_update_self _ hS2 rfl)
    · show wpAny _ A.in1 ((holding [Value.int j t] (binaryOp .Add (.int ns.sum tA) (.int j t))).attempt >>= _) _ _ _
      refine wpAny_bind (wpAny_attempt (wpAny_holding (wpAny_add_int ?_)))
      show wpAny _ A.in1 (updateSeq S (fun _ => #[.int (ns.sum + j) (s1.setGen gi gs').toks]) >>= _) _ _ _
      refine wpAny_bind (wpAny_updateSeq (s := { s1.setGen gi gs' with toks := (s1.setGen gi gs').toks + 1 }) hS1 rfl ?_)
      have hS2 := Heap.get?_update_self (Obj.mapSeq fun _ => #[Value.int (ns.sum + j) (s1.setGen gi gs').toks]) hS1 rfl
      refine wpAny_bind (wpAny_letGo ?_)
      refine wpAny_bind (wpAny_updateSeq hS2 rfl (wpAny_pure ⟨plainId_quiet F.plain_sum_loop _, ?_⟩))
      exact next _ _ _ _ 2 (.inr rfl) (fun b o hb e => up _ _ b o hb (up _ _ b o hb e)) (Heap.get?_update_self _ hS2 rfl)
  · obtain ⟨ns, tB, cB, rfl, rfl⟩ := hPn
    have e1 : s.heap.get? S = some (sumObj ns.sum tB cB) := hs0 (S, sumObj ns.sum tB cB) (List.mem_cons_of_mem _ List.mem_cons_self)
    rw [hS] at e1
    have ez : z = ns.sum ∧ tA = tB := by
      have e2 := congrArg Obj.data (Option.some.inj e1)
      have e3 : Data.seq #[Value.int z tA] c = Data.seq #[Value.int ns.sum tB] cB := e2
      injection e3 with e4 _
      have e5 := congrArg Array.toList e4
      simp at e5
      exact e5
    obtain ⟨rfl, rfl⟩ := ez
    exact wpAny_pure (hEnd _ ns H tA (Back.kept (tk := s1.toks) ((Back.of I).setGen (g := gi) (x := .finished) rfl) hkh) hfin)
end
end Gx

set_option Elab.async false
set_option linter.all false
set_option maxRecDepth 100000
set_option maxHeartbeats 4000000
/-! Gz: a generator expression is made; the rules. -/
namespace Gx
open PySem PySem.Spec PyProof.Rows L2 GenW
abbrev TabG := GxR.TabG
abbrev Tabbed := GxR.Tabbed
abbrev TabB := LamX.TabB
section
variable {X : Cx} {pins : List (Addr × Obj)} {σ : L2.St} {H : Hp} {s : Shared} {scope : Scope} {N : List Str} {src : List (Option Nat)} {c P : Addr}
variable {elt tg iter : Expr} {ifs : List Expr} {gpos : Pos} {wi : TI} {R : It → Hp → Prop}
/-- the generator at a, just made in the state s4, number gi; s5: now -/
structure Made (X : Cx) (scope : Scope) (elt tg iter : Expr) (ifs : List Expr) (gpos : Pos) (s4 : Shared) (code : Value) (it a : Addr) (go : Obj) (gi : Nat) (s5 : Shared) : Prop where
  os : s5.os = s4.os
  bare : AllBare s5.gens
  keep : ∀ b o, s4.heap.get? b = some o → s5.heap.get? b = some o
  ns : s5.heap.Ns s4.heap.objs.size (fun y => if y = ".0" then some (.ref it) else none)
  obj : s5.heap.get? a = some go
  gen : ∀ h : Heap, h.get? a = some go → h.IsGen a gi
  dat : ∀ v, go.data ≠ .cell v
  lt : s4.heap.objs.size < a
  top : a < s5.heap.objs.size
  fresh : s5.gens[gi]? = some (.fresh (.compStart (.GeneratorExp elt [⟨tg, iter, ifs, 0⟩] scope gpos) 0 (.ref it) .none (genv X scope code s4.heap.objs.size)))

theorem gen_make {k : Nat} {Q' : Value → Shared → Prop} (hr : Room k X.A) (TB : TabB X.base X.mg c P) (hcode : X.env.code = .ref c) (ok : GOk X.N X.env.scope scope N src) (hi : PI X tg iter wi)
    (hs : ∀ v, genFold iter X.env v = pure v) (I : Inv X pins σ H s) (h : wi σ H fun J H1 => TabG H1 P ∧ R J H1)
    (hQ : ∀ it fp tn J H1 H2 s4 code a go gi s5, R J H1 → Tabbed P H1 H2 → Inv X pins σ H2 s4 → Turn X.prog X.w X.K tg J fp it tn → tn 0 s5.heap → (∀ b ∈ fp, FpOk X pins H2 b ∧ b < s4.heap.objs.size) →
      Made X scope elt tg iter ifs gpos s4 code it a go gi s5 → Q' (.ref a) s5) :
    wpAny (model X.prog X.w) X.A (eval (.GeneratorExp elt [⟨tg, iter, ifs, 0⟩] scope gpos) X.env) Q' X.xe s := by
  have hfree : ∀ y ∈ scope.names, y.2 = .free → ∃ c, X.env.cells.lookup y.1 = some c := fun y hy e => by
    rcases ok.free y hy e with k | k
    · exact I.ok.has _ (.inl k)
    · exact I.ok.has _ (.inr k)
  refine wpAny_GeneratorExp_make ok.co (closure_ok hfree) ok.cell ok.dot ok.kind (by have := hr.dp; omega) ?_ hs
  refine thn (hi.run pins s σ H _ I h) fun xv s1 hx => thn hx fun itv s2 h2 => ?_
  obtain ⟨it, fp, tn, J, H1, rfl, I1, T, st2, f2, ⟨ps, hP, ht⟩, q⟩ := h2
  refine ⟨I1.nolimit, ?_⟩
  have hPs : s2.heap.get? P = some { cls := .none, data := .fields ps } := I1.hok P _ hP
  have cd : PySem.W.CodeHd s2.heap c P := TB.code.keeps fun b u e => I1.bk b u e
  have fpP : ∀ b ∈ fp, b ≠ P := fun b hb z => by
    have q := (f2 b hb).1
    rw [z, hP] at q
    cases q
  have fpl : ∀ b ∈ fp, b < s2.heap.objs.size := fun b hb => by
    obtain ⟨o, e, _⟩ := T.obj _ _ st2 b hb
    exact Heap.lt_size e
  have cont : ∀ (code : Value) (h3 : Heap) (tk : Nat) (ps' : Array Value), Heap.ExtBut P s2.heap h3 → s2.heap.objs.size ≤ h3.objs.size → h3.get? P = some { cls := .none, data := .fields ps' } → (∃ more, ps' = ps ++ more) → TriplesOk ps'.toList →
      wpAny (model X.prog X.w) X.A (builtinsFor X.env.globals X.env.builtins) (fun bi s₄ =>
        ∀ h', h'.Ns s₄.heap.objs.size (fun y => if y = ".0" then some (.ref it) else none) → Heap.SameBut s₄.heap.objs.size (s₄.heap.push { cls := .type "frame", data := .dict #[] }) h' →
          Q' (.ref h'.objs.size) { s₄ with
            gens := s₄.gens.push (.fresh (.compStart (.GeneratorExp elt [⟨tg, iter, ifs, 0⟩] scope gpos) 0 (.ref it) .none (genEnv scope (cloFrom X.env.cells scope.names []) s₄.heap.objs.size code bi X.env))),
            toks := s₄.toks + 1 + 1 + 1,
            heap := h'.push { cls := .type "generator", data := .fields #[.int s₄.gens.size 0, .str "<genexpr>" (s₄.toks + 1), .str (X.env.qual ++ "<genexpr>") (s₄.toks + 1 + 1)] } }) X.xe { s2 with heap := h3, toks := tk } := by
    intro code h3 tk ps' hx hsz hP3 hmore ht3
    obtain ⟨bm, ob, e1, e2, e3, e4, e5, e6, e7, e8⟩ := TB.bm
    have keep3 : ∀ b u, b ≠ P → s2.heap.get? b = some u → h3.get? b = some u := fun b u hb e => hx b u hb e
    refine wpAny_builtinsFor (m := X.mg) (by rw [I1.ok.glob]; exact (I1.mod.glob.keeps I1.bk).extBut hx TB.gP) e1 e2 (keep3 _ _ e4 (I1.bk _ _ e5)) e6 e7 e8 ?_
    intro h' hn' hs'
    obtain ⟨more, em⟩ := hmore
    have J2 := GxR.inv_tab (more := more) (h' := h3) (g' := s2.gens) (d' := s2.drawn) (t' := tk) I1 hP keep3 (by rw [← em]; exact hP3) I1.bare
    have keep4 : ∀ b o, h3.get? b = some o → h'.get? b = some o := fun b o e => hs'.extBut b o (Nat.ne_of_lt (Heap.lt_size e)) (Heap.get?_push_of_some _ e)
    have sz' : h'.objs.size = h3.objs.size + 1 := by rw [hs'.1, Heap.size_push]
    refine hQ it fp tn J H1 (upd H1 P (.tbl (ps ++ more))) { s2 with heap := h3, toks := tk } code h'.objs.size { cls := .type "generator", data := .fields #[.int s2.gens.size 0, .str "<genexpr>" (tk + 1), .str (X.env.qual ++ "<genexpr>") (tk + 1 + 1)] } s2.gens.size _ q
      ⟨⟨ps ++ more, upd_same, by rw [← em]; exact ht3⟩, fun b hb => upd_ne hb⟩ J2 T ?_ (fun b hb => ?_) ⟨rfl, ?_, fun b o e => Heap.get?_push_of_some _ (keep4 b o e), hn'.push _, Heap.get?_push_size _ rfl, fun h e => ⟨_, _, _, e, rfl, rfl, rfl⟩, fun v q => (by cases q), ?_, ?_, Array.getElem?_push_size ..⟩
    · refine T.keep _ _ _ st2 fun b hb o e => ?_
      exact Heap.get?_push_of_some _ (keep4 b o (keep3 b o (fpP b hb) e))
    · obtain ⟨f0, f1⟩ := f2 b hb
      exact ⟨⟨by rw [upd_ne (fpP b hb)]; exact f0, f1⟩, Nat.lt_of_lt_of_le (fpl b hb) hsz⟩
    · exact AllBare.push I1.bare rfl
    · show h3.objs.size < h'.objs.size
      omega
    · show h'.objs.size < (h'.push _).objs.size
      rw [Heap.size_push]
      exact Nat.lt_succ_self _
  cases hf : codeAmong gpos ps.toList with
  | none =>
    refine wpAny_genexprCodeX hcode (cd.code hPs ht) (cd.tab hPs) hf fun c' h' tk hx hge hlt hco' _ htab' _ => ?_
    obtain ⟨o1, vs, f1, tf, fl, tg, inF, tx, tt, op, _, _, _, _, _, _, _, _, _, htr, _⟩ := hco'
    exact cont _ h' tk _ hx (Nat.le_trans hge (Nat.le_of_lt hlt)) htab'.2 ⟨_, rfl⟩ htr
  | some cv =>
    refine wpAny_genexprCode_hit hcode (cd.code hPs ht) hf ?_
    exact cont cv s2.heap s2.toks ps (Heap.ExtBut.refl _ _) (Nat.le_refl _) hPs ⟨#[], by simp⟩ ht

/-- the generator, ready for a consumer that runs within B and keeps pins -/
theorem Made.ready {s4 s5 s6 : Shared} {H2 : Hp} {code : Value} {it a : Addr} {go : Obj} {gi : Nat} {fp : List Addr} {tn : Nat → Heap → Prop} {J : It} {B : Around} {g : TG} {tt : TT} {te : TE} {vs : List Nat} {post : TPost} {Fin : List V → Hp → Prop}
    {W : Nat → Nat → List V → Hp → Prop} {Pn : List V → List (Addr × Obj) → Prop} {m n : Nat} {pl : List (Addr × Obj)}
    (M : Made X scope elt tg iter ifs gpos s4 code it a go gi s5) (ok : GOk X.N X.env.scope scope N src) (I : Inv X pins σ H2 s4) (T : Turn X.prog X.w X.K tg J fp it tn) (st : tn 0 s5.heap) (hfp : ∀ b ∈ fp, FpOk X pins H2 b ∧ b < s4.heap.objs.size)
    (hB : B.frames = some X.stack) (hh : B.handled = none)
    (pg : PG (gcx X N scope code B s4 H2 fp) tg g) (pt : PTs (gcx X N scope code B s4 H2 fp) ifs tt) (pe : PE (gcx X N scope code B s4 H2 fp) elt te)
    (turn : GTurn J g tt te vs (gsl σ src) post Fin W) (hmn : m < n) (w : W 0 m [] H2)
    (os : s6.os = s5.os) (bare : AllBare s6.gens) (keep : ∀ b o, s5.heap.get? b = some o → s6.heap.get? b = some o) (hg : s6.gens[gi]? = s5.gens[gi]?)
    (hpl : ∀ p ∈ pl, s5.heap.objs.size ≤ p.1 ∧ s6.heap.get? p.1 = some p.2 ∧ ∀ v, p.2.data ≠ .cell v) (hPn : Pn [] ((a, go) :: pl)) :
    Rdy (model X.prog X.w) B (GR (gcx X N scope code B s4 H2 fp) fp Pn Fin) (GYx (gcx X N scope code B s4 H2 fp) fp Pn post) a go gi n s6 := by
  have kp : ∀ b o, s4.heap.get? b = some o → s6.heap.get? b = some o := fun b o e => keep b o (M.keep b o e)
  have I5 : ∀ (s' : Shared), s'.os = s4.os → AllBare s'.gens → s'.heap = s6.heap → Inv (gcx X N scope code B s4 H2 fp) [] (gsl σ src) H2 s' := fun s' h1 h2 h3 =>
    g_start (m0 := fun y => if y = ".0" then some (.ref it) else none) I ok hfp hB hh h1 h2 (by rw [h3]; exact kp) (by rw [h3]; exact M.ns.keeps keep)
  have lt4 : ∀ b, s4.heap.objs.size < b → H2 b = none ∧ b ∉ frs X.stack ∧ b ≠ s4.heap.objs.size ∧ b ∉ fp ∧ ∀ x c, (cloFrom X.env.cells scope.names []).lookup x = some c → c ≠ b := fun b hb => by
    refine ⟨I.hok.fresh (Nat.le_of_lt hb), fun z => ?_, Nat.ne_of_gt hb, fun z => ?_, fun x c e z => ?_⟩
    · rcases List.mem_cons.mp (I.stkSub b z) with y | y
      · have := I.lt
        rw [← y] at this
        exact absurd (Nat.lt_trans hb this) (Nat.lt_irrefl _)
      · exact I.nofs (Nat.le_of_lt hb) y
    · exact absurd (Nat.lt_trans hb (hfp b z).2) (Nat.lt_irrefl _)
    · rcases cloFrom_mem (PySem.mem_of_lookup e) with hm | ⟨h1, h2⟩
      · cases hm
      · rcases ok.free _ h1 rfl with k | k
        all_goals
          obtain ⟨c', hc'⟩ := I.ok.has x (by first | exact .inl k | exact .inr k)
          rw [hc'] at h2
          have h2' : c = c' := h2
          obtain ⟨w', z'⟩ := I.cell x c' hc'
          have := z'.lt
          rw [← h2', z] at this
          exact absurd (Nat.lt_trans hb this) (Nat.lt_irrefl _)
  have each : ∀ p ∈ (a, go) :: pl, s4.heap.objs.size < p.1 ∧ s6.heap.get? p.1 = some p.2 ∧ ∀ v, p.2.data ≠ .cell v := fun p hp => by
    rcases List.mem_cons.mp hp with z | z
    · rw [z]
      exact ⟨M.lt, keep _ _ M.obj, M.dat⟩
    · obtain ⟨h1, h2, h3⟩ := hpl p z
      exact ⟨Nat.lt_of_lt_of_le (Nat.lt_trans M.lt M.top) h1, h2, h3⟩
  have PO : PinsOk (gcx X N scope code B s4 H2 fp) fp ((a, go) :: pl) := ⟨fun p hp => Nat.le_of_lt (each p hp).1, fun p hp => (lt4 _ (each p hp).1).2.2.1, fun p hp => (lt4 _ (each p hp).1).2.2.2.1, fun p hp => (lt4 _ (each p hp).1).2.2.2.2⟩
  have I6 : ∀ (s' : Shared), s'.os = s4.os → AllBare s'.gens → s'.heap = s6.heap → Inv (gcx X N scope code B s4 H2 fp) ((a, go) :: pl) (gsl σ src) H2 s' := fun s' h1 h2 h3 =>
    (I5 s' h1 h2 h3).pins_of fun p hp => ⟨by rw [h3]; exact (each p hp).2.1, (lt4 _ (each p hp).1).1, (lt4 _ (each p hp).1).2.2.1, (lt4 _ (each p hp).1).2.1, (each p hp).2.2⟩
  have e6 := hg.trans M.fresh
  refine ⟨keep _ _ M.obj, I.nolimit.keeps kp, _, e6, rfl, ?_⟩
  exact g_begin (elt := elt) (iter := iter) (ifs := ifs) (pos := gpos) ok.co hh T pg pt pe turn hmn w (I6 _ (os.trans M.os) (allBare_setGen (s := s6) bare rfl) rfl) PO hPn (fun p hp => (each p hp).2.1) (T.keep _ _ _ st fun b _ o e => keep b o e) fun b hb => (hfp b hb).1.1
end
end Gx

set_option Elab.async false
set_option linter.all false
set_option maxRecDepth 100000
set_option maxHeartbeats 4000000
/-! Gr: the rules: all(..), any(..), sum(..), tuple(..) of a generator expression. -/
namespace Gx
open PySem PySem.Spec PyProof.Rows L2 GenW
section
variable {X : Cx} {scope : Scope} {N : List Str} {src : List (Option Nat)} {c P : Addr}
variable {elt tg iter : Expr} {ifs : List Expr} {p pos gpos : Pos} {wi : TI} {g : TG} {tt : TT} {te : TE} {vs : List Nat} {k : Nat}
/-- the reading: the walked thing, then the turns -/
def tGen (P : Addr) (wi : TI) (g : TG) (tt : TT) (te : TE) (vs : List Nat) (src : List (Option Nat)) (post : VK → TPost) (fin : VK → List V → Hp → Prop) : TE := fun σ H Q => wi σ H fun J H1 => TabG H1 P ∧ ∀ H2, Tabbed P H1 H2 →
  ∃ W : Nat → Nat → List V → Hp → Prop, (∃ m, W 0 m [] H2) ∧ GTurn J g tt te vs (gsl σ src) (post Q) (fin Q) W
abbrev tGAll (P : Addr) (wi : TI) (g : TG) (tt : TT) (te : TE) (vs : List Nat) (src : List (Option Nat)) : TE := tGen P wi g tt te vs src (fun Q => pAll fun H => Q (.bl false) H) fun Q _ H => Q (.bl true) H
abbrev tGAny (P : Addr) (wi : TI) (g : TG) (tt : TT) (te : TE) (vs : List Nat) (src : List (Option Nat)) : TE := tGen P wi g tt te vs src (fun Q => pAny fun H => Q (.bl true) H) fun Q _ H => Q (.bl false) H
abbrev tGSum (P : Addr) (wi : TI) (g : TG) (tt : TT) (te : TE) (vs : List Nat) (src : List (Option Nat)) : TE := tGen P wi g tt te vs src (fun _ => pSum) fun Q ys H => ∀ ns : List Int, ys = ns.map V.int → Q (.int ns.sum) H
abbrev tGTup (P : Addr) (wi : TI) (g : TG) (tt : TT) (te : TE) (vs : List Nat) (src : List (Option Nat)) : TE := tGen P wi g tt te vs src (fun _ => pTup) fun Q ys H => ∀ p, H p = none → Q (.ref p) (upd H p (.tup ys))

/-- all that a rule asks of the generator expression's parts -/
structure GParts (X : Cx) (k : Nat) (scope : Scope) (N : List Str) (tg : Expr) (ifs : List Expr) (elt : Expr) (g : TG) (tt : TT) (te : TE) : Prop where
  tg : ∀ (B : Around) (s : Shared) (H : Hp) (fp : List Addr) (code : Value), Room k B → PG (gcx X N scope code B s H fp) tg g
  ifs : ∀ (B : Around) (s : Shared) (H : Hp) (fp : List Addr) (code : Value), Room k B → PTs (gcx X N scope code B s H fp) ifs tt
  elt : ∀ (B : Around) (s : Shared) (H : Hp) (fp : List Addr) (code : Value), Room k B → PE (gcx X N scope code B s H fp) elt te

theorem pe_gall (G : GParts X k scope N tg ifs elt g tt te) (hr : Room (k + 2) X.A) (hg : Gl X "all") (hm : X.mg "all" = none) (TB : TabB X.base X.mg c P) (hcode : X.env.code = .ref c) (ok : GOk X.N X.env.scope scope N src) (hi : PI X tg iter wi)
    (hs : ∀ v, genFold iter X.env v = pure v := by intro _; rfl) (hb : bootBuiltins "all" = some (.builtin "all") := by decide +kernel)
    (he : starEach [.GeneratorExp elt [⟨tg, iter, ifs, 0⟩] scope gpos] X.env = (false, eval (.GeneratorExp elt [⟨tg, iter, ifs, 0⟩] scope gpos) X.env) :: starEach [] X.env := by rfl) :
    PE X (.Call (.Name "all" p) [.GeneratorExp elt [⟨tg, iter, ifs, 0⟩] scope gpos] [] pos) (tGAll P wi g tt te vs src) := by
  refine ⟨fun pins s σ H Q I h => ?_⟩
  refine wpAny_Call_Name_kw (ld_blt I hg hm hb ?_)
  refine PyProof.Rows.callWith_builtin1 ?_ he (by rfl)
  rw [he]
  show wpAny _ _ (spliced ((false, eval (.GeneratorExp elt [⟨tg, iter, ifs, 0⟩] scope gpos) X.env) :: backTo pos (starEach [] X.env))) _ _ s
  refine Calls.spliced_cons (gen_make (gpos := gpos) (elt := elt) (ifs := ifs) hr TB hcode ok hi hs I h fun it fp tn J H1 H2 s4 code a go gi s5 q hT I4 T st hfp M => ?_)
  obtain ⟨W, ⟨m, w0⟩, turn⟩ := q H2 hT
  refine Calls.spliced_nil ?_
  have hB : Room k X.A.in1.in1 := hr.in1.in1
  refine call_function_tree F.kind_all F.plain_all F.entry_all (F.args_all1 _) ?_
  unfold Builtin.«all»
  refine wpAny_bind (m := oneArg "all" _) (wpAny_pure ?_)
  refine wpAny_bind (wpAny_pyIter_gen (M.gen _ M.obj) ?_)
  refine wpAny_pure ⟨plainId_quiet F.plain_all_loop _, drain_all (Fin := fun _ H => Q (.bl true) H) (Qf := fun H => Q (.bl false) H) hr.hd hr.depth M.gen (fun s' ys H b q => ?_) (fun s' H b q => ?_) (m + 1) s5
    (M.ready ok I4 T st hfp (show X.A.in1.in1.frames = some X.stack from I4.ok.frames) hB.hd (G.tg _ _ _ _ _ hB) (G.ifs _ _ _ _ _ hB) (G.elt _ _ _ _ _ hB) turn (Nat.lt_succ_self _) w0 rfl M.bare (fun _ _ e => e) rfl (pl := []) (fun p hp => by simp at hp) rfl)⟩
  · exact ⟨.bl true, H, b.inv I4 fun b hb => (hfp b hb).1, rfl, q⟩
  · exact ⟨.bl false, H, b.inv I4 fun b hb => (hfp b hb).1, rfl, q⟩

theorem pe_gany (G : GParts X k scope N tg ifs elt g tt te) (hr : Room (k + 2) X.A) (hg : Gl X "any") (hm : X.mg "any" = none) (TB : TabB X.base X.mg c P) (hcode : X.env.code = .ref c) (ok : GOk X.N X.env.scope scope N src) (hi : PI X tg iter wi)
    (hs : ∀ v, genFold iter X.env v = pure v := by intro _; rfl) (hb : bootBuiltins "any" = some (.builtin "any") := by decide +kernel)
    (he : starEach [.GeneratorExp elt [⟨tg, iter, ifs, 0⟩] scope gpos] X.env = (false, eval (.GeneratorExp elt [⟨tg, iter, ifs, 0⟩] scope gpos) X.env) :: starEach [] X.env := by rfl) :
    PE X (.Call (.Name "any" p) [.GeneratorExp elt [⟨tg, iter, ifs, 0⟩] scope gpos] [] pos) (tGAny P wi g tt te vs src) := by
  refine ⟨fun pins s σ H Q I h => ?_⟩
  refine wpAny_Call_Name_kw (ld_blt I hg hm hb ?_)
  refine PyProof.Rows.callWith_builtin1 ?_ he (by rfl)
  rw [he]
  show wpAny _ _ (spliced ((false, eval (.GeneratorExp elt [⟨tg, iter, ifs, 0⟩] scope gpos) X.env) :: backTo pos (starEach [] X.env))) _ _ s
  refine Calls.spliced_cons (gen_make (gpos := gpos) (elt := elt) (ifs := ifs) hr TB hcode ok hi hs I h fun it fp tn J H1 H2 s4 code a go gi s5 q hT I4 T st hfp M => ?_)
  obtain ⟨W, ⟨m, w0⟩, turn⟩ := q H2 hT
  refine Calls.spliced_nil ?_
  have hB : Room k X.A.in1.in1 := hr.in1.in1
  refine call_function_tree F.kind_any F.plain_any F.entry_any (F.args_any1 _) ?_
  unfold Builtin.«any»
  refine wpAny_bind (m := oneArg "any" _) (wpAny_pure ?_)
  refine wpAny_bind (wpAny_pyIter_gen (M.gen _ M.obj) ?_)
  refine wpAny_pure ⟨plainId_quiet F.plain_any_loop _, drain_any (Fin := fun _ H => Q (.bl false) H) (Qt := fun H => Q (.bl true) H) hr.hd hr.depth M.gen (fun s' ys H b q => ?_) (fun s' H b q => ?_) (m + 1) s5
    (M.ready ok I4 T st hfp (show X.A.in1.in1.frames = some X.stack from I4.ok.frames) hB.hd (G.tg _ _ _ _ _ hB) (G.ifs _ _ _ _ _ hB) (G.elt _ _ _ _ _ hB) turn (Nat.lt_succ_self _) w0 rfl M.bare (fun _ _ e => e) rfl (pl := []) (fun p hp => by simp at hp) rfl)⟩
  · exact ⟨.bl false, H, b.inv I4 fun b hb => (hfp b hb).1, rfl, q⟩
  · exact ⟨.bl true, H, b.inv I4 fun b hb => (hfp b hb).1, rfl, q⟩

theorem pe_gsum (G : GParts X k scope N tg ifs elt g tt te) (hr : Room (k + 2) X.A) (hg : Gl X "sum") (hm : X.mg "sum" = none) (TB : TabB X.base X.mg c P) (hcode : X.env.code = .ref c) (ok : GOk X.N X.env.scope scope N src) (hi : PI X tg iter wi)
    (hs : ∀ v, genFold iter X.env v = pure v := by intro _; rfl) (hb : bootBuiltins "sum" = some (.builtin "sum") := by decide +kernel)
    (he : starEach [.GeneratorExp elt [⟨tg, iter, ifs, 0⟩] scope gpos] X.env = (false, eval (.GeneratorExp elt [⟨tg, iter, ifs, 0⟩] scope gpos) X.env) :: starEach [] X.env := by rfl) :
    PE X (.Call (.Name "sum" p) [.GeneratorExp elt [⟨tg, iter, ifs, 0⟩] scope gpos] [] pos) (tGSum P wi g tt te vs src) := by
  refine ⟨fun pins s σ H Q I h => ?_⟩
  refine wpAny_Call_Name_kw (ld_blt I hg hm hb ?_)
  refine PyProof.Rows.callWith_builtin1 ?_ he (by rfl)
  rw [he]
  show wpAny _ _ (spliced ((false, eval (.GeneratorExp elt [⟨tg, iter, ifs, 0⟩] scope gpos) X.env) :: backTo pos (starEach [] X.env))) _ _ s
  refine Calls.spliced_cons (gen_make (gpos := gpos) (elt := elt) (ifs := ifs) hr TB hcode ok hi hs I h fun it fp tn J H1 H2 s4 code a go gi s5 q hT I4 T st hfp M => ?_)
  obtain ⟨W, ⟨m, w0⟩, turn⟩ := q H2 hT
  refine Calls.spliced_nil ?_
  have hB : Room k X.A.in1.in1 := hr.in1.in1
  refine call_function_tree F.kind_sum F.plain_sum F.entry_sum (F.args_sum1 _) ?_
  unfold Builtin.«sum»
  simp only [List.length_cons, List.length_nil]
  rw [if_neg (by decide)]
  refine wpAny_bind (wpAny_of_eq (show Builtin.Builtins.bindParams "sum" ["start"] 0 { } = pure [none] from rfl) ?_)
  refine wpAny_bind (wpAny_pyIter_gen (M.gen _ M.obj) ?_)
  refine wpAny_bind (wpAny_mkInt ?_)
  refine wpAny_bind (wpAny_pure ?_)
  simp only [List.forIn_cons, List.forIn_nil]
  refine wpAny_bind (wpAny_bind (wpAny_bind (wpAny_isInstance (T := "int") (b := false) (typeIs_int _ _ _) PySem.sub_int_str ?_)))
  simp only [Bool.false_eq_true, if_false]
  refine wpAny_pure (wpAny_bind (wpAny_bind (wpAny_isInstance (T := "int") (b := false) (typeIs_int _ _ _) PySem.sub_int_bytes ?_)))
  simp only [Bool.false_eq_true, if_false]
  refine wpAny_pure (wpAny_bind (wpAny_bind (wpAny_isInstance (T := "int") (b := false) (typeIs_int _ _ _) PySem.sub_int_bytearray ?_)))
  simp only [Bool.false_eq_true, if_false]
  refine wpAny_pure (wpAny_pure ?_)
  refine wpAny_bind (wpAny_newObj_type ?_)
  have hcl : cStatics < s5.heap.objs.size := by
    obtain ⟨_, hn, _⟩ := I4.nolimit.keeps M.keep
    exact hn.lt
  have hSobj : (s5.heap.push { cls := .type "list", data := .seq [Value.int 0 s5.toks].toArray }).get? s5.heap.objs.size = some (sumObj 0 s5.toks 0) := Heap.get?_push_size _ rfl
  refine wpAny_pure ⟨plainId_quiet F.plain_sum_loop _, drain_sum (S := s5.heap.objs.size) (Fin := fun ys H => ∀ ns : List Int, ys = ns.map V.int → Q (.int ns.sum) H) hr.hd hr.depth M.gen (Nat.ne_of_gt M.top) (Nat.ne_of_gt hcl) (fun s' ns H t b q => ?_) (m + 1) _ 0 0 s5.toks 0 (.inl rfl) hSobj
    (M.ready ok I4 T st hfp (show X.A.in1.in1.frames = some X.stack from I4.ok.frames) hB.hd (G.tg _ _ _ _ _ hB) (G.ifs _ _ _ _ _ hB) (G.elt _ _ _ _ _ hB) turn (Nat.lt_succ_self _) w0 rfl M.bare (fun _ _ e => Heap.get?_push_of_some _ e) rfl (pl := [(s5.heap.objs.size, sumObj 0 s5.toks 0)]) (fun p hp => ?_) ⟨[], s5.toks, 0, rfl, rfl⟩)⟩
  · exact ⟨.int ns.sum, H, b.inv I4 fun b hb => (hfp b hb).1, ⟨t, rfl⟩, q ns rfl⟩
  · rw [List.mem_singleton.mp hp]
    exact ⟨Nat.le_refl _, hSobj, fun v q => by cases q⟩

theorem collect_gx {B : Around} {pins : List (Addr × Obj)} {σ : L2.St} {H2 : Hp} {s4 s5 : Shared} {code : Value} {it a : Addr} {go : Obj} {gi m : Nat} {fp : List Addr} {tn : Nat → Heap → Prop} {J : It} {Fin : List V → Hp → Prop} {W : Nat → Nat → List V → Hp → Prop}
    {Q : List Value → Shared → Prop} {E : Value → Shared → Prop}
    (G : GParts X k scope N tg ifs elt g tt te) (M : Made X scope elt tg iter ifs gpos s4 code it a go gi s5) (ok : GOk X.N X.env.scope scope N src) (I4 : Inv X pins σ H2 s4) (T : Turn X.prog X.w X.K tg J fp it tn) (st : tn 0 s5.heap)
    (hfp : ∀ b ∈ fp, FpOk X pins H2 b ∧ b < s4.heap.objs.size) (hB : B.frames = some X.stack) (hr : Room (k + 2) B) (turn : GTurn J g tt te vs (gsl σ src) pTup Fin W) (w0 : W 0 m [] H2)
    (hQ : ∀ s' ys H acc, Back X H2 s4 fp H s' → Fin ys H → Vals ys acc → ys.length ≤ sizeLine → Q acc s') : wpAny (model X.prog X.w) B (collect (.ref a)) Q E s5 := by
  have hBr : Room k B.in1.in1 := hr.in1.in1
  have hSI : s5.heap.objs.size ≠ a := Nat.ne_of_gt M.top
  unfold collect
  refine wpAny_bind (wpAny_runValue (codeAny_builtin F.entry_proto_collect ?_))
  rw [Around.under_plainId F.plain_proto_collect _]
  show wpAny _ B.in1 (newList [] >>= fun l => again (.builtin "list.__iadd__" ⟨[l, .ref a], []⟩)) _ _ s5
  refine wpAny_bind (wpAny_newObj_type ?_)
  refine wpAny_pure ⟨plainId_quiet F.plain_list_iadd _, codeAny_builtin F.entry_list_iadd ?_⟩
  rw [Around.under_plainId F.plain_list_iadd _]
  have k1 : ∀ b o, s5.heap.get? b = some o → (s5.heap.push { cls := .type "list", data := .seq ([] : List Value).toArray }).get? b = some o := fun b o e => Heap.get?_push_of_some _ e
  have gty : ∀ {h : Heap}, (∀ b o, s5.heap.get? b = some o → h.get? b = some o) → h.IsGen a gi := fun {h} q => M.gen _ (q _ _ M.obj)
  show wpAny _ B.in1 (Builtin.List.listExtendWith (.ref s5.heap.objs.size) (.ref a) (.ref s5.heap.objs.size)) _ _ _
  unfold Builtin.List.listExtendWith
  refine wpAny_bind (wpAny_typeOf (Heap.IsGen.typeIs (s := { s5 with heap := _ }) (gty k1)) ?_)
  have h1 : Builtin.List.listSameRef (.ref s5.heap.objs.size) (.ref a) = false := by simp [Builtin.List.listSameRef, hSI]
  have h2 : (Value.type "generator" == Value.type "list") = false := by decide
  have h3 : (Value.type "generator" == Value.type "tuple") = false := by decide
  simp only [h1, h2, h3, Bool.or_false, Bool.false_eq_true, if_false]
  refine wpAny_bind (wpAny_pyIter_gen (s := { s5 with heap := _ }) (gty k1) ?_)
  refine wpAny_bind (wpAny_holding ?_)
  unfold Builtin.List.listLengthHint
  refine wpAny_bind (wpAny_specialOf (Heap.IsGen.typeIs (s := { s5 with heap := _ }) (gty k1)) F.gen_no_len ?_)
  show wpAny _ B.in1 (specialOf (Value.ref a) (Str.ofString "__length_hint__") >>= _) _ _ _
  refine wpAny_bind (wpAny_specialOf (Heap.IsGen.typeIs (s := { s5 with heap := _ }) (gty k1)) F.gen_no_hint ?_)
  refine wpAny_pure ?_
  show wpAny _ B.in1 (rule "list.extend.makes-room" >>= fun _ => Builtin.List.listTouch (.ref s5.heap.objs.size) >>= fun _ =>
    again (.builtin "list.extend.loop" ⟨[.ref s5.heap.objs.size, .ref a, .ref s5.heap.objs.size], []⟩)) _ _ _
  refine wpAny_bind (wpAny_rule ?_)
  have hS₁ : (s5.heap.push { cls := .type "list", data := .seq ([] : List Value).toArray }).get? s5.heap.objs.size = some { cls := .type "list", data := .seq ([] : List Value).toArray } := Heap.get?_push_size _ rfl
  refine wpAny_bind ?_
  show wpAny _ B.in1 (updateSeq s5.heap.objs.size (·.push .none) >>= fun _ => updateSeq s5.heap.objs.size (·.pop)) _ _ _
  refine wpAny_bind (wpAny_updateSeq hS₁ rfl ?_)
  have hS₂ := Heap.get?_update_self (Obj.mapSeq (·.push Value.none)) hS₁ rfl
  refine wpAny_updateSeq hS₂ rfl ?_
  have hS₃ := Heap.get?_update_self (Obj.mapSeq (·.pop)) hS₂ rfl
  obtain ⟨c0, hS4⟩ : ∃ c0, (((s5.heap.push { cls := .type "list", data := .seq ([] : List Value).toArray }).update s5.heap.objs.size (Obj.mapSeq (·.push Value.none))).update s5.heap.objs.size (Obj.mapSeq (·.pop))).get? s5.heap.objs.size = some (lstObj #[] c0) := ⟨_, hS₃⟩
  have oth : ∀ b o, s5.heap.get? b = some o →
      (((s5.heap.push { cls := .type "list", data := .seq ([] : List Value).toArray }).update s5.heap.objs.size (Obj.mapSeq (·.push Value.none))).update s5.heap.objs.size (Obj.mapSeq (·.pop))).get? b = some o :=
    fun b o e => (Heap.get?_update_other _ _ (Ne.symm (Nat.ne_of_lt (Heap.lt_size e)))).trans ((Heap.get?_update_other _ _ (Ne.symm (Nat.ne_of_lt (Heap.lt_size e)))).trans (k1 b o e))
  have hcl : cStatics < s5.heap.objs.size := by
    obtain ⟨_, hn, _⟩ := I4.nolimit.keeps M.keep
    exact hn.lt
  refine wpAny_pure ⟨plainId_quiet F.plain_extend_loop _, drain_tup (S := s5.heap.objs.size) (Fin := Fin) hr.hd hr.depth M.gen hSI (Nat.ne_of_gt hcl) (fun s' ys H acc c b q hv hle hS' => ?_) (m + 1) _
    (M.ready ok I4 T st hfp hB hBr.hd (G.tg _ _ _ _ _ hBr) (G.ifs _ _ _ _ _ hBr) (G.elt _ _ _ _ _ hBr) turn (Nat.lt_succ_self _) w0 rfl M.bare oth rfl (pl := [(s5.heap.objs.size, lstObj #[] c0)]) (fun p hp => ?_) ⟨#[], c0, .nil, Nat.zero_le _, rfl⟩)⟩
  · show wpAny _ B (load s5.heap.objs.size >>= _) _ _ s'
    refine wpAny_bind (wpAny_load hS' ?_)
    exact wpAny_pure (hQ s' ys H acc.toList b q hv hle)
  · rw [List.mem_singleton.mp hp]
    exact ⟨Nat.le_refl _, hS4, fun v q => by cases q⟩

theorem code_tuple_gx {B : Around} {pins : List (Addr × Obj)} {σ : L2.St} {H2 : Hp} {s4 s5 : Shared} {code : Value} {it a : Addr} {go : Obj} {gi m : Nat} {fp : List Addr} {tn : Nat → Heap → Prop} {J : It} {Fin : List V → Hp → Prop} {W : Nat → Nat → List V → Hp → Prop}
    {Q₁ : Value → Shared → Prop} {E : Value → Shared → Prop}
    (G : GParts X k scope N tg ifs elt g tt te) (M : Made X scope elt tg iter ifs gpos s4 code it a go gi s5) (ok : GOk X.N X.env.scope scope N src) (I4 : Inv X pins σ H2 s4) (T : Turn X.prog X.w X.K tg J fp it tn) (st : tn 0 s5.heap)
    (hfp : ∀ b ∈ fp, FpOk X pins H2 b ∧ b < s4.heap.objs.size) (hB : B.frames = some X.stack) (hr : Room (k + 3) B) (turn : GTurn J g tt te vs (gsl σ src) pTup Fin W) (w0 : W 0 m [] H2)
    (hQ : ∀ s' ys H (acc : List Value), Back X H2 s4 fp H s' → Fin ys H → Vals ys acc → ys.length ≤ sizeLine → Q₁ (.ref s'.heap.objs.size) { s' with heap := s'.heap.push { cls := .type "tuple", data := .seq acc.toArray } }) :
    codeAny (model X.prog X.w) B (.call (.builtin "tuple.__new__") ⟨[.type "tuple", .ref a], []⟩) (wants Q₁ E) s5 := by
  refine codeAny_of_tree ?_
  show wpAny _ B.in1 (do checkBuiltinCall "tuple.__new__" ⟨[.type "tuple", .ref a], []⟩; again (.builtin "tuple.__new__" ⟨[.type "tuple", .ref a], []⟩)) _ _ s5
  refine wpAny_bind (wpAny_of_eq (F.newCall_tuple_1 _) (wpAny_pure ⟨plainId_quiet F.plain_tuple_new _, codeAny_builtin F.entry_tuple_new ?_⟩))
  rw [Around.under_plainId F.plain_tuple_new _]
  have hsub := sub_tuple_self
  have hinit := init_tuple_lookup
  have hmh := madeHere_tuple
  have hTI : s5.TypeIs (.ref a) "generator" := Heap.IsGen.typeIs (s := s5) (M.gen _ M.obj)
  wp_walk using wpAny_typeOf hTI, collect_gx (B := B.in1) (Fin := Fin) G M ok I4 T st hfp hB hr.in1 turn w0
  intro s' ys H acc hb hf hv hle
  show wpAny _ _ (Builtin.Tuple.tupleExact acc.toArray >>= fun v => ret v) _ _ _
  unfold Builtin.Tuple.tupleExact
  have hl := hv.length
  refine wpAny_bind (wpAny_newObj_type ?_ (by show acc.toArray.size ≤ sizeLine; simp only [List.size_toArray]; omega))
  exact wpAny_pure (hQ s' ys H acc hb hf hv hle)

theorem pe_gtup (G : GParts X k scope N tg ifs elt g tt te) (hr : Room (k + 4) X.A) (hg : Gl X "tuple") (hm : X.mg "tuple" = none) (TB : TabB X.base X.mg c P) (hcode : X.env.code = .ref c) (ok : GOk X.N X.env.scope scope N src) (hi : PI X tg iter wi)
    (hs : ∀ v, genFold iter X.env v = pure v := by intro _; rfl) (hb : bootBuiltins "tuple" = some (.type "tuple") := by decide +kernel)
    (he : starEach [.GeneratorExp elt [⟨tg, iter, ifs, 0⟩] scope gpos] X.env = (false, eval (.GeneratorExp elt [⟨tg, iter, ifs, 0⟩] scope gpos) X.env) :: starEach [] X.env := by rfl) :
    PE X (.Call (.Name "tuple" p) [.GeneratorExp elt [⟨tg, iter, ifs, 0⟩] scope gpos] [] pos) (tGTup P wi g tt te vs src) := by
  refine ⟨fun pins s σ H Q I h => ?_⟩
  refine wpAny_Call_Name_kw (ld_blt I hg hm hb ?_)
  refine PyProof.Rows.callWith_type1 ?_ he (by rfl)
  rw [he]
  show wpAny _ _ (spliced ((false, eval (.GeneratorExp elt [⟨tg, iter, ifs, 0⟩] scope gpos) X.env) :: backTo pos (starEach [] X.env))) _ _ s
  refine Calls.spliced_cons (gen_make (gpos := gpos) (elt := elt) (ifs := ifs) hr TB hcode ok hi hs I h fun it fp tn J H1 H2 s4 code a go gi s5 q hT I4 T st hfp M => ?_)
  obtain ⟨W, ⟨m, w0⟩, turn⟩ := q H2 hT
  refine Calls.spliced_nil ?_
  refine callType_codes (Q₁ := fun obj s₁ => s₁.TypeIs obj "tuple" ∧ EP X pins σ Q obj s₁) F.called_tuple (F.typeCall_tuple_1 _) F.entry_object_init
    (code_tuple_gx (Fin := fun ys H => ∀ p, H p = none → Q (.ref p) (upd H p (.tup ys))) G M ok I4 T st hfp (show X.A.in1.frames = some X.stack from I4.ok.frames) hr.in1 turn w0 fun s' ys H acc b q hv hle => ⟨⟨_, Heap.get?_push_size _ rfl, rfl⟩, ?_⟩) fun obj s₁ h₁ => ?_
  · have I5 := b.inv I4 fun b hb => (hfp b hb).1
    exact ⟨.ref s'.heap.objs.size, _, I5.laid (t' := s'.toks) (fun b o e => Heap.get?_push_of_some _ e) (Nat.le_refl _) (show ObjOk X.prog X.w _ _ _ (.tup ys) from ⟨hle, acc, hv, IsTup.new _ _⟩), rfl, q _ (I5.hok.fresh (Nat.le_refl _))⟩
  · exact ⟨h₁.1, F.args_object_init_2 obj _, object_init_meets F.called_tuple.init.lookup F.called_tuple.made (by decide) X.prog X.w X.A.in1 _ s₁ ⟨h₁.1, rfl, h₁.2⟩⟩
end
end Gx

set_option Elab.async false
set_option linter.all false
set_option maxRecDepth 100000
set_option maxHeartbeats 4000000
/-! Bx: further small rules over the layer: == and != of types, xs[i] op= e, the heap up to tables. -/
namespace Bx
open PySem PySem.Spec PyProof.Rows L2

/-! ### == and != of two built-in types -/
theorem slot_type_ne : Slot "type" (cmpInfo .NotEq).2.1 "object.__ne__" :=
  .of (owner := "object") (n := "__ne__") (by rw [typeLookup_type, builtinLookup_eq_fast]; kernel_rfl) (by decide +kernel) (by decide +kernel) (by decide +kernel)
    (by first | exact .inl (by decide +kernel) | exact .inr (by decide +kernel)) (by rw [isSubtype_type]; kernel_rfl)
theorem slot_type_ne_refl : Slot "type" (cmpInfo .NotEq).2.2 "object.__ne__" :=
  .of (owner := "object") (n := "__ne__") (by rw [typeLookup_type, builtinLookup_eq_fast]; kernel_rfl) (by decide +kernel) (by decide +kernel) (by decide +kernel)
    (by first | exact .inl (by decide +kernel) | exact .inr (by decide +kernel)) (by rw [isSubtype_type]; kernel_rfl)
theorem slot_type_eq' : Slot "type" (Str.ofString "__eq__") "object.__eq__" := TypeEq.slot_type_eq
section
variable {prog : Program} {w : World} {A : Around} {E : Value → Shared → Prop} {s : Shared}
theorem call_ne_types {Y Z : String} {Q : Value → Shared → Prop} (hX : ∀ s' : Shared, s'.TypeIs (.type Y) "type")
    (hc : wpAny (model prog w) A.in1 (call (.builtin "object.__eq__") [.type Y, .type Z]) (fun v s' => (v = .notImplemented ∧ Q .notImplemented s') ∨ ∃ b, v = .bool b ∧ Q (.bool (!b)) s') E s) :
    wpAny (model prog w) A (call (.builtin "object.__ne__") [.type Y, .type Z]) Q E s := by
  refine wpAny_call (codeAny_call_builtin slot_type_ne.plain F.cmpEntry_ne (slot_type_ne.check _ _ _ _ _ _ _ _ (hX s) (F.cmpArgs_ne _ _) ?_))
  unfold Builtin.«object.__ne__»
  refine wpAny_bind (wpAny_pure ?_)
  show wpAny _ _ (cRoomFor "comparison" [.type Y, .type Z] >>= _) _ _ _
  refine wpAny_bind (wpAny_cRoomFor_byValue rfl ?_)
  refine wpAny_bind (wpAny_callSpecialIfBound?_slot (name := Str.ofString "__eq__") (hX s) slot_type_eq' (wpAny_mono hc (fun v s' h => ?_) fun _ _ e => e))
  rcases h with ⟨rfl, q⟩ | ⟨b, rfl, q⟩
  · exact wpAny_pure q
  · show wpAny _ _ (truthy (.bool b) >>= _) _ _ _
    exact wpAny_bind (wpAny_truthy_bool (wpAny_pure q))
theorem ne_type_same {Y : String} {Q : Value → Shared → Prop} (hX : ∀ s' : Shared, s'.TypeIs (.type Y) "type") (h : Q (.bool false) s) : wpAny (model prog w) A (compareOp .NotEq (.type Y) (.type Y)) Q E s := by
  show wpAny _ A (richCompare .NotEq _ _) Q E s
  refine wpAny_richCompare_same (T := "type") (hX s) (hX s) slot_type_ne (call_ne_types hX ?_)
  exact call_gives TypeEq.slot_type_eq (hX s) F.entry_object_eq (F.args_object_eq_2 _ _) (TypeEq.object_eq_same rfl (by simp)) (.inr ⟨true, rfl, (by intro e; cases e), h⟩)
theorem richCompare_ne_decline {a b : Value} {T id : String} {k : Bool} {Q : Value → Shared → Prop} (ha : ∀ s' : Shared, s'.TypeIs a T) (hb : ∀ s' : Shared, s'.TypeIs b T)
    (h1 : Slot T (cmpInfo .NotEq).2.1 id) (h2 : Slot T (cmpInfo .NotEq).2.2 id) (hv : [a, b].any Value.onHeap = false) (hk : isSame a b = pure k)
    (hc : wpAny (model prog w) A (call (.builtin id) [a, b]) (fun v s1 => v = .notImplemented ∧ wpAny (model prog w) A (call (.builtin id) [b, a]) (fun v s2 => v = .notImplemented ∧ Q (.bool (!k)) s2) E s1) E s) :
    wpAny (model prog w) A (richCompare .NotEq a b) Q E s := by
  rcases hi : cmpInfo CmpOp.NotEq with ⟨sym, f, r⟩
  rw [hi] at h1 h2
  simp only [richCompare, hi, (ha s).oneThing_none]
  try with_reducible refine wpAny_holding ?_
  refine wpAny_bind (wpAny_cRoomFor_or (.inl hv) ?_)
  refine wpAny_bind (wpAny_typeOf (ha s) (wpAny_bind (wpAny_typeOf (hb s) ?_)))
  simp only [bne_self_eq_false, Bool.false_eq_true, if_false, pure_bind, Bool.not_false, if_true]
  refine wpAny_bind (m := tryCompare a _ b) (wpAny_tryCompare_declines (ha s) h1 (wpAny_mono hc (fun v s1 h1 => ⟨h1.1, ?_⟩) fun _ _ x => x))
  refine wpAny_bind (m := tryCompare b _ a) (wpAny_tryCompare_declines (hb s1) h2 (wpAny_mono h1.2 (fun v s2 h2 => ⟨h2.1, ?_⟩) fun _ _ x => x))
  refine wpAny_bind (wpAny_rule (wpAny_bind (wpAny_of_eq hk (wpAny_pure h2.2))))
theorem ne_type_other {Y Z : String} {Q : Value → Shared → Prop} (hX : ∀ s' : Shared, s'.TypeIs (.type Y) "type") (hY : ∀ s' : Shared, s'.TypeIs (.type Z) "type") (hne : (Value.type Y == Value.type Z) = false) (h : Q (.bool true) s) :
    wpAny (model prog w) A (compareOp .NotEq (.type Y) (.type Z)) Q E s := by
  have hne' : (Value.type Z == Value.type Y) = false := by
    rw [Bool.eq_false_iff] at hne ⊢
    intro e
    exact hne (by rw [beq_iff_eq] at e ⊢; exact e.symm)
  show wpAny _ A (richCompare .NotEq _ _) Q E s
  refine richCompare_ne_decline (T := "type") (k := false) hX hY slot_type_ne slot_type_ne_refl rfl (by rw [isSame_plain rfl, hne]) (call_ne_types hX ?_)
  refine call_gives TypeEq.slot_type_eq (hX s) F.entry_object_eq (F.args_object_eq_2 _ _) (TypeEq.object_eq_other rfl hne) (.inl ⟨rfl, rfl, call_ne_types hY ?_⟩)
  exact call_gives TypeEq.slot_type_eq (hY s) F.entry_object_eq (F.args_object_eq_2 _ _) (TypeEq.object_eq_other rfl hne') (.inl ⟨rfl, rfl, h⟩)
end
/-- the kinds of plain values -/
def tyNames : List String := ["NoneType", "bool", "int", "str", "tuple", "list"]
theorem meta_of {n : String} (h : n ∈ tyNames) (s : Shared) : s.TypeIs (.type n) "type" := by
  simp only [tyNames, List.mem_cons, List.not_mem_nil, or_false] at h
  rcases h with rfl | rfl | rfl | rfl | rfl | rfl
  · exact TypeEq.meta_NoneType s
  · exact TypeEq.meta_bool s
  · exact TypeEq.meta_int s
  · exact TypeEq.meta_str s
  · exact TypeEq.meta_tuple s
  · exact TypeEq.meta_list s
def rTyC (f : Bool → Bool) : R2 := fun x y H Q => ∃ m n, x = .ty m ∧ y = .ty n ∧ m ∈ tyNames ∧ n ∈ tyNames ∧ Q (.bl (f (decide (m = n)))) H
section
variable {X : Cx}
theorem op_eqTy : OpR X (compareOp .Eq) (rTyC id) := by
  intro pins s σ H x y v u Q I rx ry h
  obtain ⟨m, n, rfl, rfl, hm, hn, q⟩ := h
  cases (show v = Value.type m from rx)
  cases (show u = Value.type n from ry)
  by_cases e : m = n
  · subst e
    rw [decide_eq_true rfl] at q
    exact TypeEq.eq_type_same (meta_of hm) ⟨.bl true, H, I, rfl, q⟩
  · rw [decide_eq_false e] at q
    exact TypeEq.eq_type_other (meta_of hm) (meta_of hn) (by simp [e]) ⟨.bl false, H, I, rfl, q⟩
theorem op_neTy : OpR X (compareOp .NotEq) (rTyC not) := by
  intro pins s σ H x y v u Q I rx ry h
  obtain ⟨m, n, rfl, rfl, hm, hn, q⟩ := h
  cases (show v = Value.type m from rx)
  cases (show u = Value.type n from ry)
  by_cases e : m = n
  · subst e
    rw [decide_eq_true rfl] at q
    exact ne_type_same (meta_of hm) ⟨.bl false, H, I, rfl, q⟩
  · rw [decide_eq_false e] at q
    exact ne_type_other (meta_of hm) (meta_of hn) (by simp [e]) ⟨.bl true, H, I, rfl, q⟩

/-! ### the read of xs[i] op= e -/
def gtList : V → V → Hp → VK → Prop := fun o i H Q => ∃ (l : Addr) (xs : List V) (j : Nat) (x : V), o = .ref l ∧ i = .int j ∧ H l = some (.lst xs) ∧ xs[j]? = some x ∧ Q x H
theorem get_list : PGet X gtList := by
  intro pins s σ H o i ov iv Q I ro ri h
  obtain ⟨l, xs, j, x, rfl, rfl, hl, hx, q⟩ := h
  cases (show ov = Value.ref l from ro)
  obtain ⟨t, rfl⟩ := (show ∃ t, iv = Value.int (j : Int) t from ri)
  obtain ⟨its, rv, p, hz⟩ := I.list (SqL.of hl)
  obtain ⟨u, hu, ru⟩ := rv.get hx
  have hlt : j < xs.length := (List.getElem?_eq_some_iff.mp hx).1
  have hls := rv.length
  refine wpAny_getItem_list p.isList (by omega) (by have : sizeLine < 2 ^ 62 := by decide
                                                    omega) ?_ ⟨x, H, I, ru, q⟩
  simpa using hu
def ipB (f : Int → Int → Int) : TIp := fun x y H Q => ∃ i j, x = .int i ∧ y = .int j ∧ Q (.int (f i j)) H
end

/-! ### heaps: what was tracked stands, tables may have grown -/
def isTbl : HO → Prop
  | .tbl _ => True
  | _ => False
structure Ext (H H' : Hp) : Prop where
  keep : ∀ b o, H b = some o → ¬ isTbl o → H' b = some o
  tabs : ∀ P, Gx.TabG H P → Gx.TabG H' P
  live : ∀ b o, H b = some o → ∃ o', H' b = some o'
theorem Ext.refl (H : Hp) : Ext H H := ⟨fun _ _ e _ => e, fun _ t => t, fun _ o e => ⟨o, e⟩⟩
theorem Ext.trans {H H1 H2 : Hp} (a : Ext H H1) (b : Ext H1 H2) : Ext H H2 := ⟨fun c o e n => b.keep c o (a.keep c o e n) n, fun P t => b.tabs P (a.tabs P t), fun c o e => let ⟨o1, e1⟩ := a.live c o e; b.live c o1 e1⟩
theorem Ext.tabbed {P : Addr} {H H' : Hp} (h : Gx.TabG H P) (t : Gx.Tabbed P H H') : Ext H H' := by
  obtain ⟨t1, t2⟩ := t
  refine ⟨fun b o e n => ?_, fun Q hQ => ?_, fun b o e => ?_⟩
  · by_cases hb : b = P
    · obtain ⟨ps, e2, _⟩ := h
      rw [hb, e2] at e
      cases e
      exact (n trivial).elim
    · rw [t2 b hb]
      exact e
  · by_cases hb : Q = P
    · rw [hb]
      exact t1
    · obtain ⟨ps, e, k⟩ := hQ
      exact ⟨ps, by rw [t2 Q hb]; exact e, k⟩
  · by_cases hb : b = P
    · obtain ⟨ps, e, _⟩ := t1
      exact ⟨_, by rw [hb]; exact e⟩
    · exact ⟨o, by rw [t2 b hb]; exact e⟩
theorem Ext.new {H : Hp} {p : Addr} {o : HO} (h : H p = none) : Ext H (upd H p o) :=
  ⟨fun b u e _ => by rw [upd_ne (ne_of_none e h)]; exact e, fun Q ⟨ps, e, k⟩ => ⟨ps, by rw [upd_ne (ne_of_none e h)]; exact e, k⟩, fun b u e => ⟨u, by rw [upd_ne (ne_of_none e h)]; exact e⟩⟩
/-- a list of ours is written: from the state ahead of its making nothing is seen -/
theorem Ext.write {H H' : Hp} {p : Addr} {o : HO} (x : Ext H H') (h : H p = none) : Ext H (upd H' p o) :=
  ⟨fun b u e n => by rw [upd_ne (ne_of_none e h)]; exact x.keep b u e n, fun Q hQ => by
    obtain ⟨ps, e, k⟩ := x.tabs Q hQ
    obtain ⟨ps0, e0, _⟩ := hQ
    exact ⟨ps, by rw [upd_ne (ne_of_none e0 h)]; exact e, k⟩, fun b u e => by
    obtain ⟨u', e'⟩ := x.live b u e
    exact ⟨u', by rw [upd_ne (ne_of_none e h)]; exact e'⟩⟩
theorem Ext.free {H H' : Hp} (x : Ext H H') {p : Addr} (h : H' p = none) : H p = none := by
  cases e : H p with
  | none => rfl
  | some o =>
    obtain ⟨o', e'⟩ := x.live p o e
    rw [h] at e'
    cases e'
theorem Ext.rd {H H' : Hp} (x : Ext H H') {a : Addr} {u : HO} (n : ¬ isTbl u) (h : Rd H a u) : Rd H' a u := by
  rcases h with h | ⟨o, h⟩
  · exact .inl (x.keep a u h n)
  · exact .inr ⟨o, x.keep a _ h fun z => z⟩
theorem Ext.sqT {K : PySem.W.Frag} {H H' : Hp} (x : Ext H H') {a : Addr} {xs : List V} (h : SqT K H a xs) : SqT K H' a xs := h.elim (fun z => .inl (x.rd (fun z => z) z)) .inr
theorem Ext.sqL {K : PySem.W.Frag} {H H' : Hp} (x : Ext H H') {a : Addr} {xs : List V} (h : SqL K H a xs) : SqL K H' a xs := h.elim (fun z => .inl (x.rd (fun z => z) z)) .inr
theorem Ext.lst {H H' : Hp} (x : Ext H H') {a : Addr} {xs : List V} (h : H a = some (.lst xs)) : H' a = some (.lst xs) := x.keep a _ h fun z => z
theorem Ext.tup {H H' : Hp} (x : Ext H H') {a : Addr} {xs : List V} (h : H a = some (.tup xs)) : H' a = some (.tup xs) := x.keep a _ h fun z => z
mutual
theorem dp_ext {K : PySem.W.Frag} {H H' : Hp} (x : Ext H H') : ∀ {v : V} {d : PyData}, Dp K H v d → Dp K H' v d
  | _, _, .non => .non
  | _, _, .bl b => .bl b
  | _, _, .int i => .int i
  | _, _, .str z => .str z
  | _, _, .lst h hs => .lst (x.sqL h) (dpAll_ext x hs)
  | _, _, .tup h hs => .tup (x.sqT h) (dpAll_ext x hs)
theorem dpAll_ext {K : PySem.W.Frag} {H H' : Hp} (x : Ext H H') : ∀ {vs : List V} {ds : List PyData}, DpAll K H vs ds → DpAll K H' vs ds
  | _, _, .nil => .nil
  | _, _, .cons h hs => .cons (dp_ext x h) (dpAll_ext x hs)
end
theorem dp_tup {K : PySem.W.Frag} {H : Hp} {v : V} {ds : List PyData} (h : Dp K H v (.tuple ds)) : ∃ a xs, v = .ref a ∧ SqT K H a xs ∧ DpAll K H xs ds := by
  cases h with
  | tup h hs => exact ⟨_, _, rfl, h, hs⟩
theorem dp_lst {K : PySem.W.Frag} {H : Hp} {v : V} {ds : List PyData} (h : Dp K H v (.list ds)) : ∃ a xs, v = .ref a ∧ SqL K H a xs ∧ DpAll K H xs ds := by
  cases h with
  | lst h hs => exact ⟨_, _, rfl, h, hs⟩
theorem dp_int {K : PySem.W.Frag} {H : Hp} {v : V} {i : Int} (h : Dp K H v (.int i)) : v = .int i := by cases h; rfl
theorem dpAll_len {K : PySem.W.Frag} {H : Hp} : ∀ {vs : List V} {ds : List PyData}, DpAll K H vs ds → vs.length = ds.length
  | _, _, .nil => rfl
  | _, _, .cons _ hs => congrArg (· + 1) (dpAll_len hs)
theorem dpAll_get {K : PySem.W.Frag} {H : Hp} : ∀ {vs : List V} {ds : List PyData} {i : Nat} {d : PyData}, DpAll K H vs ds → ds[i]? = some d → ∃ v, vs[i]? = some v ∧ Dp K H v d
  | _, _, _, _, .nil, e => by simp at e
  | _, _, 0, _, .cons h _, e => by simp at e; subst e; exact ⟨_, rfl, h⟩
  | _, _, i + 1, d, .cons _ hs, e => by
    obtain ⟨v, h1, h2⟩ := dpAll_get (i := i) (d := d) hs (by simpa using e)
    exact ⟨v, by simpa using h1, h2⟩
theorem dpAll_get' {K : PySem.W.Frag} {H : Hp} : ∀ {vs : List V} {ds : List PyData} {i : Nat} {v : V}, DpAll K H vs ds → vs[i]? = some v → ∃ d, ds[i]? = some d ∧ Dp K H v d
  | _, _, _, _, .nil, e => by simp at e
  | _, _, 0, _, .cons h _, e => by simp at e; subst e; exact ⟨_, rfl, h⟩
  | _, _, i + 1, v, .cons _ hs, e => by
    obtain ⟨d, h1, h2⟩ := dpAll_get' (i := i) (v := v) hs (by simpa using e)
    exact ⟨d, by simpa using h1, h2⟩
theorem dpAll_app {K : PySem.W.Frag} {H : Hp} : ∀ {vs us : List V} {ds es : List PyData}, DpAll K H vs ds → DpAll K H us es → DpAll K H (vs ++ us) (ds ++ es)
  | _, _, _, _, .nil, h => h
  | _, _, _, _, .cons a hs, h => .cons a (dpAll_app hs h)
theorem dpAll_ints {K : PySem.W.Frag} {H : Hp} : ∀ {vs : List V} {ns : List Int}, DpAll K H vs (ns.map .int) → vs = ns.map V.int
  | [], [], _ => rfl
  | _, _ :: _, .cons h hs => by rw [List.map_cons, dp_int h, dpAll_ints hs]
theorem dpAll_of_ints {K : PySem.W.Frag} {H : Hp} : ∀ (ns : List Int), DpAll K H (ns.map V.int) (ns.map .int)
  | [] => .nil
  | n :: ns => .cons (.int n) (dpAll_of_ints ns)
theorem dp_ints {K : PySem.W.Frag} {H : Hp} {v : V} {ns : List Int} (h : Dp K H v (.tuple (ns.map .int))) : ∃ a, v = .ref a ∧ SqT K H a (ns.map V.int) := by
  obtain ⟨a, xs, rfl, h1, h2⟩ := dp_tup h
  exact ⟨a, rfl, by rw [← dpAll_ints h2]; exact h1⟩
/-- a tuple just laid -/
theorem dp_new {K : PySem.W.Frag} {H : Hp} {p : Addr} {vs : List V} {ds : List PyData} (hp : H p = none) (h : DpAll K H vs ds) : Dp K (upd H p (.tup vs)) (.ref p) (.tuple ds) := .tup (SqT.of upd_same) (dpAll_ext (Ext.new hp) h)

/-! ### a def whose code object is known; a callee -/
structure FunC (K : PySem.W.Frag) (x qual : Str) (st : Stmt) (f : Addr) (fd : FuncData) (c : Addr) : Prop where
  ex : ∃ (oc : Value) (od : Option Addr) (kV doc pm : Value) (an : Option Addr) (ct : Value) (osl : Array (Option Value)),
    fd = PySem.W.fnOf x qual (defArgs st) (defBody st) (defScope st) .none kV doc pm an (.ref c) ct ∧ K.lookup f = some ⟨oc, od, .func fd, osl⟩ ∧ PySem.W.codeIn K (.ref c) qual = true
  kp : PySem.W.keepIn K (.ref f) = true
theorem FunC.fun {K : PySem.W.Frag} {x qual : Str} {st : Stmt} {f : Addr} {fd : FuncData} {c : Addr} (F : FunC K x qual st f fd c) : Fun K x qual st f fd :=
  ⟨let ⟨oc, od, kV, doc, pm, an, ct, osl, h⟩ := F.ex; ⟨oc, od, kV, doc, pm, an, .ref c, ct, osl, h⟩, F.kp⟩
section
variable {P : Program} {w : World} {K : PySem.W.Frag} {mg : Str → Option Value} {base : Heap}
theorem FunC.ok {x qual : Str} {st : Stmt} {f : Addr} {fd : FuncData} {c : Addr} {N ps : List Str} {k : Nat} {sp : Sp} (F : FunC K x qual st f fd c) (S : FnScope N ps (defScope st)) (len : ∀ vs H Q E, sp vs H Q E → vs.length = ps.length)
    (hbody : ∀ (A : Around) (outer : List Env) (s : Shared) (H : Hp) (vs : List V) (Q : VK) (E : XK), Room k (A.deeper (envOfC qual (defScope st) s.heap.objs.size f (.ref c))) → sp vs H Q E →
      ∃ t, PSs (cxOf CX0 P w K mg base N qual (defScope st) f (.ref c) A outer s H E).nox (defBody st) t ∧ t { nx := fun _ H' => Q .non H', rt := Q } (start N vs) H) : FnOk P w K mg base CX0 (k + 1) f fd ps sp := by
  obtain ⟨oc, od, kV, doc, pm, an, ct, osl, rfl, lk, hcd⟩ := F.ex
  refine fn_of lk hcd S len fun A outer s H vs Q E hr hsp => ?_
  obtain ⟨t, h, q⟩ := hbody A outer s H vs Q E hr hsp
  exact ⟨t, h.nox, q⟩
/-- a callee by its name: its promise, how its arguments bind -/
structure Cal (P : Program) (w : World) (K : PySem.W.Frag) (mg : Str → Option Value) (base : Heap) (k : Nat) (x : Str) (ps : List Str) (sp : Sp) : Prop where
  ex : ∃ (f : Addr) (fd : FuncData), FnOk P w K mg base CX0 k f fd ps sp ∧ mg x = some (.ref f) ∧ PySem.W.keepIn K (.ref f) = true ∧ Binds K fd ps []
theorem Cal.mono {j k : Nat} {x : Str} {ps : List Str} {sp : Sp} (C : Cal P w K mg base j x ps sp) (h : j ≤ k) : Cal P w K mg base k x ps sp :=
  ⟨let ⟨f, fd, h1, h2⟩ := C.ex; ⟨f, fd, h1.mono h, h2⟩⟩
end
section
variable {X : Cx} {k : Nat} {x : Str} {ps : List Str} {sp : Sp} {p pos : Pos} {e : Expr} {es : List Expr} {t : TA}
theorem pe_cal (C : Cal X.prog X.w X.K X.mg X.base k x ps sp) (hr : Room k X.A) (hg : Gl X x) (ha : PA X (e :: es) t) (hdb : (x == ("__debug__" : Str)) = false := by decide)
    (he : starEach (e :: es) X.env = (false, eval e X.env) :: starEach es X.env := by rfl) (hpl : (backTo pos (starEach es X.env)).any (·.1) = false := by rfl) :
    PE X (.Call (.Name x p) (e :: es) [] pos) (tCall sp [] E0 t) := by
  obtain ⟨f, fd, h1, h2, h3, h4⟩ := C.ex
  exact pe_call h1 hr hg h2 h3 h4 .nil pass0 ha hdb he hpl
end
/-- the built-in names that the text leaves as they are -/
structure Bl (mg : Str → Option Value) : Prop where
  type : mg "type" = none
  len : mg "len" = none
  all : mg "all" = none
  sum : mg "sum" = none
  tuple : mg "tuple" = none
  list : mg "list" = none
  range : mg "range" = none
  int : mg "int" = none
  bool : mg "bool" = none
  str : mg "str" = none
  min : mg "min" = none
  max : mg "max" = none
  sorted : mg "sorted" = none
  isinstance : mg "isinstance" = none
  set : mg "set" = none
abbrev Tabs (ts : List Addr) (H : Hp) : Prop := ∀ P ∈ ts, Gx.TabG H P
theorem Tabs.ext {ts : List Addr} {H H' : Hp} (t : Tabs ts H) (x : Ext H H') : Tabs ts H' := fun P hP => x.tabs P (t P hP)
end Bx

set_option Elab.async false
set_option linter.all false
set_option maxRecDepth 100000
set_option maxHeartbeats 1000000
/-! Mx: masks, lots, and what hangs together: plain mathematics. -/
namespace Mk
/-! ### masks -/
def bits (n m : Nat) : List Nat := (List.range n).filter fun i => m.testBit i
def mask (ps : List Nat) : Nat := (ps.map fun p => 2 ^ p).sum
theorem mem_bits {n m q : Nat} : q ∈ bits n m ↔ q < n ∧ m.testBit q = true := by
  unfold bits
  rw [List.mem_filter, List.mem_range]
theorem lt_of_bit {m n q : Nat} (h : m < 2 ^ n) (hq : m.testBit q = true) : q < n := by
  apply Classical.byContradiction
  intro z
  have := Nat.testBit_lt_two_pow (x := m) (i := q) (Nat.lt_of_lt_of_le h (Nat.pow_le_pow_right (by decide) (by omega)))
  rw [this] at hq
  cases hq
theorem range_pair (n : Nat) : (List.range n).Pairwise (· < ·) := List.pairwise_lt_range
theorem bits_pair (n m : Nat) : (bits n m).Pairwise (· < ·) := (range_pair n).filter _
theorem bits_len (n m : Nat) : (bits n m).length ≤ n := by
  have := List.length_filter_le (fun i => m.testBit i) (List.range n)
  rw [List.length_range] at this
  exact this
/-- ascending lists with the same members are the same -/
theorem asc_ext : ∀ {a b : List Nat}, a.Pairwise (· < ·) → b.Pairwise (· < ·) → (∀ q, q ∈ a ↔ q ∈ b) → a = b
  | [], [], _, _, _ => rfl
  | [], y :: b, _, _, h => absurd ((h y).mpr List.mem_cons_self) (by simp)
  | x :: a, [], _, _, h => absurd ((h x).mp List.mem_cons_self) (by simp)
  | x :: a, y :: b, ha, hb, h => by
    rw [List.pairwise_cons] at ha hb
    have e : x = y := by
      have h1 := (h x).mp List.mem_cons_self
      have h2 := (h y).mpr List.mem_cons_self
      rcases List.mem_cons.mp h1 with z | z
      · exact z
      · rcases List.mem_cons.mp h2 with u | u
        · exact u.symm
        · have := hb.1 x z
          have := ha.1 y u
          omega
    subst e
    congr 1
    refine asc_ext ha.2 hb.2 fun q => ⟨fun hq => ?_, fun hq => ?_⟩
    · rcases List.mem_cons.mp ((h q).mp (List.mem_cons_of_mem _ hq)) with z | z
      · have := ha.1 q hq
        omega
      · exact z
    · rcases List.mem_cons.mp ((h q).mpr (List.mem_cons_of_mem _ hq)) with z | z
      · have := hb.1 q hq
        omega
      · exact z
theorem mask_lt : ∀ {ps : List Nat} {n : Nat}, ps.Pairwise (· < ·) → (∀ p ∈ ps, p < n) → mask ps < 2 ^ n := by
  intro ps
  -- from the greatest on
  have key : ∀ (ps : List Nat) (n : Nat), ps.Pairwise (fun a b => b < a) → (∀ p ∈ ps, p < n) → mask ps < 2 ^ n := by
    intro ps
    induction ps with
    | nil => intro n _ _; exact Nat.two_pow_pos n
    | cons p r ih =>
      intro n hp hn
      rw [List.pairwise_cons] at hp
      have h1 := ih p hp.2 hp.1
      have h2 : p < n := hn p List.mem_cons_self
      have h3 : 2 ^ (p + 1) ≤ 2 ^ n := Nat.pow_le_pow_right (by decide) h2
      have h4 : mask (p :: r) = 2 ^ p + mask r := rfl
      rw [h4]
      rw [Nat.pow_succ] at h3
      omega
  intro n hp hn
  have e : mask ps = mask ps.reverse := by
    unfold mask
    rw [← List.sum_reverse, List.map_reverse]
  rw [e]
  refine key _ n ?_ fun p hq => hn p (List.mem_reverse.mp hq)
  rw [List.pairwise_reverse]
  exact hp
theorem bit_mask : ∀ {ps : List Nat}, ps.Pairwise (· < ·) → ∀ q, (mask ps).testBit q = decide (q ∈ ps) := by
  -- from the greatest on: 2 ^ p + (less)
  have key : ∀ (ps : List Nat), ps.Pairwise (fun a b => b < a) → ∀ q, (mask ps).testBit q = decide (q ∈ ps) := by
    intro ps
    induction ps with
    | nil => intro _ q; simp [mask]
    | cons p r ih =>
      intro hp q
      rw [List.pairwise_cons] at hp
      have hlt : mask r < 2 ^ p := by
        have e : mask r = mask r.reverse := by
          unfold mask
          rw [← List.sum_reverse, List.map_reverse]
        rw [e]
        exact mask_lt (by rw [List.pairwise_reverse]; exact hp.2) fun x hx => hp.1 x (List.mem_reverse.mp hx)
      have h4 : mask (p :: r) = 2 ^ p + mask r := rfl
      rw [h4]
      rcases Nat.lt_trichotomy q p with h | h | h
      · rw [Nat.testBit_two_pow_add_gt h, ih hp.2]
        have : q ≠ p := by omega
        simp [this]
      · subst h
        rw [Nat.testBit_two_pow_add_eq, Nat.testBit_lt_two_pow hlt]
        simp
      · have hlt2 : 2 ^ p + mask r < 2 ^ q := by
          have h3 : 2 ^ (p + 1) ≤ 2 ^ q := Nat.pow_le_pow_right (by decide) h
          rw [Nat.pow_succ] at h3
          omega
        rw [Nat.testBit_lt_two_pow hlt2]
        have h1 : q ≠ p := by omega
        have h2 : q ∉ r := fun z => by
          have := hp.1 q z
          omega
        simp [h1, h2]
  intro ps hp q
  have e : mask ps = mask ps.reverse := by
    unfold mask
    rw [← List.sum_reverse, List.map_reverse]
  rw [e, key _ (by rw [List.pairwise_reverse]; exact hp)]
  simp
theorem bits_mask {n : Nat} {ps : List Nat} (hp : ps.Pairwise (· < ·)) (hn : ∀ p ∈ ps, p < n) : bits n (mask ps) = ps := by
  refine asc_ext (bits_pair _ _) hp fun q => ?_
  rw [mem_bits, bit_mask hp]
  simp only [decide_eq_true_eq]
  exact ⟨fun h => h.2, fun h => ⟨hn q h, h⟩⟩
theorem eq_of_bits {a b : Nat} (h : ∀ q, a.testBit q = true ↔ b.testBit q = true) : a = b := Nat.eq_of_testBit_eq fun q => by
  have := h q
  cases e1 : a.testBit q <;> cases e2 : b.testBit q <;> simp_all
theorem mask_bits {n m : Nat} (h : m < 2 ^ n) : mask (bits n m) = m := eq_of_bits fun q => by
  rw [bit_mask (bits_pair _ _)]
  simp only [decide_eq_true_eq]
  rw [mem_bits]
  exact ⟨fun z => z.2, fun z => ⟨lt_of_bit h z, z⟩⟩
theorem bits_any {n k m : Nat} (h1 : m < 2 ^ n) (h2 : m < 2 ^ k) : bits n m = bits k m := asc_ext (bits_pair _ _) (bits_pair _ _) fun q => by
  rw [mem_bits, mem_bits]
  exact ⟨fun z => ⟨lt_of_bit h2 z.2, z.2⟩, fun z => ⟨lt_of_bit h1 z.2, z.2⟩⟩
theorem lt_of_sub {n r m : Nat} (h : m < 2 ^ n) (s : ∀ q, r.testBit q = true → m.testBit q = true) : r < 2 ^ n := by
  apply Nat.lt_pow_two_of_testBit
  intro i hi
  cases e : r.testBit i with
  | false => rfl
  | true => exact absurd (lt_of_bit h (s i e)) (by omega)
/-! ### the lowest bit -/
theorem and_neg (m : Nat) (h : 0 < m) : ∃ q, m.testBit q = true ∧ (∀ p, p < q → m.testBit p = false) ∧ PySem.Builtin.bitAnd (m : Int) (-(m : Int)) = ((2 ^ q : Nat) : Int) := by
  have key : ∀ (m : Nat), 0 < m → ∃ q, m.testBit q = true ∧ (∀ p, p < q → m.testBit p = false) ∧ m - (m &&& (m - 1)) = 2 ^ q ∧ (m &&& (m - 1)) ≤ m := by
    intro m
    induction m using Nat.strongRecOn with
    | ind m ih =>
    intro h
    rcases Nat.mod_two_eq_zero_or_one m with e | e
    · obtain ⟨k, rfl⟩ : ∃ k, m = 2 * k := ⟨m / 2, by omega⟩
      obtain ⟨q, h1, h2, h3, h4⟩ := ih k (by omega) (by omega)
      have ea : (2 * k &&& (2 * k - 1)) = 2 * (k &&& (k - 1)) := by
        apply Nat.eq_of_testBit_eq
        intro i
        cases i with
        | zero => simp [Nat.testBit_and]
        | succ i =>
          rw [Nat.testBit_and, Nat.testBit_succ, Nat.testBit_succ, Nat.testBit_succ]
          have e1 : 2 * k / 2 = k := by omega
          have e2 : (2 * k - 1) / 2 = k - 1 := by omega
          have e3 : 2 * (k &&& (k - 1)) / 2 = (k &&& (k - 1)) := by omega
          rw [e1, e2, e3, Nat.testBit_and]
      refine ⟨q + 1, ?_, fun p hp => ?_, ?_, ?_⟩
      · rw [Nat.testBit_succ]
        have e1 : 2 * k / 2 = k := by omega
        rw [e1]
        exact h1
      · cases p with
        | zero => simp
        | succ p =>
          rw [Nat.testBit_succ]
          have e1 : 2 * k / 2 = k := by omega
          rw [e1]
          exact h2 p (by omega)
      · rw [ea, Nat.pow_succ]
        omega
      · rw [ea]
        omega
    · refine ⟨0, by simp [Nat.testBit_zero, e], fun p hp => by omega, ?_, ?_⟩
      · have ea : (m &&& (m - 1)) = m - 1 := by
          apply Nat.eq_of_testBit_eq
          intro i
          rw [Nat.testBit_and]
          cases i with
          | zero =>
            have : (m - 1) % 2 = 0 := by omega
            simp [Nat.testBit_zero, this]
          | succ i =>
            rw [Nat.testBit_succ, Nat.testBit_succ]
            have e1 : (m - 1) / 2 = m / 2 := by omega
            rw [e1, Bool.and_self]
        rw [ea]
        omega
      · exact Nat.and_le_left
  obtain ⟨q, h1, h2, h3, h4⟩ := key m h
  refine ⟨q, h1, h2, ?_⟩
  unfold PySem.Builtin.bitAnd PySem.Builtin.bitNot
  have e1 : decide ((0 : Int) ≤ (m : Int)) = true := by simp
  have e2 : decide ((0 : Int) ≤ -(m : Int)) = false := by
    apply decide_eq_false
    omega
  rw [e1, e2]
  show (m : Int) - (((m : Int).toNat &&& (-(-(m : Int)) - 1).toNat : Nat) : Int) = _
  have e3 : (m : Int).toNat = m := Int.toNat_natCast m
  have e4 : (-(-(m : Int)) - 1).toNat = m - 1 := by omega
  rw [e3, e4, ← h3]
  omega

/-! ### graphs -/
def adj (bs : List (Nat × Nat)) (i j : Nat) : Bool := bs.contains (min i j, max i j)
theorem adj_comm (bs : List (Nat × Nat)) (i j : Nat) : adj bs i j = adj bs j i := by
  unfold adj
  rw [Nat.min_comm, Nat.max_comm]
/-- from p to q by borders, within S -/
inductive Conn (bs : List (Nat × Nat)) (S : Nat → Prop) : Nat → Nat → Prop
  | refl {p : Nat} : S p → Conn bs S p p
  | step {p q r : Nat} : Conn bs S p q → adj bs q r = true → S r → Conn bs S p r
section
variable {bs : List (Nat × Nat)} {S T : Nat → Prop} {p q r : Nat}
theorem Conn.fst (h : Conn bs S p q) : S p := by
  induction h with
  | refl h => exact h
  | step _ _ _ ih => exact ih
theorem Conn.snd (h : Conn bs S p q) : S q := by
  cases h with
  | refl h => exact h
  | step _ _ h => exact h
theorem Conn.trans (h1 : Conn bs S p q) (h2 : Conn bs S q r) : Conn bs S p r := by
  induction h2 with
  | refl _ => exact h1
  | step _ a s ih => exact .step ih a s
theorem Conn.one (h1 : S p) (h2 : S q) (a : adj bs p q = true) : Conn bs S p q := .step (.refl h1) a h2
theorem Conn.symm (h : Conn bs S p q) : Conn bs S q p := by
  induction h with
  | refl h => exact .refl h
  | step c a s ih => exact (Conn.one s c.snd (by rw [adj_comm]; exact a)).trans ih
theorem Conn.mono (h : Conn bs S p q) (k : ∀ x, S x → T x) : Conn bs T p q := by
  induction h with
  | refl h => exact .refl (k _ h)
  | step _ a s ih => exact .step ih a (k _ s)
/-- within a part that is closed nothing else is come to -/
theorem Conn.closed (h : Conn bs S p q) (hp : T p) (k : ∀ x y, T x → S y → adj bs x y = true → T y) : Conn bs T p q ∧ T q := by
  induction h with
  | refl _ => exact ⟨.refl hp, hp⟩
  | step _ a s ih =>
    have t := k _ _ ih.2 s a
    exact ⟨.step ih.1 a t, t⟩
end
abbrev In (m : Nat) : Nat → Prop := fun x => m.testBit x = true
/-- r: what is come to from start within m -/
def Rch (bs : List (Nat × Nat)) (m start r : Nat) : Prop := ∀ q, r.testBit q = true ↔ ∃ p, start.testBit p = true ∧ Conn bs (In m) p q
theorem Rch.uniq {bs : List (Nat × Nat)} {m start r r' : Nat} (h : Rch bs m start r) (h' : Rch bs m start r') : r = r' := eq_of_bits fun q => (h q).trans (h' q).symm
/-- the loop of reached: what holds between two turns -/
structure Walk (bs : List (Nat × Nat)) (m start seen fresh : Nat) : Prop where
  st : ∀ q, start.testBit q = true → seen.testBit q = true
  sub : ∀ q, fresh.testBit q = true → seen.testBit q = true
  sound : ∀ q, seen.testBit q = true → ∃ p, start.testBit p = true ∧ Conn bs (In m) p q
  done : ∀ q r, seen.testBit q = true → fresh.testBit q = false → adj bs q r = true → m.testBit r = true → seen.testBit r = true
theorem Walk.begin {bs : List (Nat × Nat)} {m start : Nat} (h : ∀ q, start.testBit q = true → m.testBit q = true) : Walk bs m start start start :=
  ⟨fun _ h => h, fun _ h => h, fun q hq => ⟨q, hq, .refl (h q hq)⟩, fun q r h1 h2 => by rw [h1] at h2; cases h2⟩
theorem Walk.fin {bs : List (Nat × Nat)} {m start seen : Nat} (w : Walk bs m start seen 0) : Rch bs m start seen := fun q => by
  refine ⟨w.sound q, fun h => ?_⟩
  obtain ⟨p, hp, c⟩ := h
  induction c with
  | refl _ => exact w.st _ hp
  | step c a s ih => exact w.done _ _ ih (Nat.zero_testBit _) a s
theorem Walk.turn {bs : List (Nat × Nat)} {m start seen fresh around : Nat} (w : Walk bs m start seen fresh) (ha : ∀ r, around.testBit r = true ↔ ∃ q, fresh.testBit q = true ∧ adj bs q r = true) :
    Walk bs m start (seen ||| (around &&& (m ^^^ seen))) (around &&& (m ^^^ seen)) := by
  have sm : ∀ q, seen.testBit q = true → m.testBit q = true := fun q hq => by
    obtain ⟨p, _, c⟩ := w.sound q hq
    exact c.snd
  have hn : ∀ r, (around &&& (m ^^^ seen)).testBit r = true ↔ around.testBit r = true ∧ m.testBit r = true ∧ seen.testBit r = false := fun r => by
    rw [Nat.testBit_and, Nat.testBit_xor]
    have := sm r
    cases h1 : around.testBit r <;> cases h2 : m.testBit r <;> cases h3 : seen.testBit r <;> simp_all
  refine ⟨fun q hq => ?_, fun q hq => ?_, fun q hq => ?_, fun q r h1 h2 a hr => ?_⟩
  · rw [Nat.testBit_or, w.st q hq]; rfl
  · rw [Nat.testBit_or, hq, Bool.or_true]
  · rw [Nat.testBit_or, Bool.or_eq_true] at hq
    rcases hq with hq | hq
    · exact w.sound q hq
    · obtain ⟨h1, h2, _⟩ := (hn q).mp hq
      obtain ⟨x, h3, h4⟩ := (ha q).mp h1
      obtain ⟨p, hp, c⟩ := w.sound x (w.sub x h3)
      exact ⟨p, hp, .step c h4 h2⟩
  · rw [Nat.testBit_or, h2, Bool.or_false] at h1
    rw [Nat.testBit_or, Bool.or_eq_true]
    cases e : seen.testBit r with
    | true => exact .inl rfl
    | false =>
      right
      rw [hn]
      refine ⟨(ha r).mpr ⟨q, ?_, a⟩, hr, e⟩
      cases ef : fresh.testBit q with
      | true => rfl
      | false =>
        have := w.done q r h1 ef a hr
        rw [this] at e
        cases e
theorem Walk.le {bs : List (Nat × Nat)} {m start seen fresh : Nat} (w : Walk bs m start seen fresh) : seen ≤ m := by
  apply Nat.le_of_testBit
  intro i hi
  obtain ⟨p, _, c⟩ := w.sound i hi
  exact c.snd
theorem or_gt {a b : Nat} (h : a &&& b = 0) (hb : b ≠ 0) : a < a ||| b := by
  have h1 : a ≤ a ||| b := Nat.left_le_or
  rcases Nat.lt_or_eq_of_le h1 with z | z
  · exact z
  · exfalso
    apply hb
    apply eq_of_bits
    intro q
    rw [Nat.zero_testBit]
    refine ⟨fun hq => ?_, fun z => by cases z⟩
    have e1 : (a ||| b).testBit q = true := by rw [Nat.testBit_or, hq, Bool.or_true]
    rw [← z] at e1
    have e2 : (a &&& b).testBit q = true := by rw [Nat.testBit_and, e1, hq]; rfl
    rw [h, Nat.zero_testBit] at e2
    exact e2

/-! ### links -/
theorem bit_or_pow (x b j : Nat) : (x ||| 2 ^ b).testBit j = (x.testBit j || decide (b = j)) := by
  rw [Nat.testBit_or, Nat.testBit_two_pow]
/-- lk: for each of n places the mask of its neighbours -/
structure Lk (n : Nat) (bs : List (Nat × Nat)) (lk : List Nat) : Prop where
  len : lk.length = n
  bit : ∀ i j, i < n → (lk.getD i 0).testBit j = adj bs i j
theorem Lk.nil (n : Nat) : Lk n [] (List.replicate n 0) := ⟨by simp, fun i j hi => by
  rw [List.getD_eq_getElem?_getD, List.getElem?_replicate, if_pos hi]
  simp [adj]⟩
theorem getD_set {l : List Nat} {a i x : Nat} (ha : a < l.length) : (l.set a x).getD i 0 = if i = a then x else l.getD i 0 := by
  rw [List.getD_eq_getElem?_getD, List.getD_eq_getElem?_getD, List.getElem?_set]
  by_cases h : a = i
  · subst h
    rw [if_pos rfl, if_pos rfl, if_pos ha]
    rfl
  · rw [if_neg h, if_neg (fun z => h z.symm)]
theorem Lk.add {n : Nat} {bs : List (Nat × Nat)} {lk : List Nat} (h : Lk n bs lk) {a b : Nat} (hab : a < b) (hb : b < n) :
    Lk n (bs ++ [(a, b)]) ((lk.set a (lk.getD a 0 ||| 2 ^ b)).set b (lk.getD b 0 ||| 2 ^ a)) := by
  have hl := h.len
  refine ⟨by simp [h.len], fun i j hi => ?_⟩
  have e : adj (bs ++ [(a, b)]) i j = (adj bs i j || decide (min i j = a ∧ max i j = b)) := by
    unfold adj
    rw [List.contains_eq_mem, List.contains_eq_mem]
    simp only [List.mem_append, List.mem_singleton, Prod.mk.injEq]
    by_cases h1 : (min i j, max i j) ∈ bs <;> simp [h1]
  rw [e, getD_set (by simp; omega)]
  by_cases h1 : i = b
  · subst h1
    rw [if_pos rfl, bit_or_pow, h.bit _ _ hi]
    congr 1
    apply decide_eq_decide.mpr
    omega
  · rw [if_neg h1, getD_set (by omega)]
    by_cases h2 : i = a
    · subst h2
      rw [if_pos rfl, bit_or_pow, h.bit _ _ hi]
      congr 1
      apply decide_eq_decide.mpr
      omega
    · rw [if_neg h2, h.bit _ _ hi]
      have : decide (min i j = a ∧ max i j = b) = false := by
        apply decide_eq_false
        omega
      rw [this, Bool.or_false]
/-- the borders of a land of n places -/
def Bs (n : Nat) (bs : List (Nat × Nat)) : Prop := ∀ b ∈ bs, b.1 < b.2 ∧ b.2 < n
theorem adj_lt {n : Nat} {bs : List (Nat × Nat)} (h : Bs n bs) {i j : Nat} (a : adj bs i j = true) : i < n ∧ j < n ∧ i ≠ j := by
  unfold adj at a
  rw [List.contains_eq_mem, decide_eq_true_eq] at a
  have := h _ a
  simp only at this
  omega
/-- all that a mask has as neighbours, gathered by its bits -/
theorem around_bits {n : Nat} {bs : List (Nat × Nat)} {lk : List Nat} (h : Lk n bs lk) {m : Nat} (hm : m < 2 ^ n) (r : Nat) :
    ((bits n m).foldl (fun a p => a ||| lk.getD p 0) 0).testBit r = true ↔ ∃ q, m.testBit q = true ∧ adj bs q r = true := by
  have key : ∀ (l : List Nat) (a : Nat), (l.foldl (fun a p => a ||| lk.getD p 0) a).testBit r = true ↔ a.testBit r = true ∨ ∃ q ∈ l, (lk.getD q 0).testBit r = true := by
    intro l
    induction l with
    | nil => intro a; simp
    | cons p l ih =>
      intro a
      rw [List.foldl_cons, ih, Nat.testBit_or, Bool.or_eq_true]
      constructor
      · rintro ((z | z) | ⟨q, hq, z⟩)
        · exact .inl z
        · exact .inr ⟨p, List.mem_cons_self, z⟩
        · exact .inr ⟨q, List.mem_cons_of_mem _ hq, z⟩
      · rintro (z | ⟨q, hq, z⟩)
        · exact .inl (.inl z)
        · rcases List.mem_cons.mp hq with e | hq
          · rw [e] at z
            exact .inl (.inr z)
          · exact .inr ⟨q, hq, z⟩
  rw [key]
  constructor
  · rintro (z | ⟨q, hq, z⟩)
    · simp at z
    · obtain ⟨h1, h2⟩ := mem_bits.mp hq
      exact ⟨q, h2, by rw [← h.bit q r h1]; exact z⟩
  · rintro ⟨q, hq, a⟩
    have hqn := lt_of_bit hm hq
    exact .inr ⟨q, mem_bits.mpr ⟨hqn, hq⟩, by rw [h.bit q r hqn]; exact a⟩
theorem fold_lt {n : Nat} {bs : List (Nat × Nat)} {lk : List Nat} (h : Lk n bs lk) (hb : Bs n bs) {m : Nat} (hm : m < 2 ^ n) : (bits n m).foldl (fun a p => a ||| lk.getD p 0) 0 < 2 ^ n := by
  apply Nat.lt_pow_two_of_testBit
  intro i hi
  cases e : ((bits n m).foldl (fun a p => a ||| lk.getD p 0) 0).testBit i with
  | false => rfl
  | true =>
    obtain ⟨q, _, a⟩ := (around_bits h hm i).mp e
    have := (adj_lt hb a).2.1
    omega
/-- the pieces of a mask, from the lowest bit on -/
inductive Pcs (bs : List (Nat × Nat)) : Nat → List Nat → Prop
  | nil : Pcs bs 0 []
  | cons {m q p : Nat} {l : List Nat} : m.testBit q = true → (∀ x, x < q → m.testBit x = false) → Rch bs m (2 ^ q) p → Pcs bs (m ^^^ p) l → Pcs bs m (p :: l)
theorem Rch.sub {bs : List (Nat × Nat)} {m start p : Nat} (h : Rch bs m start p) : ∀ q, p.testBit q = true → m.testBit q = true := fun q hq => by
  obtain ⟨x, _, c⟩ := (h q).mp hq
  exact c.snd
theorem xor_sub {m p : Nat} (h : ∀ q, p.testBit q = true → m.testBit q = true) (q : Nat) : (m ^^^ p).testBit q = true ↔ m.testBit q = true ∧ p.testBit q = false := by
  rw [Nat.testBit_xor]
  have := h q
  cases h1 : m.testBit q <;> cases h2 : p.testBit q <;> simp_all
theorem xor_lt {m p q : Nat} (h : ∀ q, p.testBit q = true → m.testBit q = true) (hq : p.testBit q = true) : m ^^^ p < m := by
  have e : (m ^^^ p) ||| p = m := eq_of_bits fun x => by
    rw [Nat.testBit_or, Bool.or_eq_true, xor_sub h]
    have := h x
    cases h1 : m.testBit x <;> cases h2 : p.testBit x <;> simp_all
  have a : (m ^^^ p) &&& p = 0 := eq_of_bits fun x => by
    rw [Nat.testBit_and, Bool.and_eq_true, xor_sub h, Nat.zero_testBit]
    simp_all
  have hp : p ≠ 0 := fun z => by rw [z, Nat.zero_testBit] at hq; cases hq
  have := or_gt a hp
  rw [e] at this
  exact this

theorem low_uniq {m q q' : Nat} (h : m.testBit q = true) (l : ∀ x, x < q → m.testBit x = false) (h' : m.testBit q' = true) (l' : ∀ x, x < q' → m.testBit x = false) : q = q' := by
  rcases Nat.lt_trichotomy q q' with z | z | z
  · rw [l' q z] at h; cases h
  · exact z
  · rw [l q' z] at h'; cases h'
theorem Pcs.uniq {bs : List (Nat × Nat)} {m : Nat} {l : List Nat} (h : Pcs bs m l) : ∀ {l' : List Nat}, Pcs bs m l' → l = l' := by
  induction h with
  | nil =>
    intro l' h'
    cases h' with
    | nil => rfl
    | cons hq _ _ _ => simp at hq
  | @cons m q p l hq hl hR _ ih =>
    intro l' h'
    cases h' with
    | nil => simp at hq
    | @cons _ q' p' l2 hq' hl' hR' hP' =>
      have e := low_uniq hq hl hq' hl'
      subst e
      have e2 := hR.uniq hR'
      subst e2
      rw [ih hP']
open Classical in
/-- the pieces -/
noncomputable def pcs (bs : List (Nat × Nat)) (m : Nat) : List Nat := if h : ∃ l, Pcs bs m l then h.choose else []
theorem Pcs.eq {bs : List (Nat × Nat)} {m : Nat} {l : List Nat} (h : Pcs bs m l) : pcs bs m = l := by
  unfold pcs
  rw [dif_pos ⟨l, h⟩]
  exact (Exists.choose_spec (⟨l, h⟩ : ∃ l, Pcs bs m l)).uniq h
end Mk

set_option Elab.async false
set_option linter.all false
set_option maxRecDepth 100000
set_option maxHeartbeats 4000000
/-! Bs: the turns of a generator expression over a source of known length; scopes by a look. -/
namespace Gx
open PySem PySem.Spec PyProof.Rows L2 Bx

/-- the scopes of the names, by a look -/
def gChk (ND : List Str) (sc scope : Scope) (N : List Str) (src : List (Option Nat)) : Bool :=
  decide (scope.kind = .function) && !scope.isCoroutine && (scope.names.all fun y => decide (y.2 ≠ .cell)) && decide (scope.names.lookup (".0" : Str) = some NameKind.local) &&
  (scope.names.all fun y => decide (y.2 = .free → sc.names.lookup y.1 = some .cell ∨ sc.names.lookup y.1 = some .free)) && decide (src.length = N.length) &&
  (List.range src.length).all fun i => match src[i]? with
    | some (some j) => match N[i]?, ND[j]? with
      | some x, some z => decide (x = z) && decide (scope.names.lookup x = some .free)
      | _, _ => false
    | _ => true
theorem gOk {ND : List Str} {sc scope : Scope} {N : List Str} {src : List (Option Nat)} (h : gChk ND sc scope N src = true) : GOk ND sc scope N src := by
  unfold gChk at h
  simp only [Bool.and_eq_true, decide_eq_true_eq, Bool.not_eq_true', List.all_eq_true] at h
  obtain ⟨⟨⟨⟨⟨⟨h1, h2⟩, h3⟩, h4⟩, h5⟩, h6⟩, h7⟩ := h
  refine ⟨h1, h2, h3, h4, h5, h6, fun i j e => ?_⟩
  have hi : i < src.length := (List.getElem?_eq_some_iff.mp e).1
  have q := h7 i (List.mem_range.mpr hi)
  rw [e] at q
  cases e1 : N[i]? with
  | none => simp [e1] at q
  | some x =>
    cases e2 : ND[j]? with
    | none => simp [e1, e2] at q
    | some z =>
      simp only [e1, e2, Bool.and_eq_true, decide_eq_true_eq] at q
      exact ⟨x, rfl, by rw [q.1], q.2⟩

/-- a source: n items, it i the i-th one, while Ph stands -/
structure Src (J : It) (n : Nat) (it : Nat → V) (Ph : Hp → Prop) : Prop where
  go : ∀ i H, Ph H → i < n → J.go i H
  stop : ∀ H, Ph H → J.stop n H
  yld : ∀ i H x H', Ph H → i < n → J.yld i H x H' → H' = H ∧ x = it i
theorem src_range {lo : Int} {n : Nat} {Ph : Hp → Prop} : Src (Itr lo n) n (fun i => .int (lo + i)) Ph := ⟨fun _ _ _ h => h, fun _ _ => Nat.le_refl _, fun _ _ _ _ _ _ h => h⟩
theorem src_tup {K : PySem.W.Frag} {a : Addr} {xs : List V} {Ph : Hp → Prop} (h : ∀ H, Ph H → SqT K H a xs) : Src (Itt K a) xs.length (fun i => xs.getD i .non) Ph where
  go := fun i H p hi => ⟨xs, xs[i], h H p, List.getElem?_eq_getElem hi⟩
  stop := fun H p => ⟨xs, h H p, Nat.le_refl _⟩
  yld := fun i H x H' p hi y => ⟨y.1, by rw [List.getD_eq_getElem?_getD, y.2 xs (h H p)]; rfl⟩
theorem src_lst {K : PySem.W.Frag} {a : Addr} {xs : List V} {Ph : Hp → Prop} (h : ∀ H, Ph H → SqL K H a xs) : Src (Itl K a) xs.length (fun i => xs.getD i .non) Ph where
  go := fun i H p hi => ⟨xs, xs[i], h H p, List.getElem?_eq_getElem hi⟩
  stop := fun H p => ⟨xs, h H p, Nat.le_refl _⟩
  yld := fun i H x H' p hi y => ⟨y.1, by rw [List.getD_eq_getElem?_getD, y.2 xs (h H p)]; rfl⟩

section
variable {J : It} {n : Nat} {it : Nat → V} {Ph : Hp → Prop} {g : TG} {tt : TT} {te : TE} {vs : List Nat} {σg : L2.St} {H : Hp} {Q : VK}
theorem g_all {Qt Qf : Hp → Prop} (S : Src J n it Ph) (p : Nat → Bool) (h0 : Ph H)
    (step : ∀ i H (C : V → Hp → Prop), Ph H → i < n → (∀ H4, Ph H4 → C (.bl (p i)) H4) → g (it i) σg H fun σ2 H2 => wipe σ2 vs = σg ∧ te σ2 H2 C)
    (fin : ∀ H, Ph H → (List.range n).all p = true → Qt H) (finF : ∀ H, Ph H → (List.range n).all p = false → Qf H) :
    ∃ W : Nat → Nat → List V → Hp → Prop, (∃ m, W 0 m [] H) ∧ GTurn J g tYes te vs σg (pAll Qf) (fun _ H => Qt H) W := by
  refine ⟨fun i m _ H => Ph H ∧ i ≤ n ∧ m = n - i ∧ ∀ j, j < i → p j = true, ⟨n, h0, Nat.zero_le _, by omega, fun j hj => by omega⟩, fun i m ys H ⟨hp, hi, hm, ha⟩ => ?_⟩
  by_cases hn : i = n
  · subst hn
    exact .inl ⟨S.stop H hp, fin H hp (List.all_eq_true.mpr fun j hj => ha j (List.mem_range.mp hj))⟩
  · have hlt : i < n := by omega
    refine .inr ⟨S.go i H hp hlt, fun x H' y => ?_⟩
    obtain ⟨rfl, rfl⟩ := S.yld i H x H' hp hlt y
    refine step i H' _ hp hlt fun H4 hp4 => ⟨p i, rfl, ?_⟩
    cases e : p i with
    | true => exact iteT ⟨n - (i + 1), by omega, hp4, hlt, rfl, fun j hj => by
        by_cases z : j = i
        · rw [z]; exact e
        · exact ha j (by omega)⟩
    | false =>
      refine iteF (finF H4 hp4 ?_)
      rw [Bool.eq_false_iff]
      intro z
      rw [List.all_eq_true.mp z i (List.mem_range.mpr hlt)] at e
      cases e
theorem g_sum (S : Src J n it Ph) (f : Nat → Int) (h0 : Ph H)
    (step : ∀ i H (C : V → Hp → Prop), Ph H → i < n → (∀ H4, Ph H4 → C (.int (f i)) H4) → g (it i) σg H fun σ2 H2 => wipe σ2 vs = σg ∧ te σ2 H2 C)
    (fin : ∀ H, Ph H → Q (.int ((List.range n).map f).sum) H) :
    ∃ W : Nat → Nat → List V → Hp → Prop, (∃ m, W 0 m [] H) ∧ GTurn J g tYes te vs σg pSum (fun ys H => ∀ ns : List Int, ys = ns.map V.int → Q (.int ns.sum) H) W := by
  refine ⟨fun i m ys H => Ph H ∧ i ≤ n ∧ m = n - i ∧ ys = ((List.range i).map f).map V.int, ⟨n, h0, Nat.zero_le _, by omega, rfl⟩, fun i m ys H ⟨hp, hi, hm, hy⟩ => ?_⟩
  by_cases hn : i = n
  · subst hn
    refine .inl ⟨S.stop H hp, fun ns e => ?_⟩
    rw [hy] at e
    have e2 : (List.range i).map f = ns := by
      have inj : ∀ (a b : List Int), a.map V.int = b.map V.int → a = b := fun a => by
        induction a with
        | nil => intro b h; cases b with
          | nil => rfl
          | cons y b => cases h
        | cons x a ih => intro b h; cases b with
          | nil => cases h
          | cons y b =>
            injection h with h1 h2
            injection h1 with h1
            rw [h1, ih b h2]
      exact inj _ _ e
    rw [← e2]
    exact fin H hp
  · have hlt : i < n := by omega
    refine .inr ⟨S.go i H hp hlt, fun x H' y => ?_⟩
    obtain ⟨rfl, rfl⟩ := S.yld i H x H' hp hlt y
    refine step i H' _ hp hlt fun H4 hp4 => ⟨⟨f i, rfl⟩, n - (i + 1), by omega, hp4, hlt, rfl, ?_⟩
    rw [hy, List.range_succ, List.map_append, List.map_append]
    rfl
/-- tuple(.. if ..), the target a name; kp i: whether the i-th item is kept; Pw: by the turn and what is out -/
theorem g_tup {o : Nat} {Pw : Nat → List V → Hp → Prop} (S : ∀ i ys, Src J n it (Pw i ys)) (hn : n ≤ sizeLine) (kp : Nat → Bool) (hw : ∀ x, wipe (σg.set o (some x)) vs = σg) (h0 : Pw 0 [] H)
    (len : ∀ i ys H, Pw i ys H → ys.length ≤ i)
    (test : ∀ i ys H (C : Bool → Hp → Prop), Pw i ys H → i < n → (∀ H2, Pw i ys H2 → C (kp i) H2) → tt (σg.set o (some (it i))) H C)
    (skip : ∀ i ys H, Pw i ys H → i < n → kp i = false → Pw (i + 1) ys H)
    (elt : ∀ i ys H (C : V → Hp → Prop), Pw i ys H → i < n → kp i = true → (∀ v H4, Pw (i + 1) (ys ++ [v]) H4 → C v H4) → te (σg.set o (some (it i))) H C)
    (fin : ∀ ys H, Pw n ys H → ∀ p, H p = none → Q (.ref p) (upd H p (.tup ys))) :
    ∃ W : Nat → Nat → List V → Hp → Prop, (∃ m, W 0 m [] H) ∧ GTurn J (gName o) tt te vs σg pTup (fun ys H => ∀ p, H p = none → Q (.ref p) (upd H p (.tup ys))) W := by
  refine ⟨fun i m ys H => Pw i ys H ∧ i ≤ n ∧ m = n - i, ⟨n, h0, Nat.zero_le _, by omega⟩, fun i m ys H ⟨hp, hi, hm⟩ => ?_⟩
  by_cases e : i = n
  · subst e
    exact .inl ⟨(S i ys).stop H hp, fin ys H hp⟩
  · have hlt : i < n := by omega
    refine .inr ⟨(S i ys).go i H hp hlt, fun x H' y => ?_⟩
    obtain ⟨rfl, rfl⟩ := (S i ys).yld i H x H' hp hlt y
    refine ⟨hw _, test i ys H' _ hp hlt fun H2 h2 => ?_⟩
    cases hk : kp i with
    | true => exact iteT (elt i ys H2 _ h2 hlt hk fun v H4 h4 => ⟨by have := len i ys H2 h2; omega, n - (i + 1), by omega, h4, hlt, rfl⟩)
    | false => exact iteF ⟨n - (i + 1), by omega, skip i ys H2 h2 hlt hk, hlt, rfl⟩
end
end Gx
namespace Bx
open PySem PySem.Spec PyProof.Rows L2
theorem ix_tupK {X : Cx} {K : PySem.W.Frag} (h : X.K = K) : IxR X (rIxT K) := h ▸ ix_tup
theorem pt_truthK {X : Cx} {K : PySem.W.Frag} {a : Expr} {ta : TE} (h : X.K = K) (ha : PE X a ta) (he : ∀ whole, isTrue a X.env whole = (do let v ← whole; standAt a.pos; holding [v] (truthy v))) :
    PT X a (fun σ H Q => ta σ H fun x H' => ∃ k, TruV K x H' k ∧ Q k H') := h ▸ pt_truth ha he
theorem call_lenK {X : Cx} {K : PySem.W.Frag} (h : X.K = K) : CallR X (.builtin "len") (fun xs H Q => ∃ x n, xs = [x] ∧ LenV K x H n ∧ Q (.int n) H) := h ▸ call_len
theorem ix_lstK {X : Cx} {K : PySem.W.Frag} (h : X.K = K) : IxR X (rIxL K) := h ▸ ix_list
end Bx

set_option Elab.async false
set_option linter.all false
set_option maxRecDepth 100000
set_option maxHeartbeats 4000000
namespace Wd
open PySem PySem.Spec PyProof.Rows L2 Bx Gx
def topS (i : Nat) : Stmt := PySem.Challenge.pw_wardsdrawn_k22_whole_rings_rows_and_mesh.main.body.getD i (.Pass ⟨0, 0, 0, 0⟩)
abbrev st_WardError : Stmt := topS 1
abbrev st_InvalidPlace : Stmt := topS 2
abbrev st_InvalidLand : Stmt := topS 3
abbrev st_is_integer : Stmt := topS 8
abbrev st_is_place : Stmt := topS 9
abbrev st_is_sequence : Stmt := topS 10
abbrev st_mask_of : Stmt := topS 11
abbrev st_lot_of : Stmt := topS 12
abbrev st_whole_mask : Stmt := topS 13
abbrev st_links_of : Stmt := topS 14
abbrev st_reached : Stmt := topS 15
abbrev st_piece_masks : Stmt := topS 16
abbrev st_hangs_together : Stmt := topS 17
abbrev st_fault_of_land : Stmt := topS 18
abbrev st_fault_of_folk : Stmt := topS 19
abbrev st_fault_of_borders : Stmt := topS 20
abbrev st_is_border : Stmt := topS 21
abbrev st_check_land : Stmt := topS 22
abbrev st_check_head : Stmt := topS 23
abbrev st_check_heads : Stmt := topS 24
abbrev st_is_order : Stmt := topS 26
abbrev st_ordered : Stmt := topS 27
abbrev st_order_count : Stmt := topS 28
abbrev st_barred_sizes : Stmt := topS 29
abbrev st_ward_counts : Stmt := topS 30
abbrev st_is_order_between : Stmt := topS 31
abbrev st_has_both_ways : Stmt := topS 32
abbrev st_next_places : Stmt := topS 33
abbrev st_ways_on : Stmt := topS 34
abbrev st_is_between : Stmt := topS 35
abbrev st_order_at : Stmt := topS 36
abbrev st_next_step : Stmt := topS 37
abbrev st_first_shut : Stmt := topS 38
abbrev st_partings : Stmt := topS 39
abbrev st__law_sack : Stmt := topS 41
abbrev st__law_grab : Stmt := topS 42
abbrev st__law_pick : Stmt := topS 43
abbrev st__law_same : Stmt := topS 44
abbrev st__law_choices : Stmt := topS 45
abbrev st__law_pairs : Stmt := topS 46
abbrev st__law_due : Stmt := topS 47
abbrev st_law : Stmt := topS 48
/-! ### plain data -/
def isIntD (lo hi : Int) : PyData → Bool
  | .int i => decide (lo ≤ i ∧ i ≤ hi)
  | _ => false
theorem tyB_dp {K : PySem.W.Frag} {H : Hp} {v : V} {d : PyData} (h : Dp K H v d) : (∃ i, v = .int i ∧ d = .int i ∧ TyB K H v "int") ∨ ∃ T, T ∈ tyNames ∧ TyB K H v T ∧ T ≠ "int" ∧ ∀ lo hi, isIntD lo hi d = false := by
  cases h with
  | non => exact .inr ⟨"NoneType", by decide, .non, by decide, fun _ _ => rfl⟩
  | bl b => exact .inr ⟨"bool", by decide, .bl b, by decide, fun _ _ => rfl⟩
  | int i => exact .inl ⟨i, rfl, rfl, .int i⟩
  | str x => exact .inr ⟨"str", by decide, .str x, by decide, fun _ _ => rfl⟩
  | lst h _ => exact .inr ⟨"list", by decide, .lst h, by decide, fun _ _ => rfl⟩
  | tup h _ => exact .inr ⟨"tuple", by decide, .tup h, by decide, fun _ _ => rfl⟩
section
variable {P : Program} {w : World} {K : PySem.W.Frag} {mg : Str → Option Value} {base : Heap}
/-! ### is_integer -/
def spIsInteger (K : PySem.W.Frag) : Sp := fun vs H Q _ => ∃ (v : V) (d : PyData) (lo hi : Int), vs = [v, .int lo, .int hi] ∧ Dp K H v d ∧ Q (.bl (isIntD lo hi d)) H
theorem sc_is_integer : FnScope ["value", "low", "high"] ["value", "low", "high"] (defScope st_is_integer) := ⟨rfl, rfl, rfl, by decide +kernel, rfl, by decide +kernel, by decide +kernel⟩
theorem ok_is_integer {f : Addr} {fd : FuncData} (F : Fun K "is_integer" "is_integer" st_is_integer f fd) (B : Bl mg) : FnOk P w K mg base CX0 1 f fd ["value", "low", "high"] (spIsInteger K) := by
  refine F.ok sc_is_integer (fun vs H Q E h => ?_) (fun cdv A outer s H vs Q E hr h => ?_)
  · obtain ⟨v, d, lo, hi, rfl, _⟩ := h
    rfl
  · obtain ⟨v, d, lo, hi, rfl, hd, k⟩ := h
    refine ⟨_, pss_one (ps_ret (pe_and (pe_cmpR op_eqTy (pe_callTy call_type1 rfl B.type (by decide +kernel) (pa_cons (pv 0) pa_nil)) (pe_bltn rfl B.int (by decide +kernel) (v := .ty "int") rfl) (nomark _)) (pe_one (pe_chain op_le op_le (pv 1) (pv 0) (pv 2))))), ?_⟩
    rcases tyB_dp hd with ⟨i, rfl, rfl, ht⟩ | ⟨T, hT, ht, hne, hf⟩
    · refine ⟨_, rfl, _, "int", rfl, ht, "int", "int", rfl, rfl, by decide, by decide, true, rfl, ?_⟩
      simp only [tVar, tC, t2I, tAdd, tSub, tCmp, tIsN, tNotN, tB, tAnd, tOr, tNot, tAndV, tOrV, tNotV, tIf, tNext, tSeq, tDrop, tRet, tRetN, tIfS, tAsg, gName, gNil, gCons, gTup, gSub, tPar, tAug, tAugS, iList, iTup, iRng1, iRng2, tOp, tUn, rI, rI0, rU, rEq, rNe, tTest, tChain, tNil, tCons, tTup, tLst, tCall, tCB, rTyp, r1, kTyp, rTyC, tSl, tNoPart, tPart, tBM0, tBM, tYes, rIxL, rIxT, rIx, rSetL, gtList, L2.start, Ends.nx, Ends.rt, List.map, List.length, List.replicate, List.append, List.append_nil, List.cons_append, List.nil_append, List.set, List.getElem?_cons_zero, List.getElem?_cons_succ, Option.some.injEq, exists_and_left, exists_eq_left', exists_eq_left, V.int.injEq, V.ty.injEq, V.bl.injEq, V.ref.injEq, List.cons.injEq, and_true, true_and, decide_eq_true_eq, Bool.false_eq_true, if_false, if_true, id]
      by_cases h1 : lo ≤ i
      · rw [if_pos h1]
        by_cases h2 : i ≤ hi
        · have e : isIntD lo hi (.int i) = true := decide_eq_true ⟨h1, h2⟩
          rw [e] at k
          simpa [h2] using k
        · have e : isIntD lo hi (.int i) = false := decide_eq_false fun z => h2 z.2
          rw [e] at k
          simpa [h2] using k
      · have e : isIntD lo hi (.int i) = false := decide_eq_false fun z => h1 z.1
        rw [e] at k
        rw [if_neg h1]
        exact k
    · rw [hf] at k
      refine ⟨_, rfl, _, T, rfl, ht, T, "int", rfl, rfl, hT, by decide, false, ?_, k⟩
      rw [decide_eq_false hne]
      rfl
/-! ### is_place -/
def spIsPlace (K : PySem.W.Frag) : Sp := fun vs H Q _ => ∃ (l v : V) (fs : List Int) (bd d : PyData), vs = [l, v] ∧ Dp K H l (.tuple [.tuple (fs.map .int), bd]) ∧ fs.length ≤ 100 ∧ Dp K H v d ∧ Q (.bl (isIntD 0 ((fs.length : Int) - 1) d)) H
theorem sc_is_place : FnScope ["land", "value"] ["land", "value"] (defScope st_is_place) := ⟨rfl, rfl, rfl, by decide +kernel, rfl, by decide +kernel, by decide +kernel⟩
theorem ok_is_place {f : Addr} {fd : FuncData} (F : Fun K "is_place" "is_place" st_is_place f fd) (B : Bl mg) (c1 : Cal P w K mg base 1 "is_integer" ["value", "low", "high"] (spIsInteger K)) : FnOk P w K mg base CX0 2 f fd ["land", "value"] (spIsPlace K) := by
  refine F.ok sc_is_place (fun vs H Q E h => ?_) (fun cdv A outer s H vs Q E hr h => ?_)
  · obtain ⟨l, v, fs, bd, d, rfl, _⟩ := h
    rfl
  · obtain ⟨l, v, fs, bd, d, rfl, hl, hn, hd, k⟩ := h
    refine ⟨_, pss_one (ps_ret (pe_cal c1 hr rfl (pa_cons (pv 1) (pa_cons pe_int (pa_cons (pe_op op_sub (pe_callB call_len (by rfl) B.len PySem.boot_len (pa_cons (pe_ix ix_tup (pv 0) pe_int (fun _ _ => rfl)) pa_nil)) pe_int) pa_nil))))), ?_⟩
    obtain ⟨a, xs, rfl, h1, h2⟩ := dp_tup hl
    obtain ⟨v0, h3, h4⟩ := dpAll_get (i := 0) h2 rfl
    obtain ⟨b, rfl, h5⟩ := dp_ints h4
    refine ⟨_, rfl, _, rfl, _, _, _, _, rfl, rfl, h1, atI_nat h3, _, fs.length, rfl, .inr ⟨_, h5, by simp⟩, _, _, rfl, rfl, _, d, 0, _, rfl, hd, k⟩
end
section
variable {P : Program} {w : World} {K : PySem.W.Frag} {mg : Str → Option Value} {base : Heap}
/-! ### is_ascending: of a tuple of ints -/
def asc : List Int → Bool
  | a :: b :: r => decide (a < b) && asc (b :: r)
  | _ => true
theorem asc_range (ns : List Int) : (List.range (ns.length - 1)).all (fun i => decide (ns.getD i 0 < ns.getD (i + 1) 0)) = asc ns := by
  induction ns with
  | nil => rfl
  | cons a r ih =>
    cases r with
    | nil => rfl
    | cons b r =>
      have e : (a :: b :: r).length - 1 = (b :: r).length - 1 + 1 := by simp
      rw [e, List.range_succ_eq_map, List.all_cons, List.all_map]
      show _ = (decide (a < b) && asc (b :: r))
      rw [← ih]
      rfl
def spIsAscending (K : PySem.W.Frag) (Pt : Addr) : Sp := fun vs H Q _ => ∃ (v : V) (ns : List Int), vs = [v] ∧ Dp K H v (.tuple (ns.map .int)) ∧ ns.length ≤ 6000 ∧ TabG H Pt ∧ ∀ H', Ext H H' → Q (.bl (asc ns)) H'
end
section
variable {P : Program} {w : World} {K : PySem.W.Frag} {mg : Str → Option Value} {base : Heap}
def lotD (ps : List Nat) : PyData := .tuple (ps.map fun (p : Nat) => .int (p : Int))
theorem dp_lot {H : Hp} {v : V} {ps : List Nat} (h : Dp K H v (lotD ps)) : ∃ a, v = .ref a ∧ SqT K H a (ps.map fun (p : Nat) => V.int (p : Int)) := by
  have h2 : Dp K H v (.tuple ((ps.map fun (p : Nat) => (p : Int)).map .int)) := by
    rw [List.map_map]
    exact h
  obtain ⟨a, e, h3⟩ := dp_ints h2
  rw [List.map_map] at h3
  exact ⟨a, e, h3⟩
theorem dpAll_lot {H : Hp} (ps : List Nat) : DpAll K H (ps.map fun (p : Nat) => V.int (p : Int)) (ps.map fun (p : Nat) => .int (p : Int)) := by
  have h := dpAll_of_ints (K := K) (H := H) (ps.map fun (p : Nat) => (p : Int))
  rw [List.map_map, List.map_map] at h
  exact h
theorem getD_lot {ps : List Nat} {i : Nat} (hi : i < (ps.map fun (p : Nat) => V.int (p : Int)).length) : (ps.map fun (p : Nat) => V.int (p : Int)).getD i .non = V.int ((ps.getD i 0 : Nat) : Int) := by
  rw [List.length_map] at hi
  rw [List.getD_eq_getElem?_getD, List.getElem?_map, List.getElem?_eq_getElem hi, List.getD_eq_getElem?_getD, List.getElem?_eq_getElem hi]
  rfl
theorem all_range_getD (ps : List Nat) (f : Nat → Bool) : (List.range ps.length).all (fun i => f (ps.getD i 0)) = ps.all f := by
  induction ps with
  | nil => rfl
  | cons p r ih =>
    rw [List.length_cons, List.range_succ_eq_map, List.all_cons, List.all_map, List.all_cons, ← ih]
    rfl
theorem map_range_getD {α : Type} (ps : List Nat) (f : Nat → α) : (List.range ps.length).map (fun i => f (ps.getD i 0)) = ps.map f := by
  induction ps with
  | nil => rfl
  | cons p r ih =>
    rw [List.length_cons, List.range_succ_eq_map, List.map_cons, List.map_map, List.map_cons, ← ih]
    rfl
/-! ### is_lot: of a tuple of places -/
def isLot (n : Nat) (ps : List Nat) : Bool := !ps.isEmpty && (ps.all fun p => decide (p < n)) && asc (ps.map fun (p : Nat) => (p : Int))
def spIsLot (K : PySem.W.Frag) (T1 T2 : Addr) : Sp := fun vs H Q _ => ∃ (l v : V) (fs : List Int) (bd : PyData) (ps : List Nat), vs = [l, v] ∧ Dp K H l (.tuple [.tuple (fs.map .int), bd]) ∧ fs.length ≤ 100 ∧ Dp K H v (lotD ps) ∧ ps.length ≤ 6000 ∧
  TabG H T1 ∧ TabG H T2 ∧ ∀ H', Ext H H' → Q (.bl (isLot fs.length ps)) H'
/-! ### mask_of -/
def spMaskOf (K : PySem.W.Frag) (T1 : Addr) : Sp := fun vs H Q _ => ∃ (v : V) (ps : List Nat), vs = [v] ∧ Dp K H v (lotD ps) ∧ (∀ p ∈ ps, p ≤ 1000) ∧ TabG H T1 ∧ ∀ H', Ext H H' → Q (.int (Mk.mask ps : Nat)) H'
theorem sc_mask_of : FnScope ["lot"] ["lot"] (defScope st_mask_of) := ⟨rfl, rfl, rfl, by decide +kernel, rfl, by decide +kernel, by decide +kernel⟩
theorem sum_cast (ps : List Nat) : (ps.map fun (p : Nat) => ((2 ^ p : Nat) : Int)).sum = ((Mk.mask ps : Nat) : Int) := by
  induction ps with
  | nil => rfl
  | cons p r ih =>
    have e : Mk.mask (p :: r) = 2 ^ p + Mk.mask r := rfl
    rw [List.map_cons, List.sum_cons, ih, e]
    omega
theorem ok_mask_of {f c T1 : Addr} {fd : FuncData} (F : FunC K "mask_of" "mask_of" st_mask_of f fd c) (TB : TabB base mg c T1) (B : Bl mg) : FnOk P w K mg base CX0 4 f fd ["lot"] (spMaskOf K T1) := by
  refine F.ok sc_mask_of (fun vs H Q E h => ?_) (fun A outer s H vs Q E hr h => ?_)
  · obtain ⟨v, ps, rfl, _⟩ := h
    rfl
  · obtain ⟨v, ps, rfl, hd, hp, hT, k⟩ := h
    refine ⟨_, pss_one (ps_ret (pe_gsum (k := 0) (N := ["place"]) (src := [none]) (vs := [0])
        ⟨fun B s H fp code hB => pg_name (i := 0) (by decide +kernel : (["place"] : List Str).Nodup) rfl (Or.inl rfl), fun B s H fp code hB => pts_nil, fun B s H fp code hB => pe_op op_shl pe_int (pv 0)⟩
        (hr.mono (by decide)) rfl B.sum TB rfl (gOk (ND := ["lot"]) (sc := defScope st_mask_of) (by decide +kernel)) (pi_tup (pv 0)))), ?_⟩
    obtain ⟨a, rfl, h1⟩ := dp_lot hd
    refine ⟨_, rfl, a, rfl, ⟨_, h1⟩, hT, fun H2 hT2 => ?_⟩
    have x2 : Ext H H2 := Ext.tabbed hT hT2
    refine g_sum (Ph := fun H4 => H4 = H2) (src_tup fun H4 e => by rw [e]; exact x2.sqT h1) (fun i => ((2 ^ ps.getD i 0 : Nat) : Int)) rfl (fun i H C hp2 hi k2 => ?_) fun H4 hp2 => ?_
    · subst hp2
      rw [getD_lot hi]
      rw [List.length_map] at hi
      have hb : ps.getD i 0 ≤ 1000 := by
        rw [List.getD_eq_getElem?_getD, List.getElem?_eq_getElem hi]
        exact hp _ (List.getElem_mem hi)
      refine ⟨rfl, _, rfl, 1, _, rfl, rfl, ⟨by omega, by omega, by decide⟩, ?_⟩
      have e : (1 : Int) * 2 ^ ((ps.getD i 0 : Nat) : Int).toNat = ((2 ^ ps.getD i 0 : Nat) : Int) := by
        rw [Int.toNat_natCast, Int.one_mul]
        simp
      show C (V.int ((1 : Int) * 2 ^ ((ps.getD i 0 : Nat) : Int).toNat)) H
      rw [e]
      exact k2 H rfl
    · subst hp2
      rw [List.length_map, map_range_getD ps fun (p : Nat) => ((2 ^ p : Nat) : Int), sum_cast]
      exact k H4 x2
/-! ### lot_of -/
def spLotOf (K : PySem.W.Frag) (T1 : Addr) : Sp := fun vs H Q _ => ∃ (m n : Nat), vs = [.int (m : Int)] ∧ m < 2 ^ n ∧ n ≤ 1000 ∧ TabG H T1 ∧ ∀ p H', Ext H H' → H p = none → Dp K H' (.ref p) (lotD (Mk.bits n m)) → H' p = some (.tup ((Mk.bits n m).map fun (p : Nat) => V.int (p : Int))) → Q (.ref p) H'
theorem sc_lot_of : FnScope ["mask"] ["mask"] (defScope st_lot_of) := ⟨rfl, rfl, rfl, by decide +kernel, rfl, by decide +kernel, by decide +kernel⟩
theorem intBits_lt (m : Nat) : m < 2 ^ Builtin.Int.intBits (m : Int) := by
  unfold Builtin.Int.intBits
  by_cases h : m = 0
  · subst h; decide
  · have e : ((m : Int) == 0) = false := by simp; omega
    rw [e]
    exact Nat.lt_log2_self
theorem intBits_le {m n : Nat} (h : m < 2 ^ n) : Builtin.Int.intBits (m : Int) ≤ n := by
  unfold Builtin.Int.intBits
  by_cases e0 : m = 0
  · subst e0; simp
  · have e : ((m : Int) == 0) = false := by simp; omega
    rw [e]
    have := (Nat.log2_lt e0).mpr h
    exact this
theorem shr_and (m i : Nat) : Builtin.bitAnd ((m : Int) / 2 ^ i) 1 = (if m.testBit i then 1 else 0 : Int) := by
  have e0 : ((m : Int) / 2 ^ i) = ((m / 2 ^ i : Nat) : Int) := by simp
  have e1 : Builtin.bitAnd ((m / 2 ^ i : Nat) : Int) 1 = (((m / 2 ^ i) &&& 1 : Nat) : Int) := rfl
  rw [e0, e1, Nat.and_one_is_mod]
  have e2 := Nat.testBit_eq_decide_div_mod_eq (x := m) (i := i)
  rw [e2]
  rcases Nat.mod_two_eq_zero_or_one (m / 2 ^ i) with z | z <;> simp [z]
theorem ok_lot_of {f c T1 : Addr} {fd : FuncData} (F : FunC K "lot_of" "lot_of" st_lot_of f fd c) (TB : TabB base mg c T1) (B : Bl mg) : FnOk P w K mg base CX0 6 f fd ["mask"] (spLotOf K T1) := by
  refine F.ok sc_lot_of (fun vs H Q E h => ?_) (fun A outer s H vs Q E hr h => ?_)
  · obtain ⟨m, n, rfl, _⟩ := h
    rfl
  · obtain ⟨m, n, rfl, hm, hn, hT, k⟩ := h
    refine ⟨_, pss_one (ps_ret (pe_gtup (k := 0) (N := ["place", "mask"]) (src := [none, some 0]) (vs := [0])
        ⟨fun B s H fp code hB => pg_name (i := 0) (by decide +kernel : (["place", "mask"] : List Str).Nodup) rfl (Or.inl rfl), fun B s H fp code hB => pts_one (pt_truthK (K := K) rfl (pe_op op_and (pe_op op_shr (pv 1) (pv 0)) pe_int) (by intro _; rfl)), fun B s H fp code hB => pv 0⟩
        (hr.mono (by decide)) rfl B.tuple TB rfl (gOk (ND := ["mask"]) (sc := defScope st_lot_of) (by decide +kernel)) (pi_range1 rfl B.range (pa_cons (pe_bits (pv 0)) pa_nil)))), ?_⟩
    have hb := intBits_lt m
    have hb2 := intBits_le hm
    generalize hN : Builtin.Int.intBits (m : Int) = N at hb hb2
    refine ⟨_, rfl, _, rfl, _, by rw [hN], by omega, by omega, hT, fun H2 hT2 => ?_⟩
    have x2 : Ext H H2 := Ext.tabbed hT hT2
    have eN : ((N : Nat) : Int).toNat = N := Int.toNat_natCast N
    rw [eN]
    refine g_tup (Pw := fun i ys H4 => H4 = H2 ∧ ys = ((List.range i).filter fun q => m.testBit q).map fun (p : Nat) => V.int (p : Int)) (fun _ _ => src_range) (Nat.le_trans (Nat.le_trans hb2 hn) (by decide)) (fun i => m.testBit i) (fun _ => rfl) ⟨rfl, rfl⟩
      (fun i ys H4 ⟨_, e⟩ => ?_) (fun i ys H4 C ⟨e1, e2⟩ hi k2 => ?_) (fun i ys H4 ⟨e1, e2⟩ hi hk => ⟨e1, ?_⟩) (fun i ys H4 C ⟨e1, e2⟩ hi hk k2 => ?_) fun ys H4 ⟨e1, e2⟩ p hp => ?_
    · rw [e, List.length_map]
      have := List.length_filter_le (fun q => m.testBit q) (List.range i)
      rw [List.length_range] at this
      exact this
    · refine ⟨_, rfl, _, rfl, _, _, rfl, rfl, (by show (0 : Int) ≤ 0 + (i : Int); omega), _, _, rfl, rfl, m.testBit i, ?_, k2 H4 ⟨e1, e2⟩⟩
      show m.testBit i = (Builtin.bitAnd ((m : Int) / 2 ^ ((0 : Int) + (i : Int)).toNat) 1 != 0)
      have e : ((0 : Int) + (i : Int)).toNat = i := by omega
      rw [e, shr_and]
      cases m.testBit i <;> rfl
    · rw [e2, List.range_succ, List.filter_append, List.filter_cons_of_neg (by simp [hk])]
      simp
    · refine ⟨_, rfl, k2 _ H4 ⟨e1, ?_⟩⟩
      rw [e2, List.range_succ, List.filter_append, List.filter_cons_of_pos (by simp [hk]), List.map_append, Int.zero_add]
      rfl
    · subst e1
      have eb : ((List.range N).filter fun q => m.testBit q) = Mk.bits n m := Mk.bits_any hb hm
      rw [eb] at e2
      subst e2
      exact k p _ (x2.trans (Ext.new hp)) (x2.free hp) (dp_new hp (dpAll_lot _)) upd_same
end
section
variable {P : Program} {w : World} {K : PySem.W.Frag} {mg : Str → Option Value} {base : Heap}
def bordD (bs : List (Nat × Nat)) : PyData := .tuple (bs.map fun (b : Nat × Nat) => .tuple [.int (b.1 : Int), .int (b.2 : Int)])
def landD (fs : List Int) (bs : List (Nat × Nat)) : PyData := .tuple [.tuple (fs.map .int), bordD bs]
abbrev vsN (l : List Nat) : List V := l.map fun (m : Nat) => V.int (m : Int)
theorem vsN_get {l : List Nat} {i : Nat} (h : i < l.length) : (vsN l)[i]? = some (V.int ((l.getD i 0 : Nat) : Int)) := by
  rw [List.getElem?_map, List.getElem?_eq_getElem h, List.getD_eq_getElem?_getD, List.getElem?_eq_getElem h]
  rfl
theorem vsN_set (l : List Nat) (i x : Nat) : (vsN l).set i (V.int (x : Int)) = vsN (l.set i x) := by
  rw [← List.map_set]
theorem ixN_nat {n j : Nat} (h : j < n) : ixN n (j : Int) = some j := by
  unfold ixN
  rw [if_pos (by omega), if_pos (by omega)]
  simp
theorem or_pp (a b : Nat) : Builtin.bitOr (a : Int) (b : Int) = ((a ||| b : Nat) : Int) := by
  rw [Bits.bitOr_pp (by omega) (by omega), Int.toNat_natCast, Int.toNat_natCast]
theorem xor_pp (a b : Nat) : Builtin.bitXor (a : Int) (b : Int) = ((a ^^^ b : Nat) : Int) := by
  rw [Bits.bitXor_pp (by omega) (by omega), Int.toNat_natCast, Int.toNat_natCast]
theorem and_pp (a b : Nat) : Builtin.bitAnd (a : Int) (b : Int) = ((a &&& b : Nat) : Int) := by
  rw [PyProof.Rows.bitAnd_pp (by omega) (by omega), Int.toNat_natCast, Int.toNat_natCast]
theorem shl_pp (b : Nat) : (1 : Int) * 2 ^ ((b : Nat) : Int).toNat = ((2 ^ b : Nat) : Int) := by
  rw [Int.toNat_natCast, Int.one_mul]
  simp
/-! ### links_of -/
def spLinksOf (K : PySem.W.Frag) : Sp := fun vs H Q _ => ∃ (l : V) (fs : List Int) (bs : List (Nat × Nat)), vs = [l] ∧ Dp K H l (landD fs bs) ∧ fs.length ≤ 12 ∧ Mk.Bs fs.length bs ∧
  ∀ p H' lk, Ext H H' → H p = none → H' p = some (.lst (vsN lk)) → Mk.Lk fs.length bs lk → Q (.ref p) H'
theorem sc_links_of : FnScope ["land", "links", "low", "high"] ["land"] (defScope st_links_of) := ⟨rfl, rfl, rfl, by decide +kernel, rfl, by decide +kernel, by decide +kernel⟩
theorem ok_links_of {f : Addr} {fd : FuncData} (F : Fun K "links_of" "links_of" st_links_of f fd) (B : Bl mg) : FnOk P w K mg base CX0 1 f fd ["land"] (spLinksOf K) := by
  refine F.ok sc_links_of (fun vs H Q E h => ?_) (fun cdv A outer s H vs Q E hr h => ?_)
  · obtain ⟨l, fs, bs, rfl, _⟩ := h
    rfl
  · obtain ⟨l, fs, bs, rfl, hd, hn, hb, k⟩ := h
    refine ⟨_, pss_cons (ps_set (i := 1) sc_links_of.nd rfl (Or.inl rfl) (pe_op op_rep (pe_lst (pa_cons pe_int pa_nil)) (pe_callB call_len (by rfl) B.len PySem.boot_len (pa_cons (pe_ix ix_tup (pv 0) pe_int (fun _ _ => rfl)) pa_nil))))
      (pss_cons (ps_for PassesOwn.never rfl (pi_tup (pe_ix ix_tup (pv 0) pe_int (fun _ _ => rfl))) (pg_tup rfl (pgs_cons (pg_name (i := 2) sc_links_of.nd rfl (Or.inl rfl)) (pgs_cons (pg_name (i := 3) sc_links_of.nd rfl (Or.inl rfl)) pgs_nil)))
        (pss_cons (ps_augS (pv 1) (pv 2) get_list (pe_op op_shl pe_int (pv 3)) iop_or set_list)
        (pss_one (ps_augS (pv 1) (pv 3) get_list (pe_op op_shl pe_int (pv 2)) iop_or set_list))))
      (pss_one (ps_ret (pv 1)))), ?_⟩
    obtain ⟨a, xs, rfl, h1, h2⟩ := dp_tup hd
    obtain ⟨v0, h3, h4⟩ := dpAll_get (i := 0) h2 rfl
    obtain ⟨b, rfl, h5⟩ := dp_ints h4
    obtain ⟨v1, h6, h7⟩ := dpAll_get (i := 1) h2 rfl
    obtain ⟨c, ys, rfl, h8, h9⟩ := dp_tup h7
    -- [0] * len(land[0])
    refine ⟨by decide, fun q hq => ?_⟩
    have x1 : Ext H (upd H q (.lst [.int 0])) := Ext.new hq
    refine ⟨_, rfl, _, _, _, _, rfl, rfl, x1.sqT h1, atI_nat h3, _, fs.length, rfl, .inr ⟨_, x1.sqT h5, by simp⟩, q, fs.length, _, rfl, rfl, upd_same, by omega, by omega, ?_, fun p hp => ?_⟩
    · have e : ((fs.length : Nat) : Int).toNat = fs.length := Int.toNat_natCast _
      rw [e]
      have : 12 ≤ sizeLine := by decide
      simp only [List.length_cons, List.length_nil]
      omega
    have x2 : Ext H (upd (upd H q (.lst [.int 0])) p (.lst (List.replicate ((fs.length : Nat) : Int).toNat [V.int 0]).flatten)) := x1.trans (Ext.new hp)
    have hp0 : H p = none := x1.free hp
    have e0 : (List.replicate ((fs.length : Nat) : Int).toNat [V.int 0]).flatten = vsN (List.replicate fs.length 0) := by
      rw [Int.toNat_natCast]
      generalize fs.length = n
      induction n with
      | zero => rfl
      | succ n ih => rw [List.replicate_succ, List.flatten_cons, ih]; rfl
    -- for low, high in land[1]
    refine ⟨_, rfl, _, _, _, _, rfl, rfl, x2.sqT h1, atI_nat h6, c, rfl, ⟨_, x2.sqT h8⟩, for_tup (K := K) (a := c) (xs := ys) (fun i σ H2 => ∃ (lk : List Nat) (o1 o2 : Option V), σ = [some (.ref a), some (.ref p), o1, o2] ∧ Ext H H2 ∧ H2 p = some (.lst (vsN lk)) ∧ Mk.Lk fs.length (bs.take i) lk)
      ⟨_, none, none, rfl, x2, by rw [upd_same, e0], by rw [List.take_zero]; exact Mk.Lk.nil _⟩ (fun i σ H2 _ ⟨_, _, _, _, x, _⟩ => x.sqT h8) ?_ ?_⟩
    · rintro i x σ H2 hx ⟨lk, o1, o2, rfl, x3, hl3, L⟩
      obtain ⟨d, hd1, hd2⟩ := dpAll_get' h9 hx
      rw [List.getElem?_map] at hd1
      cases eb : bs[i]? with
      | none => rw [eb] at hd1; cases hd1
      | some be =>
        rw [eb] at hd1
        cases hd1
        obtain ⟨b1, b2⟩ := be
        obtain ⟨hb1, hb2⟩ := hb (b1, b2) (List.mem_of_getElem? eb)
        simp only at hb1 hb2
        obtain ⟨t, zs, rfl, h10, h11⟩ := dp_tup hd2
        have ez : zs = [V.int (b1 : Int), V.int (b2 : Int)] := by
          cases h11 with
          | cons z1 zr =>
            cases zr with
            | cons z2 zr =>
              cases zr
              rw [dp_int z1, dp_int z2]
        subst ez
        have hl := L.len
        have g1 : (vsN lk)[b1]? = some (V.int ((lk.getD b1 0 : Nat) : Int)) := vsN_get (by omega)
        refine ⟨t, _, rfl, x3.sqT h10, rfl, _, _, rfl, _, _, rfl, rfl, ?_⟩
        refine ⟨_, rfl, _, rfl, p, _, b1, _, rfl, rfl, hl3, g1, _, rfl, 1, (b2 : Int), rfl, rfl, ⟨by omega, by omega, by decide⟩, _, _, rfl, rfl, p, vsN lk, _, b1, rfl, rfl, hl3, by simp [ixN_nat (show b1 < lk.length by omega)], ?_⟩
        have e1 : V.int (Builtin.bitOr ((lk.getD b1 0 : Nat) : Int) (1 * 2 ^ ((b2 : Nat) : Int).toNat)) = V.int ((lk.getD b1 0 ||| 2 ^ b2 : Nat) : Int) := by rw [shl_pp, or_pp]
        dsimp only
        rw [e1, vsN_set]
        have g2 : (vsN (lk.set b1 (lk.getD b1 0 ||| 2 ^ b2)))[b2]? = some (V.int ((lk.getD b2 0 : Nat) : Int)) := by
          rw [vsN_get (by simp; omega), Mk.getD_set (by omega), if_neg (by omega)]
        refine ⟨_, rfl, _, rfl, p, _, b2, _, rfl, rfl, upd_same, g2, _, rfl, 1, (b1 : Int), rfl, rfl, ⟨by omega, by omega, by decide⟩, _, _, rfl, rfl, p, vsN (lk.set b1 (lk.getD b1 0 ||| 2 ^ b2)), _, b2, rfl, rfl, upd_same, by simp [ixN_nat (show b2 < lk.length by omega)], ?_⟩
        have e2 : V.int (Builtin.bitOr ((lk.getD b2 0 : Nat) : Int) (1 * 2 ^ ((b1 : Nat) : Int).toNat)) = V.int ((lk.getD b2 0 ||| 2 ^ b1 : Nat) : Int) := by rw [shl_pp, or_pp]
        dsimp only
        rw [e2, vsN_set]
        refine ⟨_, _, _, rfl, ?_, upd_same, ?_⟩
        · exact (x3.write hp0).write hp0
        · have et : bs.take (i + 1) = bs.take i ++ [(b1, b2)] := by
            rw [List.take_add_one, eb]
            rfl
          rw [et]
          exact L.add hb1 hb2
    · rintro σ H2 ⟨lk, o1, o2, rfl, x3, hl3, L⟩
      have el : ys.length = bs.length := by
        have := dpAll_len h9
        rw [List.length_map] at this
        exact this
      rw [el, List.take_length] at L
      exact ⟨_, rfl, k p H2 lk x3 hp0 hl3 L⟩
/-! ### reached -/
def spReached (K : PySem.W.Frag) (T1 : Addr) : Sp := fun vs H Q _ => ∃ (l : Addr) (lk : List Nat) (n start m : Nat) (bs : List (Nat × Nat)), vs = [.ref l, .int (start : Int), .int (m : Int)] ∧ H l = some (.lst (vsN lk)) ∧ Mk.Lk n bs lk ∧ Mk.Bs n bs ∧ n ≤ 12 ∧ m < 2 ^ n ∧
  (∀ q, start.testBit q = true → m.testBit q = true) ∧ TabG H T1 ∧ ∀ r H', Ext H H' → Mk.Rch bs m start r → Q (.int ((r : Nat) : Int)) H'
theorem sc_reached : FnScope ["links", "start", "mask", "seen", "fresh", "around", "place"] ["links", "start", "mask"] (defScope st_reached) := ⟨rfl, rfl, rfl, by decide +kernel, rfl, by decide +kernel, by decide +kernel⟩
theorem ok_reached {f T1 : Addr} {fd : FuncData} (F : Fun K "reached" "reached" st_reached f fd) (B : Bl mg) (c1 : Cal P w K mg base 6 "lot_of" ["mask"] (spLotOf K T1)) : FnOk P w K mg base CX0 7 f fd ["links", "start", "mask"] (spReached K T1) := by
  refine F.ok sc_reached (fun vs H Q E h => ?_) (fun cdv A outer s H vs Q E hr h => ?_)
  · obtain ⟨l, lk, n, start, m, bs, rfl, _⟩ := h
    rfl
  · obtain ⟨l, lk, n, start, m, bs, rfl, hl, L, hb, hn, hm, hs, hT, k⟩ := h
    refine ⟨_, pss_cons (ps_set (i := 3) sc_reached.nd rfl (Or.inl rfl) (pv 1)) (pss_cons (ps_set (i := 4) sc_reached.nd rfl (Or.inl rfl) (pv 1))
      (pss_cons (ps_while PassesOwn.never (pt_truth (pv 4) (by intro _; rfl))
        (pss_cons (ps_set (i := 5) sc_reached.nd rfl (Or.inl rfl) pe_int)
        (pss_cons (ps_for PassesOwn.never rfl (pi_tup (pe_cal c1 hr rfl (pa_cons (pv 4) pa_nil))) (pg_name (i := 6) sc_reached.nd rfl (Or.inl rfl))
          (pss_one (ps_aug (i := 5) sc_reached.nd rfl (Or.inl rfl) (pe_ix ix_list (pv 0) (pv 6) (fun _ _ => rfl)) iop_or)))
        (pss_cons (ps_set (i := 4) sc_reached.nd rfl (Or.inl rfl) (pe_op op_and (pv 5) (pe_op op_xor (pv 2) (pv 3))))
        (pss_one (ps_aug (i := 3) sc_reached.nd rfl (Or.inl rfl) (pv 4) iop_or))))))
      (pss_one (ps_ret (pv 3))))), ?_⟩
    refine ⟨_, rfl, _, rfl, ?_⟩
    dsimp only [gName, tSeq]
    refine while_by (fun σ H2 => ∃ (seen fresh : Nat) (o1 o2 : Option V), σ = [some (.ref l), some (.int (start : Int)), some (.int (m : Int)), some (.int (seen : Int)), some (.int (fresh : Int)), o1, o2] ∧ Ext H H2 ∧ Mk.Walk bs m start seen fresh)
      (fun σ _ => match σ with
        | [_, _, _, some (.int a), some (.int b), _, _] => 2 * (m - a.toNat) + (if b = 0 then 0 else 1)
        | _ => 0) ⟨start, start, none, none, rfl, Ext.refl H, Mk.Walk.begin hs⟩ ?_ ?_
    · rintro σ H2 ⟨seen, fresh, o1, o2, rfl, x2, W⟩
      refine ⟨_, rfl, decide (fresh ≠ 0), ?_, ?_⟩
      · show decide (fresh ≠ 0) = (((fresh : Nat) : Int) != 0)
        by_cases e : fresh = 0
        · subst e; rfl
        · have e2 : ((fresh : Int) != 0) = true := by simp; omega
          rw [e2]
          exact decide_eq_true e
      by_cases e : fresh = 0
      · rw [decide_eq_false (by simp [e])]
        subst e
        exact iteF ⟨_, rfl, k seen H2 x2 W.fin⟩
      · rw [decide_eq_true e]
        refine iteT ?_
        have hf : fresh < 2 ^ n := Mk.lt_of_sub hm fun q hq => by
          obtain ⟨_, _, c⟩ := W.sound q (W.sub q hq)
          exact c.snd
        refine ⟨_, rfl, fresh, n, rfl, hf, by omega, x2.tabs _ hT, fun p H3 x3 hp hd3 hp3 => ?_⟩
        have x13 := x2.trans x3
        refine ⟨p, rfl, ⟨_, SqT.of hp3⟩, for_tup (K := K) (a := p) (xs := vsN (Mk.bits n fresh)) (fun i σ H4 => ∃ (o2 : Option V), σ = [some (.ref l), some (.int (start : Int)), some (.int (m : Int)), some (.int (seen : Int)), some (.int (fresh : Int)), some (.int ((((Mk.bits n fresh).take i).foldl (fun a q => a ||| lk.getD q 0) 0 : Nat) : Int)), o2] ∧ H4 = H3)
          ⟨_, rfl, rfl⟩ (fun i σ H4 _ ⟨_, _, e4⟩ => by rw [e4]; exact SqT.of hp3) ?_ ?_⟩
        · rintro i x σ H4 hx ⟨o2, rfl, rfl⟩
          rw [List.getElem?_map] at hx
          cases eb : (Mk.bits n fresh)[i]? with
          | none => rw [eb] at hx; cases hx
          | some q =>
            rw [eb] at hx
            cases hx
            have hq := (Mk.mem_bits.mp (List.mem_of_getElem? eb)).1
            have hll := L.len
            refine ⟨_, rfl, _, rfl, _, rfl, _, _, _, _, rfl, rfl, SqL.of (x13.lst hl), atI_nat (vsN_get (show q < lk.length by omega)), _, _, rfl, rfl, some (V.int (q : Int)), ?_, rfl⟩
            have et : (Mk.bits n fresh).take (i + 1) = (Mk.bits n fresh).take i ++ [q] := by
              rw [List.take_add_one, eb]
              rfl
            dsimp only [List.set]
            rw [et, List.foldl_append, or_pp]
            rfl
        · rintro σ H4 ⟨o2, rfl, rfl⟩
          have elen : (vsN (Mk.bits n fresh)).length = (Mk.bits n fresh).length := List.length_map ..
          rw [elen, List.take_length]
          generalize har : (Mk.bits n fresh).foldl (fun a q => a ||| lk.getD q 0) 0 = around
          have ha : ∀ r, around.testBit r = true ↔ ∃ q, fresh.testBit q = true ∧ Mk.adj bs q r = true := fun r => by
            rw [← har]
            exact Mk.around_bits L hf r
          have W2 := W.turn ha
          refine ⟨_, rfl, _, rfl, _, rfl, _, _, rfl, rfl, _, _, rfl, rfl, ?_⟩
          refine ⟨_, rfl, _, rfl, _, _, rfl, rfl, ?_⟩
          have e1 : Builtin.bitAnd (around : Int) (Builtin.bitXor (m : Int) (seen : Int)) = ((around &&& (m ^^^ seen) : Nat) : Int) := by rw [xor_pp, and_pp]
          have e2 : Builtin.bitOr (seen : Int) (Builtin.bitAnd (around : Int) (Builtin.bitXor (m : Int) (seen : Int))) = ((seen ||| (around &&& (m ^^^ seen)) : Nat) : Int) := by rw [e1, or_pp]
          refine ⟨⟨_, _, some (V.int (around : Int)), o2, by dsimp only [List.set]; rw [e2, e1], x13, W2⟩, ?_⟩
          show 2 * (m - (Builtin.bitOr (seen : Int) (Builtin.bitAnd (around : Int) (Builtin.bitXor (m : Int) (seen : Int)))).toNat) + (if Builtin.bitAnd (around : Int) (Builtin.bitXor (m : Int) (seen : Int)) = 0 then 0 else 1) < 2 * (m - ((seen : Nat) : Int).toNat) + (if ((fresh : Nat) : Int) = 0 then 0 else 1)
          rw [e2, e1, Int.toNat_natCast, Int.toNat_natCast, if_neg (show ¬ ((fresh : Nat) : Int) = 0 by omega)]
          have hle := W2.le
          by_cases hz : around &&& (m ^^^ seen) = 0
          · rw [hz, if_pos (show ((0 : Nat) : Int) = 0 from rfl), Nat.or_zero]
            omega
          · rw [if_neg (by omega)]
            have hdj : seen &&& (around &&& (m ^^^ seen)) = 0 := Mk.eq_of_bits fun q => by
              rw [Nat.testBit_and, Nat.testBit_and, Nat.testBit_xor, Nat.zero_testBit]
              have hsm : seen.testBit q = true → m.testBit q = true := fun hq => by
                obtain ⟨_, _, c⟩ := W.sound q hq
                exact c.snd
              cases h1 : seen.testBit q <;> cases h2 : m.testBit q <;> simp_all
            have := Mk.or_gt hdj hz
            omega
    · rintro σ H2 Q1 Q2 hq ⟨v, e, kk, ht, q⟩
      exact ⟨v, e, kk, ht, hq _ _ q⟩
end
section
variable {P : Program} {w : World} {K : PySem.W.Frag} {mg : Str → Option Value} {base : Heap}
/-! ### piece_masks -/
def spPieceMasks (K : PySem.W.Frag) (T1 : Addr) : Sp := fun vs H Q _ => ∃ (l : Addr) (lk : List Nat) (n m : Nat) (bs : List (Nat × Nat)), vs = [.ref l, .int (m : Int)] ∧ H l = some (.lst (vsN lk)) ∧ Mk.Lk n bs lk ∧ Mk.Bs n bs ∧ n ≤ 12 ∧ m < 2 ^ n ∧
  TabG H T1 ∧ ∀ p H' ps, Ext H H' → H p = none → H' p = some (.lst (vsN ps)) → Mk.Pcs bs m ps → Q (.ref p) H'
theorem sc_piece_masks : FnScope ["links", "mask", "found", "rest", "least", "piece"] ["links", "mask"] (defScope st_piece_masks) := ⟨rfl, rfl, rfl, by decide +kernel, rfl, by decide +kernel, by decide +kernel⟩
theorem ok_piece_masks {f T1 : Addr} {fd : FuncData} (F : Fun K "piece_masks" "piece_masks" st_piece_masks f fd) (B : Bl mg) (c1 : Cal P w K mg base 7 "reached" ["links", "start", "mask"] (spReached K T1)) : FnOk P w K mg base CX0 8 f fd ["links", "mask"] (spPieceMasks K T1) := by
  refine F.ok sc_piece_masks (fun vs H Q E h => ?_) (fun cdv A outer s H vs Q E hr h => ?_)
  · obtain ⟨l, lk, n, m, bs, rfl, _⟩ := h
    rfl
  · obtain ⟨l, lk, n, m, bs, rfl, hl, L, hb, hn, hm, hT, k⟩ := h
    refine ⟨_, pss_cons (ps_set (i := 2) sc_piece_masks.nd rfl (Or.inl rfl) (pe_lst pa_nil)) (pss_cons (ps_set (i := 3) sc_piece_masks.nd rfl (Or.inl rfl) (pv 1))
      (pss_cons (ps_while PassesOwn.never (pt_truth (pv 3) (by intro _; rfl))
        (pss_cons (ps_set (i := 4) sc_piece_masks.nd rfl (Or.inl rfl) (pe_op op_and (pv 3) (pe_un un_neg (pv 3))))
        (pss_cons (ps_set (i := 5) sc_piece_masks.nd rfl (Or.inl rfl) (pe_cal c1 hr rfl (pa_cons (pv 0) (pa_cons (pv 4) (pa_cons (pv 3) pa_nil)))))
        (pss_cons (ps_expr (pe_bm PySem.F.plainAttrs_list PySem.F.slot_list_append PySem.F.type_list_append mt_append (pv 2) (pa_cons (pv 5) pa_nil)))
        (pss_one (ps_aug (i := 3) sc_piece_masks.nd rfl (Or.inl rfl) (pv 5) iop_xor))))))
      (pss_one (ps_ret (pv 2))))), ?_⟩
    refine ⟨Nat.zero_le _, fun d hd => ?_⟩
    refine ⟨_, rfl, ?_⟩
    dsimp only [gName, tSeq]
    refine while_by (fun σ H2 => ∃ (rest : Nat) (ps : List Nat) (o1 o2 : Option V), σ = [some (.ref l), some (.int (m : Int)), some (.ref d), some (.int (rest : Int)), o1, o2] ∧ Ext H H2 ∧ H2 d = some (.lst (vsN ps)) ∧ rest ≤ m ∧ ps.length + rest ≤ m ∧ (∀ q, rest.testBit q = true → m.testBit q = true) ∧ ∀ qs, Mk.Pcs bs rest qs → Mk.Pcs bs m (ps ++ qs))
      (fun σ _ => match σ with
        | [_, _, _, some (.int a), _, _] => a.toNat
        | _ => 0) ⟨m, [], none, none, rfl, Ext.new hd, upd_same, Nat.le_refl _, by simp, fun _ h => h, fun qs h => h⟩ ?_ ?_
    · rintro σ H2 ⟨rest, ps, o1, o2, rfl, x2, hd2, hle, hlen, hsub, hP⟩
      refine ⟨_, rfl, decide (rest ≠ 0), ?_, ?_⟩
      · show decide (rest ≠ 0) = (((rest : Nat) : Int) != 0)
        by_cases e : rest = 0
        · subst e; rfl
        · have e2 : ((rest : Int) != 0) = true := by simp; omega
          rw [e2]
          exact decide_eq_true e
      by_cases e : rest = 0
      · rw [decide_eq_false (by simp [e])]
        subst e
        have q := hP [] .nil
        rw [List.append_nil] at q
        exact iteF ⟨_, rfl, k d H2 ps x2 hd hd2 q⟩
      · rw [decide_eq_true e]
        refine iteT ?_
        obtain ⟨q, hq, hlow, hand⟩ := Mk.and_neg rest (by omega)
        refine ⟨_, rfl, _, rfl, _, rfl, _, _, rfl, rfl, ?_⟩
        have hr2 : rest < 2 ^ n := Mk.lt_of_sub hm hsub
        refine ⟨_, rfl, _, rfl, _, rfl, l, lk, n, 2 ^ q, rest, bs, ?_, x2.lst hl, L, hb, hn, hr2, ?_, x2.tabs _ hT, fun r H3 x3 hR => ?_⟩
        · dsimp only [List.append_nil]
          rw [hand]
          rfl
        · intro z hz
          rw [Nat.testBit_two_pow, decide_eq_true_eq] at hz
          rw [← hz]
          exact hq
        have x13 := x2.trans x3
        have hd3 : H3 d = some (.lst (vsN ps)) := x3.lst hd2
        have hsr := hR.sub
        have hrq : r.testBit q = true := (hR q).mpr ⟨q, by simp [Nat.testBit_two_pow], .refl hq⟩
        have hxl := Mk.xor_lt hsr hrq
        have hm2 : (2 : Nat) ^ n ≤ 4096 := Nat.le_trans (Nat.pow_le_pow_right (by decide) hn) (by decide)
        refine ⟨_, rfl, .inl ⟨rfl, _, SqL.of hd3⟩, _, rfl, d, _, _, rfl, rfl, hd3, by rw [List.length_map]; exact Nat.lt_of_le_of_lt (show ps.length ≤ 4096 by omega) (by decide), ?_⟩
        refine ⟨_, rfl, _, rfl, _, _, rfl, rfl, ?_⟩
        refine ⟨⟨rest ^^^ r, ps ++ [r], some (V.int (Builtin.bitAnd (rest : Int) (-(rest : Int)))), some (V.int (r : Int)), ?_, x13.write hd, ?_, by omega, ?_, fun z hz => hsub z ((Mk.xor_sub hsr z).mp hz).1, fun qs hqs => ?_⟩, ?_⟩
        · dsimp only [List.set]
          rw [xor_pp]
        · rw [upd_same]
          simp
        · rw [List.length_append, List.length_singleton]
          omega
        · have := hP (r :: qs) (.cons hq hlow hR hqs)
          simpa using this
        · dsimp only [List.set]
          rw [xor_pp, Int.toNat_natCast, Int.toNat_natCast]
          exact hxl
    · rintro σ H2 Q1 Q2 hq ⟨v, e, kk, ht, q⟩
      exact ⟨v, e, kk, ht, hq _ _ q⟩
/-! ### is_border: of a right border -/
def spIsBorder (K : PySem.W.Frag) : Sp := fun vs H Q _ => ∃ (v : V) (b1 b2 n : Nat), vs = [v, .int (n : Int)] ∧ Dp K H v (.tuple [.int (b1 : Int), .int (b2 : Int)]) ∧ b1 < b2 ∧ b2 < n ∧ Q (.bl true) H
theorem sc_is_border : FnScope ["value", "many", "low", "high"] ["value", "many"] (defScope st_is_border) := ⟨rfl, rfl, rfl, by decide +kernel, rfl, by decide +kernel, by decide +kernel⟩
theorem ok_is_border {f : Addr} {fd : FuncData} (F : Fun K "is_border" "is_border" st_is_border f fd) (B : Bl mg) (c1 : Cal P w K mg base 1 "is_integer" ["value", "low", "high"] (spIsInteger K)) : FnOk P w K mg base CX0 2 f fd ["value", "many"] (spIsBorder K) := by
  refine F.ok sc_is_border (fun vs H Q E h => ?_) (fun cdv A outer s H vs Q E hr h => ?_)
  · obtain ⟨v, b1, b2, n, rfl, _⟩ := h
    rfl
  · obtain ⟨v, b1, b2, n, rfl, hd, h12, h2n, k⟩ := h
    refine ⟨_, pss_cons (ps_if (PW.pt (pw_or (pt_cmpR op_neTy (pe_callTy call_type1 rfl B.type (by decide +kernel) (pa_cons (pv 0) pa_nil)) (pe_bltn rfl B.tuple (by decide +kernel) (v := .ty "tuple") rfl) (nomark _))
        (pw_or1 (pt_cmpR op_ne (pe_callB call_len (by rfl) B.len PySem.boot_len (pa_cons (pv 0) pa_nil)) pe_int (nomark _))))) (pss_one (ps_ret pe_bl)) pss_nil)
      (pss_cons (ps_asg (pv 0) (pg_tup rfl (pgs_cons (pg_name (i := 2) sc_is_border.nd rfl (Or.inl rfl)) (pgs_cons (pg_name (i := 3) sc_is_border.nd rfl (Or.inl rfl)) pgs_nil))))
      (pss_one (ps_ret (pe_and (pe_cal c1 hr rfl (pa_cons (pv 3) (pa_cons pe_int (pa_cons (pe_op op_sub (pv 1) pe_int) pa_nil)))) (pe_one (pe_cal c1 hr rfl (pa_cons (pv 2) (pa_cons pe_int (pa_cons (pe_op op_sub (pv 3) pe_int) pa_nil))))))))), ?_⟩
    obtain ⟨t, zs, rfl, h1, h2⟩ := dp_tup hd
    have ez : zs = [V.int (b1 : Int), V.int (b2 : Int)] := by
      cases h2 with
      | cons z1 zr =>
        cases zr with
        | cons z2 zr =>
          cases zr
          rw [dp_int z1, dp_int z2]
    subst ez
    refine ⟨_, rfl, _, "tuple", rfl, .tup h1, "tuple", "tuple", rfl, rfl, by decide, by decide, false, rfl, ?_⟩
    refine iteF ⟨_, rfl, _, 2, rfl, .inr ⟨_, h1, rfl⟩, rfl, false, rfl, iteF ?_⟩
    refine ⟨_, rfl, t, _, rfl, h1, rfl, _, _, rfl, _, _, rfl, rfl, ?_⟩
    refine ⟨_, rfl, _, rfl, _, _, rfl, rfl, _, .int (b2 : Int), 0, (n : Int) - 1, rfl, .int _, true, ?_, iteT ?_⟩
    · show V.bl (decide (_ ∧ _)) = _
      rw [decide_eq_true (by omega)]
    · refine ⟨_, rfl, _, rfl, _, _, rfl, rfl, _, .int (b1 : Int), 0, (b2 : Int) - 1, rfl, .int _, ?_⟩
      show Q (V.bl (decide (_ ∧ _))) H
      rw [decide_eq_true (by omega)]
      exact k
end
theorem lex2_false {a b c d : Int} (h : c < a ∨ (c = a ∧ d < b)) :
    Ob.lexAt (fun j => decide ([a, b].getD j 0 = [c, d].getD j 0)) (fun j => decide ([a, b].getD j 0 ≤ [c, d].getD j 0)) (decide ([a, b].length ≤ [c, d].length)) 0 (min [a, b].length [c, d].length) = false := by
  show (if decide (a = c) = true then (if decide (b = d) = true then _ else decide (b ≤ d)) else decide (a ≤ c)) = false
  by_cases e1 : a = c
  · rw [decide_eq_true e1, if_pos rfl]
    have e2 : ¬ b = d := by omega
    rw [decide_eq_false e2, if_neg Bool.false_ne_true]
    apply decide_eq_false
    omega
  · rw [decide_eq_false e1, if_neg Bool.false_ne_true]
    apply decide_eq_false
    omega
/-- the three numbers of the module -/
structure Nums (mg : Str → Option Value) : Prop where
  fp : ∃ t, mg "FEWEST_PLACES" = some (.int 2 t)
  mp : ∃ t, mg "MOST_PLACES" = some (.int 12 t)
  mf : ∃ t, mg "MOST_FOLK" = some (.int 1000000 t)
def ltP (a b : Nat × Nat) : Prop := a.1 < b.1 ∨ (a.1 = b.1 ∧ a.2 < b.2)
structure LandOk (fs : List Int) (bs : List (Nat × Nat)) : Prop where
  few : 2 ≤ fs.length
  most : fs.length ≤ 12
  folk : ∀ z ∈ fs, 0 ≤ z ∧ z ≤ 1000000
  bord : Mk.Bs fs.length bs
  asc : bs.Pairwise ltP
theorem bs_len {n : Nat} (hn : n ≤ 12) {bs : List (Nat × Nat)} (hb : Mk.Bs n bs) (h : bs.Pairwise ltP) : bs.length ≤ 1000 := by
  -- coded by one number below 13 * 13, ascending
  have key : ∀ (l : List Nat) (m : Nat), l.Pairwise (· < ·) → (∀ x ∈ l, x < m) → l.length ≤ m := by
    intro l
    induction l with
    | nil => intro m _ _; exact Nat.zero_le _
    | cons a r ih =>
      intro m hp hm
      rw [List.pairwise_cons] at hp
      have h1 := ih (m - a - 1) |> fun _ => hm a List.mem_cons_self
      have h2 : ∀ (r : List Nat) (lo m : Nat), r.Pairwise (· < ·) → (∀ x ∈ r, lo ≤ x ∧ x < m) → r.length ≤ m - lo := by
        intro r
        induction r with
        | nil => intro lo m _ _; exact Nat.zero_le _
        | cons b r ih =>
          intro lo m hp hm
          rw [List.pairwise_cons] at hp
          have h3 := hm b List.mem_cons_self
          have := ih (b + 1) m hp.2 fun x hx => ⟨hp.1 x hx, (hm x (List.mem_cons_of_mem _ hx)).2⟩
          rw [List.length_cons]
          omega
      have h3 := h2 r (a + 1) m hp.2 fun x hx => ⟨hp.1 x hx, hm x (List.mem_cons_of_mem _ hx)⟩
      rw [List.length_cons]
      omega
  have h2 := key (bs.map fun (b : Nat × Nat) => 13 * b.1 + b.2) 169 (by
    rw [List.pairwise_map]
    refine List.Pairwise.imp_of_mem (fun {a b} ha hb' z => ?_) h
    have := hb a ha
    have := hb b hb'
    rcases z with z | z
    · omega
    · omega) fun x hx => by
    obtain ⟨b, h1, rfl⟩ := List.mem_map.mp hx
    have := hb b h1
    omega
  rw [List.length_map] at h2
  omega
section
variable {P : Program} {w : World} {K : PySem.W.Frag} {mg : Str → Option Value} {base : Heap}
theorem dp_pair {H : Hp} {v : V} {b : Nat × Nat} (h : Dp K H v (.tuple [.int (b.1 : Int), .int (b.2 : Int)])) : ∃ t, v = .ref t ∧ SqT K H t [V.int (b.1 : Int), V.int (b.2 : Int)] := by
  obtain ⟨t, zs, rfl, h1, h2⟩ := dp_tup h
  cases h2 with
  | cons z1 zr =>
    cases zr with
    | cons z2 zr =>
      cases zr
      rw [dp_int z1, dp_int z2] at h1
      exact ⟨t, rfl, h1⟩
theorem dp_bord {H : Hp} {v : V} {bs : List (Nat × Nat)} (h : Dp K H v (bordD bs)) : ∃ c ys, v = .ref c ∧ SqT K H c ys ∧ ys.length = bs.length ∧ ∀ (i : Nat) (b : Nat × Nat), bs[i]? = some b → ∃ u, ys[i]? = some u ∧ Dp K H u (.tuple [.int (b.1 : Int), .int (b.2 : Int)]) := by
  obtain ⟨c, ys, rfl, h1, h2⟩ := dp_tup h
  refine ⟨c, ys, rfl, h1, by have := dpAll_len h2; rw [List.length_map] at this; exact this, fun i b e => ?_⟩
  exact dpAll_get h2 (by rw [List.getElem?_map, e]; rfl)
/-! ### fault_of_folk, fault_of_borders, fault_of_land, check_land: of right lands -/
def spFaultFolk (K : PySem.W.Frag) : Sp := fun vs H Q _ => ∃ (v : V) (fs : List Int), vs = [v] ∧ Dp K H v (.tuple (fs.map .int)) ∧ 2 ≤ fs.length ∧ fs.length ≤ 12 ∧ (∀ z ∈ fs, 0 ≤ z ∧ z ≤ 1000000) ∧ Q .non H
theorem sc_fault_of_folk : FnScope ["folk", "k"] ["folk"] (defScope st_fault_of_folk) := ⟨rfl, rfl, rfl, by decide +kernel, rfl, by decide +kernel, by decide +kernel⟩
theorem ok_fault_of_folk {f : Addr} {fd : FuncData} (F : Fun K "fault_of_folk" "fault_of_folk" st_fault_of_folk f fd) (B : Bl mg) (N : Nums mg) (c1 : Cal P w K mg base 1 "is_integer" ["value", "low", "high"] (spIsInteger K)) : FnOk P w K mg base CX0 2 f fd ["folk"] (spFaultFolk K) := by
  refine F.ok sc_fault_of_folk (fun vs H Q E h => ?_) (fun cdv A outer s H vs Q E hr h => ?_)
  · obtain ⟨v, fs, rfl, _⟩ := h
    rfl
  · obtain ⟨v, fs, rfl, hd, h2, h12, hf, k⟩ := h
    obtain ⟨⟨t1, e1⟩, ⟨t2, e2⟩, ⟨t3, e3⟩⟩ := N
    refine ⟨_, pss_cons (ps_if (PW.pt (pw_or (pt_cmpR op_neTy (pe_callTy call_type1 rfl B.type (by decide +kernel) (pa_cons (pv 0) pa_nil)) (pe_bltn rfl B.tuple (by decide +kernel) (v := .ty "tuple") rfl) (nomark _))
        (pw_or1 (pt_not (pt_chain op_le op_le (pe_glob rfl e1 (v := .int 2) ⟨_, rfl⟩) (pe_callB call_len (by rfl) B.len PySem.boot_len (pa_cons (pv 0) pa_nil)) (pe_glob rfl e2 (v := .int 12) ⟨_, rfl⟩)))))) pss_never pss_nil)
      (pss_cons (ps_for PassesOwn.never rfl (pi_range1 rfl B.range (pa_cons (pe_callB call_len (by rfl) B.len PySem.boot_len (pa_cons (pv 0) pa_nil)) pa_nil)) (pg_name (i := 1) sc_fault_of_folk.nd rfl (Or.inl rfl))
        (pss_one (ps_if (pt_not (pt_val (pe_cal c1 hr rfl (pa_cons (pe_ix ix_tup (pv 0) (pv 1) (fun _ _ => rfl)) (pa_cons pe_int (pa_cons (pe_glob rfl e3 (v := .int 1000000) ⟨_, rfl⟩) pa_nil)))) (by intro _; rfl))) pss_never pss_nil)))
      (pss_one (ps_ret pe_non))), ?_⟩
    obtain ⟨a, rfl, h1⟩ := dp_ints hd
    refine ⟨_, rfl, _, "tuple", rfl, .tup h1, "tuple", "tuple", rfl, rfl, by decide, by decide, false, rfl, ?_⟩
    refine iteF ⟨_, rfl, _, fs.length, rfl, .inr ⟨_, h1, by simp⟩, _, _, rfl, rfl, true, ?_, iteT ⟨_, _, rfl, rfl, true, ?_, iteF ?_⟩⟩
    · show V.bl (decide _) = _
      rw [decide_eq_true (by omega)]
    · show V.bl (decide _) = _
      rw [decide_eq_true (by omega)]
    refine ⟨_, rfl, _, fs.length, rfl, .inr ⟨_, h1, by simp⟩, _, rfl, by omega, by omega, ?_⟩
    rw [Int.toNat_natCast]
    refine for_range (n := fs.length) (fun i σ H2 => ∃ o, σ = [some (.ref a), o] ∧ H2 = H) ⟨_, rfl, rfl⟩ ?_ ?_
    · rintro i σ H2 hi ⟨o, rfl, rfl⟩
      have g1 : (fs.map V.int)[i]? = some (V.int fs[i]) := by rw [List.getElem?_map, List.getElem?_eq_getElem hi]; rfl
      refine ⟨_, rfl, _, rfl, _, _, _, _, rfl, rfl, h1, by rw [Int.zero_add]; exact atI_nat g1, _, .int fs[i], 0, 1000000, rfl, .int _, true, ?_, iteF ⟨_, rfl, rfl⟩⟩
      show V.bl (decide _) = _
      rw [decide_eq_true (hf _ (List.getElem_mem hi))]
    · rintro σ H2 ⟨o, rfl, rfl⟩
      exact k
def spFaultBord (K : PySem.W.Frag) : Sp := fun vs H Q _ => ∃ (v : V) (bs : List (Nat × Nat)) (n : Nat), vs = [v, .int (n : Int)] ∧ Dp K H v (bordD bs) ∧ n ≤ 12 ∧ Mk.Bs n bs ∧ bs.Pairwise ltP ∧ Q .non H
theorem sc_fault_of_borders : FnScope ["borders", "many", "k"] ["borders", "many"] (defScope st_fault_of_borders) := ⟨rfl, rfl, rfl, by decide +kernel, rfl, by decide +kernel, by decide +kernel⟩
theorem ok_fault_of_borders {f : Addr} {fd : FuncData} (F : Fun K "fault_of_borders" "fault_of_borders" st_fault_of_borders f fd) (B : Bl mg) (c1 : Cal P w K mg base 2 "is_border" ["value", "many"] (spIsBorder K)) : FnOk P w K mg base CX0 3 f fd ["borders", "many"] (spFaultBord K) := by
  refine F.ok sc_fault_of_borders (fun vs H Q E h => ?_) (fun cdv A outer s H vs Q E hr h => ?_)
  · obtain ⟨v, bs, n, rfl, _⟩ := h
    rfl
  · obtain ⟨v, bs, n, rfl, hd, hn, hb, ha, k⟩ := h
    refine ⟨_, pss_cons (ps_if (pt_cmpR op_neTy (pe_callTy call_type1 rfl B.type (by decide +kernel) (pa_cons (pv 0) pa_nil)) (pe_bltn rfl B.tuple (by decide +kernel) (v := .ty "tuple") rfl) (nomark _)) pss_never pss_nil)
      (pss_cons (ps_for PassesOwn.never rfl (pi_range1 rfl B.range (pa_cons (pe_callB call_len (by rfl) B.len PySem.boot_len (pa_cons (pv 0) pa_nil)) pa_nil)) (pg_name (i := 2) sc_fault_of_borders.nd rfl (Or.inl rfl))
        (pss_cons (ps_if (pt_not (pt_val (pe_cal c1 hr rfl (pa_cons (pe_ix ix_tup (pv 0) (pv 2) (fun _ _ => rfl)) (pa_cons (pv 1) pa_nil))) (by intro _; rfl))) pss_never pss_nil)
        (pss_one (ps_if (PW.pt (pw_and (pt_cmpR op_gt (pv 2) pe_int (nomark _)) (pw_and1 (pt_cmpR (op_leT hr.units0) (pe_ix ix_tup (pv 0) (pv 2) (fun _ _ => rfl)) (pe_ix ix_tup (pv 0) (pe_op op_sub (pv 2) pe_int) (fun _ _ => rfl)) (nomark _))))) pss_never pss_nil))))
      (pss_one (ps_ret pe_non))), ?_⟩
    obtain ⟨c, ys, rfl, h1, hl, hg⟩ := dp_bord hd
    have hbl := bs_len hn hb ha
    refine ⟨_, rfl, _, "tuple", rfl, .tup h1, "tuple", "tuple", rfl, rfl, by decide, by decide, false, rfl, iteF ?_⟩
    refine ⟨_, rfl, _, bs.length, rfl, .inr ⟨_, h1, hl.symm⟩, _, rfl, by omega, by omega, ?_⟩
    rw [Int.toNat_natCast]
    refine for_range (n := bs.length) (fun i σ H2 => ∃ o, σ = [some (.ref c), some (.int (n : Int)), o] ∧ H2 = H) ⟨_, rfl, rfl⟩ ?_ ?_
    · rintro i σ H2 hi ⟨o, rfl, rfl⟩
      obtain ⟨u, hu, hu2⟩ := hg i _ (List.getElem?_eq_getElem hi)
      have hbi := hb _ (List.getElem_mem hi)
      refine ⟨_, rfl, _, rfl, _, _, _, _, rfl, rfl, h1, by rw [Int.zero_add]; exact atI_nat hu, _, rfl, _, bs[i].1, bs[i].2, n, rfl, hu2, hbi.1, hbi.2, true, rfl, iteF ?_⟩
      refine ⟨_, rfl, _, _, rfl, rfl, decide (0 < i), ?_, ?_⟩
      · show V.bl (decide ((0 : Int) < (0 : Int) + (i : Int))) = _
        congr 1
        apply decide_eq_decide.mpr
        omega
      by_cases hi0 : 0 < i
      · rw [decide_eq_true hi0]
        refine iteT ?_
        obtain ⟨u', hu', hu2'⟩ := hg (i - 1) _ (List.getElem?_eq_getElem (show i - 1 < bs.length by omega))
        obtain ⟨t, rfl, q1⟩ := dp_pair hu2
        obtain ⟨t', rfl, q2⟩ := dp_pair hu2'
        have hlt : ltP bs[i - 1] bs[i] := List.pairwise_iff_getElem.mp ha _ _ _ _ (by omega)
        refine ⟨_, rfl, _, rfl, _, _, _, _, rfl, rfl, h1, by rw [Int.zero_add]; exact atI_nat hu, _, rfl, _, rfl, _, _, rfl, rfl, _, _, _, _, rfl, rfl, h1, (by
          have e : (0 : Int) + (i : Int) - 1 = ((i - 1 : Nat) : Int) := by omega
          rw [e]; exact atI_nat hu'), t, t', [(bs[i].1 : Int), (bs[i].2 : Int)], [(bs[i - 1].1 : Int), (bs[i - 1].2 : Int)], rfl, rfl, q1, q2, false, ?_, iteF ⟨_, rfl, rfl⟩⟩
        congr 1
        unfold ltP at hlt
        apply lex2_false
        omega
      · rw [decide_eq_false hi0]
        exact iteF (iteF ⟨_, rfl, rfl⟩)
    · rintro σ H2 ⟨o, rfl, rfl⟩
      exact k
def spFaultLand (K : PySem.W.Frag) : Sp := fun vs H Q _ => ∃ (v : V) (fs : List Int) (bs : List (Nat × Nat)), vs = [v] ∧ Dp K H v (landD fs bs) ∧ LandOk fs bs ∧ Q .non H
theorem sc_fault_of_land : FnScope ["value", "folk", "borders", "place"] ["value"] (defScope st_fault_of_land) := ⟨rfl, rfl, rfl, by decide +kernel, rfl, by decide +kernel, by decide +kernel⟩
theorem ok_fault_of_land {f : Addr} {fd : FuncData} (F : Fun K "fault_of_land" "fault_of_land" st_fault_of_land f fd) (B : Bl mg) (c1 : Cal P w K mg base 2 "fault_of_folk" ["folk"] (spFaultFolk K)) (c2 : Cal P w K mg base 3 "fault_of_borders" ["borders", "many"] (spFaultBord K)) : FnOk P w K mg base CX0 4 f fd ["value"] (spFaultLand K) := by
  refine F.ok sc_fault_of_land (fun vs H Q E h => ?_) (fun cdv A outer s H vs Q E hr h => ?_)
  · obtain ⟨v, fs, bs, rfl, _⟩ := h
    rfl
  · obtain ⟨v, fs, bs, rfl, hd, ok, k⟩ := h
    refine ⟨_, pss_cons (ps_if (PW.pt (pw_or (pt_cmpR op_neTy (pe_callTy call_type1 rfl B.type (by decide +kernel) (pa_cons (pv 0) pa_nil)) (pe_bltn rfl B.tuple (by decide +kernel) (v := .ty "tuple") rfl) (nomark _))
        (pw_or1 (pt_cmpR op_ne (pe_callB call_len (by rfl) B.len PySem.boot_len (pa_cons (pv 0) pa_nil)) pe_int (nomark _))))) pss_never pss_nil)
      (pss_cons (ps_asg (pv 0) (pg_tup rfl (pgs_cons (pg_name (i := 1) sc_fault_of_land.nd rfl (Or.inl rfl)) (pgs_cons (pg_name (i := 2) sc_fault_of_land.nd rfl (Or.inl rfl)) pgs_nil))))
      (pss_cons (ps_set (i := 3) sc_fault_of_land.nd rfl (Or.inl rfl) (pe_cal c1 (hr.mono (by decide)) rfl (pa_cons (pv 1) pa_nil)))
      (pss_cons (ps_if (pt_cmpR op_isN (pv 3) pe_non (nomark _)) (pss_one (ps_set (i := 3) sc_fault_of_land.nd rfl (Or.inl rfl) (pe_cal c2 hr rfl (pa_cons (pv 2) (pa_cons (pe_callB call_len (by rfl) B.len PySem.boot_len (pa_cons (pv 1) pa_nil)) pa_nil))))) pss_nil)
      (pss_one (ps_ret (pv 3)))))), ?_⟩
    obtain ⟨a, xs, rfl, h1, h2⟩ := dp_tup hd
    have ez : ∃ v0 v1, xs = [v0, v1] ∧ Dp K H v0 (.tuple (fs.map .int)) ∧ Dp K H v1 (bordD bs) := by
      cases h2 with
      | cons z1 zr =>
        cases zr with
        | cons z2 zr =>
          cases zr
          exact ⟨_, _, rfl, z1, z2⟩
    obtain ⟨v0, v1, rfl, d0, d1⟩ := ez
    obtain ⟨b, rfl, h5⟩ := dp_ints d0
    refine ⟨_, rfl, _, "tuple", rfl, .tup h1, "tuple", "tuple", rfl, rfl, by decide, by decide, false, rfl, ?_⟩
    refine iteF ⟨_, rfl, _, 2, rfl, .inr ⟨_, h1, rfl⟩, rfl, false, rfl, iteF ?_⟩
    refine ⟨_, rfl, a, _, rfl, h1, rfl, _, _, rfl, _, _, rfl, rfl, ?_⟩
    refine ⟨_, rfl, _, fs, rfl, d0, ok.few, ok.most, ok.folk, ?_⟩
    refine ⟨_, rfl, rfl, true, rfl, iteT ?_⟩
    refine ⟨_, rfl, _, rfl, _, fs.length, rfl, .inr ⟨_, h5, by simp⟩, _, bs, fs.length, rfl, d1, ok.most, ok.bord, ok.asc, ?_⟩
    exact ⟨_, rfl, k⟩
def spCheckLand (K : PySem.W.Frag) : Sp := spFaultLand K
theorem sc_check_land : FnScope ["land", "place"] ["land"] (defScope st_check_land) := ⟨rfl, rfl, rfl, by decide +kernel, rfl, by decide +kernel, by decide +kernel⟩
theorem ok_check_land {f : Addr} {fd : FuncData} (F : Fun K "check_land" "check_land" st_check_land f fd) (c1 : Cal P w K mg base 4 "fault_of_land" ["value"] (spFaultLand K)) : FnOk P w K mg base CX0 5 f fd ["land"] (spFaultLand K) := by
  refine F.ok sc_check_land (fun vs H Q E h => ?_) (fun cdv A outer s H vs Q E hr h => ?_)
  · obtain ⟨v, fs, bs, rfl, _⟩ := h
    rfl
  · obtain ⟨v, fs, bs, rfl, hd, ok, k⟩ := h
    refine ⟨_, pss_cons (ps_set (i := 1) sc_check_land.nd rfl (Or.inl rfl) (pe_cal c1 hr rfl (pa_cons (pv 0) pa_nil))) (pss_one (ps_if (pt_cmpR op_notN (pv 1) pe_non (nomark _)) pss_never pss_nil)), ?_⟩
    exact ⟨_, rfl, v, fs, bs, rfl, hd, ok, _, rfl, rfl, false, rfl, iteF k⟩
/-! ### check_lot -/
def spCheckLot (K : PySem.W.Frag) (T1 T2 : Addr) : Sp := fun vs H Q _ => ∃ (l v : V) (fs : List Int) (bd : PyData) (ps : List Nat), vs = [l, v] ∧ Dp K H l (.tuple [.tuple (fs.map .int), bd]) ∧ fs.length ≤ 12 ∧ Dp K H v (lotD ps) ∧ isLot fs.length ps = true ∧ ps.length ≤ 12 ∧
  TabG H T1 ∧ TabG H T2 ∧ ∀ H', Ext H H' → Q .non H'
end
section
variable {P : Program} {w : World} {K : PySem.W.Frag} {mg : Str → Option Value} {base : Heap}
/-! ### cut_places -/
theorem asc_pair : ∀ {ns : List Int}, asc ns = true → ns.Pairwise (· < ·)
  | [], _ => .nil
  | [_], _ => by simp
  | a :: b :: r, h => by
    have h2 : (decide (a < b) && asc (b :: r)) = true := h
    rw [Bool.and_eq_true, decide_eq_true_eq] at h2
    have ih := asc_pair h2.2
    rw [List.pairwise_cons] at ih ⊢
    refine ⟨fun x hx => ?_, by rw [List.pairwise_cons]; exact ih⟩
    rcases List.mem_cons.mp hx with e | e
    · rw [e]; exact h2.1
    · have := ih.1 x e
      omega
structure LotOk (n : Nat) (ps : List Nat) : Prop where
  ne : ps ≠ []
  lt : ∀ p ∈ ps, p < n
  asc : ps.Pairwise (· < ·)
theorem pair_asc : ∀ {ns : List Int}, ns.Pairwise (· < ·) → asc ns = true
  | [], _ => rfl
  | [_], _ => rfl
  | a :: b :: r, h => by
    rw [List.pairwise_cons] at h
    show (decide (a < b) && asc (b :: r)) = true
    rw [pair_asc h.2, decide_eq_true (h.1 b List.mem_cons_self)]
    rfl
theorem LotOk.is {n : Nat} {ps : List Nat} (h : LotOk n ps) : isLot n ps = true := by
  unfold isLot
  have e1 : ps.isEmpty = false := by cases ps with
    | nil => exact absurd rfl h.ne
    | cons _ _ => rfl
  have e2 : (ps.all fun p => decide (p < n)) = true := List.all_eq_true.mpr fun p hp => decide_eq_true (h.lt p hp)
  have e3 : Wd.asc (ps.map fun (p : Nat) => (p : Int)) = true := Wd.pair_asc (by
    rw [List.pairwise_map]
    exact h.asc.imp fun z => by omega)
  rw [e1, e2, e3]
  rfl
theorem LotOk.len {n : Nat} {ps : List Nat} (h : LotOk n ps) : ps.length ≤ n := by
  have e := Mk.bits_mask h.asc h.lt
  rw [← e]
  exact Mk.bits_len _ _
end
end Wd

set_option Elab.async false
set_option linter.all false
set_option maxRecDepth 100000
set_option maxHeartbeats 4000000
/-! Ly: what the laws' own steps want: heaps that change at some lists alone; membership in tuples of data. -/
namespace Bx
open PySem PySem.Spec PyProof.Rows L2
section
variable {X : Cx}
def rInDT (K : PySem.W.Frag) (neg : Bool) : R2 := fun x y H Q => ∃ d ds, Dp K H x d ∧ Dp K H y (.tuple ds) ∧ SeqAt.shaped d = true ∧ SeqAt.shaped (.tuple ds) = true ∧ Q (.bl (neg ^^ (ds.any fun z => PyData.eqv z d))) H
theorem op_inDT (hu : X.A.units + 65 < cLine) : OpR X (compareOp .In) (rInDT X.K false) := by
  intro pins s σ H x y v u Q I rx ry h
  obtain ⟨d, ds, hd, he, sd, se, q⟩ := h
  obtain ⟨as, r1⟩ := Dp.reads I d x v hd rx
  obtain ⟨bs, r2⟩ := Dp.reads I (.tuple ds) y u he ry
  refine SeqAt.in_tuple_reads r2 r1 (SeqAt.canLay_of_shaped se) (SeqAt.canLay_of_shaped sd) (PyProof.Rows.room_in_shaped sd hu) ⟨.bl (ds.any fun y => y.eqv d), H, I, rfl, ?_⟩
  rw [Bool.false_xor] at q
  exact q
end
def isLs : HO → Prop
  | .lst _ => True
  | _ => False
/-- the heap has grown, tables and the lists at S may hold other things -/
structure ExtS (S : List Addr) (H H' : Hp) : Prop where
  keep : ∀ b o, H b = some o → ¬ isTbl o → (isLs o → b ∉ S) → H' b = some o
  tabs : ∀ P, Gx.TabG H P → Gx.TabG H' P
  live : ∀ b o, H b = some o → ∃ o', H' b = some o'
theorem ExtS.of {S : List Addr} {H H' : Hp} (x : Ext H H') : ExtS S H H' := ⟨fun b o e n _ => x.keep b o e n, x.tabs, x.live⟩
theorem ExtS.refl (S : List Addr) (H : Hp) : ExtS S H H := .of (.refl H)
theorem ExtS.trans {S : List Addr} {H H1 H2 : Hp} (a : ExtS S H H1) (b : ExtS S H1 H2) : ExtS S H H2 :=
  ⟨fun c o e n m => b.keep c o (a.keep c o e n m) n m, fun P t => b.tabs P (a.tabs P t), fun c o e => let ⟨o1, e1⟩ := a.live c o e; b.live c o1 e1⟩
theorem ExtS.new {S : List Addr} {H : Hp} {p : Addr} {o : HO} (h : H p = none) : ExtS S H (upd H p o) := .of (.new h)
theorem ExtS.free {S : List Addr} {H H' : Hp} (x : ExtS S H H') {p : Addr} (h : H' p = none) : H p = none := by
  cases e : H p with
  | none => rfl
  | some o =>
    obtain ⟨o', e'⟩ := x.live p o e
    rw [h] at e'
    cases e'
/-- a list of S, or one that was not there ahead, is written -/
theorem ExtS.write {S : List Addr} {H H' : Hp} {p : Addr} {o : HO} (x : ExtS S H H') (h : H p = none ∨ (p ∈ S ∧ ∃ xs, H p = some (.lst xs))) : ExtS S H (upd H' p o) := by
  refine ⟨fun b u e n m => ?_, fun Q hQ => ?_, fun b u e => ?_⟩
  · by_cases hb : b = p
    · subst hb
      rcases h with h | ⟨h1, xs, h2⟩
      · rw [h] at e; cases e
      · rw [h2] at e
        cases e
        exact absurd h1 (m trivial)
    · rw [upd_ne hb]
      exact x.keep b u e n m
  · obtain ⟨ps, e, k⟩ := x.tabs Q hQ
    obtain ⟨ps0, e0, _⟩ := hQ
    have hb : Q ≠ p := by
      intro e1
      subst e1
      rcases h with h | ⟨_, xs, h2⟩
      · rw [h] at e0; cases e0
      · rw [h2] at e0; cases e0
    exact ⟨ps, by rw [upd_ne hb]; exact e, k⟩
  · by_cases hb : b = p
    · exact ⟨o, by rw [hb, upd_same]⟩
    · rw [upd_ne hb]
      exact x.live b u e
theorem ExtS.rd {S : List Addr} {H H' : Hp} (x : ExtS S H H') {a : Addr} {u : HO} (n : ¬ isTbl u) (l : ¬ isLs u) (h : Rd H a u) : Rd H' a u := by
  rcases h with h | ⟨o, h⟩
  · exact .inl (x.keep a u h n fun z => absurd z l)
  · exact .inr ⟨o, x.keep a _ h (fun z => z) fun z => z.elim⟩
theorem ExtS.sqT {S : List Addr} {K : PySem.W.Frag} {H H' : Hp} (x : ExtS S H H') {a : Addr} {xs : List V} (h : SqT K H a xs) : SqT K H' a xs := h.elim (fun z => .inl (x.rd (fun z => z) (fun z => z) z)) .inr
theorem ExtS.lst {S : List Addr} {H H' : Hp} (x : ExtS S H H') {a : Addr} {xs : List V} (n : a ∉ S) (h : H a = some (.lst xs)) : H' a = some (.lst xs) := x.keep a _ h (fun z => z) fun _ => n
theorem ExtS.tup {S : List Addr} {H H' : Hp} (x : ExtS S H H') {a : Addr} {xs : List V} (h : H a = some (.tup xs)) : H' a = some (.tup xs) := x.keep a _ h (fun z => z) fun z => z.elim
theorem ExtS.dT {S : List Addr} {H H' : Hp} (x : ExtS S H H') {a : Addr} {xs : List (List L2.Key × V)} (h : H a = some (.dT xs)) : H' a = some (.dT xs) := x.keep a _ h (fun z => z) fun z => z.elim
mutual
/-- data without a list in it -/
def noL : PyData → Bool
  | .list _ => false
  | .tuple ds => noLs ds
  | _ => true
def noLs : List PyData → Bool
  | [] => true
  | d :: ds => noL d && noLs ds
end
theorem noLs_map {α : Type} (f : α → PyData) (h : ∀ x, noL (f x) = true) : ∀ xs : List α, noLs (xs.map f) = true
  | [] => rfl
  | x :: xs => by rw [List.map_cons, noLs, h, noLs_map f h xs]; rfl
mutual
theorem dp_extS {S : List Addr} {K : PySem.W.Frag} {H H' : Hp} (x : ExtS S H H') : ∀ {v : V} {d : PyData}, noL d = true → Dp K H v d → Dp K H' v d
  | _, _, _, .non => .non
  | _, _, _, .bl b => .bl b
  | _, _, _, .int i => .int i
  | _, _, _, .str z => .str z
  | _, _, n, .lst h hs => absurd n (by simp [noL])
  | _, _, n, .tup h hs => .tup (x.sqT h) (dpAll_extS x (by simpa [noL] using n) hs)
theorem dpAll_extS {S : List Addr} {K : PySem.W.Frag} {H H' : Hp} (x : ExtS S H H') : ∀ {vs : List V} {ds : List PyData}, noLs ds = true → DpAll K H vs ds → DpAll K H' vs ds
  | _, _, _, .nil => .nil
  | _, _, n, .cons h hs => .cons (dp_extS x (Bool.and_eq_true_iff.mp (by simpa [noLs] using n)).1 h) (dpAll_extS x (Bool.and_eq_true_iff.mp (by simpa [noLs] using n)).2 hs)
end
theorem depthAll_le {n : Nat} : ∀ {ds : List PyData}, (∀ d ∈ ds, d.depth ≤ n) → PyData.depthAll ds ≤ n
  | [], _ => by simp [PyData.depthAll]
  | d :: ds, h => by
    have ih := depthAll_le (n := n) (ds := ds) fun x hx => h x (List.mem_cons_of_mem _ hx)
    have h1 := h d List.mem_cons_self
    simp [PyData.depthAll]
    omega
theorem canLayAll_of : ∀ {ds : List PyData}, (∀ d ∈ ds, d.canLay0 = true) → PyData.canLayAll0 ds = true
  | [], _ => by simp [PyData.canLayAll0]
  | d :: ds, h => by
    have ih := canLayAll_of (ds := ds) fun x hx => h x (List.mem_cons_of_mem _ hx)
    have h1 := h d List.mem_cons_self
    simp [PyData.canLayAll0, ih, h1]
structure Sh (n : Nat) (d : PyData) : Prop where
  lay : d.canLay0 = true
  dep : d.depth ≤ n
theorem Sh.int (n : Nat) (i : Int) : Sh (n + 1) (.int i) := ⟨by simp [PyData.canLay0], by simp [PyData.depth]⟩
theorem Sh.tup {n : Nat} {ds : List PyData} (h : ∀ d ∈ ds, Sh n d) : Sh (n + 1) (.tuple ds) := ⟨by
  have := canLayAll_of fun d hd => (h d hd).lay
  simp [PyData.canLay0, this], by
  have := depthAll_le fun d hd => (h d hd).dep
  simp [PyData.depth]; omega⟩
theorem Sh.lst {n : Nat} {ds : List PyData} (h : ∀ d ∈ ds, Sh n d) : Sh (n + 1) (.list ds) := ⟨by
  have := canLayAll_of fun d hd => (h d hd).lay
  simp [PyData.canLay0, this], by
  have := depthAll_le fun d hd => (h d hd).dep
  simp [PyData.depth]; omega⟩
theorem Sh.shaped {n : Nat} {d : PyData} (h : Sh n d) (hn : n ≤ 64) : SeqAt.shaped d = true := by
  unfold SeqAt.shaped
  rw [h.lay, decide_eq_true (by have := h.dep; omega)]
  rfl
theorem Sh.ints {n : Nat} (xs : List Int) : Sh (n + 2) (.list (xs.map .int)) := .lst fun d hd => by
  obtain ⟨i, _, rfl⟩ := List.mem_map.mp hd
  exact .int _ i
theorem Sh.intsT {n : Nat} (xs : List Int) : Sh (n + 2) (.tuple (xs.map .int)) := .tup fun d hd => by
  obtain ⟨i, _, rfl⟩ := List.mem_map.mp hd
  exact .int _ i
theorem eqv_nil (xs : List PyData) : PyData.eqv (.list xs) (.list []) = xs.isEmpty := by
  cases xs <;> simp [PyData.eqv, PyData.eqvAll]
theorem eqv_nilT (xs : List PyData) : PyData.eqv (.tuple xs) (.tuple []) = xs.isEmpty := by
  cases xs <;> simp [PyData.eqv, PyData.eqvAll]
theorem via {T : TS} {D : L2.Ends} {σ : L2.St} {H : Hp} (Pz : L2.St → Hp → Prop) (h1 : ∀ σ H, Pz σ H → D.nx σ H) (h2 : ∀ nx : L2.St → Hp → Prop, (∀ σ H, Pz σ H → nx σ H) → T { D with nx := nx } σ H) : T D σ H := h2 D.nx h1
theorem u65 {k : Nat} {A : Around} (h : Room k A) : A.units + 65 < cLine := by
  have := h.un
  omega
theorem op_inDTK {X : Cx} {K : PySem.W.Frag} (h : X.K = K) (hu : X.A.units + 65 < cLine) : OpR X (compareOp .In) (rInDT K false) := h ▸ op_inDT hu
theorem op_inK {X : Cx} {K : PySem.W.Frag} (h : X.K = K) : OpR X (compareOp .In) (rIn K false) := h ▸ op_in_seq
theorem op_notInK {X : Cx} {K : PySem.W.Frag} (h : X.K = K) : OpR X (compareOp .NotIn) (rIn K true) := h ▸ op_notIn_seq
theorem op_neDK {X : Cx} {K : PySem.W.Frag} (h : X.K = K) (hu : X.A.units + 64 < cLine) : OpR X (compareOp .NotEq) (rNeD K) := h ▸ op_neD hu
theorem op_eqDK {X : Cx} {K : PySem.W.Frag} (h : X.K = K) (hu : X.A.units + 64 < cLine) : OpR X (compareOp .Eq) (rEqD K) := h ▸ op_eqD hu
theorem cr_sortedK {X : Cx} {K : PySem.W.Frag} (h : X.K = K) : CallR X (.builtin "sorted") (rSorted K) := h ▸ cr_sorted
theorem pe_tupleOfK {X : Cx} {K : PySem.W.Frag} {a : Expr} {ta : TE} {p pos : Pos} (h : X.K = K) (hg : Gl X "tuple") (hm : X.mg "tuple" = none) (ha : PE X a ta) (na : starEach [a] X.env = (false, eval a X.env) :: starEach [] X.env := by rfl) : PE X (.Call (.Name "tuple" p) [a] [] pos) (tThen ta (kTup K)) := h ▸ pe_tupleOf hg hm ha na
theorem pg_tupK {X : Cx} {K : PySem.W.Frag} {pos : Pos} {es : List Expr} {k : Nat} {t : TGs} {n : Nat} (h : X.K = K) (hc : X.calm = true) (ht : PGs X es t) (h1 : (assignEach es X.env).length = n := by rfl) (h2 : List.findIdx? (fun x => x.fst) (assignEach es X.env) = none := by rfl) : PG X (.Tuple es k pos) (L2.gTup K n t) := h ▸ pg_tup hc ht h1 h2
end Bx

set_option Elab.async false
set_option linter.all false
set_option maxRecDepth 100000
set_option maxHeartbeats 4000000
namespace Wd
open PySem PySem.Spec PyProof.Rows L2 Bx Gx











































section
variable {P : Program} {w : World} {K : PySem.W.Frag} {mg : Str → Option Value} {base : Heap}
/-! ### the drawn numbers -/
/-- the spring at sp, its great cells at gr -/
structure SpAt (H : Hp) (sp gr : Addr) : Prop where
  ex : ∃ (xs : List Int) (m t : Int), H sp = some (.lst [.ref gr, .int m, .int t]) ∧ H gr = some (.lst (xs.map V.int)) ∧ 0 ≤ m ∧ m < 2305843009213693951 ∧ xs.length ≤ 63
  ne : sp ≠ gr
theorem SpAt.ls {H : Hp} {sp gr p : Addr} (h : SpAt H sp gr) (hp : p ∈ [sp, gr]) : p ∈ [sp, gr] ∧ ∃ xs, H p = some (.lst xs) := by
  obtain ⟨xs, m, t, h1, h2, _⟩ := h.ex
  refine ⟨hp, ?_⟩
  rcases List.mem_cons.mp hp with e | e
  · rw [e]; exact ⟨_, h1⟩
  · rw [List.mem_singleton.mp e]; exact ⟨_, h2⟩
theorem SpAt.ext {H H' : Hp} {sp gr : Addr} (h : SpAt H sp gr) (x : Ext H H') : SpAt H' sp gr := by
  obtain ⟨xs, m, t, h1, h2, h3⟩ := h.ex
  exact ⟨⟨xs, m, t, x.lst h1, x.lst h2, h3⟩, h.ne⟩
theorem SpAt.upd {H : Hp} {sp gr p : Addr} {o : HO} (h : SpAt H sp gr) (h1 : p ≠ sp) (h2 : p ≠ gr) : SpAt (upd H p o) sp gr := by
  obtain ⟨xs, m, t, h3, h4, h5⟩ := h.ex
  exact ⟨⟨xs, m, t, by rw [upd_ne h1.symm]; exact h3, by rw [upd_ne h2.symm]; exact h4, h5⟩, h.ne⟩
def spSpring (K : PySem.W.Frag) : Sp := fun vs H Q _ => ∃ (a : Addr) (ns : List Int), vs = [.ref a] ∧ SqL K H a (ns.map V.int) ∧ ns.length ≤ 63 ∧ ∀ sp gr H', Ext H H' → SpAt H' sp gr → H sp = none → H gr = none → Q (.ref sp) H'
/-! ### a number from 0 on -/
theorem fmod_bd (y : Int) {m : Nat} (h : 0 < m) : 0 ≤ y.fmod (m : Int) ∧ y.fmod (m : Int) < (m : Int) := by
  rw [Int.fmod_eq_emod_of_nonneg y (by omega)]
  exact ⟨Int.emod_nonneg _ (by omega), Int.emod_lt_of_pos _ (by omega)⟩
def spDrop (K : PySem.W.Frag) : Sp := fun vs H Q _ => ∃ (sp gr : Addr) (many : Nat), vs = [.ref sp, .int (many : Int)] ∧ SpAt H sp gr ∧ 0 < many ∧ many < 100000000 ∧ ∀ (n : Nat) H', n < many → ExtS [sp, gr] H H' → SpAt H' sp gr → Q (.int (n : Int)) H'
end
section
variable {P : Program} {w : World} {K : PySem.W.Frag} {mg : Str → Option Value} {base : Heap}
/-! ### the sack -/
def spSack (K : PySem.W.Frag) : Sp := fun vs H Q _ => ∃ (a : Addr) (ns : List Int), vs = [.ref a] ∧ SqL K H a (ns.map V.int) ∧ ns.length ≤ 63 ∧ ∀ sp gr H', Ext H H' → SpAt H' sp gr → H sp = none → H gr = none → Q (.ref sp) H'
theorem sc_law_sack : FnScope ["script", "cell", "deep", "bran"] ["script"] (defScope st__law_sack) := ⟨rfl, rfl, rfl, by decide +kernel, rfl, by decide +kernel, by decide +kernel⟩
theorem ok_law_sack {f : Addr} {fd : FuncData} (F : Fun K "_law_sack" "_law_sack" st__law_sack f fd) (B : Bl mg) : FnOk P w K mg base CX0 1 f fd ["script"] (spSack K) := by
  refine F.ok sc_law_sack (fun vs H Q E h => ?_) (fun cdv A outer s H vs Q E hr h => ?_)
  · obtain ⟨a, ns, rfl, _⟩ := h
    rfl
  · obtain ⟨a, ns, rfl, hS, hlen, k⟩ := h
    refine ⟨_, pss_cons (ps_setLc (i := 2) (own := [("cell", 1)]) (g := gName 1) rfl sc_law_sack.nd rfl rfl (sw_true rfl rfl rfl (by decide +kernel)) (pi_list (pv 0)) (blkOk_by (own := [("cell", 1)]) (N := ["script", "cell", "deep", "bran"]) (sc := defScope st__law_sack) (by decide +kernel))
        (fun _ _ _ _ _ => pg_name (i := 1) sc_law_sack.nd rfl (Or.inl rfl)) (fun _ _ _ _ _ => pts_one (pt_cmpR op_ge (pv 1) (pe_op op_pow pe_int pe_int) (nomark _))) (fun _ _ _ _ _ => pe_op op_sub (pv 1) (pe_op op_pow pe_int pe_int)))
      (pss_cons (ps_set (i := 3) sc_law_sack.nd rfl (Or.inl rfl) (pe_op op_add pe_int (pe_op op_mul pe_int (pe_callB call_len (by rfl) B.len PySem.boot_len (pa_cons (pv 0) pa_nil)))))
      (pss_cons (ps_for PassesOwn.never rfl (pi_list (pv 0)) (pg_name (i := 1) sc_law_sack.nd rfl (Or.inl rfl))
        (pss_one (ps_set (i := 3) sc_law_sack.nd rfl (Or.inl rfl) (pe_op op_mod (pe_callTy call_int1 rfl B.int (by decide +kernel) (pa_cons (pe_op op_add (pe_op op_add (pe_op op_mul (pv 3) pe_int) (pe_op op_mul (pv 1) pe_int)) pe_int) pa_nil)) (pe_op op_sub (pe_op op_pow pe_int pe_int) pe_int)))))
      (pss_one (ps_ret (pe_lst (pa_cons (pv 2) (pa_cons (pv 3) (pa_cons pe_int pa_nil)))))))), ?_⟩
    refine ⟨_, rfl, a, rfl, ⟨_, hS⟩, fun D hD => ?_⟩
    refine lc_list (K := K) (a := a) (xs := ns.map V.int) (fun i H1 => ∃ xs : List Int, xs.length ≤ i ∧ H1 = upd H D (.lst (xs.map V.int))) ⟨[], Nat.le_refl _, rfl⟩ (fun i H1 _ ⟨xs, _, e⟩ => by rw [e]; exact (Ext.new hD).sqL hS) ?_ ?_
    · rintro i x H1 hx ⟨xs, hl, rfl⟩
      obtain ⟨z, rfl⟩ : ∃ z, x = V.int z := by
        rw [List.getElem?_map] at hx
        cases e : ns[i]? with
        | none => rw [e] at hx; cases hx
        | some z => rw [e] at hx; exact ⟨z, (Option.some.inj hx).symm⟩
      have hi : i < ns.length := by
        have := (List.getElem?_eq_some_iff.mp hx).1
        rwa [List.length_map] at this
      refine ⟨rfl, _, rfl, _, _, rfl, rfl, ⟨by decide, by decide, by decide⟩, _, _, rfl, rfl, _, rfl, ?_⟩
      refine ite2 (fun _ => ?_) (fun _ => ?_)
      · refine ⟨_, rfl, _, _, rfl, rfl, ⟨by decide, by decide, by decide⟩, _, _, rfl, rfl, _, upd_same, ?_, xs ++ [z - 10 ^ Int.toNat 18], ?_, ?_⟩
        · rw [List.length_map]
          exact small1000 (by omega)
        · rw [List.length_append]
          exact Nat.add_le_add_right hl 1
        · rw [upd_upd, List.map_append]
          rfl
      · exact ⟨xs, by omega, rfl⟩
    · rintro H1 ⟨xs, hl, rfl⟩
      rw [List.length_map] at hl
      have x1 : Ext H (upd H D (.lst (xs.map V.int))) := Ext.new hD
      have hDa : (upd H D (.lst (xs.map V.int))) D = some (.lst (xs.map V.int)) := upd_same
      generalize upd H D (.lst (xs.map V.int)) = H1 at x1 hDa ⊢
      refine ⟨_, rfl, _, ns.length, rfl, .inl ⟨_, x1.sqL hS, by simp⟩, _, _, rfl, rfl, .inl ⟨by decide, by decide⟩, _, _, rfl, rfl, ?_⟩
      refine ⟨_, rfl, a, rfl, ⟨_, x1.sqL hS⟩, for_list (K := K) (a := a) (xs := ns.map V.int) (fun i σ H2 => ∃ (v : Option V) (m : Int), σ = [some (.ref a), v, some (.ref D), some (.int m)] ∧ H2 = H1 ∧ 0 ≤ m ∧ m < 2305843009213693951)
        ⟨_, _, rfl, rfl, by omega, by omega⟩ (fun i σ H2 _ ⟨_, _, _, e, _⟩ => by rw [e]; exact x1.sqL hS) ?_ ?_⟩
      · rintro i x σ H2 hx ⟨v, m, rfl, rfl, hm1, hm2⟩
        obtain ⟨z, rfl⟩ : ∃ z, x = V.int z := by
          rw [List.getElem?_map] at hx
          cases e : ns[i]? with
          | none => rw [e] at hx; cases hx
          | some z => rw [e] at hx; exact ⟨z, (Option.some.inj hx).symm⟩
        refine ⟨_, rfl, _, _, rfl, rfl, .inr ⟨by decide, by decide⟩, _, rfl, _, _, rfl, rfl, .inr ⟨by decide, by decide⟩, _, _, rfl, rfl, _, _, rfl, rfl, .inl ⟨_, rfl, ?_⟩⟩
        refine ⟨_, _, rfl, rfl, ⟨by decide, by decide, by decide⟩, _, _, rfl, rfl, ?_⟩
        refine ⟨_, 2305843009213693951, rfl, congrArg V.int (by decide), (by show (0 : Int) < 2305843009213693951; decide), some (.int z), _, rfl, rfl, Int.emod_nonneg _ (by decide), Int.emod_lt_of_pos _ (by decide)⟩
      · rintro σ H2 ⟨v, m, rfl, rfl, hm1, hm2⟩
        refine ⟨_, rfl, _, rfl, by show 3 ≤ sizeLine; decide, fun l hlf => ?_⟩
        have hnl : l ≠ D := fun e => by rw [e, hDa] at hlf; cases hlf
        exact k l D _ (x1.trans (Ext.new hlf)) ⟨⟨xs, m, 0, upd_same, by rw [upd_ne hnl.symm]; exact hDa, hm1, hm2, by omega⟩, hnl⟩ (x1.free hlf) hD
def spGrab (K : PySem.W.Frag) : Sp := fun vs H Q _ => ∃ (sp gr : Addr) (many : Nat), vs = [.ref sp, .int (many : Int)] ∧ SpAt H sp gr ∧ 0 < many ∧ many < 100000000 ∧ ∀ (n : Nat) H', n < many → ExtS [sp, gr] H H' → SpAt H' sp gr → Q (.int (n : Int)) H'
theorem sc_law_grab : FnScope ["sack", "many", "deep", "found"] ["sack", "many"] (defScope st__law_grab) := ⟨rfl, rfl, rfl, by decide +kernel, rfl, by decide +kernel, by decide +kernel⟩
theorem ok_law_grab {f : Addr} {fd : FuncData} (F : Fun K "_law_grab" "_law_grab" st__law_grab f fd) (B : Bl mg) : FnOk P w K mg base CX0 1 f fd ["sack", "many"] (spGrab K) := by
  refine F.ok sc_law_grab (fun vs H Q E h => ?_) (fun cdv A outer s H vs Q E hr h => ?_)
  · obtain ⟨sp, gr, many, rfl, _⟩ := h
    rfl
  · obtain ⟨sp, gr, many, rfl, S, hm0, hmb, k⟩ := h
    refine ⟨_, pss_cons (ps_set (i := 2) sc_law_grab.nd rfl (Or.inl rfl) (pe_ix ix_list (pv 0) pe_int (fun _ _ => rfl)))
      (pss_cons (ps_while PassesOwn.never (PW.pt (pw_and (pt_cmpR (op_neD hr.units) (pv 2) (pe_lst pa_nil) (nomark _)) (pw_and1 (pt_cmpR op_eq (pe_ix ix_list (pv 2) pe_int (fun _ _ => rfl)) pe_int (nomark _)))))
        (pss_one (ps_expr (pe_bm PySem.F.plainAttrs_list PySem.F.slot_list_pop PySem.F.type_list_pop mt_popAt (pv 2) (pa_cons pe_int pa_nil)))))
      (pss_cons (ps_if (pt_cmpR (op_neD hr.units) (pv 2) (pe_lst pa_nil) (nomark _))
        (pss_cons (ps_set (i := 3) sc_law_grab.nd rfl (Or.inl rfl) (pe_op op_modN (pe_callTy call_int1 rfl B.int (by decide +kernel) (pa_cons (pe_ix ix_list (pv 2) pe_int (fun _ _ => rfl)) pa_nil)) (pv 1)))
        (pss_cons (ps_asg (pe_op op_fdivN (pe_ix ix_list (pv 2) pe_int (fun _ _ => rfl)) (pv 1)) (pg_sub (pv 2) pe_int set_list))
        (pss_one (ps_ret (pv 3))))) pss_nil)
      (pss_cons (ps_asg (pe_op op_add (pe_ix ix_list (pv 0) pe_int (fun _ _ => rfl)) pe_int) (pg_sub (pv 0) pe_int set_list))
      (pss_cons (ps_asg (pe_op op_mod (pe_callTy call_int1 rfl B.int (by decide +kernel) (pa_cons (pe_op op_add (pe_op op_mul (pe_ix ix_list (pv 0) pe_int (fun _ _ => rfl)) pe_int) (pe_op op_mul (pe_ix ix_list (pv 0) pe_int (fun _ _ => rfl)) pe_int)) pa_nil)) (pe_op op_sub (pe_op op_pow pe_int pe_int) pe_int)) (pg_sub (pv 0) pe_int set_list))
      (pss_one (ps_ret (pe_op op_modN (pe_op op_fdiv (pe_op op_mod (pe_callTy call_int1 rfl B.int (by decide +kernel) (pa_cons (pe_op op_add (pe_op op_mul (pe_ix ix_list (pv 0) pe_int (fun _ _ => rfl)) (pe_ix ix_list (pv 0) pe_int (fun _ _ => rfl))) (pe_op op_fdiv (pe_ix ix_list (pv 0) pe_int (fun _ _ => rfl)) pe_int)) pa_nil)) (pe_op op_add (pe_op op_pow pe_int pe_int) pe_int)) pe_int) (pv 1)))))))), ?_⟩
    obtain ⟨xs, m, t, h1, h2, hm1, hm2, hl⟩ := S.ex
    refine ⟨_, rfl, sp, _, _, _, rfl, rfl, SqL.of h1, atI_nat (j := 0) rfl, ?_⟩
    dsimp only [gName, tSeq]
    refine via (fun σ H2 => σ = [some (.ref sp), some (.int (many : Int)), some (.ref gr), none] ∧ SpAt H2 sp gr ∧ ExtS [sp, gr] H H2) ?_ (fun nx hnx => ?_)
    · rintro σ H2 ⟨rfl, S2, x2⟩
      obtain ⟨ys, m2, t2, g1, g2, g3, g4, g5⟩ := S2.ex
      refine ⟨_, rfl, Nat.zero_le _, fun l hl0 => ?_⟩
      have hng : gr ≠ l := ne_of_none g2 hl0
      have x3 : ExtS [sp, gr] H2 (upd H2 l (.lst [])) := .new hl0
      refine ⟨.list (ys.map .int), .list [], .lst (SqL.of (by rw [upd_ne hng]; exact g2)) (dpAll_of_ints ys), .lst (SqL.of upd_same) .nil, (Sh.ints (n := 0) ys).shaped (by decide), (Sh.lst (n := 0) (fun d hd => by cases hd)).shaped (by decide), _, rfl, ?_⟩
      rw [eqv_nil]
      have S3 : SpAt (upd H2 l (.lst [])) sp gr := S2.upd (ne_of_none g1 hl0).symm hng.symm
      have g1' : (upd H2 l (.lst [])) sp = some (.lst [.ref gr, .int m2, .int t2]) := by rw [upd_ne (ne_of_none g1 hl0)]; exact g1
      have g2' : (upd H2 l (.lst [])) gr = some (.lst (ys.map V.int)) := by rw [upd_ne hng]; exact g2
      have x23 := x2.trans x3
      generalize upd H2 l (.lst []) = H3 at x23 S3 g1' g2' ⊢
      have w1 : sp ∈ [sp, gr] ∧ ∃ xs, H sp = some (.lst xs) := S.ls (by simp)
      have w2 : gr ∈ [sp, gr] ∧ ∃ xs, H gr = some (.lst xs) := S.ls (by simp)
      cases ys with
      | cons y r =>
        refine iteT ?_
        refine ⟨_, rfl, gr, _, _, _, rfl, rfl, SqL.of g2', atI_nat (j := 0) rfl, .inl ⟨_, rfl, _, rfl, _, _, rfl, rfl, by omega, ?_⟩⟩
        refine ⟨_, rfl, gr, _, _, _, rfl, rfl, SqL.of g2', atI_nat (j := 0) rfl, _, rfl, _, _, rfl, rfl, ⟨by omega, by omega⟩, _, rfl, gr, _, _, 0, rfl, rfl, g2', by simp [ixN], _, rfl, ?_⟩
        obtain ⟨hf1, hf2⟩ := fmod_bd y hm0
        have e : y.fmod (many : Int) = (((y.fmod (many : Int)).toNat : Nat) : Int) := by omega
        have hlt : (y.fmod (many : Int)).toNat < many := by omega
        dsimp only [List.set]
        show Q (V.int (y.fmod (many : Int))) _
        rw [e]
        refine k _ _ hlt (x23.write (.inr w2)) ⟨⟨y.fdiv many :: r, m2, t2, by rw [upd_ne S.ne]; exact g1', upd_same, g3, g4, g5⟩, S.ne⟩
      | nil =>
        refine iteF ?_
        refine ⟨_, rfl, sp, _, _, _, rfl, rfl, SqL.of g1', atI_nat (j := 2) rfl, _, _, rfl, rfl, _, rfl, sp, _, _, 2, rfl, rfl, g1', rfl, ?_⟩
        dsimp only [List.set]
        refine ⟨_, rfl, sp, _, _, _, rfl, rfl, SqL.of upd_same, atI_nat (j := 1) rfl, _, _, rfl, rfl, .inr ⟨by decide, by decide⟩, _, rfl, sp, _, _, _, rfl, rfl, SqL.of upd_same, atI_nat (j := 2) rfl, _, _, rfl, rfl, .inr ⟨by decide, by decide⟩, _, _, rfl, rfl, .inl ⟨_, rfl, _, _, rfl, rfl, ⟨by decide, by decide, by decide⟩, _, _, rfl, rfl, _, 2305843009213693951, rfl, congrArg V.int (by decide), (by show (0 : Int) < 2305843009213693951; decide), _, rfl, sp, _, _, 1, rfl, rfl, upd_same, rfl, ?_⟩⟩
        dsimp only [List.set]
        rw [upd_upd]
        have hq1 := Int.emod_nonneg (m2 * 6364136223846793005 + (t2 + 1) * 1442695040888963407) (show (2305843009213693951 : Int) ≠ 0 by decide)
        have hq2 := Int.emod_lt_of_pos (m2 * 6364136223846793005 + (t2 + 1) * 1442695040888963407) (show (0 : Int) < 2305843009213693951 by decide)
        generalize (m2 * 6364136223846793005 + (t2 + 1) * 1442695040888963407) % 2305843009213693951 = q at hq1 hq2 ⊢
        refine ⟨_, rfl, sp, _, _, _, rfl, rfl, SqL.of upd_same, atI_nat (j := 1) rfl, _, rfl, sp, _, _, _, rfl, rfl, SqL.of upd_same, atI_nat (j := 1) rfl, _, _, rfl, rfl, .inl ⟨by omega, by omega⟩, _, rfl, sp, _, _, _, rfl, rfl, SqL.of upd_same, atI_nat (j := 1) rfl, _, _, rfl, rfl, ⟨by decide, by decide⟩, _, _, rfl, rfl, .inl ⟨_, rfl, _, _, rfl, rfl, ⟨by decide, by decide, by decide⟩, _, _, rfl, rfl, _, 576460752303423619, rfl, congrArg V.int (by decide), (by show (0 : Int) < 576460752303423619; decide), _, _, rfl, rfl, ⟨by decide, by decide⟩, _, rfl, _, _, rfl, rfl, by omega, ?_⟩⟩
        generalize (q * q + q / 1024) % 576460752303423619 / 16384 = y
        obtain ⟨hf1, hf2⟩ := fmod_bd y hm0
        have e : y.fmod (many : Int) = (((y.fmod (many : Int)).toNat : Nat) : Int) := by omega
        have hlt : (y.fmod (many : Int)).toNat < many := by omega
        show Q (V.int (y.fmod (many : Int))) _
        rw [e]
        refine k _ _ hlt (x23.write (.inr w1)) ⟨⟨[], q, t2 + 1, upd_same, by rw [upd_ne S.ne.symm]; exact g2', hq1, hq2, by decide⟩, S.ne⟩
    · refine while_by (fun σ H2 => σ = [some (.ref sp), some (.int (many : Int)), some (.ref gr), none] ∧ SpAt H2 sp gr ∧ ExtS [sp, gr] H H2)
        (fun σ H2 => match H2 gr with
          | some (.lst ys) => ys.length
          | _ => 0) ⟨rfl, S, .refl _ H⟩ ?_ ?_
      · rintro σ H2 ⟨rfl, S2, x2⟩
        obtain ⟨ys, m2, t2, g1, g2, g3, g4, g5⟩ := S2.ex
        refine ⟨_, rfl, Nat.zero_le _, fun l hl0 => ?_⟩
        have hng : gr ≠ l := ne_of_none g2 hl0
        have x3 : ExtS [sp, gr] H2 (upd H2 l (.lst [])) := .new hl0
        refine ⟨.list (ys.map .int), .list [], .lst (SqL.of (by rw [upd_ne hng]; exact g2)) (dpAll_of_ints ys), .lst (SqL.of upd_same) .nil, (Sh.ints (n := 0) ys).shaped (by decide), (Sh.lst (n := 0) (fun d hd => by cases hd)).shaped (by decide), _, rfl, ?_⟩
        rw [eqv_nil]
        have S3 : SpAt (upd H2 l (.lst [])) sp gr := S2.upd (ne_of_none g1 hl0).symm hng.symm
        have g1' : (upd H2 l (.lst [])) sp = some (.lst [.ref gr, .int m2, .int t2]) := by rw [upd_ne (ne_of_none g1 hl0)]; exact g1
        have g2' : (upd H2 l (.lst [])) gr = some (.lst (ys.map V.int)) := by rw [upd_ne hng]; exact g2
        have x23 := x2.trans x3
        generalize upd H2 l (.lst []) = H3 at x23 S3 g1' g2' ⊢
        cases ys with
        | nil => exact iteF (hnx _ _ ⟨rfl, S3, x23⟩)
        | cons y r =>
          refine iteT ?_
          refine ⟨_, rfl, gr, _, _, _, rfl, rfl, SqL.of g2', atI_nat (j := 0) rfl, rfl, _, rfl, ?_⟩
          refine ite2 (fun _ => ?_) (fun _ => ?_)
          · refine ⟨_, rfl, .inl ⟨rfl, _, SqL.of g2'⟩, gr, _, 0, 0, _, rfl, rfl, g2', by decide, by decide, by simp [seqIndex?], rfl, ⟨rfl, ⟨⟨r, m2, t2, by rw [upd_ne S.ne]; exact g1', upd_same, g3, g4, by have := g5; simp at this; omega⟩, S.ne⟩, x23.write (.inr (S.ls (by simp)))⟩, ?_⟩
            rw [g2, upd_same]
            simp
          · exact hnx _ _ ⟨rfl, S3, x23⟩
      · rintro σ H2 Q1 Q2 hq ⟨v, e, hl, g⟩
        refine ⟨v, e, hl, fun l hl0 => ?_⟩
        obtain ⟨d, d2, a1, a2, a3, a4, kk, a5, q⟩ := g l hl0
        refine ⟨d, d2, a1, a2, a3, a4, kk, a5, ?_⟩
        cases kk with
        | false => exact hq _ _ q
        | true =>
          obtain ⟨b1, b2, b3, b4, b5, b6, b7, b8, b9, b10, b11, b12, b13, b14⟩ := q
          exact ⟨b1, b2, b3, b4, b5, b6, b7, b8, b9, b10, b11, b12, b13, hq _ _ b14⟩
end
section
variable {P : Program} {w : World} {K : PySem.W.Frag} {mg : Str → Option Value} {base : Heap}
/-! ### one thing out of a list -/
def spPick (K : PySem.W.Frag) : Sp := fun vs H Q _ => ∃ (sp gr l : Addr) (xs : List V), vs = [.ref sp, .ref l] ∧ SpAt H sp gr ∧ H l = some (.lst xs) ∧ l ∉ [sp, gr] ∧ xs ≠ [] ∧ xs.length ≤ 1000 ∧ ∀ x ∈ xs, ∀ H', ExtS [sp, gr] H H' → SpAt H' sp gr → Q x H'
theorem sc_law_pick : FnScope ["sack", "things"] ["sack", "things"] (defScope st__law_pick) := ⟨rfl, rfl, rfl, by decide +kernel, rfl, by decide +kernel, by decide +kernel⟩
theorem ok_law_pick {f : Addr} {fd : FuncData} (F : Fun K "_law_pick" "_law_pick" st__law_pick f fd) (B : Bl mg) (c1 : Cal P w K mg base 1 "_law_grab" ["sack", "many"] (spGrab K)) : FnOk P w K mg base CX0 2 f fd ["sack", "things"] (spPick K) := by
  refine F.ok sc_law_pick (fun vs H Q E h => ?_) (fun cdv A outer s H vs Q E hr h => ?_)
  · obtain ⟨sp, gr, l, xs, rfl, _⟩ := h
    rfl
  · obtain ⟨sp, gr, l, xs, rfl, S, hl, hn, hne, hlen, k⟩ := h
    refine ⟨_, pss_one (ps_ret (pe_ix ix_list (pv 1) (pe_cal c1 (hr.mono (by decide)) rfl (pa_cons (pv 0) (pa_cons (pe_callB call_len (by rfl) B.len PySem.boot_len (pa_cons (pv 1) pa_nil)) pa_nil))) (fun _ _ => rfl))), ?_⟩
    have h0 : 0 < xs.length := List.length_pos_iff.mpr hne
    refine ⟨_, rfl, _, rfl, _, rfl, _, xs.length, rfl, .inl ⟨_, SqL.of hl, rfl⟩, sp, gr, xs.length, rfl, S, h0, by omega, fun n H1 hn1 x1 S1 => ?_⟩
    exact ⟨l, xs, n, xs[n], rfl, rfl, SqL.of (x1.lst hn hl), atI_nat (List.getElem?_eq_getElem hn1), k _ (List.getElem_mem hn1) H1 x1 S1⟩
end
end Wd

set_option Elab.async false
set_option linter.all false
set_option maxRecDepth 100000
set_option maxHeartbeats 4000000
/-! My: places reached one by one. -/
namespace Mk
theorem nodup_le : ∀ (n : Nat) (l : List Nat), l.Nodup → (∀ x ∈ l, x < n) → l.length ≤ n
  | 0, [], _, _ => Nat.le_refl _
  | 0, x :: _, _, h => by have := h x List.mem_cons_self; omega
  | n + 1, l, nd, h => by
    by_cases e : n ∈ l
    · have ih := nodup_le n (l.erase n) (nd.erase n) fun x hx => by
        have h1 := (List.Nodup.mem_erase_iff nd).mp hx
        have h2 := h x h1.2
        have := h1.1
        omega
      rw [List.length_erase_of_mem e] at ih
      omega
    · have ih := nodup_le n l nd fun x hx => by
        have h2 := h x hx
        have : x ≠ n := fun z => e (z ▸ hx)
        omega
      omega
/-- places reached from p within ps, the first at_ of them gone through -/
structure Rw (bs : List (Nat × Nat)) (ps : List Nat) (p : Nat) (fnd : List Nat) (at_ : Nat) : Prop where
  nd : fnd.Nodup
  sound : ∀ x, x ∈ fnd → Conn bs (· ∈ ps) p x
  here : p ∈ fnd
  done : ∀ j x, j < at_ → fnd[j]? = some x → ∀ y, y ∈ ps → adj bs x y = true → y ∈ fnd
  le : at_ ≤ fnd.length
theorem Rw.begin {bs : List (Nat × Nat)} {ps : List Nat} {p : Nat} (h : p ∈ ps) : Rw bs ps p [p] 0 :=
  ⟨by simp, fun x hx => by rw [List.mem_singleton.mp hx]; exact .refl h, by simp, fun j x hj => by omega, by simp⟩
theorem Rw.turn {bs : List (Nat × Nat)} {n : Nat} {ps fnd : List Nat} {p at_ x : Nat} (w : Rw bs ps p fnd at_) (hx : fnd[at_]? = some x) (hb : Bs n bs) :
    Rw bs ps p (fnd ++ ((List.range n).filter fun k => adj bs k x).filter fun k => decide (k ∈ ps) && decide (k ∉ fnd)) (at_ + 1) := by
  have hlt : at_ < fnd.length := (List.getElem?_eq_some_iff.mp hx).1
  have hmem : ∀ y, y ∈ (((List.range n).filter fun k => adj bs k x).filter fun k => decide (k ∈ ps) && decide (k ∉ fnd)) ↔ y < n ∧ adj bs y x = true ∧ y ∈ ps ∧ y ∉ fnd := fun y => by
    rw [List.mem_filter, List.mem_filter, List.mem_range, Bool.and_eq_true, decide_eq_true_eq, decide_eq_true_eq]
    constructor
    · rintro ⟨⟨a, b⟩, c, d⟩; exact ⟨a, b, c, d⟩
    · rintro ⟨a, b, c, d⟩; exact ⟨⟨a, b⟩, c, d⟩
  refine ⟨?_, fun y hy => ?_, List.mem_append_left _ w.here, fun j z hj hz y hy ha => ?_, by rw [List.length_append]; omega⟩
  · refine List.nodup_append.mpr ⟨w.nd, (List.nodup_range.filter _).filter _, fun a ha b hb2 e => ?_⟩
    subst e
    exact ((hmem a).mp hb2).2.2.2 ha
  · rcases List.mem_append.mp hy with h | h
    · exact w.sound y h
    · obtain ⟨_, a, b, _⟩ := (hmem y).mp h
      exact .step (w.sound x (List.mem_of_getElem? hx)) (by rw [adj_comm]; exact a) b
  · by_cases hin : y ∈ fnd
    · exact List.mem_append_left _ hin
    · rw [List.getElem?_append_left (by omega)] at hz
      by_cases e : j = at_
      · subst e
        rw [hx] at hz
        cases hz
        exact List.mem_append_right _ ((hmem y).mpr ⟨(adj_lt hb ha).2.1, by rw [adj_comm]; exact ha, hy, hin⟩)
      · exact absurd (w.done j z (by omega) hz y hy ha) hin
theorem Rw.fin {bs : List (Nat × Nat)} {ps fnd : List Nat} {p at_ : Nat} (w : Rw bs ps p fnd at_) (h : fnd.length ≤ at_) (x : Nat) : x ∈ fnd ↔ Conn bs (· ∈ ps) p x := by
  refine ⟨w.sound x, fun c => ?_⟩
  refine (c.closed (T := (· ∈ fnd)) w.here fun y z hy hz a => ?_).2
  obtain ⟨j, hj, e⟩ := List.getElem_of_mem hy
  exact w.done j y (by omega) (by rw [List.getElem?_eq_getElem hj, e]) z hz a
/-- the pieces gone through so far, and what is left -/
structure Pw (bs : List (Nat × Nat)) (ps left : List Nat) (rs : List (List Nat)) : Prop where
  asc : left.Pairwise (· < ·)
  sub : ∀ x, x ∈ left → x ∈ ps
  clo : ∀ x, x ∈ left → ∀ y, Conn bs (· ∈ ps) x y → y ∈ left
  pcs : ∀ qs, Pcs bs (mask left) qs → Pcs bs (mask ps) (rs.map mask ++ qs)
  good : ∀ r, r ∈ rs → r.Pairwise (· < ·) ∧ ∀ x, x ∈ r → x ∈ ps
  len : rs.length + left.length ≤ ps.length
theorem Pw.begin {bs : List (Nat × Nat)} {ps : List Nat} (h : ps.Pairwise (· < ·)) : Pw bs ps ps [] :=
  ⟨h, fun _ h => h, fun x _ y c => c.snd, fun qs h => h, fun r hr => (nomatch hr), by simp⟩
theorem Pw.fin {bs : List (Nat × Nat)} {ps : List Nat} {rs : List (List Nat)} (w : Pw bs ps [] rs) : Pcs bs (mask ps) (rs.map mask) := by
  have := w.pcs [] .nil
  rwa [List.append_nil] at this
theorem Pw.turn {bs : List (Nat × Nat)} {ps tl r : List Nat} {rs : List (List Nat)} {x0 : Nat} (w : Pw bs ps (x0 :: tl) rs) (ha : r.Pairwise (· < ·)) (hr : ∀ x, x ∈ r ↔ Conn bs (· ∈ ps) x0 x) :
    Pw bs ps ((x0 :: tl).filter fun x => decide (x ∉ r)) (rs ++ [r]) ∧ ((x0 :: tl).filter fun x => decide (x ∉ r)).length < (x0 :: tl).length := by
  have h0 : x0 ∈ x0 :: tl := List.mem_cons_self
  have h0r : x0 ∈ r := (hr x0).mpr (.refl (w.sub _ h0))
  have hsub : ∀ x, x ∈ r → x ∈ x0 :: tl := fun x hx => w.clo x0 h0 x ((hr x).mp hx)
  have hasc := w.asc
  have hrch : Rch bs (mask (x0 :: tl)) (2 ^ x0) (mask r) := fun q => by
    rw [bit_mask ha, decide_eq_true_eq, hr]
    constructor
    · intro c
      refine ⟨x0, by simp [Nat.testBit_two_pow], ?_⟩
      have c2 := (c.closed (T := (· ∈ x0 :: tl)) h0 fun x y hx hy a => w.clo x hx y (.one (w.sub x hx) hy a)).1
      exact c2.mono fun x hx => by
        show (mask (x0 :: tl)).testBit x = true
        rw [bit_mask hasc]
        exact decide_eq_true hx
    · rintro ⟨p, hp, c⟩
      rw [Nat.testBit_two_pow, decide_eq_true_eq] at hp
      subst hp
      exact c.mono fun x hx => by
        have hx : (mask (x0 :: tl)).testBit x = true := hx
        rw [bit_mask hasc, decide_eq_true_eq] at hx
        exact w.sub x hx
  have hfa : ((x0 :: tl).filter fun x => decide (x ∉ r)).Pairwise (· < ·) := hasc.filter _
  have hmem : ∀ x, x ∈ ((x0 :: tl).filter fun x => decide (x ∉ r)) ↔ x ∈ x0 :: tl ∧ x ∉ r := fun x => by
    rw [List.mem_filter, decide_eq_true_eq]
  have hmask : mask ((x0 :: tl).filter fun x => decide (x ∉ r)) = mask (x0 :: tl) ^^^ mask r := eq_of_bits fun q => by
    rw [xor_sub (fun q hq => by
      rw [bit_mask ha, decide_eq_true_eq] at hq
      rw [bit_mask hasc]
      exact decide_eq_true (hsub q hq)), bit_mask hfa, bit_mask hasc, bit_mask ha, decide_eq_true_eq, decide_eq_true_eq, decide_eq_false_iff_not]
    exact hmem q
  have hlt : ((x0 :: tl).filter fun x => decide (x ∉ r)).length < (x0 :: tl).length := by
    rw [List.filter_cons_of_neg (by simp [h0r])]
    have := List.length_filter_le (fun x => decide (x ∉ r)) tl
    rw [List.length_cons]
    omega
  refine ⟨⟨hfa, fun x hx => w.sub x ((hmem x).mp hx).1, fun x hx y c => ?_, fun qs hq => ?_, fun s hs => ?_, ?_⟩, hlt⟩
  · obtain ⟨h1, h2⟩ := (hmem x).mp hx
    refine (hmem y).mpr ⟨w.clo x h1 y c, fun hy => h2 ?_⟩
    exact (hr x).mpr (((hr y).mp hy).trans c.symm)
  · rw [hmask] at hq
    rw [List.map_append, List.append_assoc]
    refine w.pcs _ (.cons ?_ (fun x hx => ?_) hrch hq)
    · rw [bit_mask hasc]
      exact decide_eq_true h0
    · rw [bit_mask hasc]
      refine decide_eq_false fun hm => ?_
      rcases List.mem_cons.mp hm with e | e
      · omega
      · have := List.rel_of_pairwise_cons hasc e
        omega
  · rcases List.mem_append.mp hs with e | e
    · exact w.good s e
    · rw [List.mem_singleton.mp e]
      exact ⟨ha, fun x hx => w.sub x (hsub x hx)⟩
  · have := w.len
    rw [List.length_append, List.length_singleton]
    omega
end Mk

set_option Elab.async false
set_option linter.all false
set_option maxRecDepth 100000
set_option maxHeartbeats 4000000
namespace Wd
open PySem PySem.Spec PyProof.Rows L2 Bx Gx











































section
variable {P : Program} {w : World} {K : PySem.W.Frag} {mg : Str → Option Value} {base : Heap}
/-! ### a drawn sequence -/
theorem rgV_nat (n : Nat) : rgV 0 (n : Int) = vsN (List.range n) := by
  unfold rgV vsN
  simp
theorem vsN_len (l : List Nat) : (vsN l).length = l.length := List.length_map ..
theorem vsN_at {l : List Nat} {n : Nat} (h : n < l.length) : (vsN l)[n]? = some (.int ((l[n] : Nat) : Int)) := by
  rw [List.getElem?_map, List.getElem?_eq_getElem h]
  rfl
theorem erase_map {α β : Type} (f : α → β) : ∀ (l : List α) (n : Nat), (l.map f).eraseIdx n = (l.eraseIdx n).map f
  | [], _ => rfl
  | _ :: _, 0 => rfl
  | x :: l, n + 1 => by
    show f x :: (l.map f).eraseIdx n = f x :: (l.eraseIdx n).map f
    rw [erase_map f l n]
theorem erase_perm : ∀ {l : List Nat} {n : Nat} (h : n < l.length), (l[n] :: l.eraseIdx n).Perm l
  | _ :: _, 0, _ => .refl _
  | x :: l, n + 1, h => by
    have h2 : n < l.length := by simpa using h
    have ih := erase_perm (l := l) (n := n) h2
    exact (List.Perm.swap x (l[n]'h2) (l.eraseIdx n)).trans (ih.cons x)
def spOrder (K : PySem.W.Frag) : Sp := fun vs H Q _ => ∃ (sp gr : Addr) (many : Nat), vs = [.ref sp, .int (many : Int)] ∧ SpAt H sp gr ∧ many ≤ 100 ∧ ∀ (p : Addr) (os : List Nat) H', os.Perm (List.range many) → ExtS [sp, gr] H H' → SpAt H' sp gr → H p = none → H' p = some (.tup (vsN os)) → Q (.ref p) H'
end
section
variable {P : Program} {w : World} {K : PySem.W.Frag} {mg : Str → Option Value} {base : Heap}
/-! ### the neighbours of a place -/
theorem filt_snoc (f : Nat → Bool) (l : List Nat) (i : Nat) : (l ++ [i]).filter f = l.filter f ++ (if f i = true then [i] else []) := by
  rw [List.filter_append]
  congr 1
  by_cases z : f i = true
  · rw [if_pos z, List.filter_cons_of_pos z]; rfl
  · rw [if_neg z, List.filter_cons_of_neg z]; rfl
def nearL (n : Nat) (bs : List (Nat × Nat)) (p : Nat) : List Nat := (List.range n).filter fun k => Mk.adj bs k p
theorem sh_pair (n : Nat) (a b : Int) : Bx.Sh (n + 2) (.tuple [.int a, .int b]) := .tup fun d hd => by
  rcases List.mem_cons.mp hd with e | e
  · rw [e]; exact .int _ _
  · rw [List.mem_singleton.mp e]; exact .int _ _
theorem sh_bord (n : Nat) (bs : List (Nat × Nat)) : Bx.Sh (n + 3) (bordD bs) := .tup fun d hd => by
  obtain ⟨b, _, rfl⟩ := List.mem_map.mp hd
  exact sh_pair _ _ _
theorem any_adj (bs : List (Nat × Nat)) (k p : Nat) :
    ((bs.map fun (b : Nat × Nat) => PyData.tuple [.int (b.1 : Int), .int (b.2 : Int)]).any fun z => PyData.eqv z (.tuple [.int (if (p : Int) < (k : Int) then (p : Int) else (k : Int)), .int (if (p : Int) > (k : Int) then (p : Int) else (k : Int))])) = Mk.adj bs k p := by
  unfold Mk.adj
  have e1 : (if (p : Int) < (k : Int) then (p : Int) else (k : Int)) = ((min k p : Nat) : Int) := by
    split <;> omega
  have e2 : (if (p : Int) > (k : Int) then (p : Int) else (k : Int)) = ((max k p : Nat) : Int) := by
    split <;> omega
  rw [e1, e2, List.any_map]
  induction bs with
  | nil => rfl
  | cons b r ih =>
    rw [List.any_cons, ih, List.contains_cons]
    congr 1
    obtain ⟨x, y⟩ := b
    rw [Bool.eq_iff_iff]
    simp [PyData.eqv, PyData.eqvAll]
    omega
def spNear (K : PySem.W.Frag) : Sp := fun vs H Q _ => ∃ (l : V) (fs : List Int) (bs : List (Nat × Nat)) (p : Nat), vs = [l, .int (p : Int)] ∧ Dp K H l (landD fs bs) ∧ fs.length ≤ 12 ∧ ∀ q H', Ext H H' → H q = none → H' q = some (.lst (vsN (nearL fs.length bs p))) → Q (.ref q) H'
theorem dp_land {H : Hp} {l : V} {fs : List Int} {bs : List (Nat × Nat)} (h : Dp K H l (landD fs bs)) : ∃ (a af : Addr) (vb : V), l = .ref a ∧ SqT K H a [.ref af, vb] ∧ SqT K H af (fs.map V.int) ∧ Dp K H vb (bordD bs) := by
  obtain ⟨a, xs, rfl, h1, h2⟩ := dp_tup h
  cases h2 with
  | cons hf h3 =>
    cases h3 with
    | cons hb h4 =>
      cases h4
      obtain ⟨af, rfl, h5⟩ := dp_ints hf
      exact ⟨a, af, _, rfl, h1, h5, hb⟩
end
section
variable {P : Program} {w : World} {K : PySem.W.Frag} {mg : Str → Option Value} {base : Heap}
/-! ### all pairs of places -/
def pairsTo (n : Nat) : List (Nat × Nat) := (List.range n).flatMap fun j => (List.range j).map fun i => (i, j)
theorem pairsTo_succ (n : Nat) : pairsTo (n + 1) = pairsTo n ++ (List.range n).map fun i => (i, n) := by
  unfold pairsTo
  rw [List.range_succ, List.flatMap_append]
  simp
theorem pairsTo_mem {n : Nat} {b : Nat × Nat} (h : b ∈ pairsTo n) : b.1 < b.2 ∧ b.2 < n := by
  unfold pairsTo at h
  obtain ⟨j, hj, h2⟩ := List.mem_flatMap.mp h
  obtain ⟨i, hi, rfl⟩ := List.mem_map.mp h2
  exact ⟨List.mem_range.mp hi, List.mem_range.mp hj⟩
theorem pairsTo_len : ∀ n, (pairsTo n).length ≤ n * n
  | 0 => Nat.le_refl _
  | n + 1 => by
    rw [pairsTo_succ, List.length_append, List.length_map, List.length_range]
    have := pairsTo_len n
    rw [Nat.succ_mul, Nat.mul_succ]
    omega
abbrev pairD (b : Nat × Nat) : PyData := .tuple [.int (b.1 : Int), .int (b.2 : Int)]
def spPairs (K : PySem.W.Frag) : Sp := fun vs H Q _ => ∃ (n : Nat), vs = [.int (n : Int)] ∧ n ≤ 12 ∧ ∀ q xs H', Ext H H' → H q = none → H' q = some (.lst xs) → DpAll K H' xs ((pairsTo n).map pairD) → Q (.ref q) H'
abbrev prN : List Str := ["many", "found", "j", "i"]
theorem sc_law_pairs : FnScope prN ["many"] (defScope st__law_pairs) := ⟨rfl, rfl, rfl, by decide +kernel, rfl, by decide +kernel, by decide +kernel⟩
theorem noL_pairs (l : List (Nat × Nat)) : noLs (l.map pairD) = true := noLs_map pairD (fun _ => rfl) l
theorem ok_law_pairs {f : Addr} {fd : FuncData} (F : Fun K "_law_pairs" "_law_pairs" st__law_pairs f fd) (B : Bl mg) : FnOk P w K mg base CX0 1 f fd ["many"] (spPairs K) := by
  refine F.ok sc_law_pairs (fun vs H Q E h => ?_) (fun cdv A outer s H vs Q E hr h => ?_)
  · obtain ⟨n, rfl, _⟩ := h
    rfl
  · obtain ⟨n, rfl, hn, k⟩ := h
    have nd := sc_law_pairs.nd
    refine ⟨_, pss_cons (ps_set (i := 1) nd rfl (Or.inl rfl) (pe_lst pa_nil))
      (pss_cons (ps_for PassesOwn.never rfl (pi_range1 rfl B.range (pa_cons (pv 0) pa_nil)) (pg_name (i := 2) nd rfl (Or.inr rfl))
        (pss_one (ps_set (i := 1) nd rfl (Or.inl rfl) (pe_op op_cat (pv 1) (pe_lc (own := [("i", 3)]) (g := gName 3) (by rfl) nd (pi_range1 rfl B.range (pa_cons (pv 2) pa_nil)) (blkOk_by (own := [("i", 3)]) (N := prN) (sc := defScope st__law_pairs) (by decide +kernel))
          (fun _ _ _ _ _ => pg_name (i := 3) nd rfl (Or.inl rfl)) (fun _ _ _ _ _ => pts_nil) (fun _ _ _ _ _ => pe_tup (pa_cons (pv 3) (pa_cons (pv 2) pa_nil))))))))
      (pss_one (ps_ret (pv 1)))), ?_⟩
    refine ⟨Nat.zero_le _, fun l hl => ?_⟩
    have x1 : Ext H (upd H l (.lst [])) := .new hl
    have hl1 : (upd H l (.lst [])) l = some (.lst []) := upd_same
    dsimp only [gName, tSeq, List.set]
    generalize upd H l (.lst []) = H1 at x1 hl1 ⊢
    refine ⟨_, rfl, _, rfl, by omega, by omega, for_range (lo := 0) (n := (n : Int).toNat) (fun j σ H2 => ∃ (o2 o3 : Option V) (p : Addr) (xs : List V), σ = [some (.int (n : Int)), some (.ref p), o2, o3] ∧ Ext H H2 ∧ H p = none ∧ H2 p = some (.lst xs) ∧ DpAll K H2 xs ((pairsTo j).map pairD))
      ⟨_, _, l, [], rfl, x1, hl, hl1, .nil⟩ ?_ ?_⟩
    · rintro j σ H2 hj ⟨o2, o3, p, xs, rfl, x2, hp0, hp, hd⟩
      rw [Int.toNat_natCast] at hj
      rw [Int.zero_add]
      refine ⟨_, rfl, _, rfl, _, rfl, by omega, by omega, fun D hD => ?_⟩
      refine lc_range (lo := 0) (n := (j : Int).toNat) (fun i H3 => ∃ as : List V, H3 D = some (.lst as) ∧ DpAll K H3 as (((List.range i).map fun i => (i, j)).map pairD) ∧ Ext H2 H3) ⟨[], upd_same, .nil, .new hD⟩ (fun i H3 hi ⟨as, e3, hA, x3⟩ => ?_) (fun H3 ⟨as, e3, hA, x3⟩ => ?_)
      · rw [Int.toNat_natCast] at hi
        have hal := dpAll_len hA
        rw [List.length_map, List.length_map, List.length_range] at hal
        refine ⟨rfl, ?_⟩
        dsimp only [tYes]
        rw [if_pos rfl, Int.zero_add]
        refine ⟨_, rfl, _, rfl, by show 2 ≤ sizeLine; decide, fun t ht => ⟨as, (Ext.new ht).lst e3, small1000 (by omega), as ++ [.ref t], upd_same, ?_, (x3.trans (.new ht)).write hD⟩⟩
        rw [List.range_succ, List.map_append, List.map_append]
        have htD : t ≠ D := (ne_of_none e3 ht).symm
        have xd : ExtS [D] H3 (upd (upd H3 t (.tup [.int (i : Int), .int (j : Int)])) D (.lst (as ++ [.ref t]))) := (ExtS.new ht).write (.inr ⟨by simp, _, e3⟩)
        refine dpAll_app (dpAll_extS xd (noL_pairs _) hA) (.cons ?_ .nil)
        exact .tup (SqT.of (by rw [upd_ne htD]; exact upd_same)) (.cons (.int _) (.cons (.int _) .nil))
      · rw [Int.toNat_natCast] at hA
        have hal := dpAll_len hA
        have hdl := dpAll_len hd
        rw [List.length_map, List.length_map, List.length_range] at hal
        rw [List.length_map] at hdl
        have hpl := pairsTo_len j
        have hjj : j * j ≤ 12 * 12 := Nat.mul_le_mul (by omega) (by omega)
        refine ⟨p, D, xs, as, rfl, rfl, x3.lst hp, e3, by have : 1000 ≤ sizeLine := by decide
                                                          omega, fun q hq => ⟨_, _, q, xs ++ as, rfl, (x2.trans x3).trans (.new hq), (x2.trans x3).free hq, upd_same, ?_⟩⟩
        rw [pairsTo_succ, List.map_append]
        exact dpAll_app (dpAll_ext (x3.trans (.new hq)) hd) (dpAll_ext (.new hq) hA)
    · rintro σ H2 ⟨o2, o3, p, xs, rfl, x2, hp0, hp, hd⟩
      rw [Int.toNat_natCast] at hd
      exact ⟨_, rfl, k p xs H2 x2 hp0 hp hd⟩
end
end Wd

set_option Elab.async false
set_option linter.all false
set_option maxRecDepth 100000
set_option maxHeartbeats 4000000
namespace Wd
open PySem PySem.Spec PyProof.Rows L2 Bx Gx











































section
variable {P : Program} {w : World} {K : PySem.W.Frag} {mg : Str → Option Value} {base : Heap}
/-! ### a drawn lot -/
theorem noL_bord (bs : List (Nat × Nat)) : noL (bordD bs) = true := by
  show noLs _ = true
  exact noLs_map _ (fun _ => rfl) bs
theorem noL_land (fs : List Int) (bs : List (Nat × Nat)) : noL (landD fs bs) = true := by
  show (noL (.tuple (fs.map .int)) && (noL (bordD bs) && true)) = true
  rw [noL_bord]
  show (noLs _ && true) = true
  rw [noLs_map _ (fun _ => rfl) fs]
  rfl
theorem asc_snoc {l : List Nat} {i : Nat} (h : l.Pairwise (· < ·)) (h2 : ∀ x ∈ l, x < i) : (l ++ [i]).Pairwise (· < ·) := by
  rw [List.pairwise_append]
  refine ⟨h, by simp, fun a ha b hb => ?_⟩
  rw [List.mem_singleton.mp hb]
  exact h2 a ha
theorem asc_len {l : List Nat} {n : Nat} (h : l.Pairwise (· < ·)) (h2 : ∀ x ∈ l, x < n) : l.length ≤ n := by
  have e := Mk.bits_mask h h2
  rw [← e]
  exact Mk.bits_len _ _
theorem SpAt.notin {H : Hp} {sp gr p : Addr} (h : SpAt H sp gr) (hp : H p = none) : p ∉ [sp, gr] := fun e => by
  obtain ⟨_, xs, e2⟩ := h.ls e
  rw [hp] at e2
  cases e2
def spSome (K : PySem.W.Frag) : Sp := fun vs H Q _ => ∃ (sp gr : Addr) (l : V) (fs : List Int) (bs : List (Nat × Nat)), vs = [.ref sp, l] ∧ SpAt H sp gr ∧ Dp K H l (landD fs bs) ∧ 0 < fs.length ∧ fs.length ≤ 12 ∧
  ∀ (q : Addr) (ps : List Nat) H', ExtS [sp, gr] H H' → SpAt H' sp gr → H q = none → H' q = some (.tup (vsN ps)) → ps ≠ [] → ps.Pairwise (· < ·) → (∀ x ∈ ps, x < fs.length) → Q (.ref q) H'
end
end Wd

set_option Elab.async false
set_option linter.all false
set_option maxRecDepth 100000
set_option maxHeartbeats 4000000
namespace Mk
theorem sub_le : ∀ {l m : List Nat}, l.Nodup → (∀ x, x ∈ l → x ∈ m) → l.length ≤ m.length
  | [], m, _, _ => Nat.zero_le _
  | x :: l, m, nd, h => by
    rw [List.nodup_cons] at nd
    have hx := h x List.mem_cons_self
    have ih := sub_le (l := l) (m := m.erase x) nd.2 fun y hy => by
      have hne : y ≠ x := fun e => nd.1 (e ▸ hy)
      exact (List.mem_erase_of_ne hne).mpr (h y (List.mem_cons_of_mem _ hy))
    rw [List.length_erase_of_mem hx] at ih
    have := List.length_pos_of_mem hx
    rw [List.length_cons]
    omega
theorem filt_sum (f : Nat → Bool) : ∀ l : List Nat, l.length = (l.filter f).length + (l.filter fun x => !f x).length
  | [] => rfl
  | x :: l => by
    have ih := filt_sum f l
    by_cases h : f x = true
    · rw [List.filter_cons_of_pos h, List.filter_cons_of_neg (by simp [h]), List.length_cons, List.length_cons]
      omega
    · rw [List.filter_cons_of_neg h, List.filter_cons_of_pos (by simp [h]), List.length_cons, List.length_cons]
      omega
/-- what hangs together is one piece, and back -/
theorem pcs_one {bs : List (Nat × Nat)} {ps : List Nat} {p : Nat} (ha : ps.Pairwise (· < ·)) (hp : p ∈ ps) (hc : ∀ x, x ∈ ps → Conn bs (· ∈ ps) p x) : Pcs bs (mask ps) [mask ps] := by
  cases ps with
  | nil => cases hp
  | cons q r =>
    have hb := bit_mask ha
    refine .cons (q := q) (by rw [hb]; simp) (fun x hx => ?_) (fun x => ?_) (by rw [Nat.xor_self]; exact .nil)
    · rw [hb]
      refine decide_eq_false fun hm => ?_
      rcases List.mem_cons.mp hm with e | e
      · omega
      · have := List.rel_of_pairwise_cons ha e
        omega
    · rw [hb, decide_eq_true_eq]
      have mono : ∀ {a b : Nat}, Conn bs (· ∈ q :: r) a b → Conn bs (In (mask (q :: r))) a b := fun c => c.mono fun y hy => by
        show (mask (q :: r)).testBit y = true
        rw [hb]
        exact decide_eq_true hy
      constructor
      · intro hx
        refine ⟨q, by simp [Nat.testBit_two_pow], mono ?_⟩
        exact (hc q List.mem_cons_self).symm.trans (hc x hx)
      · rintro ⟨_, _, c⟩
        have := c.snd
        have h2 : (mask (q :: r)).testBit x = true := this
        rwa [hb, decide_eq_true_eq] at h2
theorem Pcs.none {bs : List (Nat × Nat)} {m : Nat} {l : List Nat} (h : Pcs bs m l) (e : l = []) : m = 0 := by
  cases h with
  | nil => rfl
  | cons _ _ _ _ => cases e
theorem Pcs.len1 {bs : List (Nat × Nat)} {m : Nat} {l : List Nat} (h : Pcs bs m l) (e : l.length = 1) : ∃ q, Rch bs m (2 ^ q) m := by
  cases h with
  | nil => cases e
  | @cons _ q p l2 hq hlow hR hP =>
    have e2 : l2 = [] := List.length_eq_zero_iff.mp (by rw [List.length_cons] at e; omega)
    have h0 := hP.none e2
    have : m = p := by
      have h1 : (m ^^^ p) ^^^ p = m := by rw [Nat.xor_assoc, Nat.xor_self, Nat.xor_zero]
      rw [h0, Nat.zero_xor] at h1
      exact h1.symm
    subst this
    exact ⟨q, hR⟩
theorem one_pcs {bs : List (Nat × Nat)} {ps : List Nat} (ha : ps.Pairwise (· < ·)) {l : List Nat} (hl : Pcs bs (mask ps) l) (h : l.length = 1) {p x : Nat} (hp : p ∈ ps) (hx : x ∈ ps) : Conn bs (· ∈ ps) p x := by
  obtain ⟨q, hR⟩ := hl.len1 h
  have hb := bit_mask ha
  have key : ∀ y, y ∈ ps → Conn bs (· ∈ ps) q y := fun y hy => by
    obtain ⟨z, hz, c⟩ := (hR y).mp (by rw [hb]; exact decide_eq_true hy)
    rw [Nat.testBit_two_pow, decide_eq_true_eq] at hz
    subst hz
    exact c.mono fun w hw => by
      have hw : (mask ps).testBit w = true := hw
      rwa [hb, decide_eq_true_eq] at hw
  exact (key p hp).symm.trans (key x hx)
/-- every part that hangs together can be grown place by place -/
theorem grown {bs : List (Nat × Nat)} {ps : List Nat} {p : Nat} (hp : p ∈ ps) (nd : ps.Nodup) (hc : ∀ x, x ∈ ps → Conn bs (· ∈ ps) p x) : ∀ k, k < ps.length → ∃ l : List Nat, l.length = k + 1 ∧ l.Nodup ∧ (∀ x, x ∈ l → x ∈ ps) ∧ p ∈ l ∧ ∀ x, x ∈ l → Conn bs (· ∈ l) p x
  | 0, _ => ⟨[p], rfl, by simp, fun x hx => by rw [List.mem_singleton.mp hx]; exact hp, by simp, fun x hx => by rw [List.mem_singleton.mp hx]; exact .refl (by simp)⟩
  | k + 1, hk => by
    obtain ⟨l, h1, h2, h3, h4, h5⟩ := grown hp nd hc k (by omega)
    -- a place beside it
    have hex : ∃ y z, y ∈ l ∧ z ∈ ps ∧ z ∉ l ∧ adj bs y z = true := by
      refine Classical.byContradiction fun hno => ?_
      have hall : ∀ x, x ∈ ps → x ∈ l := fun x hx => ((hc x hx).closed (T := (· ∈ l)) h4 fun y z hy hz a => Classical.byContradiction fun hz2 => hno ⟨y, z, hy, hz, hz2, a⟩).2
      have := sub_le nd hall
      omega
    obtain ⟨y, z, hy, hz, hzl, a⟩ := hex
    have hm : ∀ x, x ∈ l → x ∈ z :: l := fun x hx => List.mem_cons_of_mem _ hx
    refine ⟨z :: l, by rw [List.length_cons, h1], List.nodup_cons.mpr ⟨hzl, h2⟩, fun x hx => ?_, hm p h4, fun x hx => ?_⟩
    · rcases List.mem_cons.mp hx with e | e
      · rw [e]; exact hz
      · exact h3 x e
    · rcases List.mem_cons.mp hx with e | e
      · rw [e]
        exact .step ((h5 y hy).mono hm) a List.mem_cons_self
      · exact (h5 x e).mono hm
theorem mask_less {ps : List Nat} (ha : ps.Pairwise (· < ·)) {p : Nat} (hp : p ∈ ps) : mask (ps.filter fun x => decide (x ≠ p)) = mask ps ^^^ 2 ^ p := eq_of_bits fun q => by
  rw [bit_mask (ha.filter _), Nat.testBit_xor, bit_mask ha, Nat.testBit_two_pow, decide_eq_true_eq, List.mem_filter, decide_eq_true_eq]
  by_cases h1 : q ∈ ps <;> by_cases h2 : p = q
  · simp [h1, h2]
  · simp [h1, h2]; exact fun z => h2 z.symm
  · exact absurd (h2 ▸ hp) h1
  · simp [h1, h2]
/-- a lot that hangs together has a place, another than p, without which it hangs together -/
theorem other {bs : List (Nat × Nat)} {ps : List Nat} {p : Nat} (ha : ps.Pairwise (· < ·)) (hp : p ∈ ps) (hc : ∀ x, x ∈ ps → Conn bs (· ∈ ps) p x) (h2 : 2 ≤ ps.length) : ∃ v, v ∈ ps ∧ v ≠ p ∧ ∃ l, Pcs bs (mask ps ^^^ 2 ^ v) l ∧ l.length = 1 := by
  have nd : ps.Nodup := ha.imp fun h e => by omega
  obtain ⟨l, h1, hnd, h3, h4, h5⟩ := grown hp nd hc (ps.length - 2) (by omega)
  have hex : ∃ v, v ∈ ps ∧ v ∉ l := Classical.byContradiction fun hno => by
    have hall : ∀ x, x ∈ ps → x ∈ l := fun x hx => Classical.byContradiction fun h => hno ⟨x, hx, h⟩
    have := sub_le nd hall
    omega
  obtain ⟨v, hv, hvl⟩ := hex
  have hvp : v ≠ p := fun e => hvl (e ▸ h4)
  -- the others are l
  have hmem : ∀ x, x ∈ ps.filter (fun x => decide (x ≠ v)) → x ∈ l := fun x hx => Classical.byContradiction fun hxl => by
    rw [List.mem_filter, decide_eq_true_eq] at hx
    have nd3 : (x :: v :: l).Nodup := List.nodup_cons.mpr ⟨fun h => by
      rcases List.mem_cons.mp h with e | e
      · exact hx.2 e
      · exact hxl e, List.nodup_cons.mpr ⟨hvl, hnd⟩⟩
    have hall : ∀ y, y ∈ x :: v :: l → y ∈ ps := fun y hy => by
      rcases List.mem_cons.mp hy with e | e
      · rw [e]; exact hx.1
      · rcases List.mem_cons.mp e with e | e
        · rw [e]; exact hv
        · exact h3 y e
    have := sub_le nd3 hall
    simp only [List.length_cons] at this
    omega
  have hm2 : ∀ x, x ∈ l → x ∈ ps.filter (fun x => decide (x ≠ v)) := fun x hx => by
    rw [List.mem_filter, decide_eq_true_eq]
    exact ⟨h3 x hx, fun e => hvl (e ▸ hx)⟩
  refine ⟨v, hv, hvp, [mask (ps.filter fun x => decide (x ≠ v))], ?_, rfl⟩
  rw [← mask_less ha hv]
  exact pcs_one (ha.filter _) (hm2 p h4) fun x hx => (h5 x (hmem x hx)).mono hm2
theorem two_le {l : List Nat} {u v : Nat} (hu : u ∈ l) (hv : v ∈ l) (h : u ≠ v) : 2 ≤ l.length := by
  match l, hu, hv with
  | [], hu, _ => cases hu
  | [x], hu, hv => exact absurd ((List.mem_singleton.mp hu).trans (List.mem_singleton.mp hv).symm) h
  | _ :: _ :: _, _, _ => simp
/-- of a lot of two places at least that hangs together, two places at least are no cut places -/
theorem two_free {bs : List (Nat × Nat)} {ps l : List Nat} (ha : ps.Pairwise (· < ·)) (hl : Pcs bs (mask ps) l) (h1 : l.length = 1) (h2 : 2 ≤ ps.length) :
    2 ≤ ps.length - (ps.filter fun p => decide ((pcs bs (mask ps)).length < (pcs bs (mask ps ^^^ 2 ^ p)).length)).length := by
  have hn : ∃ p, p ∈ ps := by
    cases ps with
    | nil => cases h2
    | cons p r => exact ⟨p, List.mem_cons_self⟩
  obtain ⟨p, hp⟩ := hn
  obtain ⟨u, hu, _, lu, hlu, hlu1⟩ := other ha hp (fun x hx => one_pcs ha hl h1 hp hx) h2
  obtain ⟨v, hv, hvu, lv, hlv, hlv1⟩ := other ha hu (fun x hx => one_pcs ha hl h1 hu hx) h2
  have hsum := filt_sum (fun p => decide ((pcs bs (mask ps)).length < (pcs bs (mask ps ^^^ 2 ^ p)).length)) ps
  have m1 : ∀ w lw, w ∈ ps → Pcs bs (mask ps ^^^ 2 ^ w) lw → lw.length = 1 → w ∈ ps.filter (fun p => !decide ((pcs bs (mask ps)).length < (pcs bs (mask ps ^^^ 2 ^ p)).length)) := fun w lw hw hlw e => by
    rw [List.mem_filter]
    refine ⟨hw, ?_⟩
    rw [hl.eq, hlw.eq, h1, e]
    rfl
  have := two_le (m1 u lu hu hlu hlu1) (m1 v lv hv hlv hlv1) (fun e => hvu e.symm)
  omega
end Mk

set_option Elab.async false
set_option linter.all false
set_option maxRecDepth 100000
set_option maxHeartbeats 4000000
/-! My3: what pieces are: apart, all, each of them hanging together, by their least places. -/
namespace Mk
structure Parted (bs : List (Nat × Nat)) (m : Nat) (qs : List Nat) : Prop where
  all : ∀ x, m.testBit x = true ↔ ∃ q, q ∈ qs ∧ q.testBit x = true
  apart : qs.Pairwise fun a b => ∀ x, a.testBit x = true → b.testBit x = true → False
  asc : qs.Pairwise fun a b => ∃ x, a.testBit x = true ∧ ∀ y, b.testBit y = true → x < y
  one : ∀ q, q ∈ qs → ∃ x, q.testBit x = true ∧ ∀ y, q.testBit y = true → Conn bs (In q) x y
theorem Pcs.parted {bs : List (Nat × Nat)} {m : Nat} {qs : List Nat} (h : Pcs bs m qs) : Parted bs m qs := by
  induction h with
  | nil => exact ⟨fun x => by simp, .nil, .nil, fun q hq => nomatch hq⟩
  | @cons m q p l hq hlow hR hP ih =>
    have hsub := hR.sub
    have hqp : p.testBit q = true := (hR q).mpr ⟨q, by simp [Nat.testBit_two_pow], .refl hq⟩
    have hx := fun z => xor_sub hsub z
    have hin : ∀ r, r ∈ l → ∀ z, r.testBit z = true → m.testBit z = true ∧ p.testBit z = false := fun r hr z hz => (hx z).mp ((ih.all z).mpr ⟨r, hr, hz⟩)
    refine ⟨fun x => ?_, ?_, ?_, fun r hr => ?_⟩
    · constructor
      · intro hm
        cases hp : p.testBit x with
        | true => exact ⟨p, List.mem_cons_self, hp⟩
        | false =>
          obtain ⟨r, hr, hrx⟩ := (ih.all x).mp ((hx x).mpr ⟨hm, hp⟩)
          exact ⟨r, List.mem_cons_of_mem _ hr, hrx⟩
      · rintro ⟨r, hr, hrx⟩
        rcases List.mem_cons.mp hr with e | e
        · rw [e] at hrx; exact hsub x hrx
        · exact (hin r e x hrx).1
    · rw [List.pairwise_cons]
      refine ⟨fun r hr z h1 h2 => ?_, ih.apart⟩
      have := (hin r hr z h2).2
      rw [h1] at this
      cases this
    · rw [List.pairwise_cons]
      refine ⟨fun r hr => ⟨q, hqp, fun y hy => ?_⟩, ih.asc⟩
      obtain ⟨h1, h2⟩ := hin r hr y hy
      rcases Nat.lt_trichotomy q y with e | e | e
      · exact e
      · rw [← e, hqp] at h2; cases h2
      · rw [hlow y e] at h1; cases h1
    · rcases List.mem_cons.mp hr with e | e
      · subst e
        refine ⟨q, hqp, fun y hy => ?_⟩
        obtain ⟨z, hz, c⟩ := (hR y).mp hy
        rw [Nat.testBit_two_pow, decide_eq_true_eq] at hz
        subst hz
        refine (c.closed (T := In r) hqp fun a b ha hb2 ad => ?_).1
        obtain ⟨z, hz, c2⟩ := (hR a).mp ha
        exact (hR b).mpr ⟨z, hz, .step c2 ad hb2⟩
      · exact ih.one r e
/-- more borders, what hangs together still does -/
theorem Conn.more {bs bs' : List (Nat × Nat)} {S : Nat → Prop} {p q : Nat} (k : ∀ b, b ∈ bs → b ∈ bs') (h : Conn bs S p q) : Conn bs' S p q := by
  induction h with
  | refl h => exact .refl h
  | step _ a h2 ih =>
    refine .step ih ?_ h2
    unfold adj at a ⊢
    rw [List.contains_iff_mem] at a ⊢
    exact k _ a
end Mk

set_option Elab.async false
set_option linter.all false
set_option maxRecDepth 100000
set_option maxHeartbeats 4000000
/-! Tu: sets of tuples of ints as large as a table of 128 slots holds them (76): the library's own rule ends below 64. Hashes of the keys are unlike: a search asks one entry. -/
namespace Tu
open PySem PySem.Spec PyProof.Rows L2
section
variable {P : Program} {w : World} {A : Around} {E : Value → Shared → Prop} {s : Shared}
/-- a set of tuples on a heap, the tuples' objects aside -/
structure Lies (P : Program) (w : World) (h : Heap) (a : Addr) (L : List (Addr × List Int)) (es : Array (Int × Value)) (ep : Nat) (t : SetTable) : Prop where
  obj : ∃ o, h.get? a = some o ∧ o.ExactSet ∧ o.data = .set es ep t
  row : es.toList = rowsOf P w L
  tbl : TabOk t (L.map fun p => thash P w p.2)
  one : (L.map (·.2)).Nodup
  pln : t.plain = true
  ord : w.params.followText "set-order" = true ∨ t.led = true
  gap : L.length * 5 < t.mask * 3
theorem rows_num {L : List (Addr × List Int)} {es : Array (Int × Value)} (e : es.toList = rowsOf P w L) : es.size = L.length := by
  rw [← Array.length_toList, e, rowsOf, List.length_map]
theorem rows_ent {L : List (Addr × List Int)} {es : Array (Int × Value)} (e : es.toList = rowsOf P w L) {i : Nat} {p : Addr × List Int} (h : L[i]? = some p) : es[i]? = some (thash P w p.2, Value.ref p.1) := by
  rw [← Array.getElem?_toList, e, rowsOf, List.getElem?_map, h]
  rfl
variable {a : Addr} {L : List (Addr × List Int)} {es : Array (Int × Value)} {ep : Nat} {t : SetTable}
theorem fits_of (hz : t.place.size = es.size) (hd : t.dummies = #[]) (hm : es.size ≤ t.mask) : t.fits es.size = true := by
  unfold SetTable.fits SetTable.fill
  rw [hd, hz]
  simp [hm]
theorem Lies.plc (Z : Lies P w s.heap a L es ep t) : t.place.size = es.size := by
  rw [Z.tbl.sz, List.length_map, rows_num Z.row]
theorem Lies.num (Z : Lies P w s.heap a L es ep t) : L.length ≤ 76 := by
  have g := Z.gap
  rcases Z.tbl.mok with e | e | e <;> rw [e] at g <;> omega
theorem Lies.fit (Z : Lies P w s.heap a L es ep t) : t.fits es.size = true :=
  fits_of Z.plc Z.tbl.dm (by have := Z.gap; have := rows_num Z.row; omega)

/-! ### a search -/
theorem seek (Z : Lies P w s.heap a L es ep t) (tt : ∀ p ∈ L, IsT P w s.heap p.2 p.1) {x : Addr} {k : List Int} (hx : IsT P w s.heap k x) (hu : A.units < cLine)
    (inj : ∀ p ∈ L, thash P w p.2 = thash P w k → p.2 = k) {Q : SetFound → Shared → Prop} (yes : k ∈ L.map (·.2) → Q (.there none) s)
    (no : ∀ K, k ∉ L.map (·.2) → way t.mask (thash P w k) K ∉ t.place.toList → (∀ c, c < K → way t.mask (thash P w k) c ∈ t.place.toList) → Q (.free (way t.mask (thash P w k) K) false) s) :
    wpAny (model P w) A (setSearch a (.ref x) (thash P w k) true) Q E s := by
  obtain ⟨o, ho, hex, hd⟩ := Z.obj
  obtain ⟨K, f1, f2, f3⟩ := Z.tbl.first (by have := Z.gap; rw [List.length_map]; omega) (thash P w k)
  unfold setSearch
  show wpAny (model P w) A (setSearchFrom a (.ref x) (thash P w k) true (99999 + 1) none) Q E s
  rw [setSearchFrom_succ]
  refine wpAny_bind (wpAny_setState_of ho hd Z.fit ?_)
  dsimp only
  refine wp_if_neg (by unfold SetTable.gaveWay; rw [mask_odd Z.tbl.mok]; decide) ?_
  try refine wpAny_bind (wpAny_pure ?_)
  have word := go_spec t Z.tbl.ris Z.tbl.dm (fun i => (es[i]?.map (·.1)).getD 0) (thash P w k) (10 * SetTable.turns t.mask) K (t.probeStart (thash P w k)) rfl f1 f3 f2
  rcases word with ⟨q, i, hq, hi, hh, -, pr⟩ | ⟨hn, pr⟩
  · have pr2 : t.probe (fun i => (es[i]?.map (·.1)).getD 0) (thash P w k) ((none : Option SetTable.Probe).getD (t.probeStart (thash P w k))) = _ := pr
    rw [pr2]
    dsimp only
    have hil : i < L.length := by
      have z := (List.getElem?_eq_some_iff.mp hi).1
      rw [Array.length_toList, Z.plc, rows_num Z.row] at z
      exact z
    have hL := List.getElem?_eq_getElem hil
    have hmem := List.getElem_mem hil
    generalize L[i] = p at hL hmem
    have hent := rows_ent Z.row hL
    have hkey : p.2 = k := inj p hmem (by
      simp only [hent] at hh
      exact hh)
    have last : wpAny (model P w) A (searchRest a (.ref x) (thash P w k) true 99999 es t (nth t.mask (t.probeStart (thash P w k)) q).j i (nth t.mask (t.probeStart (thash P w k)) (q + 1))) Q E s := by
      unfold searchRest
      rw [hent]
      refine wpAny_bind (wpAny_holding (wpAny_eqBool_tuple hu (tt p hmem) hx ?_))
      refine wpAny_bind (wpAny_setState_of ho hd Z.fit ?_)
      exact wp_if_pos (by simp [hkey]) (wpAny_pure (yes (List.mem_map.mpr ⟨p, hmem, hkey⟩)))
    cases hl : t.led with
    | true =>
      refine wp_if_neg (by simp) ?_
      try refine wpAny_bind (wpAny_pure ?_)
      exact last
    | false =>
      refine wp_if_pos (by simp) (wpAny_bind (seen_tup hx (fun y hy => ?_) ?_))
      · obtain ⟨e, he, rfl⟩ := List.mem_map.mp hy
        have h1 : e ∈ es.toList := by
          have z : e ∈ es ∧ e.1 = thash P w k := by simpa using he
          simpa using z.1
        rw [Z.row] at h1
        obtain ⟨p2, hp2, rfl⟩ := List.mem_map.mp h1
        exact ⟨p2.2, p2.1, rfl, tt p2 hp2⟩
      · refine wp_if_neg Bool.false_ne_true ?_
        try refine wpAny_bind (wpAny_pure ?_)
        exact last
  · have pr2 : t.probe (fun i => (es[i]?.map (·.1)).getD 0) (thash P w k) ((none : Option SetTable.Probe).getD (t.probeStart (thash P w k))) = _ := pr
    rw [pr2]
    refine wpAny_pure (no K (fun hm => ?_) f2 f3)
    obtain ⟨p, hp, hk⟩ := List.mem_map.mp hm
    obtain ⟨i, hi, rfl⟩ := List.getElem_of_mem hp
    have hL := List.getElem?_eq_getElem hi
    have hil : i < t.place.toList.length := by
      rw [Array.length_toList, Z.plc, rows_num Z.row]
      exact hi
    have hj := List.getElem?_eq_getElem hil
    obtain ⟨c, hc, e⟩ := Z.tbl.before f2 (h := thash P w k) (by rw [List.getElem?_map, hL, ← hk]; rfl) hj
    refine hn c i hc (by rw [hj, ← e]; rfl) ?_
    simp only [rows_ent Z.row hL]
    exact congrArg (thash P w) hk

/-! ### a larger table -/
theorem regrow {o : Obj} (ho : s.heap.get? a = some o) (hex : o.ExactSet) (hd : o.data = .set es ep t) (hr : es.toList = rowsOf P w L) (hz : t.place.size = es.size) (hdm : t.dummies = #[]) (hm : es.size ≤ t.mask)
    (nd : (L.map (·.2)).Nodup) (hp : t.plain = true) (hl : w.params.followText "set-order" = true ∨ t.led = true) {want M : Nat} (hw : SetTable.sizeAbove want = M + 1) (hM : MaskOk M) (hg : L.length * 5 < M * 3) {Q : Unit → Shared → Prop}
    (hQ : ∀ h' L' es' ep' t', Heap.SameBut a s.heap h' → Lies P w h' a L' es' ep' t' → L'.Perm L → Q () { s with heap := h' }) : wpAny (model P w) A (setRelay a want) Q E s := by
  have hn := rows_num hr
  have hM2 : M ≤ 127 := by rcases hM with e | e | e <;> omega
  obtain ⟨t', order, e1, e2, e3, e4, e5, e6, -⟩ := relaid_ok t (hs := es.map (·.1)) (wanted := want) (by rw [hw]; rfl) hM (by rw [Array.size_map, hn]; omega)
  rw [Array.size_map, hn] at e2
  obtain ⟨N, r1, r2, r3⟩ := order_rows L es order hr e2
  rw [← r3] at e3
  have hs2 : (order.filterMap (es[·]?)).size = es.size := by rw [rows_num r1, r2.length_eq, hn]
  rw [setRelay_eq]
  refine wpAny_bind (wpAny_setState_of ho hd (fits_of hz hdm hm) ?_)
  dsimp only
  refine wp_if_neg (by rw [hw, sizeLine_eq]; omega) ?_
  try refine wpAny_bind (wpAny_pure ?_)
  rw [e1]
  dsimp only
  refine wpAny_bind (wp_if_neg (by rw [hs2]; simp) ?_)
  try refine wpAny_bind (wpAny_pure ?_)
  refine wpAny_pure (wpAny_storeSet_of ho hd ?_ (by rw [hs2, hn, sizeLine_eq]; omega))
  refine hQ _ N (order.filterMap (es[·]?)) (ep + 1) t' (Heap.SameBut.update ..) ⟨⟨_, store_at ho hd, ⟨hex.1, hex.2.1, hex.2.2⟩, rfl⟩, r1, e3, (r2.map (·.2)).nodup_iff.mpr nd, by rw [e6]; exact hp, by rw [e5]; exact hl, ?_⟩ r2
  rw [r2.length_eq, e4]
  exact hg

/-! ### one more -/
theorem put_in (Z : Lies P w s.heap a L es ep t) (tt : ∀ p ∈ L, IsT P w s.heap p.2 p.1) {x : Addr} {k : List Int} (hx : IsT P w s.heap k x) (hu : A.units < cLine)
    (inj : ∀ p ∈ L, thash P w p.2 = thash P w k → p.2 = k) (few : k ∉ L.map (·.2) → L.length < 76) {Q : Bool → Shared → Prop}
    (old : k ∈ L.map (·.2) → Q false s) (new : k ∉ L.map (·.2) → ∀ h' N es' ep' t', Heap.SameBut a s.heap h' → Lies P w h' a N es' ep' t' → N.Perm ((x, k) :: L) → Q true { s with heap := h' }) :
    wpAny (model P w) A (setAddHashed a (.ref x) (thash P w k)) Q E s := by
  obtain ⟨o, ho, hex, hd⟩ := Z.obj
  have hn := rows_num Z.row
  unfold setAddHashed
  refine wpAny_holding ?_
  show wpAny (model P w) A (setAddHashedIn a (.ref x) (thash P w k) (99999 + 1)) Q E s
  rw [setAddHashedIn_succ]
  refine wpAny_bind (wpAny_setState_of ho hd Z.fit ?_)
  dsimp only
  refine wp_if_neg (by simp [byScan, Value.scannable]) ?_
  try refine wpAny_bind (wpAny_pure ?_)
  refine wpAny_bind (seek Z tt hx hu inj (fun h => wpAny_pure (old h)) fun K hk n1 n2 => ?_)
  have few := few hk
  have put := Z.tbl.put n1 n2
  generalize way t.mask (thash P w k) K = at_ at put ⊢
  dsimp only
  refine wpAny_bind (wpAny_setState_of ho hd Z.fit ?_)
  dsimp only
  obtain ⟨u1, u2, u3, u4, u5, u6, -, -, u9⟩ := put
  have pl : (t.put at_).1.plain = true := by rw [u6]; exact Z.pln
  have od : w.params.followText "set-order" = true ∨ (t.put at_).1.led = true := by rw [u5]; exact Z.ord
  have h1 : (SetTable.insertAt es (SetTable.below t.place at_) (thash P w k, Value.ref x)).toList = rowsOf P w (L.take (SetTable.below t.place at_) ++ (x, k) :: L.drop (SetTable.below t.place at_)) := by
    rw [SetTable.toList_insertAt, rows_put, Z.row]
  have h2 := put_perm L (SetTable.below t.place at_) (x, k)
  have h3 : (L.map fun p => thash P w p.2).take (SetTable.below t.place at_) ++ thash P w k :: (L.map fun p => thash P w p.2).drop (SetTable.below t.place at_) = (L.take (SetTable.below t.place at_) ++ (x, k) :: L.drop (SetTable.below t.place at_)).map fun p => thash P w p.2 := by
    simp [List.map_take, List.map_drop]
  rw [h3] at u3
  clear h3
  rw [List.length_map] at u9
  generalize t.put at_ = pt at u1 u3 u4 u5 u6 u9 pl od ⊢
  obtain ⟨t1, b⟩ := pt
  dsimp only at u1 u3 u4 u5 u6 u9 pl od ⊢
  subst u1
  generalize SetTable.insertAt es (SetTable.below t.place at_) (thash P w k, Value.ref x) = es1 at h1 ⊢
  generalize L.take (SetTable.below t.place at_) ++ (x, k) :: L.drop (SetTable.below t.place at_) = N at h1 h2 u3
  have hN : N.length = L.length + 1 := h2.length_eq
  have he1 : es1.size = L.length + 1 := by rw [rows_num h1, hN]
  have nd : (N.map (·.2)).Nodup := by
    rw [(h2.map (·.2)).nodup_iff]
    exact List.nodup_cons.mpr ⟨hk, Z.one⟩
  first
    | (refine wpAny_bind ?_; refine wp_if_pos pl ?_; refine hashBy_tup hx ?_)
    | refine wp_if_pos pl (wpAny_bind (hashBy_tup hx ?_))
  simp only [if_true]
  refine wpAny_bind (wpAny_storeSet_of ho hd ?_ (by rw [he1, sizeLine_eq]; omega))
  have sb : Heap.SameBut a s.heap (s.heap.update a (Obj.putSet es1 t1)) := Heap.SameBut.update ..
  have ho1 := store_at (es' := es1) (t' := t1) ho hd
  generalize s.heap.update a (Obj.putSet es1 t1) = g1 at sb ho1 ⊢
  have gap := Z.gap
  cases hf : t1.tooFull with
  | false =>
    first
      | refine wp_if_neg (by simp) ?_
      | (refine wpAny_bind ?_; refine wp_if_neg (by simp) ?_; refine wpAny_pure ?_)
    refine wpAny_pure (new hk g1 N es1 (ep + 1) t1 sb ⟨⟨_, ho1, ⟨hex.1, hex.2.1, hex.2.2⟩, rfl⟩, h1, u3, nd, pl, od, ?_⟩ h2)
    unfold SetTable.tooFull at hf
    rw [decide_eq_false_iff_not, u9] at hf
    omega
  | true =>
    unfold SetTable.tooFull at hf
    rw [decide_eq_true_eq, u9, u4] at hf
    have two : (t.mask = 7 ∧ L.length = 4) ∨ (t.mask = 31 ∧ L.length = 18) := by
      rcases Z.tbl.mok with e | e | e
      · exact .inl ⟨e, by omega⟩
      · exact .inr ⟨e, by omega⟩
      · omega
    have hz1 : t1.place.size = es1.size := by rw [u3.sz, List.length_map, hN, he1]
    have grow : ∃ M, SetTable.sizeAbove (SetTable.grown (es.size + 1)) = M + 1 ∧ MaskOk M ∧ N.length * 5 < M * 3 := by
      rw [hn, hN]
      rcases two with ⟨_, e⟩ | ⟨_, e⟩ <;> rw [e]
      · exact ⟨31, size_20, .inr (.inl rfl), by decide⟩
      · exact ⟨127, size_76, .inr (.inr rfl), by decide⟩
    obtain ⟨M, g2, g3, g4⟩ := grow
    have go : wpAny (model P w) A (setRelay a (SetTable.grown (es.size + 1))) (fun _ s' => wpAny (model P w) A (pure true) Q E s') E { s with heap := g1 } :=
      regrow (s := { s with heap := g1 }) ho1 ⟨hex.1, hex.2.1, hex.2.2⟩ rfl h1 hz1 u3.dm (by rw [he1, u4]; rcases two with ⟨e, e2⟩ | ⟨e, e2⟩ <;> omega) nd pl od g2 g3 g4 fun h' N' es' ep' t' sb2 Z2 pm =>
        wpAny_pure (new hk h' N' es' ep' t' (sb.trans sb2) Z2 (pm.trans h2))
    first
      | (refine wpAny_bind ?_; refine wp_if_pos (by simp) ?_; exact go)
      | (refine wp_if_pos (by simp) ?_; refine wpAny_bind ?_; exact go)
end
end Tu

set_option Elab.async false
set_option linter.all false
set_option maxRecDepth 100000
set_option maxHeartbeats 4000000
/-! Tu2: set(xs) of a list of tuples, sorted of it. -/
namespace Tu
open PySem PySem.Spec PyProof.Rows L2
/-- the keys that may come: not too many, of unlike hashes -/
structure Dom (P : Program) (w : World) (D : List (List Int)) : Prop where
  few : D.length ≤ 76
  inj : ∀ k, k ∈ D → ∀ m, m ∈ D → thash P w k = thash P w m → k = m
theorem len_sub {α : Type} [DecidableEq α] : ∀ {l D : List α}, l.Nodup → (∀ x, x ∈ l → x ∈ D) → l.length ≤ D.length
  | [], _, _, _ => Nat.zero_le _
  | x :: l, D, n, h => by
    have n' := List.nodup_cons.mp n
    have hx := h x List.mem_cons_self
    have q := len_sub (D := D.erase x) n'.2 fun y hy => (List.mem_erase_of_ne (fun e => n'.1 (by rw [← e]; exact hy))).mpr (h y (List.mem_cons_of_mem _ hy))
    rw [List.length_erase_of_mem hx] at q
    have := List.length_pos_of_mem hx
    rw [List.length_cons]
    omega
section
variable {P : Program} {w : World} {A : Around} {E : Value → Shared → Prop} {s : Shared}
theorem Lies.on {h h' : Heap} {a : Addr} {L : List (Addr × List Int)} {es : Array (Int × Value)} {ep : Nat} {t : SetTable} (Z : Lies P w h a L es ep t) (k : ∀ o, h.get? a = some o → h'.get? a = some o) : Lies P w h' a L es ep t :=
  ⟨let ⟨o, h1, h2⟩ := Z.obj; ⟨o, k o h1, h2⟩, Z.row, Z.tbl, Z.one, Z.pln, Z.ord, Z.gap⟩
/-- the set at S has what the first i items of ks are; what stood at h0 stands -/
structure Stage (P : Program) (w : World) (D : List (List Int)) (ks : List (Addr × List Int)) (S : Addr) (h0 : Heap) (i : Nat) (h : Heap) : Prop where
  old : ∀ b o, h0.get? b = some o → h.get? b = some o
  set_ : ∃ L es ep t, Lies P w h S L es ep t ∧ Got ks i L
/-- what stays over all steps -/
structure Base (P : Program) (w : World) (D : List (List Int)) (ks : List (Addr × List Int)) (S : Addr) (h0 : Heap) : Prop where
  dom : Dom P w D
  tup : ∀ p ∈ ks, IsT P w h0 p.2 p.1
  sub : ∀ p ∈ ks, p.2 ∈ D
  new : h0.get? S = none
variable {D : List (List Int)} {ks : List (Addr × List Int)} {S : Addr} {h0 : Heap} {i : Nat}
theorem Stage.moved {h h' : Heap} (B : Base P w D ks S h0) (Z : Stage P w D ks S h0 i h) (k1 : ∀ o, h.get? S = some o → h'.get? S = some o) (k2 : ∀ b o, h0.get? b = some o → h.get? b = some o → h'.get? b = some o) : Stage P w D ks S h0 i h' :=
  ⟨fun b o e => k2 b o e (Z.old b o e), let ⟨L, es, ep, t, z, g⟩ := Z.set_; ⟨L, es, ep, t, z.on k1, g⟩⟩
theorem stage_add (B : Base P w D ks S h0) (Z : Stage P w D ks S h0 i s.heap) {p : Addr × List Int} (hp : ks[i]? = some p) (hu : A.units < cLine) {Q : Bool → Shared → Prop}
    (hQ : ∀ b h' tk, Heap.SameBut S s.heap h' → Stage P w D ks S h0 (i + 1) h' → s.toks ≤ tk → Q b { s with heap := h', toks := tk }) : wpAny (model P w) A (setAdd S (.ref p.1)) Q E s := by
  obtain ⟨L, es, ep, t, z, g⟩ := Z.set_
  have hin := List.mem_of_getElem? hp
  have up : ∀ {k b}, IsT P w h0 k b → IsT P w s.heap k b := fun x => isT_keep x Z.old
  have inL : ∀ q ∈ L, q ∈ ks := fun q hq => List.mem_of_mem_take (g.sub q hq)
  have hx := up (B.tup p hin)
  have keep : ∀ h', Heap.SameBut S s.heap h' → ∀ b o, h0.get? b = some o → h'.get? b = some o := fun h' sb b o e => by
    refine (sb.2 b fun q => ?_).trans (Z.old b o e)
    rw [q, B.new] at e
    cases e
  unfold setAdd
  refine wpAny_holding (wpAny_bind (wpAny_pyHash_tuple hu hx ?_))
  refine put_in (s := { s with toks := s.toks + (p.2.length + 1) }) z (fun q hq => up (B.tup q (inL q hq))) hx hu (fun q hq e => B.dom.inj _ (B.sub q (inL q hq)) _ (B.sub p hin) e) (fun hm => ?_) (fun hm => ?_) fun hm h' N es' ep' t' sb z' pm => ?_
  · have q := len_sub (l := p.2 :: L.map (·.2)) (D := D) (List.nodup_cons.mpr ⟨hm, z.one⟩) fun k hk => by
      rcases List.mem_cons.mp hk with e | e
      · exact e ▸ B.sub p hin
      · obtain ⟨r, hr, e2⟩ := List.mem_map.mp e
        exact e2 ▸ B.sub r (inL r hr)
    have := B.dom.few
    rw [List.length_cons, List.length_map] at q
    omega
  · exact hQ false s.heap _ (.refl S s.heap) ⟨Z.old, L, es, ep, t, z, g.same hp hm⟩ (Nat.le_add_right _ _)
  · exact hQ true h' _ sb ⟨keep h' sb, N, es', ep', t', z', g.more hp pm⟩ (Nat.le_add_right _ _)

/-! ### the loop of set.update -/
theorem fill {I : Addr} {fp wr : List Addr} {G : Array GenState → Array GenState → Prop} {Pv : Nat → Value → Prop} {St : Nat → Shared → Prop} {R : Result → Shared → Prop}
    (W : WalksS P w A.in1 I fp wr G ks.length Pv St) (B : Base P w D ks S h0) (hS : S ∉ fp) (val : ∀ i v, Pv i v → ∃ p, ks[i]? = some p ∧ v = .ref p.1) (hw : ∀ b ∈ wr, h0.get? b = none) (hu : A.in1.units < cLine) (m : Nat) :
    ∀ (i : Nat) (s : Shared), i + m = ks.length → St i s → Stage P w D ks S h0 i s.heap → (∀ s', Moved (S :: wr) G s s' → Stage P w D ks S h0 ks.length s'.heap → R (.ok (.ret .none)) s') →
      codeAny (model P w) A (.builtin "set.update.loop" ⟨[.ref S, .ref I], []⟩) R s := by
  have nS : S ∉ wr := fun h => hS (W.sub _ h)
  have wide : ∀ b ∈ wr, b ∈ S :: wr := fun b => List.mem_cons_of_mem S
  have over : ∀ {s s' : Shared} {i : Nat}, Moved wr G s s' → Stage P w D ks S h0 i s.heap → Stage P w D ks S h0 i s'.heap := fun mv z =>
    z.moved B (fun o e => mv.heap S o nS e) fun b o e1 e2 => mv.heap b o (fun hb => by rw [hw b hb] at e1; cases e1) e2
  induction m with
  | zero =>
    intro i s hm hst z hR
    obtain rfl : i = ks.length := by omega
    refine codeAny_builtin F.entry_set_update_loop (by
      rw [Around.under_plainId F.plain_set_update_loop _]
      exact (show wpAny _ A.in1 (pyNext (.ref I) >>= _) _ _ s from wpAny_bind (W.done s _ _ hst fun s' mv => wpAny_pure (hR s' (mv.mono wide) (over mv z)))))
  | succ m ih =>
    intro i s hm hst z hR
    refine codeAny_builtin F.entry_set_update_loop ?_
    rw [Around.under_plainId F.plain_set_update_loop _]
    refine (show wpAny _ A.in1 (pyNext (.ref I) >>= _) _ _ s from wpAny_bind (W.item i s _ _ (by omega) hst fun v s' hv hst' mv => ?_))
    obtain ⟨p, hp, rfl⟩ := val i v hv
    refine (show wpAny _ A.in1 (holding [Value.ref p.1] (setAdd S (.ref p.1)) >>= _) _ _ s' from wpAny_bind (wpAny_holding (stage_add B (over mv z) hp hu fun b h' tk sb z' ht => ?_)))
    have other : ∀ c, c ≠ S → h'.get? c = s'.heap.get? c := fun c hc => sb.2 c hc
    refine wpAny_pure ⟨plainId_quiet F.plain_set_update_loop _, ih (i + 1) _ (by omega) (W.frame _ s' _ _ hst' ht fun c hc o e => ?_) z' fun s'' mv2 z2 => hR s'' (Moved.trans W.gtrans ((mv.mono wide).then_heap ht fun c o hc e => ?_) mv2) z2⟩
    · exact (other c fun q => hS (q ▸ hc)).trans e
    · exact (other c fun q => hc (q ▸ List.mem_cons_self)).trans e
end
end Tu

set_option Elab.async false
set_option linter.all false
set_option maxRecDepth 100000
set_option maxHeartbeats 4000000
/-! Tu3: the call set(xs) and sorted of that set, as rules of the layer. -/
namespace Tu
open PySem PySem.Spec PyProof.Rows L2
section
variable {P : Program} {w : World} {A : Around} {E : Value → Shared → Prop} {s : Shared} {D : List (List Int)} {ks : List (Addr × List Int)}
/-- a set as it is made -/
abbrev bare (w : World) : Obj := { cls := .type "set", dict := none, data := .set #[] 0 (.fresh 0 0 (!w.params.followText "set-order")) }
theorem bare_lies {h : Heap} {a : Addr} (e : h.get? a = some (bare w)) : Lies P w h a [] #[] 0 (.fresh 0 0 (!w.params.followText "set-order")) := by
  refine ⟨⟨_, e, ⟨rfl, rfl, rfl⟩, rfl⟩, rfl, ⟨.nil, rfl, rfl, .inl rfl, (fun x hx => nomatch hx), (fun i h j hi => nomatch hi)⟩, .nil, rfl, ?_, by show 0 * 5 < 7 * 3; decide⟩
  show _ ∨ (!w.params.followText "set-order") = true
  cases w.params.followText "set-order"
  · exact .inr rfl
  · exact .inl rfl
theorem val_at {items : Array Value} (e : items.toList = ks.map fun p => Value.ref p.1) (i : Nat) (v : Value) (h : items[i]? = some v) : ∃ p, ks[i]? = some p ∧ v = .ref p.1 := by
  rw [← Array.getElem?_toList, e, List.getElem?_map, Option.map_eq_some_iff] at h
  obtain ⟨p, h1, h2⟩ := h
  exact ⟨p, h1, h2.symm⟩
theorem beyond {h : Heap} {b : Addr} (hb : h.objs.size ≤ b) : h.get? b = none := by
  cases q : h.get? b with
  | none => rfl
  | some o => exact absurd (Heap.lt_size q) (Nat.not_lt.mpr hb)
/-- set.__init__ of the list, the bare set at the heap's end -/
theorem init_list {l : Addr} {items : Array Value} (hh : A.handled = none) (hl : s.heap.IsList l items) (hit : items.toList = ks.map fun p => Value.ref p.1) (hk : ∀ p ∈ ks, IsT P w s.heap p.2 p.1) (dm : Dom P w D) (hD : ∀ p ∈ ks, p.2 ∈ D) (hu : A.units + 1 < cLine)
    {R : PySem.Fin → Shared → Prop} (h : ∀ h' tk, Stage P w D ks s.heap.objs.size s.heap ks.length h' → R (.done (.ret .none)) { s with heap := h', toks := tk }) :
    wpAny (model P w) A (Builtin.«set.__init__» ⟨[.ref s.heap.objs.size, .ref l], []⟩) R E { s with heap := s.heap.push (bare w) } := by
  have fresh : s.heap.get? s.heap.objs.size = none := beyond (Nat.le_refl _)
  have at0 : (s.heap.push (bare w)).get? s.heap.objs.size = some (bare w) := Heap.get?_push_size _ rfl
  have size : (s.heap.push (bare w)).objs.size = s.heap.objs.size + 1 := Heap.size_push ..
  have kind : Shared.TypeIs { s with heap := s.heap.push (bare w) } (.ref s.heap.objs.size) "set" := ⟨_, at0, rfl⟩
  obtain ⟨⟨cl, dc, dt, sl⟩, lo, rfl, n, rfl⟩ := hl
  have llt := Heap.lt_size lo
  have lo1 := Heap.get?_push_of_some (bare w) lo
  have list1 : (s.heap.push (bare w)).IsList l items := ⟨_, lo1, rfl, n, rfl⟩
  have no1 := F.sub_list_set
  have no2 := F.sub_list_frozenset
  have no3 : (Value.type "list" == Value.type "dict") = false := by decide
  unfold Builtin.«set.__init__» noKeywords Builtin.Frozenset.updateFrom
  generalize eI : pyIter = it
  wp_walk
  subst eI
  refine wpAny_pyIter_list list1 (wpAny_bind (wpAny_runValue ?_))
  have ne1 : l ≠ (s.heap.push (bare w)).objs.size := by rw [size]; exact Nat.ne_of_lt (Nat.lt_succ_of_lt llt)
  have num : items.size = ks.length := by rw [← Array.length_toList, hit, List.length_map]
  have W := (Walks.list (prog := P) (w := w) (A := A.in1) (by simp [hh]) (s.heap.push (bare w)).objs.size l ne1 items).toS
  rw [num] at W
  have B : Base P w D ks s.heap.objs.size s.heap := ⟨dm, hk, hD, fresh⟩
  refine fill W B (fun q => by rw [size] at q; rcases List.mem_cons.mp q with q | q; exact absurd q (Nat.ne_of_lt (Nat.lt_succ_self _)); exact absurd (List.mem_singleton.mp q) (Nat.ne_of_gt llt)) (val_at hit) (fun b hb => beyond (by rw [List.mem_singleton.mp hb, size]; exact Nat.le_succ _)) hu ks.length 0 _ (Nat.zero_add _) ⟨⟨_, Heap.get?_push_size _ rfl, rfl, rfl⟩, list1.push _⟩
    ⟨fun b o e => Heap.get?_push_of_some _ (Heap.get?_push_of_some _ e), _, _, _, _, bare_lies (Heap.get?_push_of_some _ at0), .zero ks⟩ fun s' mv z => ?_
  obtain ⟨h', g', d', tk', os'⟩ := s'
  obtain rfl : g' = s.gens := mv.gens
  obtain rfl : d' = s.drawn := mv.drawn
  obtain rfl : os' = s.os := mv.os
  exact wpAny_pure (wpAny_pure (h h' tk' z))
/-- set(xs) -/
theorem made {l : Addr} {items : Array Value} {Q : Value → Shared → Prop} (hh : A.handled = none) (hl : s.heap.IsList l items) (hit : items.toList = ks.map fun p => Value.ref p.1) (hk : ∀ p ∈ ks, IsT P w s.heap p.2 p.1) (dm : Dom P w D) (hD : ∀ p ∈ ks, p.2 ∈ D) (hu : A.units + 4 < cLine)
    (h : ∀ h' tk, Stage P w D ks s.heap.objs.size s.heap ks.length h' → Q (.ref s.heap.objs.size) { s with heap := h', toks := tk }) : wpAny (model P w) A (call (.type "set") [.ref l]) Q E s := by
  have ⟨cl, tl, mro⟩ := F.called_set.mro
  have f1 := F.called_set.made
  have f2 := F.called_set.sub
  have f3 := F.called_set.notType
  have f4 := F.called_set.canCreate
  have f5 := F.typeCall_set_1 (.ref l)
  refine wpAny_call (codeAny_of_tree (show wpAny _ _ (callAny (.type "set") _) _ _ _ from wpAny_pure ⟨Code.quiet_builtin _ (by decide +kernel), codeAny_builtin F.entry_type_call ?_⟩))
  rw [Around.under_plain (weight_type_call_type "set" [.ref l] []) rfl]
  repeat' first
    | assumption
    | wp_step
  refine codeAny_mono (code_set_led1 (.ref l) (E := E) (Q₁ := fun v s1 => v = .ref s.heap.objs.size ∧ s1 = { s with heap := s.heap.push (bare w) }) ⟨rfl, rfl⟩) fun r s1 hr => ?_
  rcases r with e | fl
  · exact hr
  · cases fl with
    | ret v =>
      obtain ⟨rfl, rfl⟩ := hr
      have at0 : (s.heap.push (bare w)).get? s.heap.objs.size = some (bare w) := Heap.get?_push_size _ rfl
      have kind : Shared.TypeIs { s with heap := s.heap.push (bare w) } (.ref s.heap.objs.size) "set" := ⟨_, at0, rfl⟩
      have g1 := F.called_set.init.lookup
      have g2 := F.called_set.init.bind (.ref s.heap.objs.size)
      repeat' first
        | assumption
        | wp_step
      refine codeAny_mono (codeAny_call_builtin (R := wants (fun r s2 => r = .none ∧ ∃ h' tk, s2 = { s with heap := h', toks := tk } ∧ Stage P w D ks s.heap.objs.size s.heap ks.length h') E) F.called_set.init.plain F.entry_set_init (check_set_init_1 kind
        (init_list (by simp [hh]) hl hit hk dm hD (by simp; omega) fun h' tk z => ⟨rfl, h', tk, rfl, z⟩))) fun r s2 hr => ?_
      rcases r with e | fl
      · exact hr
      · cases fl with
        | ret v =>
          obtain ⟨rfl, h', tk, rfl, z⟩ := hr
          repeat' first
            | assumption
            | wp_step
          exact h h' tk z
        | _ => exact hr.elim
    | _ => exact hr.elim
end
end Tu

set_option Elab.async false
set_option linter.all false
set_option maxRecDepth 100000
set_option maxHeartbeats 4000000
/-! Tu4: sorted of a set of pairs; both calls as rules of the layer. -/
namespace Tu
open PySem PySem.Spec PyProof.Rows L2
/-- one pair of ints ahead of another -/
def ahead (x y : List Int) : Prop := x.getD 0 0 < y.getD 0 0 ∨ (x.getD 0 0 = y.getD 0 0 ∧ x.getD 1 0 < y.getD 1 0)
section
variable {P : Program} {w : World} {A : Around} {E : Value → Shared → Prop} {s : Shared}
/-- the two ints that stand at an address, by a list that tells -/
def told (L : List (Addr × List Int)) (v : Value) : Int × Int := match v with
  | .ref b => match L.find? (fun p => decide (p.1 = b)) with
    | some p => (p.2.getD 0 0, p.2.getD 1 0)
    | none => (0, 0)
  | _ => (0, 0)
theorem told_at {h : Heap} {L : List (Addr × List Int)} (tt : ∀ p ∈ L, IsT P w h p.2 p.1) {p : Addr × List Int} (hp : p ∈ L) : told L (.ref p.1) = (p.2.getD 0 0, p.2.getD 1 0) := by
  show (match L.find? (fun q => decide (q.1 = p.1)) with | some q => (q.2.getD 0 0, q.2.getD 1 0) | none => (0, 0)) = _
  cases e : L.find? (fun q => decide (q.1 = p.1)) with
  | none => exact absurd (List.find?_eq_none.mp e p hp) (by simp)
  | some q =>
    have h1 : q.1 = p.1 := by simpa using List.find?_some e
    have h2 := tt q (List.mem_of_find?_eq_some e)
    rw [h1] at h2
    show (q.2.getD 0 0, q.2.getD 1 0) = _
    rw [h2.inj (tt p hp)]
theorem isPair_of {h : Heap} {k : List Int} {b : Addr} (x : IsT P w h k b) (h2 : k.length = 2) : Srt.IsPair h (.ref b) (k.getD 0 0) (k.getD 1 0) := by
  obtain ⟨o, items, n, ho, hc, hd, hi⟩ := x
  match k, h2 with
  | [i, j], _ =>
    cases hi' : items.toList with
    | nil => rw [hi'] at hi; cases hi
    | cons u us =>
      rw [hi'] at hi
      cases hi with
      | cons a1 r1 =>
        cases r1 with
        | cons a2 r2 =>
          cases r2
          obtain ⟨t1, rfl⟩ := Value.isInt_shape a1
          obtain ⟨t2, rfl⟩ := Value.isInt_shape a2
          have e : items = #[Value.int i t1, Value.int j t2] := by
            apply Array.toList_inj.mp
            rw [hi']
          exact ⟨b, o, t1, t2, n, rfl, ho, hc, by rw [hd, e]; rfl⟩
/-- lists of addresses out of others -/
theorem back {L : List (Addr × List Int)} : ∀ {vs : List Value}, (∀ v ∈ vs, ∃ p ∈ L, v = Value.ref p.1) → ∃ N : List (Addr × List Int), vs = N.map (fun p => Value.ref p.1) ∧ ∀ p ∈ N, p ∈ L
  | [], _ => ⟨[], rfl, fun _ h => nomatch h⟩
  | v :: vs, h => by
    obtain ⟨p, hp, rfl⟩ := h v List.mem_cons_self
    obtain ⟨N, rfl, hN⟩ := back (vs := vs) fun u hu => h u (List.mem_cons_of_mem _ hu)
    exact ⟨p :: N, rfl, fun q hq => by
      rcases List.mem_cons.mp hq with e | e
      · exact e ▸ hp
      · exact hN q e⟩
theorem addr_one {h : Heap} {L : List (Addr × List Int)} (tt : ∀ p ∈ L, IsT P w h p.2 p.1) {p q : Addr × List Int} (hp : p ∈ L) (hq : q ∈ L) (e : p.1 = q.1) : p = q := by
  have h1 := tt p hp
  rw [e] at h1
  exact Prod.ext e (h1.inj (tt q hq))
theorem perm_back {h : Heap} {L N : List (Addr × List Int)} (tt : ∀ p ∈ L, IsT P w h p.2 p.1) (one : (L.map (·.2)).Nodup) (hN : ∀ p ∈ N, p ∈ L) (pm : (N.map fun p => Value.ref p.1).Perm (L.map fun p => Value.ref p.1)) : N.Perm L := by
  have nL : L.Nodup := List.Pairwise.of_map (·.2) (fun _ _ hne e => hne (congrArg _ e)) one
  have nA : (L.map fun p => Value.ref p.1).Nodup := List.pairwise_map.mpr (nL.imp_of_mem fun hp hq hne e => hne (addr_one tt hp hq (Value.ref.inj e)))
  have nN : N.Nodup := List.Pairwise.of_map (fun p : Addr × List Int => Value.ref p.1) (fun a b hne e => hne (by rw [e])) (pm.nodup_iff.mpr nA)
  refine (List.perm_ext_iff_of_nodup nN nL).mpr fun p => ⟨hN p, fun hp => ?_⟩
  obtain ⟨q, hq, e⟩ := List.mem_map.mp (pm.mem_iff.mpr (List.mem_map.mpr ⟨p, hp, rfl⟩))
  rw [← addr_one tt (hN q hq) hp (Value.ref.inj e)]
  exact hq
theorem sort_set {a : Addr} {L : List (Addr × List Int)} {es : Array (Int × Value)} {ep : Nat} {t : SetTable} {Q : Value → Shared → Prop} (Z : Lies P w s.heap a L es ep t) (tt : ∀ p ∈ L, IsT P w s.heap p.2 p.1) (hh : A.handled = none) (two : ∀ p ∈ L, p.2.length = 2)
    (hQ : ∀ s' b (out : Array Value) (c : Nat) (N : List (Addr × List Int)), (∀ d o, s.heap.get? d = some o → s'.heap.get? d = some o) → s'.gens = s.gens → s'.os = s.os → s.heap.objs.size ≤ b → s'.heap.get? b = some (seqObj "list" out c) →
      out.toList = N.map (fun q => Value.ref q.1) → N.Perm L → N.Pairwise (fun p q => ahead p.2 q.2) → Q (.ref b) s') : wpAny (model P w) A (call (.builtin "sorted") [.ref a]) Q E s := by
  obtain ⟨o, ho, hex, hd⟩ := Z.obj
  have num := Z.num
  have num2 := rows_num Z.row
  apply Calls.call_function_entry kind_sorted plain_sorted entry_sorted (args_sorted1 _)
  unfold Builtin.«sorted»
  apply wpAny_bind (m := checkCount "sorted" 1 1 _)
  apply wpAny_pure
  refine wpAny_bind (collect_set (A := A.in1) hh ⟨o, ho, hex.1, hd⟩ Z.fit (by unfold scanBound; omega) Z.tbl.ris Z.ord fun s1 vs kp hz hg hos pm => ?_)
  have refs : es.toList.map (·.2) = L.map fun q => Value.ref q.1 := by
    rw [Z.row, rowsOf, List.map_map]
    rfl
  rw [refs] at pm
  have inL : ∀ v ∈ vs, ∃ p ∈ L, v = Value.ref p.1 := fun v hv => by
    obtain ⟨p, hp, e⟩ := List.mem_map.mp (pm.mem_iff.mp hv)
    exact ⟨p, hp, e.symm⟩
  have len : vs.length ≤ 76 := by rw [pm.length_eq, List.length_map]; exact num
  refine wpAny_bind (wpAny_newList ?_ (by rw [sizeLine_eq]; omega))
  have oL : (s1.heap.push (seqObj "list" vs.toArray 0)).get? s1.heap.objs.size = some (seqObj "list" vs.toArray 0) := Heap.get?_push_size _ rfl
  have up : ∀ d o, s.heap.get? d = some o → (s1.heap.push (seqObj "list" vs.toArray 0)).get? d = some o := fun d o e => Heap.get?_push_of_some _ (kp d o e)
  have tup : ∀ v ∈ vs, Srt.IsPair (s1.heap.push (seqObj "list" vs.toArray 0)) v (told L v).1 (told L v).2 := fun v hv => by
    obtain ⟨p, hp, rfl⟩ := inL v hv
    rw [told_at tt hp]
    exact isPair_of (isT_keep (tt p hp) up) (two p hp)
  refine wpAny_bind (wpAny_holding (wpAny_call_entry (s := { s1 with heap := s1.heap.push (seqObj "list" vs.toArray 0) }) slot_list_sort ⟨_, oL, rfl⟩ entry_list_sort
    (SrtO.list_sort_ord (ltv := fun v u => SrtO.lexB (told L v) (told L u)) (SrtO.swo_lex (told L)) oL (by rw [sizeLine_eq]; omega) (fun h2 => SrtO.pairs_sortableO (by omega) tup fun o e => ?_) fun out sr sb => ⟨_, rfl, ?_⟩) (args_list_sort _)))
  · obtain rfl := Option.some.inj (oL.symm.trans e)
    exact fun c => absurd (Value.type.inj c) (by decide)
  obtain ⟨c, hc⟩ := sortedHeap_at (vs := vs) (out := out.toArray) oL
  obtain ⟨N, e1, e2⟩ := back (L := L) (vs := out) fun v hv => inL v (sb.perm.mem_iff.mp hv)
  have pN : N.Perm L := perm_back tt Z.one e2 (by rw [← e1]; exact sb.perm.trans pm)
  have pw : N.Pairwise fun p q => ahead p.2 q.2 := by
    have nd : (N.map (·.2)).Nodup := (pN.map (·.2)).nodup_iff.mpr Z.one
    unfold SrtO.Srtd at sr
    rw [e1, List.pairwise_map] at sr
    refine List.Pairwise.imp_of_mem (fun {p q} hp hq h => ?_) (sr.and (List.pairwise_map.mp nd))
    obtain ⟨h1, h2⟩ := h
    have h1 : SrtO.lexB (told L (.ref q.1)) (told L (.ref p.1)) = false := h1
    rw [told_at tt (e2 p hp), told_at tt (e2 q hq)] at h1
    have h3 := SrtO.lexB_no.mp h1
    have p2 := two p (e2 p hp)
    have q2 := two q (e2 q hq)
    generalize p.2 = x at h2 h3 p2
    generalize q.2 = y at h2 h3 q2
    match x, p2 with
    | [x0, x1], _ =>
      match y, q2 with
      | [y0, y1], _ =>
        have h4 : ¬ (x0 = y0 ∧ x1 = y1) := fun z => h2 (by rw [z.1, z.2])
        have h5 : ¬ (y0 < x0 ∨ (y0 = x0 ∧ y1 < x1)) := h3
        show x0 < y0 ∨ (x0 = y0 ∧ x1 < y1)
        omega
  refine wpAny_pure ⟨_, rfl, hQ _ s1.heap.objs.size out.toArray c N (fun d u e => ?_) hg hos hz hc (by simpa using e1) pN pw⟩
  have q := kp d u e
  have lt := Heap.lt_size q
  refine (sortedHeap_old (Nat.ne_of_lt lt) (by rw [size_push']; exact Nat.lt_succ_of_lt lt)).trans ?_
  exact Heap.get?_push_of_some _ q
end
/-! ### the rules -/
def SetO (P : Program) (w : World) (a : Addr) (L : List (Addr × List Int)) : HO := .ext fun h => ∃ es ep t, Lies P w h a L es ep t
theorem setO_ok {P : Program} {w : World} {H : Hp} {h : Heap} {a : Addr} {L : List (Addr × List Int)} (z : ∃ es ep t, Lies P w h a L es ep t) : ObjOk P w H h a (SetO P w a L) :=
  ⟨z, let ⟨_, _, _, z⟩ := z; let ⟨o, ho, _⟩ := z.obj; ⟨o, ho⟩, fun h1 h2 ⟨es, ep, t, z⟩ k => ⟨es, ep, t, z.on k⟩⟩
section
variable {X : Cx}
/-- set(xs) of a list of tuples with keys in D -/
def rSetD (K : PySem.W.Frag) (P : Program) (w : World) (D : List (List Int)) : List V → Hp → VK → Prop := fun xs H Q => ∃ (l : Addr) (ks : List (Addr × List Int)), xs = [V.ref l] ∧ SqL K H l (ks.map fun p => V.ref p.1) ∧ (∀ p ∈ ks, SqT K H p.1 (p.2.map V.int)) ∧ (∀ p ∈ ks, p.2 ∈ D) ∧
  ∀ a L, H a = none → (∀ p ∈ L, p ∈ ks) → (∀ p ∈ ks, p.2 ∈ L.map (·.2)) → (L.map (·.2)).Nodup → Q (.ref a) (upd H a (SetO P w a L))
theorem cr_setD {D : List (List Int)} (dm : Dom X.prog X.w D) (hc : X.calm = true) (hu : X.A.units + 64 < cLine) : CallR X (.type "set") (rSetD X.K X.prog X.w D) := by
  intro pins s σ H xs us Q I r h
  obtain ⟨l, ks, rfl, hl, hk, hD, q⟩ := h
  rw [Vals.ref1 r]
  obtain ⟨its, rv, pl, hz⟩ := I.list hl
  refine made (P := X.prog) (w := X.w) (D := D) (ks := ks) (I.ok.hd hc) pl.isList (by simpa using refs_of_vals rv) (fun p hp => I.isT (hk p hp)) dm hD (by omega) fun h' tk z => ?_
  obtain ⟨L, es, ep, t, z1, g⟩ := z.set_
  refine ⟨.ref s.heap.objs.size, upd H s.heap.objs.size (SetO X.prog X.w s.heap.objs.size L), I.laid (t' := tk) z.old (Nat.le_refl _) (setO_ok ⟨es, ep, t, z1⟩), rfl, q _ L (I.hok.fresh (Nat.le_refl _)) (fun p hp => List.mem_of_mem_take (g.sub p hp)) (fun p hp => ?_) z1.one⟩
  exact g.all p (by rw [List.take_length]; exact hp)
/-- sorted(set) of pairs -/
def rSortD (K : PySem.W.Frag) (P : Program) (w : World) : List V → Hp → VK → Prop := fun vs H Q => ∃ (a : Addr) (L : List (Addr × List Int)), vs = [V.ref a] ∧ H a = some (SetO P w a L) ∧ (∀ p ∈ L, SqT K H p.1 (p.2.map V.int)) ∧ (∀ p ∈ L, p.2.length = 2) ∧
  ∀ (N : List (Addr × List Int)) (b : Addr), N.Perm L → N.Pairwise (fun p q => ahead p.2 q.2) → H b = none → Q (.ref b) (upd H b (.lst (N.map fun q => V.ref q.1)))
theorem cr_sortD (hc : X.calm = true) : CallR X (.builtin "sorted") (rSortD X.K X.prog X.w) := by
  intro pins s σ H vs us Q I r h
  obtain ⟨a, L, rfl, ha, hk, two, q⟩ := h
  obtain ⟨es, ep, t, Z⟩ : ∃ es ep t, Lies X.prog X.w s.heap a L es ep t := (I.hok a _ ha).1
  rw [Vals.ref1 r]
  refine sort_set Z (fun p hp => I.isT (hk p hp)) (I.ok.hd hc) two fun s' b out c N k g o hb hg hout pm pw => ?_
  have len : (N.map fun q => V.ref q.1).length ≤ sizeLine := by
    have := Z.num
    rw [List.length_map, pm.length_eq, sizeLine_eq]
    omega
  have hn : H b = none := I.hok.fresh hb
  have J := I.call (ch := []) (h' := s'.heap) (g' := s'.gens) (d' := s'.drawn) (t' := s'.toks) (H' := upd H b (.lst (N.map fun q => V.ref q.1))) (Un.laid k hb hn) (I.hok.laid k hb ⟨len, out.toList, c, by rw [hout]; exact vals_of_refs N, hg⟩) (by rw [g]; exact I.bare) (fun _ z => nomatch z)
  have e : s' = { s with heap := s'.heap, gens := s'.gens, drawn := s'.drawn, toks := s'.toks } := by
    cases s'; cases s; cases o; rfl
  rw [e]
  exact ⟨.ref b, _, J, rfl, q N b pm pw hn⟩
end
end Tu

set_option Elab.async false
set_option linter.all false
set_option maxRecDepth 100000
set_option maxHeartbeats 4000000
/-! Tu5: pairs of places i < j < 12: their hashes are unlike; a list of pairs and its set, sorted. -/
namespace Tu
open PySem PySem.Spec PyProof.Rows L2
def hsh (k : List Int) : Int := reduceHash (Builtin.Tuple.tupleHashOf (k.map hashInt))
theorem hsh_eq (P : Program) (w : World) (k : List Int) : thash P w k = hsh k := rfl
/-- all pairs of places -/
def pairs12 : List (List Int) := (List.range 12).flatMap fun (j : Nat) => (List.range j).map fun (i : Nat) => [(i : Int), (j : Int)]
theorem pairs_few : pairs12.length ≤ 76 := by decide +kernel
theorem pairs_hash : (pairs12.map hsh).Nodup := by decide +kernel
theorem inj_of_nodup {α β : Type} {f : α → β} : ∀ {l : List α}, (l.map f).Nodup → ∀ x, x ∈ l → ∀ y, y ∈ l → f x = f y → x = y
  | [], _, x, hx, _, _, _ => nomatch hx
  | a :: l, n, x, hx, y, hy, e => by
    rw [List.map_cons, List.nodup_cons] at n
    rcases List.mem_cons.mp hx with e1 | h1
    · rcases List.mem_cons.mp hy with e2 | h2
      · rw [e1, e2]
      · exact absurd (List.mem_map.mpr ⟨y, h2, by rw [← e, e1]⟩) n.1
    · rcases List.mem_cons.mp hy with e2 | h2
      · exact absurd (List.mem_map.mpr ⟨x, h1, by rw [e, e2]⟩) n.1
      · exact inj_of_nodup n.2 x h1 y h2 e
theorem pairs_dom (P : Program) (w : World) : Dom P w pairs12 := ⟨pairs_few, fun k hk m hm e => inj_of_nodup pairs_hash k hk m hm e⟩
theorem pairs_mem {i j : Nat} (h1 : i < j) (h2 : j < 12) : [(i : Int), (j : Int)] ∈ pairs12 :=
  List.mem_flatMap.mpr ⟨j, List.mem_range.mpr h2, List.mem_map.mpr ⟨i, List.mem_range.mpr h1, rfl⟩⟩
/-- pairs of places as the rules have them -/
def keyN (b : Nat × Nat) : List Int := [(b.1 : Int), (b.2 : Int)]
/-- ascending pairs -/
def AscP (bs : List (Nat × Nat)) : Prop := bs.Pairwise fun a b => a.1 < b.1 ∨ (a.1 = b.1 ∧ a.2 < b.2)
theorem ahead_keyN {a b : Nat × Nat} : ahead (keyN a) (keyN b) ↔ a.1 < b.1 ∨ (a.1 = b.1 ∧ a.2 < b.2) := by
  show ((a.1 : Int) < (b.1 : Int) ∨ ((a.1 : Int) = (b.1 : Int) ∧ (a.2 : Int) < (b.2 : Int))) ↔ _
  omega
theorem ascP_nodup {bs : List (Nat × Nat)} (h : AscP bs) : bs.Nodup := List.Pairwise.imp (fun {a b} h e => by subst e; omega) h
/-- two ascending lists of the same pairs are one -/
theorem ascP_uniq : ∀ {as bs : List (Nat × Nat)}, AscP as → AscP bs → (∀ p, p ∈ as ↔ p ∈ bs) → as = bs
  | [], [], _, _, _ => rfl
  | [], b :: bs, _, _, h => nomatch (h b).mpr List.mem_cons_self
  | a :: as, [], _, _, h => nomatch (h a).mp List.mem_cons_self
  | a :: as, b :: bs, ha, hb, h => by
    have ha' := List.pairwise_cons.mp ha
    have hb' := List.pairwise_cons.mp hb
    have e : a = b := by
      rcases List.mem_cons.mp ((h a).mp List.mem_cons_self) with e | e
      · exact e
      · rcases List.mem_cons.mp ((h b).mpr List.mem_cons_self) with f | f
        · exact f.symm
        · have z1 := hb'.1 a e
          have z2 := ha'.1 b f
          omega
    subst e
    rw [ascP_uniq ha'.2 hb'.2 fun p => ⟨fun hp => ?_, fun hp => ?_⟩]
    · rcases List.mem_cons.mp ((h p).mp (List.mem_cons_of_mem _ hp)) with e | e
      · have := ha'.1 p hp
        subst e
        omega
      · exact e
    · rcases List.mem_cons.mp ((h p).mpr (List.mem_cons_of_mem _ hp)) with e | e
      · have := hb'.1 p hp
        subst e
        omega
      · exact e
/-- what the set and sorted leave of a list of pairs: its ascending list -/
theorem out_pairs {bs : List (Nat × Nat)} {as : List Addr} (hl : as.length = bs.length) {L N : List (Addr × List Int)} (sub : ∀ p ∈ L, p ∈ as.zip (bs.map keyN)) (all : ∀ p ∈ as.zip (bs.map keyN), p.2 ∈ L.map (·.2)) (pm : N.Perm L) (pw : N.Pairwise fun p q => ahead p.2 q.2) :
    ∃ cs : List (Nat × Nat), N.map (·.2) = cs.map keyN ∧ AscP cs ∧ ∀ p, p ∈ cs ↔ p ∈ bs := by
  have key : ∀ {M : List (Addr × List Int)}, (∀ p ∈ M, ∃ b ∈ bs, p.2 = keyN b) → ∃ cs : List (Nat × Nat), M.map (·.2) = cs.map keyN ∧ ∀ c ∈ cs, c ∈ bs := by
    intro M
    induction M with
    | nil => exact fun _ => ⟨[], rfl, fun _ h => nomatch h⟩
    | cons p M ih =>
      intro h
      obtain ⟨b, hb, e⟩ := h p List.mem_cons_self
      obtain ⟨cs, e1, e2⟩ := ih fun q hq => h q (List.mem_cons_of_mem _ hq)
      refine ⟨b :: cs, by rw [List.map_cons, List.map_cons, e, e1], fun c hc => ?_⟩
      rcases List.mem_cons.mp hc with rfl | hc
      · exact hb
      · exact e2 c hc
  have inj : ∀ {a b : Nat × Nat}, keyN a = keyN b → a = b := fun {a b} e => by
    injection e with e1 e2
    injection e2 with e2
    exact Prod.ext (by omega) (by omega)
  obtain ⟨cs, e1, e2⟩ := key (M := N) fun p hp => by
    have h := (List.of_mem_zip (sub p (pm.mem_iff.mp hp))).2
    obtain ⟨b, hb, e⟩ := List.mem_map.mp h
    exact ⟨b, hb, e.symm⟩
  refine ⟨cs, e1, ?_, fun p => ⟨e2 p, fun hp => ?_⟩⟩
  · have h : (N.map fun p : Addr × List Int => p.2).Pairwise ahead := List.pairwise_map.mpr pw
    rw [e1, List.pairwise_map] at h
    exact h.imp fun {a b} z => ahead_keyN.mp z
  · obtain ⟨i, hi, rfl⟩ := List.getElem_of_mem hp
    have hz : (as[i]'(by omega), keyN bs[i]) ∈ as.zip (bs.map keyN) := by
      refine List.mem_of_getElem? (i := i) ?_
      rw [List.getElem?_zip_eq_some]
      exact ⟨List.getElem?_eq_getElem (by omega), by rw [List.getElem?_map, List.getElem?_eq_getElem hi]; rfl⟩
    have h := all _ hz
    rw [← (pm.map (·.2)).mem_iff, e1] at h
    obtain ⟨c, hc, e⟩ := List.mem_map.mp h
    rw [← inj e]
    exact hc
end Tu

set_option Elab.async false
set_option linter.all false
set_option maxRecDepth 100000
set_option maxHeartbeats 4000000
/-! Lz: a call with all arguments by name. -/
namespace Bx
open PySem PySem.Spec PyProof.Rows L2
section
variable {X : Cx} {CX : CXT} {k : Nat} {f : Addr} {fd : FuncData} {ps ks : List Str} {sp : Sp} {E : XK} {x : Str} {p pos : Pos} {kws : List Keyword} {tk : TA} {g : List Value → List Value → List Value} {gV : List V → List V → List V}
/-- f(k = v, ..) -/
theorem pe_callKO (F : FnOk X.prog X.w X.K X.mg X.base CX k f fd ps sp) (hr : Room k X.A) (hg : Gl X x) (hm : X.mg x = some (.ref f)) (hk : PySem.W.keepIn X.K (.ref f) = true) (hb : KBinds X.K fd ps ks g gV) (hx : Passes CX X E)
    (hkw : PK X kws tk) (hall : (backToKw pos (keywordEach kws X.env)).all (·.1.isSome) = true := by rfl) (hks : (backToKw pos (keywordEach kws X.env)).filterMap (·.1) = ks := by rfl)
    (hdb : (x == ("__debug__" : Str)) = false := by decide)
    (hpl : ((backTo pos (starEach [] X.env)).any (·.1) || (backToKw pos (keywordEach kws X.env)).any (·.1.isNone)) = false := by rfl) :
    PE X (.Call (.Name x p) [] kws pos) (tCallK sp gV E tNil tk) := by
  refine ⟨fun pins s σ H Q I h => ?_⟩
  refine wpAny_Call_Name_kw (ld_glob I hg hm ?_ hdb)
  refine PySem.W.callWith_KW0 (h₀ := X.base) I.ok.mod.kin hk hall ?_ hpl
  refine thn (hkw.run pos pins s σ H _ I h) fun ws s2 ⟨zs, H2, I2, rz, q2⟩ => ⟨I2.kIn, ?_⟩
  rw [hks]
  exact run_fnk F hr hb hx I2 .nil rz q2
end
structure CalK (P : Program) (w : World) (K : PySem.W.Frag) (mg : Str → Option Value) (base : Heap) (k : Nat) (x : Str) (ps ks : List Str) (g : {α : Type} → List α → List α → List α) (sp : Sp) : Prop where
  ex : ∃ (f : Addr) (fd : FuncData), FnOk P w K mg base CX0 k f fd ps sp ∧ mg x = some (.ref f) ∧ PySem.W.keepIn K (.ref f) = true ∧ KBinds K fd ps ks g g
section
variable {X : Cx} {k : Nat} {x : Str} {ps ks : List Str} {sp : Sp} {p pos : Pos} {kws : List Keyword} {tk : TA} {g : {α : Type} → List α → List α → List α}
theorem pe_calK (C : CalK X.prog X.w X.K X.mg X.base k x ps ks g sp) (hr : Room k X.A) (hg : Gl X x) (hkw : PK X kws tk) (hall : (backToKw pos (keywordEach kws X.env)).all (·.1.isSome) = true := by rfl) (hks : (backToKw pos (keywordEach kws X.env)).filterMap (·.1) = ks := by rfl)
    (hdb : (x == ("__debug__" : Str)) = false := by decide)
    (hpl : ((backTo pos (starEach [] X.env)).any (·.1) || (backToKw pos (keywordEach kws X.env)).any (·.1.isNone)) = false := by rfl) : PE X (.Call (.Name x p) [] kws pos) (tCallK sp g E0 tNil tk) := by
  obtain ⟨f, fd, h1, h2, h3, h4⟩ := C.ex
  exact pe_callKO h1 hr hg h2 h3 h4 pass0 hkw hall hks hdb hpl
end
/-- two arguments, named the other way about -/
def swp {α : Type} : List α → List α → List α
  | [], [b, a] => [a, b]
  | _, _ => []
theorem swp_rel {vs zs : List V} {us ws : List Value} (h1 : Vals vs us) (h2 : Vals zs ws) : Vals (swp vs zs) (swp us ws) := by
  cases h1 with
  | cons _ _ => exact .nil
  | nil =>
    cases h2 with
    | nil => exact .nil
    | cons a h3 =>
      cases h3 with
      | nil => exact .nil
      | cons b h4 =>
        cases h4 with
        | nil => exact .cons b (.cons a .nil)
        | cons _ _ => exact .nil
theorem pi_tupK {X : Cx} {K : PySem.W.Frag} {tg e : Expr} {td : TE} (h : X.K = K) (hd : PE X e td) : PI X tg e (iTup K td) := h ▸ pi_tup hd
theorem pi_listK {X : Cx} {K : PySem.W.Frag} {tg e : Expr} {td : TE} (h : X.K = K) (hd : PE X e td) : PI X tg e (iList K td) := h ▸ pi_list hd
end Bx

set_option Elab.async false
set_option linter.all false
set_option maxRecDepth 100000
set_option maxHeartbeats 4000000
namespace Wd
open PySem PySem.Spec PyProof.Rows L2 Bx Gx











































section
variable {P : Program} {w : World} {K : PySem.W.Frag} {mg : Str → Option Value} {base : Heap}
/-! ### pairs as data, sorted without twins -/
theorem pl_addr {H : Hp} : ∀ {vs : List V} {ps : List (Nat × Nat)}, DpAll K H vs (ps.map pairD) → ∃ as : List Addr, vs = as.map V.ref ∧ as.length = ps.length ∧ ∀ p ∈ as.zip (ps.map Tu.keyN), SqT K H p.1 (p.2.map V.int)
  | _, [], .nil => ⟨[], rfl, rfl, fun p hp => nomatch hp⟩
  | _, b :: ps, .cons h hs => by
    obtain ⟨as, e1, e2, e3⟩ := pl_addr hs
    obtain ⟨t, rfl, ht⟩ := dp_ints (ns := [(b.1 : Int), (b.2 : Int)]) h
    refine ⟨t :: as, by rw [e1]; rfl, by rw [List.length_cons, List.length_cons, e2], fun p hp => ?_⟩
    rw [List.map_cons, List.zip_cons_cons] at hp
    rcases List.mem_cons.mp hp with rfl | hp
    · exact ht
    · exact e3 p hp
theorem zip_fst {α β : Type} {as : List α} {bs : List β} (h : as.length = bs.length) : (as.zip bs).map (·.1) = as := List.map_fst_zip (Nat.le_of_eq h)
theorem dp_pairsS {H : Hp} : ∀ {N : List (Addr × List Int)} {cs : List (Nat × Nat)}, (∀ p ∈ N, SqT K H p.1 (p.2.map V.int)) → N.map (·.2) = cs.map Tu.keyN → DpAll K H (N.map fun q => V.ref q.1) (cs.map fun (b : Nat × Nat) => .tuple [.int (b.1 : Int), .int (b.2 : Int)])
  | [], [], _, _ => .nil
  | [], _ :: _, _, e => nomatch e
  | _ :: _, [], _, e => nomatch e
  | p :: N, c :: cs, tn, e => by
    rw [List.map_cons, List.map_cons] at e
    injection e with h1 h2
    have h3 := tn p List.mem_cons_self
    rw [h1] at h3
    exact .cons (.tup h3 (.cons (.int _) (.cons (.int _) .nil))) (dp_pairsS (fun q hq => tn q (List.mem_cons_of_mem _ hq)) h2)
/-- tuple(sorted(set(xs))) of pairs of places -/
theorem set_sortS {H : Hp} {l : Addr} {vs : List V} {ps : List (Nat × Nat)} (hl : SqL K H l vs) (hP : DpAll K H vs (ps.map pairD)) (hb : ∀ p ∈ ps, p.1 < p.2 ∧ p.2 < 12) {Q : VK}
    (hQ : ∀ (cs : List (Nat × Nat)) q H', Ext H H' → H q = none → Tu.AscP cs → (∀ p, p ∈ cs ↔ p ∈ ps) → Dp K H' (.ref q) (bordD cs) → Q (.ref q) H') :
    Tu.rSetD K P w Tu.pairs12 [.ref l] H fun x1 H1 => Tu.rSortD K P w [x1] H1 fun x2 H2 => kTup K x2 H2 Q := by
  obtain ⟨as, rfl, ea, ht⟩ := pl_addr hP
  have ez : ((as.zip (ps.map Tu.keyN)).map fun p => V.ref p.1) = as.map V.ref := by
    rw [← zip_fst (as := as) (bs := ps.map Tu.keyN) (by rw [List.length_map]; exact ea), List.map_map, zip_fst (by rw [List.length_map]; exact ea)]
    rfl
  have ek : ∀ p ∈ as.zip (ps.map Tu.keyN), ∃ b ∈ ps, p.2 = Tu.keyN b := fun p hp => by
    obtain ⟨b, hb, e⟩ := List.mem_map.mp (List.of_mem_zip hp).2
    exact ⟨b, hb, e.symm⟩
  refine ⟨l, as.zip (ps.map Tu.keyN), rfl, by rw [ez]; exact hl, fun p hp => ht p hp, fun p hp => ?_, fun a L ha hsub hall hnd => ?_⟩
  · obtain ⟨b, hbm, e⟩ := ek p hp
    rw [e]
    exact Tu.pairs_mem (hb b hbm).1 (hb b hbm).2
  · have x1 : Ext H (upd H a (Tu.SetO P w a L)) := .new ha
    have tu : ∀ p ∈ L, SqT K (upd H a (Tu.SetO P w a L)) p.1 (p.2.map V.int) := fun p hp => x1.sqT (ht p (hsub p hp))
    refine ⟨a, L, rfl, upd_same, fun p hp => tu p hp, fun p hp => ?_, fun N b pm pw hbn => ?_⟩
    · obtain ⟨c, _, e⟩ := ek p (hsub p hp)
      rw [e]
      rfl
    · obtain ⟨cs, e1, e2, e3⟩ := Tu.out_pairs ea hsub hall pm pw
      refine .inl ⟨b, _, rfl, SqL.of upd_same, fun q hq => ?_⟩
      have x2 : Ext (upd H a (Tu.SetO P w a L)) (upd (upd H a (Tu.SetO P w a L)) b (.lst (N.map fun q => V.ref q.1))) := .new hbn
      refine hQ cs q _ (x1.trans (x2.trans (.new hq))) (x1.free (x2.free hq)) e2 e3 (dp_new hq ?_)
      have tn : ∀ p ∈ N, SqT K (upd (upd H a (Tu.SetO P w a L)) b (.lst (N.map fun q => V.ref q.1))) p.1 (p.2.map V.int) := fun p hp => x2.sqT (tu p (pm.mem_iff.mp hp))
      generalize upd (upd H a (Tu.SetO P w a L)) b (.lst (N.map fun q => V.ref q.1)) = H9 at tn
      exact dp_pairsS tn e1
end
end Wd

set_option Elab.async false
set_option linter.all false
set_option maxRecDepth 100000
set_option maxHeartbeats 4000000
namespace Wd
open PySem PySem.Spec PyProof.Rows L2 Bx Gx











































section
variable {P : Program} {w : World} {K : PySem.W.Frag} {mg : Str → Option Value} {base : Heap}
/-! ### alike -/
def tyName : PyData → String
  | .none => "NoneType"
  | .bool _ => "bool"
  | .int _ => "int"
  | .str _ => "str"
  | .list _ => "list"
  | .tuple _ => "tuple"
  | _ => "dict"
theorem tyX_dp {H : Hp} {v : V} {d : PyData} (h : Dp K H v d) : TyX K H v (.type (tyName d)) ∧ tyName d ∈ ["NoneType", "bool", "int", "str", "list", "tuple"] := by
  cases h with
  | non => exact ⟨.base .non, by simp [tyName]⟩
  | bl b => exact ⟨.base (.bl b), by simp [tyName]⟩
  | int i => exact ⟨.base (.int i), by simp [tyName]⟩
  | str x => exact ⟨.base (.str x), by simp [tyName]⟩
  | lst h _ =>
    refine ⟨?_, by simp [tyName]⟩
    rcases h with (h | ⟨o, h⟩) | ⟨o, _, _, h1, h2, _⟩
    · exact .base (.lst h)
    · exact .base (.frz h)
    · exact .kList h1 h2
  | tup h _ =>
    refine ⟨?_, by simp [tyName]⟩
    rcases h with (h | ⟨o, h⟩) | ⟨o, _, _, h1, h2, _⟩
    · exact .base (.tup h)
    · exact .fTuple h
    · exact .kTuple h1 h2
def kindsOf (T : String) : List Bool := [decide (T = "bool"), decide (T = "int" ∨ T = "bool"), decide (T = "str"), decide (T = "tuple"), decide (T = "list"), decide (T = "NoneType")]
theorem kit_in (T U : String) (hT : T ∈ ["NoneType", "bool", "int", "str", "list", "tuple"]) (hU : U ∈ ["bool", "int", "str", "list", "tuple"]) : PySem.W.kitOne K (.type T) (.type U) = some (decide (T = U ∨ (T = "bool" ∧ U = "int"))) := by
  simp only [List.mem_cons, List.mem_nil_iff, or_false] at hT hU
  rcases hT with rfl | rfl | rfl | rfl | rfl | rfl <;> rcases hU with rfl | rfl | rfl | rfl | rfl <;> exact kit_ty (by decide +kernel)
def spKinds (K : PySem.W.Frag) : Sp := fun vs H Q _ => ∃ (v : V) (d : PyData), vs = [v] ∧ Dp K H v d ∧ ∀ q H', Ext H H' → H q = none → H' q = some (.lst ((kindsOf (tyName d)).map V.bl)) → Q (.ref q) H'
end
section
variable {P : Program} {w : World} {K : PySem.W.Frag} {mg : Str → Option Value} {base : Heap}
theorem seq_eq {d : PyData} {ds ds' : List PyData} (h : d = .list ds ∨ d = .tuple ds) (h' : d = .list ds' ∨ d = .tuple ds') : ds' = ds := by
  rcases h with rfl | rfl <;> rcases h' with e | e <;> cases e <;> rfl
theorem canLay_get : ∀ {ds : List PyData}, PyData.canLayAll0 ds = true → ∀ d ∈ ds, d.canLay0 = true
  | [], _, d, hd => by cases hd
  | e :: ds, h, d, hd => by
    simp only [PyData.canLayAll0, Bool.and_eq_true] at h
    rcases List.mem_cons.mp hd with z | z
    · rw [z]; exact h.1
    · exact canLay_get h.2 d z
theorem depth_get : ∀ {ds : List PyData} {n : Nat}, PyData.depthAll ds ≤ n → ∀ d ∈ ds, d.depth ≤ n
  | [], _, _, d, hd => by cases hd
  | e :: ds, n, h, d, hd => by
    simp only [PyData.depthAll] at h
    rcases List.mem_cons.mp hd with z | z
    · rw [z]; omega
    · exact depth_get (by omega) d z
theorem rix_of {H : Hp} {a : Addr} {xs : List V} {i : Nat} {v : V} {Q : VK} (h : SqL K H a xs ∨ SqT K H a xs) (e : xs[i]? = some v) (q : Q v H) : rIx K (.ref a) (.int (i : Int)) H Q := by
  rcases h with h | h
  · exact .inl ⟨a, xs, i, v, rfl, rfl, h, atI_nat e, q⟩
  · exact .inr (.inl ⟨a, xs, i, v, rfl, rfl, h, atI_nat e, q⟩)
theorem ix_seqK {X : Cx} {K : PySem.W.Frag} (h : X.K = K) : IxR X (rIx K) := h ▸ ix_seq
mutual
/-- data whose lists and tuples are short -/
def smD : PyData → Bool
  | .list ds => decide (ds.length ≤ 500) && smDs ds
  | .tuple ds => decide (ds.length ≤ 500) && smDs ds
  | _ => true
def smDs : List PyData → Bool
  | [] => true
  | d :: ds => smD d && smDs ds
end
theorem smD_seq {d : PyData} {ds : List PyData} (h : d = .list ds ∨ d = .tuple ds) (hs : smD d = true) : ds.length ≤ 500 ∧ smDs ds = true := by
  rcases h with rfl | rfl <;> simpa [smD] using hs
theorem smDs_get : ∀ {ds : List PyData}, smDs ds = true → ∀ d ∈ ds, smD d = true
  | [], _, d, hd => by cases hd
  | e :: ds, h, d, hd => by
    simp only [smDs, Bool.and_eq_true] at h
    rcases List.mem_cons.mp hd with z | z
    · rw [z]; exact h.1
    · exact smDs_get h.2 d z
def spAlike (K : PySem.W.Frag) (r : Nat) : Sp := fun vs H Q _ => ∃ (v u : V) (d : PyData), vs = [v, u] ∧ Dp K H v d ∧ Dp K H u d ∧ d.canLay0 = true ∧ smD d = true ∧ d.depth < r ∧ ∀ H', Ext H H' → Q (.bl true) H'
theorem dp_seq {H : Hp} {v : V} {d : PyData} (h : Dp K H v d) (ht : tyName d = "tuple" ∨ tyName d = "list") : ∃ a xs ds, v = .ref a ∧ (SqL K H a xs ∨ SqT K H a xs) ∧ DpAll K H xs ds ∧ d.depth = PyData.depthAll ds + 1 ∧ (d.canLay0 = true → PyData.canLayAll0 ds = true) ∧ (d = .list ds ∨ d = .tuple ds) := by
  cases h with
  | lst h hs => exact ⟨_, _, _, rfl, .inl h, hs, by simp [PyData.depth], by simp [PyData.canLay0], .inl rfl⟩
  | tup h hs => exact ⟨_, _, _, rfl, .inr h, hs, by simp [PyData.depth], by simp [PyData.canLay0], .inr rfl⟩
  | non => simp [tyName] at ht
  | bl => simp [tyName] at ht
  | int => simp [tyName] at ht
  | str => simp [tyName] at ht
theorem kit_two (T : String) (hT : T ∈ ["NoneType", "bool", "int", "str", "list", "tuple"]) : PySem.W.kitAny K (.type T) [.type "tuple", .type "list"] = some (decide (T = "tuple" ∨ T = "list")) := by
  unfold PySem.W.kitAny
  rw [kit_in T "tuple" hT (by simp)]
  unfold PySem.W.kitAny
  rw [kit_in T "list" hT (by simp)]
  by_cases h1 : T = "tuple"
  · subst h1; rfl
  · by_cases h2 : T = "list"
    · subst h2; rfl
    · simp only [h1, h2, false_or, or_self, decide_false, show ¬ ("tuple" = "int") by decide, show ¬ ("list" = "int") by decide, and_false]
      rfl
end
section
variable {P : Program} {w : World} {K : PySem.W.Frag} {mg : Str → Option Value} {base : Heap}
/-! ### equal, kinds of numbers too -/
theorem sc_law_same : FnScope ["found", "due", "k"] ["found", "due"] (defScope st__law_same) := ⟨rfl, rfl, rfl, by decide +kernel, rfl, by decide +kernel, by decide +kernel⟩
theorem ok_law_same {f : Addr} {fd : FuncData} (F : Fun K "_law_same" "_law_same" st__law_same f fd) (B : Bl mg) (hm : mg "_law_same" = some (.ref f)) (hb : Binds K fd ["found", "due"] []) :
    ∀ r : Nat, FnOk P w K mg base CX0 (1 + r) f fd ["found", "due"] (spAlike K r)
  | 0 => by
    refine F.ok (k := 0) sc_law_same (fun vs H Q E h => ?_) (fun cdv A outer s H vs Q E hr h => ?_)
    · obtain ⟨v, u, d, rfl, _⟩ := h
      rfl
    · obtain ⟨v, u, d, rfl, _, _, _, _, h0, _⟩ := h
      omega
  | r + 1 => by
    have c2 : Cal P w K mg base (1 + r) "_law_same" ["found", "due"] (spAlike K r) := ⟨f, fd, ok_law_same F B hm hb r, hm, F.kp, hb⟩
    refine F.ok (k := 1 + r) sc_law_same (fun vs H Q E h => ?_) (fun cdv A outer s H vs Q E hr h => ?_)
    · obtain ⟨v, u, d, rfl, _⟩ := h
      rfl
    · obtain ⟨v, u, d, rfl, hv, hu, hlay, hsm, hdep, k⟩ := h
      have nd := sc_law_same.nd
      refine ⟨_, pss_cons (ps_if (pt_val (pe_callB call_isiT (by rfl) B.isinstance (by decide +kernel) (pa_cons (pv 1) (pa_cons (pe_tup (pa_cons (pe_bltn rfl B.tuple (by decide +kernel) (v := .ty "tuple") rfl) (pa_cons (pe_bltn rfl B.list (by decide +kernel) (v := .ty "list") rfl) pa_nil))) pa_nil))))
          (pss_cons (ps_if (PW.pt (pw_or (pt_cmpR op_ne (pe_callB call_isi (by rfl) B.isinstance (by decide +kernel) (pa_cons (pv 0) (pa_cons (pe_bltn rfl B.tuple (by decide +kernel) (v := .ty "tuple") rfl) pa_nil))) (pe_callB call_isi (by rfl) B.isinstance (by decide +kernel) (pa_cons (pv 1) (pa_cons (pe_bltn rfl B.tuple (by decide +kernel) (v := .ty "tuple") rfl) pa_nil))) (nomark _))
              (pw_or1 (pt_cmpR op_ne (pe_callB call_isi (by rfl) B.isinstance (by decide +kernel) (pa_cons (pv 0) (pa_cons (pe_bltn rfl B.list (by decide +kernel) (v := .ty "list") rfl) pa_nil))) (pe_callB call_isi (by rfl) B.isinstance (by decide +kernel) (pa_cons (pv 1) (pa_cons (pe_bltn rfl B.list (by decide +kernel) (v := .ty "list") rfl) pa_nil))) (nomark _))))) (pss_one (ps_ret pe_bl)) pss_nil)
          (pss_one (ps_ret (pe_and (pe_cmpR op_eq (pe_callB call_len (by rfl) B.len PySem.boot_len (pa_cons (pv 0) pa_nil)) (pe_callB call_len (by rfl) B.len PySem.boot_len (pa_cons (pv 1) pa_nil)) (nomark _))
            (pe_one (pe_callB (cr_all rfl) (by rfl) B.all (by decide +kernel) (pa_cons
              (pe_lc (own := [("k", 2)]) (g := gName 2) (by rfl) nd (pi_range1 rfl B.range (pa_cons (pe_callB call_len (by rfl) B.len PySem.boot_len (pa_cons (pv 1) pa_nil)) pa_nil))
                (blkOk_by (own := [("k", 2)]) (N := ["found", "due", "k"]) (sc := defScope st__law_same) (by decide +kernel)) (fun _ _ _ _ _ => pg_name (i := 2) nd rfl (Or.inl rfl))
                (fun _ _ _ _ _ => pts_nil)
                (fun _ _ _ _ _ => pe_cal c2 hr rfl (pa_cons (pe_ix (ix_seqK (K := K) rfl) (pv 0) (pv 2) (fun _ _ => rfl)) (pa_cons (pe_ix (ix_seqK (K := K) rfl) (pv 1) (pv 2) (fun _ _ => rfl)) pa_nil)))) pa_nil))))))) pss_nil)
        (pss_cons (ps_if (PW.pt (pw_or (pt_cmpR op_ne (pe_callB call_isi (by rfl) B.isinstance (by decide +kernel) (pa_cons (pv 0) (pa_cons (pe_bltn rfl B.bool (by decide +kernel) (v := .ty "bool") rfl) pa_nil))) (pe_callB call_isi (by rfl) B.isinstance (by decide +kernel) (pa_cons (pv 1) (pa_cons (pe_bltn rfl B.bool (by decide +kernel) (v := .ty "bool") rfl) pa_nil))) (nomark _))
              (pw_or1 (pt_cmpR op_ne (pe_callB call_isi (by rfl) B.isinstance (by decide +kernel) (pa_cons (pv 0) (pa_cons (pe_bltn rfl B.int (by decide +kernel) (v := .ty "int") rfl) pa_nil))) (pe_callB call_isi (by rfl) B.isinstance (by decide +kernel) (pa_cons (pv 1) (pa_cons (pe_bltn rfl B.int (by decide +kernel) (v := .ty "int") rfl) pa_nil))) (nomark _))))) (pss_one (ps_ret pe_bl)) pss_nil)
        (pss_one (ps_ret (pe_and (pe_cmpR op_eq (pe_callB call_isi (by rfl) B.isinstance (by decide +kernel) (pa_cons (pv 0) (pa_cons (pe_bltn rfl B.str (by decide +kernel) (v := .ty "str") rfl) pa_nil))) (pe_callB call_isi (by rfl) B.isinstance (by decide +kernel) (pa_cons (pv 1) (pa_cons (pe_bltn rfl B.str (by decide +kernel) (v := .ty "str") rfl) pa_nil))) (nomark _))
          (pe_one (pe_cmpR (op_eqD hr.units) (pv 0) (pv 1) (nomark _))))))), ?_⟩
      obtain ⟨hT, hin⟩ := tyX_dp hu
      have kk := fun U hU => kit_in (K := K) (tyName d) U hin hU
      refine ⟨_, rfl, by show 2 ≤ sizeLine; decide, fun t ht => ?_⟩
      have x3 : Ext H (upd H t (.tup [.ty "tuple", .ty "list"])) := .new ht
      refine ⟨u, t, _, _, _, _, rfl, upd_same, .cons (.ty "tuple") (.cons (.ty "list") .nil), (tyX_dp (dp_ext x3 hu)).1, kit_two _ hin, _, rfl, ?_⟩
      have hv3 := dp_ext x3 hv
      have hu3 := dp_ext x3 hu
      generalize upd H t (.tup [.ty "tuple", .ty "list"]) = H3 at x3 hv3 hu3 ⊢
      obtain ⟨tv, _⟩ := tyX_dp hv3
      obtain ⟨tu, _⟩ := tyX_dp hu3
      by_cases hs : tyName d = "tuple" ∨ tyName d = "list"
      · rw [decide_eq_true hs]
        refine iteT ?_
        refine ⟨_, rfl, v, _, _, _, _, rfl, .ty "tuple", tv, kk "tuple" (by simp), _, rfl, u, _, _, _, _, rfl, .ty "tuple", tu, kk "tuple" (by simp), rfl, _, rfl, ?_⟩
        rw [decide_eq_true rfl]
        refine iteF ⟨_, rfl, v, _, _, _, _, rfl, .ty "list", tv, kk "list" (by simp), _, rfl, u, _, _, _, _, rfl, .ty "list", tu, kk "list" (by simp), rfl, _, rfl, ?_⟩
        rw [decide_eq_true rfl]
        refine iteF ?_
        obtain ⟨av, xs, ds, rfl, sv, av2, hdd, hcl, hor⟩ := dp_seq hv3 hs
        obtain ⟨au, ys, ds', rfl, su, au2, _, _, hor'⟩ := dp_seq hu3 hs
        have eds : ds' = ds := seq_eq hor hor'
        subst eds
        have l1 := dpAll_len av2
        have l2 := dpAll_len au2
        have lenv : ∀ {H : Hp} {a : Addr} {xs : List V}, (SqL K H a xs ∨ SqT K H a xs) → LenV K (.ref a) H xs.length := fun h => by
          rcases h with h | h
          · exact .inl ⟨_, h, rfl⟩
          · exact .inr ⟨_, h, rfl⟩
        refine ⟨_, rfl, _, xs.length, rfl, lenv sv, _, rfl, _, ys.length, rfl, lenv su, rfl, _, rfl, ?_⟩
        obtain ⟨hl5, hsm2⟩ := smD_seq hor' hsm
        have elen : decide (V.int (xs.length : Int) = V.int (ys.length : Int)) = true := decide_eq_true (by rw [l1, l2])
        rw [elen]
        refine iteT ⟨_, rfl, _, ys.length, rfl, lenv su, _, rfl, by omega, by omega, fun D hD => ?_⟩
        have nlst : ∀ {H H' : Hp} {a : Addr} {xs : List V}, Ext H H' → (SqL K H a xs ∨ SqT K H a xs) → (SqL K H' a xs ∨ SqT K H' a xs) := fun x h => h.elim (fun z => .inl (x.sqL z)) fun z => .inr (x.sqT z)
        refine lc_range (lo := 0) (n := (ys.length : Int).toNat) (fun i H4 => H4 D = some (.lst ((List.replicate i true).map V.bl)) ∧ Ext H3 H4) ⟨upd_same, .new hD⟩ (fun i H4 hi ⟨e4, x4⟩ => ?_) fun H4 ⟨e4, x4⟩ => ?_
        · rw [Int.toNat_natCast] at hi
          have hx := List.getElem?_eq_getElem (show i < xs.length by omega)
          have hy := List.getElem?_eq_getElem hi
          obtain ⟨d1, hd1, hp1⟩ := dpAll_get' av2 hx
          obtain ⟨d2, hd2, hp2⟩ := dpAll_get' au2 hy
          have ed : d2 = d1 := by
            rw [hd1] at hd2
            exact (Option.some.inj hd2).symm
          subst ed
          have hmem := List.mem_of_getElem? hd1
          have hcn : d2.canLay0 = true := canLay_get (hcl hlay) d2 hmem
          have hdn : d2.depth < r := by
            have := depth_get (Nat.le_refl _) d2 hmem
            omega
          have e0 : (0 : Int) + (i : Int) = (i : Int) := Int.zero_add _
          refine ⟨rfl, ?_⟩
          rw [e0]
          dsimp only [tYes]
          rw [if_pos rfl]
          refine ⟨_, rfl, _, rfl, rix_of (nlst x4 sv) hx ⟨_, rfl, _, rfl, rix_of (nlst x4 su) hy ⟨_, _, d2, rfl, dp_ext x4 hp1, dp_ext x4 hp2, hcn, smDs_get hsm2 d2 hmem, hdn, fun H5 x5 => ?_⟩⟩⟩
          refine ⟨_, x5.lst e4, ?_, ?_, (x4.trans x5).write hD⟩
          · rw [List.length_map, List.length_replicate]
            exact small1000 (by omega)
          · rw [upd_same, List.replicate_succ', List.map_append]
            rfl
        · rw [Int.toNat_natCast] at e4
          refine ⟨D, List.replicate ys.length true, rfl, SqL.of e4, ?_⟩
          have et : ((List.replicate ys.length true).all id) = true := by
            rw [List.all_eq_true]
            intro b hb
            rw [List.eq_of_mem_replicate hb]
            rfl
          rw [et]
          exact k H4 (x3.trans x4)
      · rw [decide_eq_false hs]
        refine iteF ⟨_, rfl, v, _, _, _, _, rfl, .ty "bool", tv, kk "bool" (by simp), _, rfl, u, _, _, _, _, rfl, .ty "bool", tu, kk "bool" (by simp), rfl, _, rfl, ?_⟩
        rw [decide_eq_true rfl]
        refine iteF ⟨_, rfl, v, _, _, _, _, rfl, .ty "int", tv, kk "int" (by simp), _, rfl, u, _, _, _, _, rfl, .ty "int", tu, kk "int" (by simp), rfl, _, rfl, ?_⟩
        rw [decide_eq_true rfl]
        refine iteF ⟨_, rfl, v, _, _, _, _, rfl, .ty "str", tv, kk "str" (by simp), _, rfl, u, _, _, _, _, rfl, .ty "str", tu, kk "str" (by simp), rfl, _, rfl, ?_⟩
        have shd : SeqAt.shaped d = true := by
          have hd0 : d.depth = 0 := by
            have := hs
            cases hv3 <;> simp [tyName, PyData.depth] at this ⊢
          unfold SeqAt.shaped
          rw [hlay, hd0]
          rfl
        rw [decide_eq_true rfl]
        refine iteT ⟨_, rfl, _, rfl, d, d, hv3, hu3, shd, shd, ?_⟩
        rw [SeqAt.eqv_refl _ hlay]
        exact k H3 x3
end
end Wd

set_option Elab.async false
set_option linter.all false
set_option maxRecDepth 100000
set_option maxHeartbeats 4000000
/-! Sm: sum of a tuple of ints. -/
namespace Bx
open PySem PySem.Spec PyProof.Rows L2
theorem preSum_getD (ns : List Int) : ∀ i, i ≤ ns.length → preSum (fun i => ns.getD i 0) i = (ns.take i).sum
  | 0, _ => rfl
  | i + 1, h => by
    have e : ns.take (i + 1) = ns.take i ++ [ns[i]'(by omega)] := by
      rw [List.take_add_one, List.getElem?_eq_getElem (by omega)]
      rfl
    rw [e, List.sum_append]
    show preSum (fun i => ns.getD i 0) i + ns.getD i 0 = _
    rw [preSum_getD ns i (by omega), List.getD_eq_getElem?_getD, List.getElem?_eq_getElem (by omega)]
    simp
def rSumT (K : PySem.W.Frag) : List V → Hp → VK → Prop := fun vs H Q => ∃ (a : Addr) (ns : List Int), vs = [V.ref a] ∧ SqT K H a (ns.map V.int) ∧ Q (.int ns.sum) H
theorem cr_sumT {X : Cx} (hc : X.calm = true) : CallR X (.builtin "sum") (rSumT X.K) := by
  intro pins s σ H vs us Q I r h
  obtain ⟨a, ns, rfl, hs, q⟩ := h
  obtain ⟨its, rv, ht, hz⟩ := I.tuple hs
  rw [Vals.ref1 r]
  have ht : s.heap.IsTuple a its.toArray := ht
  have ne : a ≠ s.heap.objs.size := by
    obtain ⟨o, ho, _⟩ := ht
    exact Nat.ne_of_lt (Heap.lt_size ho)
  have hn : its.length = ns.length := by rw [← rv.length, List.length_map]
  refine call_sum_walkAnyS (wpAny_pyIter_tuple ht ?_)
  refine ⟨s.heap.objs.size, _, _, _, _, _, _, fun i => ns.getD i 0, rfl, (Walks.tuple (A := X.A.in1) (by simp [I.ok.hd hc]) s.heap.objs.size a ne its.toArray).toS, ⟨⟨_, Heap.get?_push_size _ rfl, rfl, rfl⟩, ht.push _⟩, fun b hb => ?_, fun i v hv => ?_, fun s' t' mv => ?_⟩
  · rw [Heap.size_push]
    rcases List.mem_cons.mp hb with e | e
    · rw [e]
      exact Nat.lt_succ_self _
    · rw [List.mem_singleton.mp e]
      obtain ⟨o, ho, _⟩ := ht
      exact Nat.lt_succ_of_lt (Heap.lt_size ho)
  · exact IntsAre.int_at rv.ints i v (by simpa using hv)
  · obtain ⟨h', g', d', tk', os'⟩ := s'
    obtain rfl : g' = s.gens := mv.gens
    obtain rfl : d' = s.drawn := mv.drawn
    obtain rfl : os' = s.os := mv.os
    have e : preSum (fun i => ns.getD i 0) its.toArray.size = ns.sum := by
      rw [List.size_toArray, hn, preSum_getD ns _ (Nat.le_refl _), List.take_length]
    rw [e]
    refine ⟨.int _, H, I.kept (t' := tk') fun b o eo => ?_, ⟨_, rfl⟩, q⟩
    refine mv.heap b o ?_ (Heap.get?_push_of_some _ eo)
    rw [List.mem_singleton]
    exact Nat.ne_of_lt (Heap.lt_size eo)
/-! ### three arguments by name, from behind -/
def rev3 {α : Type} : List α → List α → List α
  | [], [c, b, a] => [a, b, c]
  | _, _ => []
theorem rev3_rel {vs zs : List V} {us ws : List Value} (h1 : Vals vs us) (h2 : Vals zs ws) : Vals (rev3 vs zs) (rev3 us ws) := by
  cases h1 with
  | cons _ _ => exact .nil
  | nil =>
    cases h2 with
    | nil => exact .nil
    | cons a h3 => cases h3 with
      | nil => exact .nil
      | cons b h4 => cases h4 with
        | nil => exact .nil
        | cons c h5 => cases h5 with
          | nil => exact .cons c (.cons b (.cons a .nil))
          | cons _ _ => exact .nil
end Bx

set_option Elab.async false
set_option linter.all false
set_option maxRecDepth 100000
set_option maxHeartbeats 4000000
/-! Dr: sorted of lists of data of any length; list(d.values()). -/
namespace Bx
open PySem PySem.Spec PyProof.Rows L2
open PySem.W (EachIs AllAlike Sortable dataLe)
theorem each_of {α β : Type} {R : α → β → Prop} : ∀ {as : List α} {bs : List β}, as.length = bs.length → (∀ (i : Nat) (a : α) (b : β), as[i]? = some a → bs[i]? = some b → R a b) → EachIs R as bs
  | [], [], _, _ => .nil
  | a :: as, b :: bs, h, k => .cons (k 0 a b rfl rfl) (each_of (Nat.succ.inj h) fun i a b h1 h2 => k (i + 1) a b h1 h2)
theorem each_at {α β : Type} {R : α → β → Prop} : ∀ {as : List α} {bs : List β}, EachIs R as bs → ∀ {i : Nat} {a : α} {b : β}, as[i]? = some a → bs[i]? = some b → R a b
  | _, _, .cons h t, 0, _, _, h1, h2 => by cases h1; cases h2; exact h
  | _, _, .cons h t, i + 1, _, _, h1, h2 => each_at t (i := i) h1 h2
theorem zip_at {α β : Type} {as : List α} {bs : List β} {i : Nat} {p : α × β} (h : (as.zip bs)[i]? = some p) : as[i]? = some p.1 ∧ bs[i]? = some p.2 := by
  rw [List.getElem?_zip_eq_some] at h
  exact h
theorem vals_of_each : ∀ {us : List Value} {zs : List (V × PyData)}, EachIs (fun v (b : V × PyData) => RelV b.1 v) us zs → Vals (zs.map (·.1)) us
  | _, _, .nil => .nil
  | _, _, .cons h t => .cons h (vals_of_each t)
theorem vals_at : ∀ {xs : List V} {us : List Value}, Vals xs us → ∀ {i : Nat} {x : V} {u : Value}, xs[i]? = some x → us[i]? = some u → RelV x u
  | _, _, .cons h t, 0, _, _, h1, h2 => by cases h1; cases h2; exact h
  | _, _, .cons h t, i + 1, _, _, h1, h2 => vals_at t (i := i) h1 h2
theorem dpAll_zip {K : PySem.W.Frag} {H : Hp} : ∀ {zs : List (V × PyData)}, (∀ z ∈ zs, Dp K H z.1 z.2) → DpAll K H (zs.map (·.1)) (zs.map (·.2))
  | [], _ => .nil
  | z :: zs, h => .cons (h z List.mem_cons_self) (dpAll_zip fun y hy => h y (List.mem_cons_of_mem _ hy))
theorem dpAll_zipmem {K : PySem.W.Frag} {H : Hp} : ∀ {xs : List V} {ds : List PyData}, DpAll K H xs ds → ∀ z ∈ xs.zip ds, Dp K H z.1 z.2
  | _, _, .nil, _, hz => nomatch hz
  | _, _, .cons h t, z, hz => by
    rw [List.zip_cons_cons] at hz
    rcases List.mem_cons.mp hz with e | e
    · rw [e]; exact h
    · exact dpAll_zipmem t z e
/-- sorted(xs) of a list of data that compare -/
def rSortDt (K : PySem.W.Frag) : List V → Hp → VK → Prop := fun vs H Q => ∃ (a : Addr) (xs : List V) (ds : List PyData), vs = [V.ref a] ∧ SqL K H a xs ∧ DpAll K H xs ds ∧ AllAlike ds ∧ Sortable ds ∧ ds.length ≤ 100000 ∧ (∀ d ∈ ds, d.depth ≤ 40) ∧
  ∀ ys es p, DpAll K H ys es → es.Perm ds → es.Pairwise (fun d e => PySem.W.dataLt e d = false) → H p = none → Q (.ref p) (upd H p (.lst ys))
theorem dataLe_not {β : Type} (k : β → PyData) (a b : β) : dataLe false k a b = !PySem.W.dataLt (k b) (k a) := rfl
theorem cr_sortDt {X : Cx} (hu : X.A.units + 64 < cLine) : CallR X (.builtin "sorted") (rSortDt X.K) := by
  intro pins s σ H vs us Q I r h
  obtain ⟨a, xs, ds, rfl, hs, hd, ha, hk, hn, hdp, q⟩ := h
  rw [Vals.ref1 r]
  obtain ⟨its, rv, hl, hz⟩ := I.list hs
  have e1 : (xs.zip ds).map (·.2) = ds := List.map_snd_zip (Nat.le_of_eq (dpAll_len hd).symm)
  have e0 : (xs.zip ds).map (·.1) = xs := List.map_fst_zip (Nat.le_of_eq (dpAll_len hd))
  have el : its.length = (xs.zip ds).length := by rw [← rv.length, List.length_zip, dpAll_len hd]; omega
  have rd : ∀ (i : Nat) (u : Value) (z : V × PyData), its[i]? = some u → (xs.zip ds)[i]? = some z → RelV z.1 u ∧ ∃ as, Reads s.heap u z.2 as := fun i u z h1 h2 => by
    obtain ⟨h3, h4⟩ := zip_at h2
    have h5 := vals_at rv h3 h1
    obtain ⟨as, h6⟩ := Dp.reads I z.2 z.1 u (dpAll_zipmem hd z (List.mem_of_getElem? h2)) h5
    exact ⟨h5, as, h6⟩
  have hl' : s.heap.IsList a its.toArray := hl.isList
  refine PySem.W.sorted_data (vs := its) (bs := xs.zip ds) (R := fun v (b : V × PyData) => RelV b.1 v) (enc := fun b : V × PyData => b.2) hl' (each_of el fun i u z h1 h2 => (rd i u z h1 h2).1) (each_of el fun i u z h1 h2 => (rd i u z h1 h2).2) (by rw [e1]; exact ha) (by rw [e1]; exact hk) (by rw [List.length_zip, sizeLine_eq]; omega)
    (fun b hb => by have := hdp b.2 (by rw [← e1]; exact List.mem_map.mpr ⟨b, hb, rfl⟩); omega) fun out ho he => ?_
  have hv := vals_of_each he
  have hperm : ((xs.zip ds).mergeSort (dataLe false fun b : V × PyData => b.2)).Perm (xs.zip ds) := List.mergeSort_perm ..
  have tot := PySem.W.sortLe_total (listOrd itemOrd) false (fun b : V × PyData => PySem.W.keyToks b.2)
  have hsort : ((xs.zip ds).mergeSort (dataLe false fun b : V × PyData => b.2)).Pairwise (fun a b => dataLe false (fun b : V × PyData => b.2) a b = true) := List.pairwise_mergeSort (fun a b c h1 h2 => tot.trans a b c h1 h2) (fun a b => Bool.or_eq_true_iff.mpr (tot.total a b)) _
  generalize (xs.zip ds).mergeSort (dataLe false fun b : V × PyData => b.2) = zs at hv hperm hsort he
  have hlz : zs.length = out.length := by rw [he.length]
  have kp : ∀ b o, s.heap.get? b = some o → (sortedAll s.heap its out.toArray).get? b = some o := fun b o e => sortedAll_old e
  obtain ⟨n, hat⟩ := sortedAll_at s.heap its out.toArray
  have hfr : H (s.heap.objs.size + 1) = none := I.hok.fresh (Nat.le_succ _)
  refine ⟨.ref (s.heap.objs.size + 1), upd H (s.heap.objs.size + 1) (.lst (zs.map (·.1))), I.laid (t' := s.toks) kp (Nat.le_succ _) ⟨?_, out, n, hv, hat⟩, rfl, q _ (zs.map (·.2)) _ (dpAll_zip fun z hz => dpAll_zipmem hd z (hperm.mem_iff.mp hz)) ?_ ?_ hfr⟩
  · rw [List.length_map, hperm.length_eq, List.length_zip, sizeLine_eq]
    omega
  · have := hperm.map (·.2)
    rw [e1] at this
    exact this
  · rw [List.pairwise_map]
    refine hsort.imp fun {d e} h => ?_
    rw [dataLe_not] at h
    simpa using h
theorem cr_sortDtK {X : Cx} {K : PySem.W.Frag} (h : X.K = K) (hu : X.A.units + 64 < cLine) : CallR X (.builtin "sorted") (rSortDt K) := h ▸ cr_sortDt hu
/-! ### list(d.values()) -/
def rValsL : V → Hp → VK → Prop := fun x H Q => ∃ (d : Addr) (kvs : List (Key × V)), x = .ref d ∧ H d = some (.dK kvs) ∧ ∀ p, H p = none → Q (.ref p) (upd H p (.lst (kvs.map (·.2))))
def tListVals (te : TE) : TE := fun σ H Q => te σ H fun x H1 => rValsL x H1 Q
theorem vals_of_at2 : ∀ {xs : List V} {us : List Value}, xs.length = us.length → (∀ (j : Nat) (x : V) (u : Value), xs[j]? = some x → us[j]? = some u → RelV x u) → Vals xs us
  | [], [], _, _ => .nil
  | x :: xs, u :: us, h, k => .cons (k 0 x u rfl rfl) (vals_of_at2 (Nat.succ.inj h) fun j x u h1 h2 => k (j + 1) x u h1 h2)
theorem kv_at : ∀ {kvs : List (Key × V)} {vs : List (Key × Value)}, KV kvs vs → ∀ {j : Nat} {q : Key × V} {p : Key × Value}, kvs[j]? = some q → vs[j]? = some p → RelV q.2 p.2
  | _, _, .cons h t, 0, _, _, h1, h2 => by cases h1; cases h2; exact h.2
  | _, _, .cons h t, j + 1, _, _, h1, h2 => kv_at t (j := j) h1 h2
theorem pe_listVals {X : Cx} {e : Expr} {te : TE} {p apos cpos pos : Pos} (hc : X.calm = true) (he : PE X e te) (hg : Gl X "list") (hm : X.mg "list" = none) (hv : bootBuiltins "list" = some (.type "list")) (hbase : attributeBase e "values" X.env (eval e X.env) = eval e X.env := by rfl) (hline : (apos.endLine == cpos.line) = true := by rfl)
    (hs : starEach [.Call (.Attribute e "values" apos) [] [] cpos] X.env = (false, eval (.Call (.Attribute e "values" apos) [] [] cpos) X.env) :: starEach [] X.env := by rfl) :
    PE X (.Call (.Name "list" p) [.Call (.Attribute e "values" apos) [] [] cpos] [] pos) (tListVals te) := by
  refine ⟨fun pins s σ H Q I hq => wpAny_Call_Name_kw (ld_blt I hg hm hv (PyProof.Rows.callWith_type1 ?_ hs rfl))⟩
  rw [hs]
  refine Calls.spliced_cons ?_
  refine wpAny_Call_method (T := "dict") (id := "dict.values") hbase rfl hline F.plainAttrs_dict F.slot_dict_values F.type_dict_values (thn (he.run pins s σ H _ I hq) fun u s1 ⟨x, H1, I1, rx, d, kvs, ex, hd, q⟩ => ?_)
  subst ex
  obtain rfl : u = Value.ref d := rx
  obtain ⟨hz, hs0, vs, kv, hdo⟩ := I1.hok d _ hd
  obtain ⟨ep, hat⟩ := hdo.dictAt
  have lk : kvs.length = vs.length := Paired.length kv
  have I2 : Inv X pins σ H1 { s1 with heap := s1.heap.push { cls := .type "dict_values", data := .fields #[.ref d] } } := I1.kept (t' := s1.toks) fun b ob e => Heap.get?_push_of_some _ e
  refine ⟨hdo.typeIs, hdo.mapOf.noDict, ?_⟩
  refine method_meetsIn F.slot_dict_values F.entry_dict_values rfl (PySem.evalArgs_none ⟨rfl, hdo.typeIs, F.args_dict_values_1 _, _, meets_dict_values (mixKind X.prog X.w) d hs0, ⟨vs, hdo⟩, Calls.spliced_nil ?_⟩)
  refine PySem.W.kdl_call (PySem.W.kdl_values (knd := mixKind X.prog X.w) (kvs := vs) (ep := ep)) (I1.ok.hd hc) ⟨⟨_, Heap.get?_push_size _ rfl, rfl, rfl⟩, hat.push _⟩ (by rw [← lk]; exact hz) fun h' tk acc c hk hS hacc => ?_
  refine ⟨.ref _, _, I2.laid (t' := tk) hk (Nat.le_refl _) (show ObjOk X.prog X.w _ _ _ (.lst (kvs.map (·.2))) from ⟨by rw [List.length_map]; exact hz, acc.toList, c, vals_of_at2 ?_ fun j x u h1 h2 => ?_, by rw [Array.toArray_toList]; exact hS⟩), rfl, q _ (I2.hok.fresh (Nat.le_refl _))⟩
  · have el : acc.toList.length = acc.size := by simp
    rw [List.length_map, el, hacc.1, lk]
  · obtain ⟨k, hky⟩ := hacc.2 j u (by rw [← Array.getElem?_toList]; exact h2)
    rw [List.getElem?_map, Option.map_eq_some_iff] at h1
    obtain ⟨qv, h3, rfl⟩ := h1
    exact kv_at kv h3 hky
end Bx

set_option Elab.async false
set_option linter.all false
set_option maxRecDepth 100000
set_option maxHeartbeats 4000000
/-! Mn: min(xs, default=None) of data; repr of data where nothing is being shown. -/
namespace Bx
open PySem PySem.Spec PyProof.Rows L2
open PySem.W (dataLt)
/-! ### the order of alike data -/
theorem lt_irr (d : PyData) : dataLt d d = false := PyProof.Rows.lex_irrefl (O := PyProof.Rows.itemOrd) _
theorem lt_asym {d e : PyData} (h : dataLt d e = true) : dataLt e d = false := by
  cases z : dataLt e d with
  | false => rfl
  | true => exact (Bool.noConfusion ((lt_irr d).symm.trans (PyProof.Rows.lex_trans (O := PyProof.Rows.itemOrd) _ _ _ h z)))
theorem lt_neg {d e f : PyData} (h1 : dataLt e d = false) (h2 : dataLt f e = false) : dataLt f d = false := by
  cases z : dataLt f d with
  | false => rfl
  | true =>
    rcases PyProof.Rows.lex_negTrans (O := PyProof.Rows.itemOrd) _ (PySem.W.keyToks e) _ z with q | q
    · exact Bool.noConfusion (q.symm.trans h2)
    · exact Bool.noConfusion (q.symm.trans h1)
/-- neither is less: they are equal -/
theorem lt_tri {d e : PyData} (h : PySem.W.alike d e = true) (h1 : dataLt d e = false) (h2 : dataLt e d = false) : PyData.eqv d e = true := by
  have et : PySem.W.keyToks d = PySem.W.keyToks e := PyProof.Rows.lex_total (O := PyProof.Rows.itemOrd) _ _ h1 h2
  cases q : PyData.eqv d e with
  | true => rfl
  | false =>
    have z := (PySem.W.toks_eqv d e h).2 q [.inl 0] [.inl 1]
    rw [et, PySem.W.lex_pre, PyProof.Rows.lex_irrefl] at z
    exact absurd z (by decide +kernel)
theorem foldMin_le : ∀ (xs : List PyData) (x : PyData), (∀ y, y = x ∨ y ∈ xs → dataLt y (xs.foldl (fun a y => if dataLt y a then y else a) x) = false) ∧ (xs.foldl (fun a y => if dataLt y a then y else a) x = x ∨ xs.foldl (fun a y => if dataLt y a then y else a) x ∈ xs)
  | [], x => ⟨(fun y h => h.elim (fun e => e ▸ lt_irr y) fun h => nomatch h), .inl rfl⟩
  | z :: xs, x => by
    rw [List.foldl_cons]
    by_cases c : dataLt z x = true
    · rw [if_pos c]
      obtain ⟨h1, h2⟩ := foldMin_le xs z
      refine ⟨fun y h => ?_, .inr (h2.elim (fun e => by rw [e]; exact List.mem_cons_self) fun m => List.mem_cons_of_mem _ m)⟩
      rcases h with rfl | h
      · exact lt_neg (h1 z (.inl rfl)) (lt_asym c)
      · rcases List.mem_cons.mp h with rfl | h
        · exact h1 _ (.inl rfl)
        · exact h1 _ (.inr h)
    · rw [if_neg c]
      obtain ⟨h1, h2⟩ := foldMin_le xs x
      refine ⟨fun y h => ?_, h2.elim .inl fun m => .inr (List.mem_cons_of_mem _ m)⟩
      rcases h with rfl | h
      · exact h1 _ (.inl rfl)
      · rcases List.mem_cons.mp h with rfl | h
        · exact lt_neg (h1 x (.inl rfl)) (by simpa using c)
        · exact h1 _ (.inr h)
/-! ### min(xs, default=None) -/
def rMinDt (K : PySem.W.Frag) : List V → List V → Hp → VK → Prop := fun vs zs H Q => ∃ (a : Addr) (xs : List V) (ds : List PyData), vs = [V.ref a] ∧ zs = [V.non] ∧ SqL K H a xs ∧ DpAll K H xs ds ∧ PySem.W.AlikeAll ds ∧ PyData.depthAll ds ≤ 40 ∧
  (ds = [] → Q .non H) ∧ ∀ x d, x ∈ xs → d ∈ ds → Dp K H x d → (∀ e ∈ ds, dataLt e d = false) → Q x H
theorem cr_minDt {X : Cx} (hc : X.calm = true) (hu : X.A.units + 64 < cLine) : CallRK X (.builtin "min") ["default"] (rMinDt X.K) := by
  intro pins s σ H vs zs us ws Q I r1 r2 h
  obtain ⟨a, xs, ds, rfl, rfl, hs, hd, ha, hdp, q0, q⟩ := h
  obtain rfl : us = [Value.ref a] := Vals.ref1 r1
  obtain ⟨u, rfl, ru⟩ := vals1 r2
  cases (show u = Value.none from ru)
  obtain ⟨its, rv, hl, hz⟩ := I.list hs
  obtain ⟨as, hr⟩ := Dp.readsAll I ds xs its hd rv
  have hl' : s.heap.IsList a its.toArray := hl.isList
  have hr' : ReadsAll s.heap its.toArray.toList ds as := by simpa using hr
  refine PySem.W.min_list_default (I.ok.hd hc) hl' hr' ha (by omega) (fun e h' tk hk => ?_) fun y ys i v h' tk bs e hv rd hk => ?_
  · exact ⟨.non, H, I.kept (t' := tk) hk, rfl, q0 e⟩
  · have hv' : its[i]? = some v := by simpa using hv
    have hxl := rv.length
    have hi := (List.getElem?_eq_some_iff.mp hv').1
    have hx : xs[i]? = some xs[i] := List.getElem?_eq_getElem (by omega)
    obtain ⟨d, hd1, hd2⟩ := dpAll_get' hd hx
    have rel := vals_at rv hx hv'
    have I' := I.kept (t' := tk) hk
    obtain ⟨bs2, rd2⟩ := Dp.reads I' d _ v hd2 rel
    obtain ⟨m1, m2⟩ := foldMin_le ys y
    have md : PySem.W.minD y ys ∈ ds := by
      rw [e]
      rcases m2 with z | z
      · exact List.mem_cons.mpr (.inl z)
      · exact List.mem_cons_of_mem _ z
    have ed : PySem.W.minD y ys = d := PySem.W.alike_unique _ _ v _ _ (ha.1 _ md _ (List.mem_of_getElem? hd1)) rd rd2
    refine ⟨xs[i], H, I', rel, q _ d (List.getElem_mem _) (List.mem_of_getElem? hd1) hd2 fun e' he' => ?_⟩
    rw [← ed]
    refine m1 e' ?_
    rw [e] at he'
    exact List.mem_cons.mp he'
/-! ### repr of data -/
def rReprD (K : PySem.W.Frag) : List V → Hp → VK → Prop := fun vs H Q => ∃ (a : Addr) (d : PyData), vs = [V.ref a] ∧ Dp K H (.ref a) d ∧ d.showable = true ∧ d.hasDict = false ∧ d.depth ≤ 40 ∧ d.shown.length ≤ sizeLine ∧ Q (.str d.shown) H
theorem cr_reprD {X : Cx} (hg : X.A.guards = some []) (hu : X.A.units + 64 < cLine) : CallR X (.builtin "repr") (rReprD X.K) := by
  intro pins s σ H vs us Q I r h
  obtain ⟨a, d, rfl, hd, h1, h2, h3, h4, q⟩ := h
  obtain rfl : us = [Value.ref a] := Vals.ref1 r
  obtain ⟨as, rd⟩ := Dp.reads I d _ _ hd (rfl : RelV (V.ref a) (Value.ref a))
  exact repr_of_reads' rd h1 (PyData.noDict_hsm h2) hg (by omega) (fun _ _ e => e) (fun h' u tk hk => ⟨.str d.shown, H, I.kept (t' := tk) hk, ⟨u, rfl⟩, q⟩) h4
/-- data that repr tells: its depth, and how much it holds -/
structure Rp (n W : Nat) (d : PyData) : Prop where
  show_ : d.showable = true
  dict : d.hasDict = false
  short : d.leavesShort 13 = true
  dep : d.depth ≤ n
  wt : d.weight ≤ W
theorem Rp.mono {n W m V : Nat} {d : PyData} (h : Rp n W d) (h1 : n ≤ m) (h2 : W ≤ V) : Rp m V d := ⟨h.show_, h.dict, h.short, Nat.le_trans h.dep h1, Nat.le_trans h.wt h2⟩
theorem Rp.int {i : Int} (h1 : -999999999999 ≤ i) (h2 : i ≤ 999999999999) : Rp 0 40 (.int i) := by
  have e : i.natAbs < 2 ^ 40 := by
    have : (2 : Nat) ^ 40 = 1099511627776 := by decide
    omega
  have hlog : i ≠ 0 → i.natAbs.log2 < 40 := fun hz => (Nat.log2_lt (by omega)).mpr e
  refine ⟨?_, by simp [PyData.hasDict], ?_, by simp [PyData.depth], ?_⟩
  · simp only [PyData.showable, decide_eq_true_eq]
    by_cases hz : i = 0
    · subst hz; decide
    · have := hlog hz
      omega
  · simp only [PyData.leavesShort, decide_eq_true_eq]
    exact PyData.shown_int_le2 h1 h2
  · simp only [PyData.weight]
    by_cases hz : i = 0
    · subst hz; decide
    · have := hlog hz
      rw [if_neg (by simpa using hz)]
      omega
theorem Rp.non : Rp 0 40 .none := ⟨by simp [PyData.showable], by simp [PyData.hasDict], by simp [PyData.leavesShort], by simp [PyData.depth], by simp [PyData.weight]⟩
theorem rp_all {n W : Nat} : ∀ {ds : List PyData}, (∀ d ∈ ds, Rp n W d) → PyData.showableAll ds = true ∧ PyData.hasDictAll ds = false ∧ PyData.leavesShortAll 13 ds = true ∧ PyData.depthAll ds ≤ n ∧ PyData.weightAll ds ≤ ds.length * (W + 1)
  | [], _ => by simp [PyData.showableAll, PyData.hasDictAll, PyData.leavesShortAll, PyData.depthAll, PyData.weightAll]
  | d :: ds, h => by
    obtain ⟨h1, h2, h3, h4, h5⟩ := rp_all fun x hx => h x (List.mem_cons_of_mem _ hx)
    have g := h d List.mem_cons_self
    refine ⟨by simp [PyData.showableAll, g.show_, h1], by simp [PyData.hasDictAll, g.dict, h2], by simp [PyData.leavesShortAll, g.short, h3], ?_, ?_⟩
    · simp only [PyData.depthAll]
      have := g.dep
      omega
    · simp only [PyData.weightAll, List.length_cons, Nat.succ_mul]
      have := g.wt
      omega
theorem Rp.tup {n W : Nat} {ds : List PyData} (h : ∀ d ∈ ds, Rp n W d) {V : Nat} (hv : ds.length * (W + 1) ≤ V) : Rp (n + 1) V (.tuple ds) := by
  obtain ⟨h1, h2, h3, h4, h5⟩ := rp_all h
  exact ⟨by simpa [PyData.showable] using h1, by simpa [PyData.hasDict] using h2, by simpa [PyData.leavesShort] using h3, by simp only [PyData.depth]; omega, by simp only [PyData.weight]; omega⟩
theorem Rp.lst {n W : Nat} {ds : List PyData} (h : ∀ d ∈ ds, Rp n W d) {V : Nat} (hv : ds.length * (W + 1) ≤ V) : Rp (n + 1) V (.list ds) := by
  obtain ⟨h1, h2, h3, h4, h5⟩ := rp_all h
  exact ⟨by simpa [PyData.showable] using h1, by simpa [PyData.hasDict] using h2, by simpa [PyData.leavesShort] using h3, by simp only [PyData.depth]; omega, by simp only [PyData.weight]; omega⟩
theorem Rp.len {n W : Nat} {d : PyData} (h : Rp n W d) (hW : W ≤ 1000000) : d.shown.length ≤ sizeLine := by
  have h2 := PyData.shown_le 13 (by decide) d h.short
  have := h.wt
  rw [sizeLine_eq]
  omega
theorem rp_repr {K : PySem.W.Frag} {H : Hp} {a : Addr} {d : PyData} {Q : VK} {n W : Nat} (h : Rp n W d) (hn : n ≤ 40) (hW : W ≤ 1000000) (hd : Dp K H (.ref a) d) (q : Q (.str d.shown) H) : rReprD K [V.ref a] H Q :=
  ⟨a, d, rfl, hd, h.show_, h.dict, Nat.le_trans h.dep hn, h.len hW, q⟩
end Bx

set_option Elab.async false
set_option linter.all false
set_option maxRecDepth 100000
set_option maxHeartbeats 4000000
namespace Wd
open PySem PySem.Spec PyProof.Rows L2 Bx Gx











































section
/-! ### sorted lots -/
theorem perm_unmap {α β : Type} (f : α → β) {es fs : List β} (h : es.Perm fs) : ∀ {ws : List α}, fs = ws.map f → ∃ vs : List α, vs.Perm ws ∧ es = vs.map f := by
  induction h with
  | nil => intro ws e; cases ws with
    | nil => exact ⟨[], .refl _, rfl⟩
    | cons _ _ => cases e
  | cons x _ ih => intro ws e; cases ws with
    | nil => cases e
    | cons w ws =>
      injection e with e1 e2
      obtain ⟨vs, h1, h2⟩ := ih e2
      exact ⟨w :: vs, h1.cons w, by rw [List.map_cons, ← e1, h2]⟩
  | swap x y l => intro ws e; match ws, e with
    | a :: b :: ws, e =>
      injection e with e1 e
      injection e with e2 e3
      exact ⟨b :: a :: ws, .swap _ _ _, by rw [List.map_cons, List.map_cons, ← e1, ← e2, ← e3]⟩
  | trans _ _ ih1 ih2 => intro ws e; obtain ⟨vs, h1, h2⟩ := ih2 e; obtain ⟨us, h3, h4⟩ := ih1 h2; exact ⟨us, h3.trans h1, h4⟩
theorem perm_uniq {α : Type} {R : α → α → Prop} (as_ : ∀ a b, R a b → R b a → False) : ∀ {l m : List α}, l.Perm m → l.Pairwise R → m.Pairwise R → l = m
  | [], m, h, _, _ => (List.Perm.nil_eq h)
  | a :: l, [], h, _, _ => absurd h.length_eq (by simp)
  | a :: l, b :: m, h, hl, hm => by
    have hl' := List.pairwise_cons.mp hl
    have hm' := List.pairwise_cons.mp hm
    have e : a = b := by
      rcases List.mem_cons.mp (h.mem_iff.mp List.mem_cons_self) with e | e
      · exact e
      · rcases List.mem_cons.mp (h.mem_iff.mpr List.mem_cons_self) with f | f
        · exact f.symm
        · exact (as_ _ _ (hl'.1 b f) (hm'.1 a e)).elim
    subst e
    rw [perm_uniq as_ h.cons_inv hl'.2 hm'.2]
theorem lt_lots {u v : List Nat} (hu : u ≠ []) (hv : v ≠ []) (h : u.headD 0 ≠ v.headD 0) : PySem.W.dataLt (lotD u) (lotD v) = decide (u.headD 0 < v.headD 0) := by
  match u, hu with
  | a :: r, _ =>
    match v, hv with
    | b :: s, _ =>
      have hne : a ≠ b := h
      have e : PyData.eqv (.int (a : Int)) (.int (b : Int)) = false := by simp [PyData.eqv]; omega
      show PySem.W.dataLt (.tuple (.int (a : Int) :: _)) (.tuple (.int (b : Int) :: _)) = decide (a < b)
      rw [PySem.W.dataLt_tuple, PySem.W.dataLt_cons (by simp [PySem.W.alike]), e, if_neg Bool.false_ne_true, PySem.W.dataLt_int]
      exact decide_eq_decide.mpr (by omega)
abbrev hdLt (u v : List Nat) : Prop := u.headD 0 < v.headD 0
theorem sorted_lots {ws : List (List Nat)} (ne : ∀ u ∈ ws, u ≠ []) (asc : ws.Pairwise hdLt) {us : List (List Nat)} (hus : us.Perm ws) {es : List PyData} (pm : es.Perm (us.map lotD)) (pw : es.Pairwise fun d e => PySem.W.dataLt e d = false) : es = ws.map lotD := by
  obtain ⟨vs, h1, rfl⟩ := perm_unmap lotD pm rfl
  have h2 := h1.trans hus
  have nd : vs.Pairwise fun u v => u.headD 0 ≠ v.headD 0 := by
    have : ws.Pairwise fun u v => u.headD 0 ≠ v.headD 0 := asc.imp fun h => Nat.ne_of_lt h
    exact (h2.pairwise_iff (fun {a b} h => h.symm)).mpr this
  have hv : vs.Pairwise hdLt := by
    rw [List.pairwise_map] at pw
    refine List.Pairwise.imp_of_mem (fun {u v} hu hv h => ?_) (pw.and nd)
    have z := h.1
    rw [lt_lots (ne v (h2.mem_iff.mp hv)) (ne u (h2.mem_iff.mp hu)) h.2.symm, decide_eq_false_iff_not] at z
    have := h.2
    show u.headD 0 < v.headD 0
    omega
  rw [perm_uniq (R := hdLt) (fun a b h1 h2 => by unfold hdLt at h1 h2; omega) h2 hv asc]
theorem alike_lots (u v : List Nat) : PySem.W.alike (lotD u) (lotD v) = true := by
  have := PySem.W.alike_ints (u.map fun (p : Nat) => (p : Int)) (v.map fun (p : Nat) => (p : Int))
  rw [List.map_map, List.map_map] at this
  exact this
theorem allAlike_lots (us : List (List Nat)) : PySem.W.AllAlike (us.map lotD) := PySem.W.AllAlike.of alike_lots
theorem sortable_lots {us : List (List Nat)} (ne : ∀ u ∈ us, u ≠ []) : PySem.W.Sortable (us.map lotD) := .inl fun d hd => by
  obtain ⟨u, hu, rfl⟩ := List.mem_map.mp hd
  match u, ne u hu with
  | a :: r, _ => exact ⟨_, _, rfl⟩
theorem depth_lots {us : List (List Nat)} : ∀ d ∈ us.map lotD, d.depth ≤ 40 := fun d hd => by
  obtain ⟨u, _, rfl⟩ := List.mem_map.mp hd
  have : PyData.depthAll (u.map fun (p : Nat) => PyData.int (p : Int)) ≤ 0 := depthAll_le fun d hd => by
    obtain ⟨p, _, rfl⟩ := List.mem_map.mp hd
    simp [PyData.depth]
  show PyData.depth (.tuple _) ≤ 40
  simp only [PyData.depth]
  omega
end
section
/-! ### one piece -/
def One (bs : List (Nat × Nat)) (m : Nat) : Prop := ∀ p q, m.testBit p = true → m.testBit q = true → Mk.Conn bs (Mk.In m) p q
theorem one_rch {bs : List (Nat × Nat)} {m q r : Nat} (hq : m.testBit q = true) (R : Mk.Rch bs m (2 ^ q) r) : r = m ↔ One bs m := by
  have hR : ∀ x, r.testBit x = true ↔ Mk.Conn bs (Mk.In m) q x := fun x => by
    rw [R x]
    constructor
    · rintro ⟨p, hp, c⟩
      rw [Nat.testBit_two_pow, decide_eq_true_eq] at hp
      rw [hp]; exact c
    · intro c
      exact ⟨q, by rw [Nat.testBit_two_pow]; exact decide_eq_true rfl, c⟩
  constructor
  · intro e p p' hp hp'
    rw [← e] at hp hp'
    exact ((hR p).mp hp).symm.trans ((hR p').mp hp')
  · intro o
    refine Mk.eq_of_bits fun x => ?_
    rw [hR]
    exact ⟨fun c => c.snd, fun hx => o q x hq hx⟩
theorem low_of {m : Nat} (h : 0 < m) : ∃ q, m.testBit q = true ∧ ∀ p, p < q → m.testBit p = false := by
  obtain ⟨q, h1, h2, _⟩ := Mk.and_neg m h
  exact ⟨q, h1, h2⟩
/-- the law's walk: what is come to from q so far -/
structure Grow (bs : List (Nat × Nat)) (m q t r : Nat) (n : Nat) : Prop where
  at_ : r.testBit q = true
  sub : ∀ x, r.testBit x = true → Mk.Conn bs (Mk.In m) q x
  up : (∀ x, Mk.Conn bs (Mk.In m) q x → r.testBit x = true) ∨ t + 1 ≤ (Mk.bits n r).length
structure GrowIn (bs : List (Nat × Nat)) (m q i r0 r : Nat) : Prop where
  sub : ∀ x, r.testBit x = true → Mk.Conn bs (Mk.In m) q x
  old : ∀ x, r0.testBit x = true → r.testBit x = true
  near : ∀ x y, x < i → r0.testBit x = true → Mk.adj bs x y = true → m.testBit y = true → r.testBit y = true
theorem Grow.turn {bs : List (Nat × Nat)} {m q t r0 r n : Nat} (hm : m < 2 ^ n) (G : Grow bs m q t r0 n) (I : GrowIn bs m q n r0 r) : Grow bs m q (t + 1) r n := by
  refine ⟨I.old q G.at_, I.sub, ?_⟩
  rcases G.up with d | d
  · exact .inl fun x c => I.old x (d x c)
  · by_cases c : ∀ x y, r0.testBit x = true → m.testBit y = true → Mk.adj bs x y = true → r0.testBit y = true
    · exact .inl fun x cx => I.old x (cx.closed (T := fun z => r0.testBit z = true) G.at_ fun a b h1 h2 h3 => c a b h1 h2 h3).2
    · have : ∃ x y, r0.testBit x = true ∧ m.testBit y = true ∧ Mk.adj bs x y = true ∧ ¬ r0.testBit y = true := by
        refine Classical.byContradiction fun z => c fun x y h1 h2 h3 => Classical.byContradiction fun h4 => z ⟨x, y, h1, h2, h3, h4⟩
      obtain ⟨x, y, h1, h2, h3, h4⟩ := this
      have hxn : x < n := Mk.lt_of_bit hm (G.sub x h1).snd
      have hyn : y < n := Mk.lt_of_bit hm h2
      have hy := I.near x y hxn h1 h3 h2
      refine .inr ?_
      have hnd : (y :: Mk.bits n r0).Nodup := List.nodup_cons.mpr ⟨fun z => h4 (Mk.mem_bits.mp z).2, (Mk.bits_pair n r0).imp Nat.ne_of_lt⟩
      have := Mk.sub_le (m := Mk.bits n r) hnd fun z hz => by
        rcases List.mem_cons.mp hz with rfl | hz
        · exact Mk.mem_bits.mpr ⟨hyn, hy⟩
        · exact Mk.mem_bits.mpr ⟨(Mk.mem_bits.mp hz).1, I.old z (Mk.mem_bits.mp hz).2⟩
      rw [List.length_cons] at this
      omega
theorem Grow.fin {bs : List (Nat × Nat)} {m q r n : Nat} (G : Grow bs m q n r n) : Mk.Rch bs m (2 ^ q) r := fun x => by
  have hd : ∀ x, Mk.Conn bs (Mk.In m) q x → r.testBit x = true := by
    rcases G.up with d | d
    · exact d
    · have := Mk.bits_len n r
      omega
  constructor
  · intro h
    exact ⟨q, by rw [Nat.testBit_two_pow]; exact decide_eq_true rfl, G.sub x h⟩
  · rintro ⟨p, hp, c⟩
    rw [Nat.testBit_two_pow, decide_eq_true_eq] at hp
    exact hd x (hp ▸ c)
theorem bit_dec (m i : Nat) : decide (V.int (Builtin.bitAnd ((m : Int) / 2 ^ ((i : Nat) : Int).toNat) 1) = V.int 1) = m.testBit i := by
  rw [Int.toNat_natCast, shr_and]
  cases m.testBit i <;> simp
end
section
variable {P : Program} {w : World} {K : PySem.W.Frag} {mg : Str → Option Value} {base : Heap}
/-! ### _law_is_one -/
def spIsOne (K : PySem.W.Frag) : Sp := fun vs H Q _ => ∃ (l : Addr) (lk : List Nat) (n m : Nat) (bs : List (Nat × Nat)), vs = [.ref l, .int (m : Int)] ∧ H l = some (.lst (vsN lk)) ∧ Mk.Lk n bs lk ∧ n ≤ 12 ∧ m < 2 ^ n ∧ 0 < m ∧
  ∀ (b : Bool), (b = true ↔ One bs m) → Q (.bl b) H
abbrev ioN : List Str := ["rows", "bits", "reach", "k", "turn"]
end
section
/-! ### partings by two heads -/
def rest (n m : Nat) : Nat := (2 ^ n - 1) ^^^ m
theorem bit_whole (n q : Nat) : (2 ^ n - 1).testBit q = decide (q < n) := Nat.testBit_two_pow_sub_one n q
theorem bit_rest {n m q : Nat} (hq : q < n) : (rest n m).testBit q = !m.testBit q := by
  unfold rest
  rw [Nat.testBit_xor, bit_whole, decide_eq_true hq]
  cases m.testBit q <;> rfl
theorem rest_eq {n m : Nat} (h : m < 2 ^ n) : 2 ^ n - 1 - m = rest n m := by
  refine Nat.eq_of_testBit_eq fun i => ?_
  have e : 2 ^ n - 1 - m = 2 ^ n - (m + 1) := by omega
  rw [e, Nat.testBit_two_pow_sub_succ h]
  unfold rest
  rw [Nat.testBit_xor, bit_whole]
  by_cases hi : i < n
  · rw [decide_eq_true hi]
    cases m.testBit i <;> rfl
  · rw [decide_eq_false hi, Nat.testBit_lt_two_pow (Nat.lt_of_lt_of_le h (Nat.pow_le_pow_right (by decide) (by omega)))]
    rfl
theorem rest_lt {n m : Nat} (h : m < 2 ^ n) : rest n m < 2 ^ n := by
  rw [← rest_eq h]
  have := Nat.two_pow_pos n
  omega
theorem rest_rest {n m : Nat} (h : m < 2 ^ n) : rest n (rest n m) = m := by
  rw [← rest_eq (rest_lt h), ← rest_eq h]
  have := Nat.two_pow_pos n
  omega
structure IsPart (n : Nat) (bs : List (Nat × Nat)) (a b m : Nat) : Prop where
  pos : 0 < m
  one : m.testBit a = true
  two : m.testBit b = false
  hang : One bs m
  hang2 : One bs (rest n m)
noncomputable def isPartB (n : Nat) (bs : List (Nat × Nat)) (a b m : Nat) : Bool := @decide (IsPart n bs a b m) (Classical.propDecidable _)
theorem isPartB_iff {n : Nat} {bs : List (Nat × Nat)} {a b m : Nat} : isPartB n bs a b m = true ↔ IsPart n bs a b m := by
  exact @decide_eq_true_iff _ (Classical.propDecidable _)
noncomputable def partsTo (n : Nat) (bs : List (Nat × Nat)) (a b k : Nat) : List Nat := (List.range k).filter (isPartB n bs a b)
noncomputable abbrev partsOf (n : Nat) (bs : List (Nat × Nat)) (a b : Nat) : List Nat := partsTo n bs a b (2 ^ n - 1)
theorem partsTo_no {n : Nat} {bs : List (Nat × Nat)} {a b k : Nat} (h : ¬ IsPart n bs a b k) : partsTo n bs a b (k + 1) = partsTo n bs a b k := by
  unfold partsTo
  rw [List.range_succ, List.filter_append, List.filter_cons_of_neg (fun z => h (isPartB_iff.mp z))]
  simp
theorem partsTo_yes {n : Nat} {bs : List (Nat × Nat)} {a b k : Nat} (h : IsPart n bs a b k) : partsTo n bs a b (k + 1) = partsTo n bs a b k ++ [k] := by
  unfold partsTo
  rw [List.range_succ, List.filter_append, List.filter_cons_of_pos (isPartB_iff.mpr h)]
  rfl
theorem partsTo_one (n : Nat) (bs : List (Nat × Nat)) (a b : Nat) : partsTo n bs a b 1 = [] := by
  rw [show (1 : Nat) = 0 + 1 from rfl, partsTo_no (fun h => Nat.lt_irrefl 0 h.pos)]
  rfl
theorem partsTo_len (n : Nat) (bs : List (Nat × Nat)) (a b k : Nat) : (partsTo n bs a b k).length ≤ k := by
  unfold partsTo
  have := List.length_filter_le (isPartB n bs a b) (List.range k)
  rw [List.length_range] at this
  exact this
theorem mem_partsOf {n : Nat} {bs : List (Nat × Nat)} {a b m : Nat} : m ∈ partsOf n bs a b ↔ m < 2 ^ n - 1 ∧ IsPart n bs a b m := by
  unfold partsOf partsTo
  rw [List.mem_filter, List.mem_range, isPartB_iff]
abbrev wardsD (n m : Nat) : List PyData := [lotD (Mk.bits n m), lotD (Mk.bits n (rest n m))]
abbrev partD (n m : Nat) : PyData := .tuple (wardsD n m)
theorem bits_rest (n m : Nat) : (List.range n).filter (fun k => !m.testBit k) = Mk.bits n (rest n m) := by
  unfold Mk.bits
  refine List.filter_congr fun x hx => ?_
  rw [bit_rest (List.mem_range.mp hx)]
theorem alike_lotD (u v : List Nat) : PySem.W.alike (lotD u) (lotD v) = true := by
  have h := PySem.W.alike_ints (u.map fun (p : Nat) => (p : Int)) (v.map fun (p : Nat) => (p : Int))
  rw [List.map_map, List.map_map] at h
  exact h
theorem alike_part (n m m' : Nat) : PySem.W.alike (partD n m) (partD n m') = true := by
  simp only [PySem.W.alike, PySem.W.alikeAll, alike_lotD, Bool.and_self]
theorem depth_lotD (u : List Nat) : (lotD u).depth ≤ 1 := by
  have : PyData.depthAll (u.map fun (p : Nat) => PyData.int (p : Int)) ≤ 0 := depthAll_le fun d hd => by
    obtain ⟨p, _, rfl⟩ := List.mem_map.mp hd
    simp [PyData.depth]
  unfold lotD
  simp only [PyData.depth]
  omega
theorem depth_part (n m : Nat) : (partD n m).depth ≤ 2 := by
  have h1 := depth_lotD (Mk.bits n m)
  have h2 := depth_lotD (Mk.bits n (rest n m))
  simp only [partD, wardsD, PyData.depth, PyData.depthAll]
  omega
theorem noL_lotD (u : List Nat) : noL (lotD u) = true := by
  show noLs _ = true
  exact noLs_map _ (fun _ => rfl) u
theorem noL_part (n m : Nat) : noL (partD n m) = true := by
  show noLs _ = true
  rw [noLs, noL_lotD, noLs, noL_lotD]
  rfl
end
section
variable {P : Program} {w : World} {K : PySem.W.Frag} {mg : Str → Option Value} {base : Heap}
/-! ### the law's partings -/
def spLParts (K : PySem.W.Frag) : Sp := fun vs H Q _ => ∃ (l : V) (fs : List Int) (bs : List (Nat × Nat)) (a b : Nat), vs = [l, .int (a : Int), .int (b : Int)] ∧ Dp K H l (landD fs bs) ∧ fs.length ≤ 12 ∧ Mk.Bs fs.length bs ∧ a < fs.length ∧ b < fs.length ∧
  ∀ (q : Addr) (ys : List V) (ms : List Nat) (H' : Hp), Ext H H' → H q = none → H' q = some (.lst ys) → DpAll K H' ys (ms.map (partD fs.length)) → ms.Perm (partsOf fs.length bs a b) → (ms.map (partD fs.length)).Pairwise (fun d e => PySem.W.dataLt e d = false) → Q (.ref q) H'
abbrev lpN : List Str := ["told", "one", "other", "rows", "many", "found", "whole", "bits", "k"]
theorem small5000 {n : Nat} (h : n ≤ 5000) : n < sizeLine := Nat.lt_of_le_of_lt h (by decide)
end
end Wd

set_option Elab.async false
set_option linter.all false
set_option maxRecDepth 100000
set_option maxHeartbeats 4000000
namespace Wd
open PySem PySem.Spec PyProof.Rows L2 Bx Gx











































section
variable {P : Program} {w : World} {K : PySem.W.Frag} {mg : Str → Option Value} {base : Heap}
/-! ### check_head -/
def spCheckHead (K : PySem.W.Frag) : Sp := fun vs H Q _ => ∃ (l : V) (fs : List Int) (bd : PyData) (p : Nat), vs = [l, .int (p : Int)] ∧ Dp K H l (.tuple [.tuple (fs.map .int), bd]) ∧ fs.length ≤ 12 ∧ p < fs.length ∧ Q .non H
theorem sc_check_head : FnScope ["land", "head"] ["land", "head"] (defScope st_check_head) := ⟨rfl, rfl, rfl, by decide +kernel, rfl, by decide +kernel, by decide +kernel⟩
theorem ok_check_head {f : Addr} {fd : FuncData} (F : Fun K "check_head" "check_head" st_check_head f fd) (c1 : Cal P w K mg base 2 "is_place" ["land", "value"] (spIsPlace K)) : FnOk P w K mg base CX0 3 f fd ["land", "head"] (spCheckHead K) := by
  refine F.ok sc_check_head (fun vs H Q E h => ?_) (fun cdv A outer s H vs Q E hr h => ?_)
  · obtain ⟨l, fs, bd, p, rfl, _⟩ := h
    rfl
  · obtain ⟨l, fs, bd, p, rfl, hl, hn, hp, k⟩ := h
    refine ⟨_, pss_one (ps_if (pt_not (pt_val (pe_cal c1 hr rfl (pa_cons (pv 0) (pa_cons (pv 1) pa_nil))) (by intro _; rfl))) pss_never pss_nil), ?_⟩
    have e : isIntD 0 ((fs.length : Int) - 1) (.int (p : Int)) = true := decide_eq_true (by omega)
    refine ⟨_, rfl, _, rfl, _, _, fs, bd, .int (p : Int), rfl, hl, by omega, .int _, ⟨true, by rw [e], iteF k⟩⟩
/-! ### hangs_together -/
def spHangsTog (K : PySem.W.Frag) (T1 : Addr) : Sp := fun vs H Q _ => ∃ (l : Addr) (lk : List Nat) (n m : Nat) (bs : List (Nat × Nat)), vs = [.ref l, .int (m : Int)] ∧ H l = some (.lst (vsN lk)) ∧ Mk.Lk n bs lk ∧ Mk.Bs n bs ∧ n ≤ 12 ∧ m < 2 ^ n ∧ 0 < m ∧ TabG H T1 ∧
  ∀ (b : Bool) H', Ext H H' → (∀ qs, Mk.Pcs bs m qs → b = decide (qs.length = 1)) → Q (.bl b) H'
theorem sc_hangs_together : FnScope ["links", "mask"] ["links", "mask"] (defScope st_hangs_together) := ⟨rfl, rfl, rfl, by decide +kernel, rfl, by decide +kernel, by decide +kernel⟩
theorem pcs_first {bs : List (Nat × Nat)} {m q r : Nat} (hq : m.testBit q = true) (hlow : ∀ p, p < q → m.testBit p = false) (hR : Mk.Rch bs m (2 ^ q) r) {qs : List Nat} (h : Mk.Pcs bs m qs) : r = m ↔ qs.length = 1 := by
  cases h with
  | nil => simp at hq
  | @cons _ q' p l hq' hlow' hR' hP =>
    have e := Mk.low_uniq hq hlow hq' hlow'
    subst e
    have e2 := hR.uniq hR'
    subst e2
    rw [List.length_cons]
    constructor
    · intro e
      rw [e, Nat.xor_self] at hP
      generalize hz : (0 : Nat) = z at hP
      cases hP with
      | nil => rfl
      | cons h1 _ _ _ =>
        rw [← hz, Nat.zero_testBit] at h1
        cases h1
    · intro e
      have h0 := hP.none (List.length_eq_zero_iff.mp (by omega))
      have h1 : (m ^^^ r) ^^^ r = m := by rw [Nat.xor_assoc, Nat.xor_self, Nat.xor_zero]
      rw [h0, Nat.zero_xor] at h1
      exact h1
theorem ok_hangs_together {f T1 : Addr} {fd : FuncData} (F : Fun K "hangs_together" "hangs_together" st_hangs_together f fd) (c1 : Cal P w K mg base 7 "reached" ["links", "start", "mask"] (spReached K T1)) : FnOk P w K mg base CX0 8 f fd ["links", "mask"] (spHangsTog K T1) := by
  refine F.ok sc_hangs_together (fun vs H Q E h => ?_) (fun cdv A outer s H vs Q E hr h => ?_)
  · obtain ⟨l, lk, n, m, bs, rfl, _⟩ := h
    rfl
  · obtain ⟨l, lk, n, m, bs, rfl, hl, L, hb, hn, hm, hm0, hT, k⟩ := h
    refine ⟨_, pss_one (ps_ret (pe_cmpR op_eq (pe_cal c1 hr rfl (pa_cons (pv 0) (pa_cons (pe_op op_and (pv 1) (pe_un un_neg (pv 1))) (pa_cons (pv 1) pa_nil)))) (pv 1) (nomark _))), ?_⟩
    obtain ⟨q, hq, hlow, hand⟩ := Mk.and_neg m hm0
    refine ⟨_, rfl, _, rfl, _, rfl, _, rfl, _, _, rfl, rfl, _, rfl, l, lk, n, 2 ^ q, m, bs, ?_, hl, L, hb, hn, hm, ?_, hT, fun r H3 x3 hR => ?_⟩
    · dsimp only [List.append_nil]
      rw [hand]
      rfl
    · intro z hz
      rw [Nat.testBit_two_pow, decide_eq_true_eq] at hz
      rw [← hz]
      exact hq
    · refine ⟨_, rfl, rfl, ?_⟩
      refine k _ H3 x3 fun qs hqs => ?_
      have := pcs_first hq hlow hR hqs
      by_cases e : r = m
      · rw [decide_eq_true (this.mp e)]
        exact decide_eq_true (by rw [e])
      · rw [decide_eq_false (fun z => e (this.mpr z))]
        exact decide_eq_false fun z => e (by have := V.int.inj z; omega)
theorem mask_pos {ps : List Nat} (ha : ps.Pairwise (· < ·)) (hne : ps ≠ []) : 0 < Mk.mask ps := by
  cases ps with
  | nil => exact absurd rfl hne
  | cons p r =>
    have h : (Mk.mask (p :: r)).testBit p = true := by rw [Mk.bit_mask ha]; simp
    refine Nat.pos_of_ne_zero fun z => ?_
    rw [z, Nat.zero_testBit] at h
    cases h
end
section
variable {P : Program} {w : World} {K : PySem.W.Frag} {mg : Str → Option Value} {base : Heap}
/-! ### whole_mask -/
def spWhole (K : PySem.W.Frag) : Sp := fun vs H Q _ => ∃ (l : V) (fs : List Int) (bd : PyData), vs = [l] ∧ Dp K H l (.tuple [.tuple (fs.map .int), bd]) ∧ fs.length ≤ 12 ∧ Q (.int ((2 ^ fs.length - 1 : Nat) : Int)) H
theorem sc_whole_mask : FnScope ["land"] ["land"] (defScope st_whole_mask) := ⟨rfl, rfl, rfl, by decide +kernel, rfl, by decide +kernel, by decide +kernel⟩
theorem ok_whole_mask {f : Addr} {fd : FuncData} (F : Fun K "whole_mask" "whole_mask" st_whole_mask f fd) (B : Bl mg) : FnOk P w K mg base CX0 1 f fd ["land"] (spWhole K) := by
  refine F.ok sc_whole_mask (fun vs H Q E h => ?_) (fun cdv A outer s H vs Q E hr h => ?_)
  · obtain ⟨l, fs, bd, rfl, _⟩ := h
    rfl
  · obtain ⟨l, fs, bd, rfl, hl, hn, k⟩ := h
    refine ⟨_, pss_one (ps_ret (pe_op op_sub (pe_op op_shl pe_int (pe_callB call_len (by rfl) B.len PySem.boot_len (pa_cons (pe_ix ix_tup (pv 0) pe_int (fun _ _ => rfl)) pa_nil))) pe_int)), ?_⟩
    obtain ⟨al, xl, rfl, h2, h3⟩ := dp_tup hl
    cases h3 with
    | cons hf h4 =>
    obtain ⟨af, rfl, h5⟩ := dp_ints hf
    refine ⟨_, rfl, al, _, _, _, rfl, rfl, h2, atI_nat (j := 0) rfl, _, fs.length, rfl, .inr ⟨_, h5, by simp⟩, _, _, rfl, rfl, ⟨by omega, by omega, by decide⟩, _, _, rfl, rfl, ?_⟩
    have e : (1 : Int) * 2 ^ ((fs.length : Nat) : Int).toNat - 1 = ((2 ^ fs.length - 1 : Nat) : Int) := by
      rw [Int.toNat_natCast, Int.one_mul]
      have h := Nat.two_pow_pos fs.length
      have h2 : ((2 : Int) ^ fs.length) = ((2 ^ fs.length : Nat) : Int) := by simp
      rw [h2]
      omega
    show Q (V.int ((1 : Int) * 2 ^ ((fs.length : Nat) : Int).toNat - 1)) H
    rw [e]
    exact k
end
section
variable {P : Program} {w : World} {K : PySem.W.Frag} {mg : Str → Option Value} {base : Heap}
/-! ### check_heads -/
def spCheckHeads (K : PySem.W.Frag) : Sp := fun vs H Q _ => ∃ (l : V) (fs : List Int) (bd : PyData) (a b : Nat), vs = [l, .int (a : Int), .int (b : Int)] ∧ Dp K H l (.tuple [.tuple (fs.map .int), bd]) ∧ fs.length ≤ 12 ∧ a < fs.length ∧ b < fs.length ∧ a ≠ b ∧ Q .non H
theorem sc_check_heads : FnScope ["land", "head", "other_head"] ["land", "head", "other_head"] (defScope st_check_heads) := ⟨rfl, rfl, rfl, by decide +kernel, rfl, by decide +kernel, by decide +kernel⟩
theorem ok_check_heads {f : Addr} {fd : FuncData} (F : Fun K "check_heads" "check_heads" st_check_heads f fd) (c1 : Cal P w K mg base 3 "check_head" ["land", "head"] (spCheckHead K)) : FnOk P w K mg base CX0 4 f fd ["land", "head", "other_head"] (spCheckHeads K) := by
  refine F.ok sc_check_heads (fun vs H Q E h => ?_) (fun cdv A outer s H vs Q E hr h => ?_)
  · obtain ⟨l, fs, bd, a, b, rfl, _⟩ := h
    rfl
  · obtain ⟨l, fs, bd, a, b, rfl, hl, hn, ha, hb, hab, k⟩ := h
    refine ⟨_, pss_cons (ps_expr (pe_cal c1 hr rfl (pa_cons (pv 0) (pa_cons (pv 1) pa_nil))))
      (pss_cons (ps_expr (pe_cal c1 hr rfl (pa_cons (pv 0) (pa_cons (pv 2) pa_nil))))
      (pss_one (ps_if (pt_cmpR op_eq (pv 1) (pv 2) (nomark _)) pss_never pss_nil))), ?_⟩
    refine ⟨_, rfl, _, rfl, l, fs, bd, a, rfl, hl, hn, ha, ?_⟩
    refine ⟨_, rfl, _, rfl, l, fs, bd, b, rfl, hl, hn, hb, ?_⟩
    refine ⟨_, rfl, _, rfl, rfl, _, rfl, ?_⟩
    rw [decide_eq_false (show ¬ V.int (a : Int) = V.int (b : Int) from fun z => by injection z with z; omega)]
    exact iteF k
/-! ### is_between -/
def spBetween : Sp := fun vs H Q _ => ∃ (m a b : Nat), vs = [.int (m : Int), .int (a : Int), .int (b : Int)] ∧ Q (.bl (m.testBit a && !m.testBit b)) H
theorem sc_is_between : FnScope ["mask", "head", "other_head"] ["mask", "head", "other_head"] (defScope st_is_between) := ⟨rfl, rfl, rfl, by decide +kernel, rfl, by decide +kernel, by decide +kernel⟩
theorem ok_is_between {f : Addr} {fd : FuncData} (F : Fun K "is_between" "is_between" st_is_between f fd) : FnOk P w K mg base CX0 1 f fd ["mask", "head", "other_head"] spBetween := by
  refine F.ok sc_is_between (fun vs H Q E h => ?_) (fun cdv A outer s H vs Q E hr h => ?_)
  · obtain ⟨m, a, b, rfl, _⟩ := h
    rfl
  · obtain ⟨m, a, b, rfl, k⟩ := h
    refine ⟨_, pss_one (ps_ret (pe_and (pe_cmpR op_eq (pe_op op_and (pe_op op_shr (pv 0) (pv 1)) pe_int) pe_int (nomark _)) (pe_one (pe_cmpR op_eq (pe_op op_and (pe_op op_shr (pv 0) (pv 2)) pe_int) pe_int (nomark _))))), ?_⟩
    have bitV : ∀ (m i : Nat) (c : Int) (hc : c = 0 ∨ c = 1), decide (V.int (Builtin.bitAnd ((m : Int) / 2 ^ ((i : Nat) : Int).toNat) 1) = V.int c) = (if c = 1 then m.testBit i else !m.testBit i) := fun m i c hc => by
      rw [Int.toNat_natCast, shr_and]
      rcases hc with rfl | rfl <;> cases m.testBit i <;> simp
    refine ⟨_, rfl, _, rfl, _, _, rfl, rfl, by show (0 : Int) ≤ (a : Int); omega, _, _, rfl, rfl, rfl, _, rfl, ?_⟩
    rw [bitV m a 1 (.inr rfl), if_pos rfl]
    cases ea : m.testBit a with
    | false =>
      rw [ea] at k
      exact iteF k
    | true =>
      rw [ea] at k
      refine iteT ⟨_, rfl, _, rfl, _, _, rfl, rfl, by show (0 : Int) ≤ (b : Int); omega, _, _, rfl, rfl, rfl, ?_⟩
      rw [bitV m b 0 (.inl rfl), if_neg (by decide)]
      exact k
/-! ### hangs_together, told by what One says -/
def spHangOne (K : PySem.W.Frag) (T1 : Addr) : Sp := fun vs H Q _ => ∃ (l : Addr) (lk : List Nat) (n m : Nat) (bs : List (Nat × Nat)), vs = [.ref l, .int (m : Int)] ∧ H l = some (.lst (vsN lk)) ∧ Mk.Lk n bs lk ∧ Mk.Bs n bs ∧ n ≤ 12 ∧ m < 2 ^ n ∧ 0 < m ∧ TabG H T1 ∧
  ∀ (b : Bool) H', Ext H H' → (b = true ↔ One bs m) → Q (.bl b) H'
theorem sc_hangs_one : FnScope ["links", "mask"] ["links", "mask"] (defScope st_hangs_together) := ⟨rfl, rfl, rfl, by decide +kernel, rfl, by decide +kernel, by decide +kernel⟩
theorem ok_hangs_one {f T1 : Addr} {fd : FuncData} (F : Fun K "hangs_together" "hangs_together" st_hangs_together f fd) (c1 : Cal P w K mg base 7 "reached" ["links", "start", "mask"] (spReached K T1)) : FnOk P w K mg base CX0 8 f fd ["links", "mask"] (spHangOne K T1) := by
  refine F.ok sc_hangs_one (fun vs H Q E h => ?_) (fun cdv A outer s H vs Q E hr h => ?_)
  · obtain ⟨l, lk, n, m, bs, rfl, _⟩ := h
    rfl
  · obtain ⟨l, lk, n, m, bs, rfl, hl, L, hb, hn, hm, hm0, hT, k⟩ := h
    refine ⟨_, pss_one (ps_ret (pe_cmpR op_eq (pe_cal c1 hr rfl (pa_cons (pv 0) (pa_cons (pe_op op_and (pv 1) (pe_un un_neg (pv 1))) (pa_cons (pv 1) pa_nil)))) (pv 1) (nomark _))), ?_⟩
    obtain ⟨q, hq, hlow, hand⟩ := Mk.and_neg m hm0
    refine ⟨_, rfl, _, rfl, _, rfl, _, rfl, _, _, rfl, rfl, _, rfl, l, lk, n, 2 ^ q, m, bs, ?_, hl, L, hb, hn, hm, ?_, hT, fun r H3 x3 hR => ?_⟩
    · dsimp only [List.append_nil]
      rw [hand]
      rfl
    · intro z hz
      rw [Nat.testBit_two_pow, decide_eq_true_eq] at hz
      rw [← hz]
      exact hq
    · refine ⟨_, rfl, rfl, k _ H3 x3 ?_⟩
      rw [decide_eq_true_eq, ← one_rch hq hR]
      exact ⟨fun z => by injection z with z; omega, fun z => by rw [z]⟩
/-! ### partings -/
def spPartings (K : PySem.W.Frag) (T1 : Addr) : Sp := fun vs H Q _ => ∃ (l : V) (fs : List Int) (bs : List (Nat × Nat)) (a b : Nat), vs = [l, .int (a : Int), .int (b : Int)] ∧ Dp K H l (landD fs bs) ∧ fs.length ≤ 12 ∧ Mk.Bs fs.length bs ∧ a < fs.length ∧ b < fs.length ∧ TabG H T1 ∧
  ∀ (q : Addr) (ys : List V) (H' : Hp), Ext H H' → H q = none → H' q = some (.lst ys) → DpAll K H' ys ((partsOf fs.length bs a b).map (partD fs.length)) → Q (.ref q) H'
abbrev paN : List Str := ["land", "head", "other_head", "links", "whole", "found", "mask"]
theorem sc_partings : FnScope paN ["land", "head", "other_head"] (defScope st_partings) := ⟨rfl, rfl, rfl, by decide +kernel, rfl, by decide +kernel, by decide +kernel⟩
theorem ok_partings {f T1 : Addr} {fd : FuncData} (F : Fun K "partings" "partings" st_partings f fd) (B : Bl mg) (c1 : Cal P w K mg base 1 "links_of" ["land"] (spLinksOf K)) (c2 : Cal P w K mg base 1 "whole_mask" ["land"] (spWhole K)) (c3 : Cal P w K mg base 1 "is_between" ["mask", "head", "other_head"] spBetween)
    (c4 : Cal P w K mg base 8 "hangs_together" ["links", "mask"] (spHangOne K T1)) (c5 : Cal P w K mg base 6 "lot_of" ["mask"] (spLotOf K T1)) : FnOk P w K mg base CX0 9 f fd ["land", "head", "other_head"] (spPartings K T1) := by
  refine F.ok sc_partings (fun vs H Q E h => ?_) (fun cdv A outer s H vs Q E hr h => ?_)
  · obtain ⟨l, fs, bs, a, b, rfl, _⟩ := h
    rfl
  · obtain ⟨l, fs, bs, a, b, rfl, hd, hn, hb, ha, hb2, hT, k⟩ := h
    have nd := sc_partings.nd
    have hr1 := hr.mono (j := 1) (by decide)
    have hr6 := hr.mono (j := 6) (by decide)
    refine ⟨_, pss_cons (ps_set (i := 3) nd rfl (Or.inl rfl) (pe_cal c1 hr1 rfl (pa_cons (pv 0) pa_nil)))
      (pss_cons (ps_set (i := 4) nd rfl (Or.inl rfl) (pe_cal c2 hr1 rfl (pa_cons (pv 0) pa_nil)))
      (pss_cons (ps_set (i := 5) nd rfl (Or.inl rfl) (pe_lst pa_nil))
      (pss_cons (ps_for PassesOwn.never rfl (pi_range2 rfl B.range (pa_cons pe_int (pa_cons (pv 4) pa_nil))) (pg_name (i := 6) nd rfl (Or.inl rfl))
        (pss_one (ps_if (PW.pt (pw_and (pt_val (pe_cal c3 hr1 rfl (pa_cons (pv 6) (pa_cons (pv 1) (pa_cons (pv 2) pa_nil)))) (by intro _; rfl)) (pw_and1 (pt_val (pe_cal c4 hr rfl (pa_cons (pv 3) (pa_cons (pv 6) pa_nil))) (by intro _; rfl)))))
          (pss_one (ps_if (pt_val (pe_cal c4 hr rfl (pa_cons (pv 3) (pa_cons (pe_op op_xor (pv 4) (pv 6)) pa_nil))) (by intro _; rfl))
            (pss_one (ps_expr (pe_bm PySem.F.plainAttrs_list PySem.F.slot_list_append PySem.F.type_list_append mt_append (pv 5) (pa_cons (pe_tup
              (pa_cons (pe_cal c5 hr6 rfl (pa_cons (pv 6) pa_nil)) (pa_cons (pe_cal c5 hr6 rfl (pa_cons (pe_op op_xor (pv 4) (pv 6)) pa_nil)) pa_nil))) pa_nil)))) pss_nil)) pss_nil)))
      (pss_one (ps_ret (pv 5)))))), ?_⟩
    have hp12 : 2 ^ fs.length ≤ 2 ^ 12 := Nat.pow_le_pow_right (by decide) hn
    have hp0 := Nat.two_pow_pos fs.length
    generalize hnn : fs.length = n at hn hb ha hb2 k hp12 hp0
    refine ⟨_, rfl, l, fs, bs, rfl, hd, by omega, by rw [hnn]; exact hb, fun r H1 lk x1 hr0 hlk L => ?_⟩
    rw [hnn] at L
    refine ⟨_, rfl, l, fs, bordD bs, rfl, dp_ext x1 hd, by omega, ?_⟩
    rw [hnn]
    refine ⟨Nat.zero_le _, fun p hp => ?_⟩
    have x2 : Ext H1 (upd H1 p (.lst [])) := .new hp
    have h1p : (upd H1 p (.lst [])) p = some (.lst []) := upd_same
    dsimp only [gName, tSeq, List.set]
    generalize hH2 : upd H1 p (.lst []) = H2 at x2 h1p ⊢
    have hT1 := x1.tabs _ hT
    refine ⟨_, rfl, _, _, rfl, ⟨by decide, by decide, by omega, by omega⟩, for_range (lo := 1) (n := (((2 ^ n - 1 : Nat) : Int) - 1).toNat) (fun i σ H3 => ∃ (xs : List V) (o6 : Option V), σ = [some l, some (.int (a : Int)), some (.int (b : Int)), some (.ref r), some (.int ((2 ^ n - 1 : Nat) : Int)), some (.ref p), o6] ∧
        H3 p = some (.lst xs) ∧ DpAll K H3 xs ((partsTo n bs a b (i + 1)).map (partD n)) ∧ Ext H1 H3)
      ⟨[], _, rfl, h1p, by rw [partsTo_one]; exact .nil, x2⟩ ?_ ?_⟩
    · rintro i σ H3 hi ⟨xs, o6, rfl, h3p, hda, x3⟩
      have him : (1 : Int) + (i : Int) = ((i + 1 : Nat) : Int) := by omega
      rw [him]
      have hm : i + 1 < 2 ^ n - 1 := by omega
      generalize hmm : i + 1 = m at hm
      have hlen := dpAll_len hda
      have hpl := partsTo_len n bs a b m
      rw [List.length_map, hmm] at hlen
      have hm2 : m < 2 ^ n := by omega
      have stay : ∀ H4, Ext H3 H4 → ¬ IsPart n bs a b m → ∃ (xs' : List V) (o6' : Option V), [some l, some (.int (a : Int)), some (.int (b : Int)), some (.ref r), some (.int ((2 ^ n - 1 : Nat) : Int)), some (.ref p), some (.int (m : Int))] = [some l, some (.int (a : Int)), some (.int (b : Int)), some (.ref r), some (.int ((2 ^ n - 1 : Nat) : Int)), some (.ref p), o6'] ∧
          H4 p = some (.lst xs') ∧ DpAll K H4 xs' ((partsTo n bs a b (m + 1)).map (partD n)) ∧ Ext H1 H4 := fun H4 x4 hno => ⟨xs, _, rfl, x4.lst h3p, by rw [partsTo_no hno, ← hmm]; exact dpAll_ext x4 hda, x3.trans x4⟩
      refine ⟨_, rfl, _, rfl, _, rfl, m, a, b, rfl, ⟨_, rfl, ?_⟩⟩
      cases eab : (m.testBit a && !m.testBit b) with
      | false =>
        refine iteF (iteF (stay H3 (.refl _) fun P => ?_))
        rw [P.one, P.two] at eab
        cases eab
      | true =>
      rw [Bool.and_eq_true, Bool.not_eq_true'] at eab
      refine iteT ⟨_, rfl, _, rfl, r, lk, n, m, bs, rfl, x3.lst hlk, L, hb, hn, hm2, by omega, x3.tabs _ hT1, fun o1 H4 x4 ho1 => ⟨o1, rfl, ?_⟩⟩
      cases o1 with
      | false => exact iteF (stay H4 x4 fun P => by simpa using ho1.mpr P.hang)
      | true =>
      have er := rest_eq hm2
      have hrl := rest_lt hm2
      refine iteT ⟨_, rfl, _, rfl, _, rfl, _, _, rfl, rfl, r, lk, n, rest n m, bs, by show [V.ref r, V.int (Builtin.bitXor ((2 ^ n - 1 : Nat) : Int) (m : Int))] = _; rw [xor_pp]; rfl, (x3.trans x4).lst hlk, L, hb, hn, hrl, by omega, (x3.trans x4).tabs _ hT1, fun o2 H5 x5 ho2 => ⟨o2, rfl, ?_⟩⟩
      have x45 := x4.trans x5
      cases o2 with
      | false => exact iteF (stay H5 x45 fun P => by simpa using ho2.mpr P.hang2)
      | true =>
      have hP : IsPart n bs a b m := ⟨by omega, eab.1, eab.2, ho1.mp rfl, ho2.mp rfl⟩
      refine iteT ⟨_, rfl, .inl ⟨rfl, _, SqL.of (x45.lst h3p)⟩, _, rfl, m, n, rfl, hm2, by omega, (x3.trans x45).tabs _ hT1, fun t1 H6 x6 ht1 d1 _ => ?_⟩
      refine ⟨_, rfl, _, rfl, _, _, rfl, rfl, rest n m, n, by show [V.int (Builtin.bitXor ((2 ^ n - 1 : Nat) : Int) (m : Int))] = _; rw [xor_pp]; rfl, hrl, by omega, ((x3.trans x45).trans x6).tabs _ hT1, fun t2 H7 x7 ht2 d2 _ => ⟨by show 2 ≤ sizeLine; decide, fun t3 ht3 => ?_⟩⟩
      have y3 : Ext H3 (upd H7 t3 (.tup [.ref t1, .ref t2])) := ((x45.trans x6).trans x7).trans (.new ht3)
      have hpart : Dp K (upd H7 t3 (.tup [.ref t1, .ref t2])) (.ref t3) (partD n m) := .tup (SqT.of upd_same) (.cons (dp_ext (x7.trans (.new ht3)) d1) (.cons (dp_ext (.new ht3) d2) .nil))
      generalize upd H7 t3 (.tup [.ref t1, .ref t2]) = H8 at y3 hpart
      have e8 := y3.lst h3p
      have nl : noLs ((partsTo n bs a b m).map (partD n)) = true := noLs_map _ (noL_part n) _
      have xd : ExtS [p] H8 (upd H8 p (.lst (xs ++ [.ref t3]))) := (ExtS.refl _ _).write (.inr ⟨by simp, _, e8⟩)
      refine ⟨p, xs, _, rfl, rfl, e8, small5000 (by omega), xs ++ [.ref t3], _, rfl, upd_same, ?_, (x3.trans y3).write hp⟩
      rw [partsTo_yes hP, List.map_append]
      rw [hmm] at hda
      exact dpAll_app (dpAll_extS xd nl (dpAll_ext y3 hda)) (.cons (dp_extS xd (noL_part n m) hpart) .nil)
    · rintro σ H3 ⟨xs, o6, rfl, h3p, hda, x3⟩
      have ek : (((2 ^ n - 1 : Nat) : Int) - 1).toNat + 1 = max 1 (2 ^ n - 1) := by omega
      have hda2 : DpAll K H3 xs ((partsOf n bs a b).map (partD n)) := by
        rw [ek] at hda
        by_cases h1 : 1 ≤ 2 ^ n - 1
        · rw [Nat.max_eq_right h1] at hda
          exact hda
        · have e0 : 2 ^ n - 1 = 0 := by omega
          rw [Nat.max_eq_left (by omega), partsTo_one] at hda
          show DpAll K H3 xs ((partsTo n bs a b (2 ^ n - 1)).map (partD n))
          rw [e0]
          exact hda
      exact ⟨_, rfl, k p xs H3 (x1.trans x3) (x1.free hp) h3p hda2⟩
end
end Wd

set_option Elab.async false
set_option linter.all false
set_option maxRecDepth 100000
set_option maxHeartbeats 4000000
namespace Wd
open PySem PySem.Spec PyProof.Rows L2 Bx Gx











































section
/-! ### orders with two ends, place behind place -/
def nearB (bs : List (Nat × Nat)) (n mask p : Nat) : Bool := (Mk.bits n mask).any fun q => Mk.adj bs p q
def nextL (bs : List (Nat × Nat)) (n b mask : Nat) : List Nat := (Mk.bits n (rest n mask)).filter fun p => !decide (p = b) && (nearB bs n mask p && nearB bs n (rest n mask) p)
def complF (bs : List (Nat × Nat)) (n b : Nat) : Nat → Nat → List (List Nat)
  | 0, _ => [[b]]
  | k + 1, mask => (nextL bs n b mask).flatMap fun p => (complF bs n b k (mask ||| 2 ^ p)).map (p :: ·)
def cnt (n mask : Nat) : Nat := (Mk.bits n (rest n mask)).length - 1
structure Betw (n a b mask : Nat) : Prop where
  lt : mask < 2 ^ n
  one : mask.testBit a = true
  two : mask.testBit b = false
theorem nearB_iff {bs : List (Nat × Nat)} {n mask p : Nat} (h : mask < 2 ^ n) : nearB bs n mask p = true ↔ ∃ q, mask.testBit q = true ∧ Mk.adj bs p q = true := by
  unfold nearB
  rw [List.any_eq_true]
  constructor
  · rintro ⟨q, hq, ha⟩
    exact ⟨q, (Mk.mem_bits.mp hq).2, ha⟩
  · rintro ⟨q, hq, ha⟩
    exact ⟨q, Mk.mem_bits.mpr ⟨Mk.lt_of_bit h hq, hq⟩, ha⟩
theorem mem_nextL {bs : List (Nat × Nat)} {n b mask p : Nat} (h : mask < 2 ^ n) : p ∈ nextL bs n b mask ↔ (p < n ∧ mask.testBit p = false) ∧ p ≠ b ∧ (∃ q, mask.testBit q = true ∧ Mk.adj bs p q = true) ∧ ∃ q, q < n ∧ mask.testBit q = false ∧ Mk.adj bs p q = true := by
  unfold nextL
  rw [List.mem_filter, Mk.mem_bits, Bool.and_eq_true, Bool.and_eq_true, Bool.not_eq_true', decide_eq_false_iff_not, nearB_iff h, nearB_iff (rest_lt h)]
  have e : ∀ q, (rest n mask).testBit q = true ↔ q < n ∧ mask.testBit q = false := fun q => by
    constructor
    · intro hq
      have hqn := Mk.lt_of_bit (rest_lt h) hq
      rw [bit_rest hqn, Bool.not_eq_true'] at hq
      exact ⟨hqn, hq⟩
    · rintro ⟨h1, h2⟩
      rw [bit_rest h1, h2]
      rfl
  constructor
  · rintro ⟨⟨h1, h2⟩, h3, h4, q, h5, h6⟩
    exact ⟨(e p).mp h2, h3, h4, q, ((e q).mp h5).1, ((e q).mp h5).2, h6⟩
  · rintro ⟨h1, h3, h4, q, h5, h6, h7⟩
    exact ⟨⟨h1.1, (e p).mpr h1⟩, h3, h4, q, (e q).mpr ⟨h5, h6⟩, h7⟩
theorem bit_in {n mask q : Nat} (h : mask < 2 ^ n) : (rest n mask).testBit q = true ↔ q < n ∧ mask.testBit q = false := by
  constructor
  · intro hq
    have hqn := Mk.lt_of_bit (rest_lt h) hq
    rw [bit_rest hqn, Bool.not_eq_true'] at hq
    exact ⟨hqn, hq⟩
  · rintro ⟨h1, h2⟩
    rw [bit_rest h1, h2]
    rfl
theorem or_bit (mask p q : Nat) : (mask ||| 2 ^ p).testBit q = (mask.testBit q || decide (p = q)) := by
  rw [Nat.testBit_or, Nat.testBit_two_pow]
theorem Betw.add {bs : List (Nat × Nat)} {n a b mask p : Nat} (h : Betw n a b mask) (hp : p ∈ nextL bs n b mask) : Betw n a b (mask ||| 2 ^ p) := by
  obtain ⟨⟨h1, _⟩, h3, _⟩ := (mem_nextL h.lt).mp hp
  refine ⟨Nat.or_lt_two_pow h.lt (Nat.pow_lt_pow_right (by decide) h1), by rw [or_bit, h.one]; rfl, ?_⟩
  rw [or_bit, h.two, decide_eq_false h3]
  rfl
theorem bits_less {n mask p : Nat} (h : mask < 2 ^ n) (hp : p < n) (hm : mask.testBit p = false) : (Mk.bits n (rest n mask)).length = (Mk.bits n (rest n (mask ||| 2 ^ p))).length + 1 := by
  have hl : mask ||| 2 ^ p < 2 ^ n := Nat.or_lt_two_pow h (Nat.pow_lt_pow_right (by decide) hp)
  have e : ∀ x, x ∈ Mk.bits n (rest n (mask ||| 2 ^ p)) ↔ x ∈ Mk.bits n (rest n mask) ∧ x ≠ p := fun x => by
    rw [Mk.mem_bits, Mk.mem_bits, bit_in hl, bit_in h, or_bit, Bool.or_eq_false_iff, decide_eq_false_iff_not]
    constructor
    · rintro ⟨h1, _, h2, h3⟩
      exact ⟨⟨h1, h1, h2⟩, fun z => h3 z.symm⟩
    · rintro ⟨⟨h1, _, h2⟩, h3⟩
      exact ⟨h1, h1, h2, fun z => h3 z.symm⟩
  have nd1 : (p :: Mk.bits n (rest n (mask ||| 2 ^ p))).Nodup := List.nodup_cons.mpr ⟨fun z => ((e p).mp z).2 rfl, (Mk.bits_pair _ _).imp Nat.ne_of_lt⟩
  have nd2 : (Mk.bits n (rest n mask)).Nodup := (Mk.bits_pair _ _).imp Nat.ne_of_lt
  have hpm : p ∈ Mk.bits n (rest n mask) := Mk.mem_bits.mpr ⟨hp, (bit_in h).mpr ⟨hp, hm⟩⟩
  have l1 := Mk.sub_le (m := Mk.bits n (rest n mask)) nd1 fun x hx => by
    rcases List.mem_cons.mp hx with rfl | hx
    · exact hpm
    · exact ((e x).mp hx).1
  have l2 := Mk.sub_le (m := p :: Mk.bits n (rest n (mask ||| 2 ^ p))) nd2 fun x hx => by
    by_cases z : x = p
    · rw [z]; exact List.mem_cons_self
    · exact List.mem_cons_of_mem _ ((e x).mpr ⟨hx, z⟩)
  rw [List.length_cons] at l1 l2
  omega
theorem cnt_next {bs : List (Nat × Nat)} {n a b mask p : Nat} (hb : b < n) (h : Betw n a b mask) (hp : p ∈ nextL bs n b mask) : cnt n mask = cnt n (mask ||| 2 ^ p) + 1 := by
  obtain ⟨⟨h1, h2⟩, h3, _⟩ := (mem_nextL h.lt).mp hp
  have e := bits_less h.lt h1 h2
  have hB := h.add hp
  have hpos : 0 < (Mk.bits n (rest n (mask ||| 2 ^ p))).length := List.length_pos_of_mem (Mk.mem_bits.mpr ⟨hb, (bit_in hB.lt).mpr ⟨hb, hB.two⟩⟩)
  unfold cnt
  omega
theorem cnt_zero {n a b mask : Nat} (hb : b < n) (h : Betw n a b mask) : cnt n mask = 0 ↔ mask = rest n (2 ^ b) := by
  have hbl : 2 ^ b < 2 ^ n := Nat.pow_lt_pow_right (by decide) hb
  have hbm : b ∈ Mk.bits n (rest n mask) := Mk.mem_bits.mpr ⟨hb, (bit_in h.lt).mpr ⟨hb, h.two⟩⟩
  constructor
  · intro e
    unfold cnt at e
    refine Mk.eq_of_bits fun q => ?_
    rw [bit_in hbl, Nat.testBit_two_pow, decide_eq_false_iff_not]
    constructor
    · intro hq
      exact ⟨Mk.lt_of_bit h.lt hq, fun z => by rw [← z, h.two] at hq; cases hq⟩
    · rintro ⟨h1, h2⟩
      cases z : mask.testBit q with
      | true => rfl
      | false =>
        have hqm : q ∈ Mk.bits n (rest n mask) := Mk.mem_bits.mpr ⟨h1, (bit_in h.lt).mpr ⟨h1, z⟩⟩
        have := Mk.two_le hbm hqm h2
        omega
  · intro e
    unfold cnt
    have : ∀ x ∈ Mk.bits n (rest n mask), x = b := fun x hx => by
      have := (Mk.mem_bits.mp hx).2
      rw [e, rest_rest hbl, Nat.testBit_two_pow, decide_eq_true_eq] at this
      exact this.symm
    have nd2 : (Mk.bits n (rest n mask)).Nodup := (Mk.bits_pair _ _).imp Nat.ne_of_lt
    have := Mk.sub_le (m := [b]) nd2 fun x hx => by rw [this x hx]; exact List.mem_cons_self
    rw [List.length_cons, List.length_nil] at this
    omega
/-- how many ways there are to go on -/
def wayC (bs : List (Nat × Nat)) (n b mask : Nat) : Nat := (complF bs n b (cnt n mask) mask).length
theorem wayC_last {bs : List (Nat × Nat)} {n a b mask : Nat} (hb : b < n) (h : Betw n a b mask) (e : mask = rest n (2 ^ b)) : wayC bs n b mask = 1 := by
  unfold wayC
  rw [(cnt_zero hb h).mpr e]
  rfl
theorem wayC_sum {bs : List (Nat × Nat)} {n a b mask : Nat} (hb : b < n) (h : Betw n a b mask) (e : mask ≠ rest n (2 ^ b)) : wayC bs n b mask = ((nextL bs n b mask).map fun p => wayC bs n b (mask ||| 2 ^ p)).sum := by
  obtain ⟨k, hk⟩ := Nat.exists_eq_succ_of_ne_zero fun z => e ((cnt_zero hb h).mp z)
  unfold wayC
  rw [hk, complF, List.length_flatMap]
  refine congrArg List.sum (List.map_congr_left fun p hp => ?_)
  have := cnt_next hb h hp
  rw [List.length_map, show cnt n (mask ||| 2 ^ p) = k by omega]
/-! ### a land in which no lot is shut has an order -/
def NoShut (bs : List (Nat × Nat)) (n a b : Nat) : Prop := ∀ (cut : Option Nat) (x : Nat), x < n → some x ≠ cut → ∃ h, (h = a ∨ h = b) ∧ Mk.Conn bs (fun y => y < n ∧ some y ≠ cut) x h
theorem max_of (l : List Nat) (f : Nat → Nat) (hne : l ≠ []) : ∃ p ∈ l, ∀ q ∈ l, f q ≤ f p := by
  induction l with
  | nil => exact absurd rfl hne
  | cons x l ih =>
    by_cases e : l = []
    · subst e
      exact ⟨x, List.mem_cons_self, fun q hq => by rw [List.mem_singleton.mp hq]; exact Nat.le_refl _⟩
    · obtain ⟨p, hp, h⟩ := ih e
      by_cases c : f p ≤ f x
      · refine ⟨x, List.mem_cons_self, fun q hq => ?_⟩
        rcases List.mem_cons.mp hq with rfl | hq
        · exact Nat.le_refl _
        · exact Nat.le_trans (h q hq) c
      · refine ⟨p, List.mem_cons_of_mem _ hp, fun q hq => ?_⟩
        rcases List.mem_cons.mp hq with rfl | hq
        · omega
        · exact h q hq
theorem go_on {bs : List (Nat × Nat)} {n a b mask : Nat} (hb : b < n) (ns : NoShut bs n a b) (h : Betw n a b mask) (o : One bs (rest n mask)) (hc : cnt n mask ≠ 0) : ∃ p ∈ nextL bs n b mask, One bs (rest n (mask ||| 2 ^ p)) := by
  have inR : ∀ q, (rest n mask).testBit q = true ↔ q < n ∧ mask.testBit q = false := fun q => bit_in h.lt
  have hbR : (rest n mask).testBit b = true := (inR b).mpr ⟨hb, h.two⟩
  obtain ⟨x0, hx0, hx0b⟩ : ∃ x, (rest n mask).testBit x = true ∧ x ≠ b := by
    refine Classical.byContradiction fun z => hc ?_
    have : ∀ x ∈ Mk.bits n (rest n mask), x = b := fun x hx => Classical.byContradiction fun z2 => z ⟨x, (Mk.mem_bits.mp hx).2, z2⟩
    have nd2 : (Mk.bits n (rest n mask)).Nodup := (Mk.bits_pair _ _).imp Nat.ne_of_lt
    have := Mk.sub_le (m := [b]) nd2 fun x hx => by rw [this x hx]; exact List.mem_cons_self
    rw [List.length_cons, List.length_nil] at this
    unfold cnt
    omega
  let cand := (Mk.bits n (rest n mask)).filter fun p => !decide (p = b) && nearB bs n mask p
  have hcand : ∀ p, p ∈ cand ↔ (rest n mask).testBit p = true ∧ p ≠ b ∧ ∃ q, mask.testBit q = true ∧ Mk.adj bs p q = true := fun p => by
    show p ∈ List.filter _ _ ↔ _
    rw [List.mem_filter, Mk.mem_bits, Bool.and_eq_true, Bool.not_eq_true', decide_eq_false_iff_not, nearB_iff h.lt]
    exact ⟨fun ⟨⟨_, h2⟩, h3, h4⟩ => ⟨h2, h3, h4⟩, fun ⟨h2, h3, h4⟩ => ⟨⟨((inR p).mp h2).1, h2⟩, h3, h4⟩⟩
  have hne : cand ≠ [] := fun z => by
    obtain ⟨g, hg, c⟩ := ns (some b) x0 ((inR x0).mp hx0).1 (fun e => hx0b (Option.some.inj e))
    have hga : g = a := hg.resolve_right fun e => c.snd.2 (by rw [e])
    rw [hga] at c
    have hc2 := (c.closed (T := fun y => (rest n mask).testBit y = true ∧ y ≠ b) ⟨hx0, hx0b⟩ fun y z' hy hz' ad => ?_).2
    · have := ((inR a).mp hc2.1).2
      rw [h.one] at this
      cases this
    · refine ⟨(inR z').mpr ⟨hz'.1, ?_⟩, fun e => hz'.2 (by rw [e])⟩
      cases e : mask.testBit z' with
      | false => rfl
      | true =>
        have : y ∈ cand := (hcand y).mpr ⟨hy.1, hy.2, z', e, ad⟩
        rw [z] at this
        cases this
  let S := fun p => fun z => (rest n mask).testBit z = true ∧ z ≠ p
  let comp := fun p => (Mk.bits n (rest n mask)).filter fun y => @decide (Mk.Conn bs (S p) b y) (Classical.propDecidable _)
  have hcomp : ∀ p y, y ∈ comp p ↔ Mk.Conn bs (S p) b y := fun p y => by
    show y ∈ List.filter _ _ ↔ _
    rw [List.mem_filter, Mk.mem_bits]
    constructor
    · exact fun h2 => @of_decide_eq_true _ (Classical.propDecidable _) h2.2
    · exact fun h2 => ⟨⟨((inR y).mp h2.snd.1).1, h2.snd.1⟩, @decide_eq_true _ (Classical.propDecidable _) h2⟩
  obtain ⟨p, hp, hmax⟩ := max_of cand (fun p => (comp p).length) hne
  obtain ⟨hpR, hpb, hpn⟩ := (hcand p).mp hp
  have hbS : S p b := ⟨hbR, fun e => hpb e.symm⟩
  have all : ∀ y, S p y → Mk.Conn bs (S p) b y := by
    refine Classical.byContradiction fun hno => ?_
    obtain ⟨y0, hy0⟩ := Classical.not_forall.mp hno
    have hy0S : S p y0 := Classical.byContradiction fun z => hy0 fun s => absurd s z
    have hy0n : ¬ Mk.Conn bs (S p) b y0 := fun c => hy0 fun _ => c
    -- a place from which p parts the other head, and that borders what is ahead
    obtain ⟨p', hp'S, hp'n, hp'q⟩ : ∃ p', S p p' ∧ ¬ Mk.Conn bs (S p) b p' ∧ ∃ q, mask.testBit q = true ∧ Mk.adj bs p' q = true := by
      refine Classical.byContradiction fun z => ?_
      obtain ⟨g, hg, c⟩ := ns (some p) y0 ((inR y0).mp hy0S.1).1 (fun e => hy0S.2 (Option.some.inj e))
      have hT := (c.closed (T := fun y => S p y ∧ ¬ Mk.Conn bs (S p) b y) ⟨hy0S, hy0n⟩ fun y w hy hw ad => ?_).2
      · rcases hg with e | e
        · rw [e] at hT
          have := ((inR a).mp hT.1.1).2
          rw [h.one] at this
          cases this
        · rw [e] at hT
          exact hT.2 (.refl hbS)
      · have hwm : mask.testBit w = false := by
          cases e : mask.testBit w with
          | false => rfl
          | true => exact absurd ⟨y, hy.1, hy.2, w, e, ad⟩ z
        have hwS : S p w := ⟨(inR w).mpr ⟨hw.1, hwm⟩, fun e => hw.2 (by rw [e])⟩
        exact ⟨hwS, fun cw => hy.2 (.step cw (by rw [Mk.adj_comm]; exact ad) hy.1)⟩
    have hp'b : p' ≠ b := fun e => hp'n (by rw [e]; exact .refl hbS)
    have hp'c : p' ∈ cand := (hcand p').mpr ⟨hp'S.1, hp'b, hp'q⟩
    -- what hangs to the other head without p does so without p', and p too
    have up : ∀ y, Mk.Conn bs (S p) b y → Mk.Conn bs (S p') b y := fun y c => by
      induction c with
      | refl s => exact .refl ⟨s.1, fun e => hp'b e.symm⟩
      | @step q r c ad s ih => exact .step ih ad ⟨s.1, fun e => hp'n (by rw [← e]; exact .step c ad s)⟩
    have upp : Mk.Conn bs (S p') b p := by
      obtain ⟨k, hk, had⟩ : ∃ k, Mk.Conn bs (S p) b k ∧ Mk.adj bs k p = true := by
        refine Classical.byContradiction fun z => ?_
        have := ((o b p hbR hpR).closed (T := fun y => Mk.Conn bs (S p) b y) (.refl hbS) fun y w hy hw ad => ?_).2
        · exact this.snd.2 rfl
        · by_cases e : w = p
          · exact absurd ⟨y, hy, by rw [← e]; exact ad⟩ z
          · exact .step hy ad ⟨hw, e⟩
      exact .step (up k hk) had ⟨hpR, fun e => hp'S.2 e.symm⟩
    have hle := hmax p' hp'c
    have nd : (p :: comp p).Nodup := List.nodup_cons.mpr ⟨fun z => ((hcomp p p).mp z).snd.2 rfl, ((Mk.bits_pair n (rest n mask)).filter _).imp Nat.ne_of_lt⟩
    have := Mk.sub_le (m := comp p') nd fun y hy => by
      rcases List.mem_cons.mp hy with rfl | hy
      · exact (hcomp p' _).mpr upp
      · exact (hcomp p' y).mpr (up y ((hcomp p y).mp hy))
    rw [List.length_cons] at this
    omega
  have hpnext : p ∈ nextL bs n b mask := by
    refine (mem_nextL h.lt).mpr ⟨(inR p).mp hpR, hpb, hpn, ?_⟩
    have c := o b p hbR hpR
    cases c with
    | refl _ => exact absurd rfl hpb
    | @step q _ c ad _ => exact ⟨q, ((inR q).mp c.snd).1, ((inR q).mp c.snd).2, by rw [Mk.adj_comm]; exact ad⟩
  refine ⟨p, hpnext, fun x y hx hy => ?_⟩
  have hB := h.add hpnext
  have e : ∀ z, (rest n (mask ||| 2 ^ p)).testBit z = true ↔ S p z := fun z => by
    rw [bit_in hB.lt, or_bit, Bool.or_eq_false_iff, decide_eq_false_iff_not]
    show _ ↔ (rest n mask).testBit z = true ∧ z ≠ p
    rw [inR]
    exact ⟨fun ⟨h1, h2, h3⟩ => ⟨⟨h1, h2⟩, fun z => h3 z.symm⟩, fun ⟨⟨h1, h2⟩, h3⟩ => ⟨h1, h2, fun z => h3 z.symm⟩⟩
  exact (((all x ((e x).mp hx)).symm.trans (all y ((e y).mp hy))).mono fun z hz => (e z).mpr hz)
theorem le_sumN : ∀ {l : List Nat} {x : Nat}, x ∈ l → x ≤ l.sum
  | y :: l, x, h => by
    rw [List.sum_cons]
    rcases List.mem_cons.mp h with rfl | h
    · omega
    · have := le_sumN h
      omega
theorem some_way {bs : List (Nat × Nat)} {n a b : Nat} (hb : b < n) (ns : NoShut bs n a b) : ∀ (k mask : Nat), cnt n mask = k → Betw n a b mask → One bs (rest n mask) → 0 < wayC bs n b mask
  | 0, mask, e, h, _ => by
    rw [wayC_last hb h ((cnt_zero hb h).mp e)]
    decide
  | k + 1, mask, e, h, o => by
    obtain ⟨p, hp, o2⟩ := go_on hb ns h o (by omega)
    have hk := cnt_next hb h hp
    have hw := some_way hb ns k (mask ||| 2 ^ p) (by omega) (h.add hp) o2
    rw [wayC_sum hb h fun z => by have := (cnt_zero hb h).mpr z; omega]
    obtain ⟨i, hi, rfl⟩ := List.getElem_of_mem hp
    refine Nat.lt_of_lt_of_le hw (le_sumN ?_)
    exact List.mem_map.mpr ⟨_, List.getElem_mem hi, rfl⟩
theorem betw_start {n a b : Nat} (ha : a < n) (hab : a ≠ b) : Betw n a b (2 ^ a) := by
  refine ⟨Nat.pow_lt_pow_right (by decide) ha, ?_, ?_⟩
  · rw [Nat.testBit_two_pow]; exact decide_eq_true rfl
  · rw [Nat.testBit_two_pow]; exact decide_eq_false hab
theorem an_order {bs : List (Nat × Nat)} {n a b : Nat} (ha : a < n) (hb : b < n) (hab : a ≠ b) (ns : NoShut bs n a b) : 0 < wayC bs n b (2 ^ a) := by
  have hB := betw_start (n := n) ha hab
  refine some_way hb ns _ _ rfl hB fun x y hx hy => ?_
  have e : ∀ z, (rest n (2 ^ a)).testBit z = true ↔ z < n ∧ some z ≠ some a := fun z => by
    rw [bit_in hB.lt, Nat.testBit_two_pow, decide_eq_false_iff_not]
    exact ⟨fun ⟨h1, h2⟩ => ⟨h1, fun q => h2 (Option.some.inj q).symm⟩, fun ⟨h1, h2⟩ => ⟨h1, fun q => h2 (by rw [q])⟩⟩
  have key : ∀ z, (rest n (2 ^ a)).testBit z = true → Mk.Conn bs (Mk.In (rest n (2 ^ a))) z b := fun z hz => by
    obtain ⟨g, hg, c⟩ := ns (some a) z ((e z).mp hz).1 ((e z).mp hz).2
    have : g = b := hg.resolve_left fun q => c.snd.2 (by rw [q])
    rw [this] at c
    exact c.mono fun w hw => (e w).mpr hw
  exact (key x hx).trans (key y hy).symm
end
end Wd

set_option Elab.async false
set_option linter.all false
set_option maxRecDepth 100000
set_option maxHeartbeats 4000000
namespace Wd
open PySem PySem.Spec PyProof.Rows L2 Bx Gx











































section
theorem and_ne {k m : Nat} : (k &&& m ≠ 0) ↔ ∃ q, k.testBit q = true ∧ m.testBit q = true := by
  constructor
  · intro h
    refine Classical.byContradiction fun z => h (Mk.eq_of_bits fun q => ?_)
    rw [Nat.testBit_and, Bool.and_eq_true, Nat.zero_testBit]
    exact ⟨fun w => absurd ⟨q, w⟩ z, fun w => nomatch w⟩
  · rintro ⟨q, h1, h2⟩ e
    have : (k &&& m).testBit q = true := by rw [Nat.testBit_and, h1, h2]; rfl
    rw [e, Nat.zero_testBit] at this
    cases this
theorem near_lk {bs : List (Nat × Nat)} {lk : List Nat} {n m p : Nat} (L : Mk.Lk n bs lk) (hp : p < n) (hm : m < 2 ^ n) : (!decide (V.int ((lk.getD p 0 &&& m : Nat) : Int) = V.int 0)) = nearB bs n m p := by
  have e : (lk.getD p 0 &&& m ≠ 0) ↔ nearB bs n m p = true := by
    rw [and_ne, nearB_iff hm]
    exact ⟨fun ⟨q, h1, h2⟩ => ⟨q, h2, by rw [← L.bit p q hp]; exact h1⟩, fun ⟨q, h1, h2⟩ => ⟨q, by rw [L.bit p q hp]; exact h2, h1⟩⟩
  cases hb : nearB bs n m p with
  | true =>
    rw [hb] at e
    rw [decide_eq_false fun z => e.mpr rfl (by injection z with z; omega)]
    rfl
  | false =>
    rw [hb] at e
    rw [decide_eq_true (by rw [Classical.byContradiction fun z => nomatch e.mp z]; rfl)]
    rfl
theorem betw_le {n a b mask : Nat} (hb : b < n) (h : Betw n a b mask) : mask ≤ rest n (2 ^ b) := by
  have hbl : 2 ^ b < 2 ^ n := Nat.pow_lt_pow_right (by decide) hb
  have e : rest n (2 ^ b) &&& mask = mask := Mk.eq_of_bits fun q => by
    rw [Nat.testBit_and, Bool.and_eq_true, bit_in hbl, Nat.testBit_two_pow, decide_eq_false_iff_not]
    exact ⟨fun z => z.2, fun z => ⟨⟨Mk.lt_of_bit h.lt z, fun w => by rw [← w, h.two] at z; cases z⟩, z⟩⟩
  rw [← e]
  exact Nat.and_le_left
theorem or_more {mask p : Nat} (h : mask.testBit p = false) : mask < mask ||| 2 ^ p := Mk.or_gt (Mk.eq_of_bits fun q => by
  rw [Nat.testBit_and, Bool.and_eq_true, Nat.zero_testBit, Nat.testBit_two_pow, decide_eq_true_eq]
  exact ⟨(fun ⟨h1, h2⟩ => by rw [← h2, h] at h1; cases h1), (fun z => nomatch z)⟩) (by have := Nat.two_pow_pos p; omega)
theorem flat_at {α β : Type} (f : α → List β) : ∀ (l : List α) (i : Nat) (x : α) (r : Nat), l[i]? = some x → r < (f x).length → (l.flatMap f)[((l.take i).map fun y => (f y).length).sum + r]? = (f x)[r]?
  | [], i, x, r, h, _ => by simp at h
  | y :: l, 0, x, r, h, hr => by
    simp only [List.getElem?_cons_zero, Option.some.injEq] at h
    subst h
    rw [List.flatMap_cons, List.take_zero, List.map_nil, List.sum_nil, Nat.zero_add, List.getElem?_append_left hr]
  | y :: l, i + 1, x, r, h, hr => by
    rw [List.getElem?_cons_succ] at h
    rw [List.flatMap_cons, List.take_succ_cons, List.map_cons, List.sum_cons, List.getElem?_append_right (by omega), ← flat_at f l i x r h hr]
    congr 1
    omega
end
section
variable {P : Program} {w : World} {K : PySem.W.Frag} {mg : Str → Option Value} {base : Heap}
/-! ### has_both_ways, next_places -/
def spBoth : Sp := fun vs H Q _ => ∃ (k m r : Nat), vs = [.int (k : Int), .int (m : Int), .int (r : Int)] ∧ Q (.bl (!decide (V.int ((k &&& m : Nat) : Int) = V.int 0) && !decide (V.int ((k &&& r : Nat) : Int) = V.int 0))) H
theorem sc_both : FnScope ["link", "ahead", "behind"] ["link", "ahead", "behind"] (defScope st_has_both_ways) := ⟨rfl, rfl, rfl, by decide +kernel, rfl, by decide +kernel, by decide +kernel⟩
theorem ok_both {f : Addr} {fd : FuncData} (F : Fun K "has_both_ways" "has_both_ways" st_has_both_ways f fd) : FnOk P w K mg base CX0 1 f fd ["link", "ahead", "behind"] spBoth := by
  refine F.ok sc_both (fun vs H Q E h => ?_) (fun cdv A outer s H vs Q E hr h => ?_)
  · obtain ⟨k, m, r, rfl, _⟩ := h
    rfl
  · obtain ⟨k, m, r, rfl, q⟩ := h
    refine ⟨_, pss_one (ps_ret (pe_and (pe_cmpR op_ne (pe_op op_and (pv 0) (pv 1)) pe_int (nomark _)) (pe_one (pe_cmpR op_ne (pe_op op_and (pv 0) (pv 2)) pe_int (nomark _))))), ?_⟩
    refine ⟨_, rfl, _, rfl, _, _, rfl, rfl, rfl, _, rfl, ?_⟩
    simp only [and_pp]
    cases e : (!decide (V.int ((k &&& m : Nat) : Int) = V.int 0)) with
    | false =>
      rw [e] at q
      exact iteF q
    | true =>
      rw [e] at q
      refine iteT ⟨_, rfl, _, rfl, _, _, rfl, rfl, rfl, ?_⟩
      simp only [and_pp]
      exact q
def spNext (K : PySem.W.Frag) (T1 : Addr) : Sp := fun vs H Q _ => ∃ (l : Addr) (lk : List Nat) (n m b : Nat) (bs : List (Nat × Nat)), vs = [.ref l, .int (m : Int), .int (b : Int)] ∧ H l = some (.lst (vsN lk)) ∧ Mk.Lk n bs lk ∧ n ≤ 12 ∧ m < 2 ^ n ∧ b < n ∧ m.testBit b = false ∧ TabG H T1 ∧
  ∀ (q : Addr) (H' : Hp), Ext H H' → H q = none → H' q = some (.lst (vsN (nextL bs n b m))) → Q (.ref q) H'
abbrev npN : List Str := ["links", "mask", "other_head", "behind", "middle", "place"]
theorem sc_next : FnScope npN ["links", "mask", "other_head"] (defScope st_next_places) := ⟨rfl, rfl, rfl, by decide +kernel, rfl, by decide +kernel, by decide +kernel⟩
theorem one_shl (n : Nat) : (1 : Int) * 2 ^ ((n : Nat) : Int).toNat - 1 = ((2 ^ n - 1 : Nat) : Int) := by
  have := Nat.two_pow_pos n
  rw [Int.toNat_natCast, Int.one_mul]
  have h2 : ((2 : Int) ^ n) = ((2 ^ n : Nat) : Int) := by simp
  rw [h2]
  omega
theorem ok_next {f T1 : Addr} {fd : FuncData} (F : Fun K "next_places" "next_places" st_next_places f fd) (B : Bl mg) (c1 : Cal P w K mg base 6 "lot_of" ["mask"] (spLotOf K T1)) (c2 : Cal P w K mg base 1 "has_both_ways" ["link", "ahead", "behind"] spBoth) : FnOk P w K mg base CX0 7 f fd ["links", "mask", "other_head"] (spNext K T1) := by
  refine F.ok sc_next (fun vs H Q E h => ?_) (fun cdv A outer s H vs Q E hr h => ?_)
  · obtain ⟨l, lk, n, m, b, bs, rfl, _⟩ := h
    rfl
  · obtain ⟨l, lk, n, m, b, bs, rfl, hl, L, hn, hm, hb, hmb, hT, k⟩ := h
    have nd := sc_next.nd
    have hr1 := hr.mono (j := 1) (by decide)
    refine ⟨_, pss_cons (ps_set (i := 3) nd rfl (Or.inr rfl) (pe_op op_xor (pe_op op_sub (pe_op op_shl pe_int (pe_callB call_len (by rfl) B.len PySem.boot_len (pa_cons (pv 0) pa_nil))) pe_int) (pv 1)))
      (pss_cons (ps_set (i := 4) nd rfl (Or.inl rfl) (pe_cal c1 hr rfl (pa_cons (pe_op op_xor (pv 3) (pe_op op_shl pe_int (pv 2))) pa_nil)))
      (pss_one (ps_ret (pe_lc (own := [("place", 5)]) (g := gName 5) (by rfl) nd (pi_tup (pv 4)) (blkOk_by (own := [("place", 5)]) (N := npN) (sc := defScope st_next_places) (by decide +kernel))
        (fun _ _ _ _ _ => pg_name (i := 5) nd rfl (Or.inl rfl)) (fun _ _ _ _ _ => pts_one (pt_val (pe_cal c2 hr1 rfl (pa_cons (pe_ix (ix_lstK (K := K) rfl) (pv 0) (pv 5) (fun _ _ => rfl)) (pa_cons (pv 1) (pa_cons (pv 3) pa_nil)))) (by intro _; rfl))) (fun _ _ _ _ _ => pv 5))))), ?_⟩
    have hlen : (vsN lk).length = n := by rw [List.length_map, L.len]
    have hbl : 2 ^ b < 2 ^ n := Nat.pow_lt_pow_right (by decide) hb
    have hrl := rest_lt hm
    refine ⟨_, rfl, _, n, rfl, .inl ⟨_, SqL.of hl, hlen.symm⟩, _, _, rfl, rfl, ⟨by omega, by omega, by decide⟩, _, _, rfl, rfl, _, rfl, _, _, rfl, rfl, ?_⟩
    dsimp only [gName, tSeq, List.set]
    rw [one_shl, xor_pp]
    have em : rest n m ^^^ 2 ^ b < 2 ^ n := Nat.xor_lt_two_pow hrl hbl
    refine ⟨_, rfl, _, rfl, _, _, rfl, rfl, ⟨by omega, by omega, by decide⟩, _, _, rfl, rfl, rest n m ^^^ 2 ^ b, n, ?_, em, by omega, hT, fun t H1 x1 ht0 dt ht => ?_⟩
    · show [V.int (Builtin.bitXor ((rest n m : Nat) : Int) ((1 : Int) * 2 ^ ((b : Nat) : Int).toNat))] = _
      rw [shl_pp, xor_pp]
    dsimp only [gName, tSeq, List.set]
    have hl1 := x1.lst hl
    refine ⟨_, rfl, t, rfl, ⟨_, SqT.of ht⟩, fun D hD => ?_⟩
    generalize hps : Mk.bits n (rest n m ^^^ 2 ^ b) = ps at ht
    have hpn : ∀ p ∈ ps, p < n := fun p hp => by rw [← hps] at hp; exact (Mk.mem_bits.mp hp).1
    have hpl : ps.length ≤ 12 := by rw [← hps]; exact Nat.le_trans (Mk.bits_len _ _) hn
    refine lc_tup (K := K) (a := t) (xs := ps.map fun (p : Nat) => V.int (p : Int)) (fun i H2 => H2 D = some (.lst (vsN ((ps.take i).filter fun p => nearB bs n m p && nearB bs n (rest n m) p))) ∧ Ext H1 H2) ⟨upd_same, .new hD⟩ (fun i H2 _ ⟨_, x2⟩ => SqT.of (x2.tup ht)) (fun i y H2 hy ⟨e2, x2⟩ => ?_) (fun H2 ⟨e2, x2⟩ => ?_)
    · have hil : i < ps.length := by
        have := (List.getElem?_eq_some_iff.mp hy).1
        rwa [List.length_map] at this
      rw [List.getElem?_map, List.getElem?_eq_getElem hil] at hy
      obtain rfl := (Option.some.inj hy).symm
      have hp := hpn _ (List.getElem_mem hil)
      have et : ps.take (i + 1) = ps.take i ++ [ps[i]] := by rw [List.take_add_one, List.getElem?_eq_getElem hil]; rfl
      have g1 : (vsN lk)[ps[i]]? = some (V.int ((lk.getD ps[i] 0 : Nat) : Int)) := vsN_get (by rw [L.len]; exact hp)
      rw [et]
      generalize ps[i] = p at hp g1
      refine ⟨rfl, _, rfl, _, rfl, l, _, p, _, rfl, rfl, SqL.of (x2.lst hl1), atI_nat g1, _, rfl, _, rfl, lk.getD p 0, m, rest n m, rfl, _, rfl, ?_⟩
      rw [near_lk L hp hm, near_lk L hp hrl]
      cases hq : (nearB bs n m p && nearB bs n (rest n m) p) with
      | false =>
        refine iteF ⟨?_, x2⟩
        rw [List.filter_append, List.filter_cons_of_neg (by simp [hq])]
        simpa using e2
      | true =>
        refine iteT ⟨_, rfl, _, e2, ?_, ?_, x2.write hD⟩
        · have := List.length_filter_le (fun p => nearB bs n m p && nearB bs n (rest n m) p) (ps.take i)
          rw [List.length_take] at this
          rw [List.length_map]
          exact small1000 (by omega)
        · rw [upd_same, List.filter_append, List.filter_cons_of_pos (by simpa using hq)]
          show some (HO.lst (List.map _ _ ++ _)) = some (HO.lst (List.map _ (_ ++ [p])))
          rw [List.map_append]
          rfl
    · rw [List.length_map, List.take_length] at e2
      refine k D H2 (x1.trans x2) (x1.free hD) ?_
      rw [e2]
      refine congrArg (fun z => some (HO.lst (vsN z))) ?_
      unfold nextL
      rw [← hps]
      have eb : Mk.bits n (rest n m ^^^ 2 ^ b) = (Mk.bits n (rest n m)).filter fun p => !decide (p = b) := by
        refine Mk.asc_ext (Mk.bits_pair _ _) ((Mk.bits_pair _ _).filter _) fun q => ?_
        rw [List.mem_filter, Mk.mem_bits, Mk.mem_bits, Nat.testBit_xor, Nat.testBit_two_pow, Bool.not_eq_true', decide_eq_false_iff_not]
        by_cases e : b = q
        · subst e
          rw [decide_eq_true rfl, (bit_in hm).mpr ⟨hb, hmb⟩]
          simp
        · rw [decide_eq_false e, Bool.xor_false]
          exact ⟨fun ⟨h1, h2⟩ => ⟨⟨h1, h2⟩, fun z => e z.symm⟩, fun ⟨h1, _⟩ => h1⟩
      rw [eb, List.filter_filter]
      refine List.filter_congr fun p _ => ?_
      cases decide (p = b) <;> cases nearB bs n m p <;> cases nearB bs n (rest n m) p <;> rfl
end
end Wd

set_option Elab.async false
set_option linter.all false
set_option maxRecDepth 100000
set_option maxHeartbeats 4000000
namespace Wd
open PySem PySem.Spec PyProof.Rows L2 Bx Gx











































section
variable {P : Program} {w : World} {K : PySem.W.Frag} {mg : Str → Option Value} {base : Heap}
/-! ### folk_within -/
def folkOf (fs : List Int) (ps : List Nat) : Int := (ps.map fun p => fs.getD p 0).sum
def spFolkIn (K : PySem.W.Frag) (T1 : Addr) : Sp := fun vs H Q _ => ∃ (l v : V) (fs : List Int) (bd : PyData) (ps : List Nat), vs = [l, v] ∧ Dp K H l (.tuple [.tuple (fs.map .int), bd]) ∧ Dp K H v (lotD ps) ∧ (∀ p ∈ ps, p < fs.length) ∧ TabG H T1 ∧ ∀ H', Ext H H' → Q (.int (folkOf fs ps)) H'
/-! ### pair_of -/
def spPairOf (K : PySem.W.Frag) : Sp := fun vs H Q _ => ∃ (a b : Nat), vs = [.int (a : Int), .int (b : Int)] ∧ ∀ p H', Ext H H' → H p = none → H' p = some (.tup [.int ((min a b : Nat) : Int), .int ((max a b : Nat) : Int)]) → Q (.ref p) H'
end
section
variable {P : Program} {w : World} {K : PySem.W.Frag} {mg : Str → Option Value} {base : Heap}
/-- a sum as a part of more: its end as a predicate -/
theorem g_sumF {J : It} {n : Nat} {it : Nat → V} {Ph : Hp → Prop} {g : TG} {te : TE} {vs : List Nat} {σg : L2.St} {H : Hp} {Fin : List V → Hp → Prop} (S : Src J n it Ph) (f : Nat → Int) (h0 : Ph H)
    (step : ∀ i H (C : V → Hp → Prop), Ph H → i < n → (∀ H4, Ph H4 → C (.int (f i)) H4) → g (it i) σg H fun σ2 H2 => wipe σ2 vs = σg ∧ te σ2 H2 C)
    (fin : ∀ H, Ph H → Fin (((List.range n).map f).map V.int) H) :
    ∃ W : Nat → Nat → List V → Hp → Prop, (∃ m, W 0 m [] H) ∧ GTurn J g tYes te vs σg pSum Fin W := by
  refine ⟨fun i m ys H => Ph H ∧ i ≤ n ∧ m = n - i ∧ ys = ((List.range i).map f).map V.int, ⟨n, h0, Nat.zero_le _, by omega, rfl⟩, fun i m ys H ⟨hp, hi, hm, hy⟩ => ?_⟩
  by_cases hn : i = n
  · subst hn
    exact .inl ⟨S.stop H hp, hy ▸ fin H hp⟩
  · have hlt : i < n := by omega
    refine .inr ⟨S.go i H hp hlt, fun x H' y => ?_⟩
    obtain ⟨rfl, rfl⟩ := S.yld i H x H' hp hlt y
    refine step i H' _ hp hlt fun H4 hp4 => ⟨⟨f i, rfl⟩, n - (i + 1), by omega, hp4, hlt, rfl, ?_⟩
    rw [hy, List.range_succ, List.map_append, List.map_append]
    rfl
theorem ints_inj : ∀ {a b : List Int}, a.map V.int = b.map V.int → a = b
  | [], [], _ => rfl
  | [], _ :: _, h => nomatch h
  | _ :: _, [], h => nomatch h
  | x :: a, y :: b, h => by
    injection h with h1 h2
    injection h1 with h1
    rw [h1, ints_inj h2]
/-! ### gap_of -/
def absI (i : Int) : Int := if i < 0 then -i else i
def gapI (fs : List Int) (ps qs : List Nat) : Int := absI (folkOf fs ps - folkOf fs qs)
def spGapOf (K : PySem.W.Frag) (T1 : Addr) : Sp := fun vs H Q _ => ∃ (l v u : V) (fs : List Int) (bd : PyData) (ps qs : List Nat), vs = [l, v, u] ∧ Dp K H l (.tuple [.tuple (fs.map .int), bd]) ∧ Dp K H v (lotD ps) ∧ Dp K H u (lotD qs) ∧ (∀ p ∈ ps, p < fs.length) ∧ (∀ p ∈ qs, p < fs.length) ∧ TabG H T1 ∧ ∀ H', Ext H H' → Q (.int (gapI fs ps qs)) H'
theorem dp_two {H : Hp} {v : V} {d1 d2 : PyData} (h : Dp K H v (.tuple [d1, d2])) : ∃ (t : Addr) (v1 v2 : V), v = .ref t ∧ SqT K H t [v1, v2] ∧ Dp K H v1 d1 ∧ Dp K H v2 d2 := by
  obtain ⟨t, us, rfl, ht, hus⟩ := dp_tup h
  cases hus with
  | cons g1 hus =>
    cases hus with
    | cons g2 hus =>
      cases hus
      exact ⟨t, _, _, rfl, ht, g1, g2⟩
/-! ### fairest -/
def gapM (fs : List Int) (m : Nat) : Int := gapI fs (Mk.bits fs.length m) (Mk.bits fs.length (rest fs.length m))
abbrev triD (fs : List Int) (m : Nat) : PyData := .tuple (.int (gapM fs m) :: wardsD fs.length m)
structure Best (fs : List Int) (ms : List Nat) (m : Nat) : Prop where
  mem : m ∈ ms
  least : ∀ m' ∈ ms, PySem.W.dataLt (triD fs m') (triD fs m) = false
theorem alike_tri (fs : List Int) (m m' : Nat) : PySem.W.alike (triD fs m) (triD fs m') = true := by
  simp only [triD, wardsD, PySem.W.alike, PySem.W.alikeAll, alike_lotD, Bool.and_self]
theorem noL_tri (fs : List Int) (m : Nat) : noL (triD fs m) = true := by
  show noLs _ = true
  rw [noLs, noLs, noL_lotD, noLs, noL_lotD]
  rfl
theorem depth_tri (fs : List Int) (m : Nat) : (triD fs m).depth ≤ 2 := by
  have h1 := depth_lotD (Mk.bits fs.length m)
  have h2 := depth_lotD (Mk.bits fs.length (rest fs.length m))
  simp only [triD, wardsD, PyData.depth, PyData.depthAll]
  omega
theorem bits_lt {n m : Nat} : ∀ p ∈ Mk.bits n m, p < n := fun p hp => (Mk.mem_bits.mp hp).1
def spFairest (K : PySem.W.Frag) (T1 T2 : Addr) : Sp := fun vs H Q _ => ∃ (l : V) (fs : List Int) (bs : List (Nat × Nat)) (a b : Nat), vs = [l, .int (a : Int), .int (b : Int)] ∧ Dp K H l (landD fs bs) ∧ LandOk fs bs ∧ a < fs.length ∧ b < fs.length ∧ a ≠ b ∧ TabG H T1 ∧ TabG H T2 ∧
  (partsOf fs.length bs a b = [] → ∀ H', Ext H H' → Q .non H') ∧ ∀ (v : V) (m : Nat) (H' : Hp), Ext H H' → Best fs (partsOf fs.length bs a b) m → Dp K H' v (triD fs m) → Q v H'
abbrev faN : List Str := ["land", "head", "other_head", "found", "ward", "other"]
end
section
variable {P : Program} {w : World} {K : PySem.W.Frag} {mg : Str → Option Value} {base : Heap}
/-! ### ways_on -/
/-- by the mask of its first places, in how many ways an order goes on -/
structure WaysL (bs : List (Nat × Nat)) (n a b : Nat) (ws : List Nat) : Prop where
  len : ws.length = 2 ^ n
  at_ : ∀ mask, Betw n a b mask → ws.getD mask 0 = wayC bs n b mask
def spWays (K : PySem.W.Frag) (T1 T2 : Addr) : Sp := fun vs H Q _ => ∃ (l : Addr) (lk : List Nat) (n a b : Nat) (bs : List (Nat × Nat)), vs = [.ref l, .int (a : Int), .int (b : Int)] ∧ H l = some (.lst (vsN lk)) ∧ Mk.Lk n bs lk ∧ n ≤ 12 ∧ a < n ∧ b < n ∧ a ≠ b ∧ TabG H T1 ∧ TabG H T2 ∧
  ∀ (q : Addr) (ws : List Nat) (H' : Hp), Ext H H' → H q = none → H' q = some (.lst (vsN ws)) → WaysL bs n a b ws → Q (.ref q) H'
abbrev waN : List Str := ["links", "head", "other_head", "last", "mask", "ways"]
theorem sc_ways : FnScope waN ["links", "head", "other_head"] (defScope st_ways_on) := ⟨rfl, rfl, rfl, by decide +kernel, rfl, by decide +kernel, by decide +kernel⟩
theorem sumNat_cast (l : List Nat) : (l.map fun (x : Nat) => (x : Int)).sum = ((l.sum : Nat) : Int) := by
  induction l with
  | nil => rfl
  | cons x l ih => rw [List.map_cons, List.sum_cons, List.sum_cons, ih]; omega
theorem getD_vsN (ps : List Nat) (i : Nat) (h : i < (vsN ps).length) : (vsN ps).getD i .non = V.int ((ps.getD i 0 : Nat) : Int) := by
  have h2 : i < ps.length := by rwa [List.length_map] at h
  rw [List.getD_eq_getElem?_getD, List.getElem?_map, List.getElem?_eq_getElem h2, List.getD_eq_getElem?_getD, List.getElem?_eq_getElem h2]
  rfl
theorem ok_ways {f c T1 T2 : Addr} {fd : FuncData} (F : FunC K "ways_on" "ways_on" st_ways_on f fd c) (TB : TabB base mg c T2) (B : Bl mg) (c1 : Cal P w K mg base 7 "next_places" ["links", "mask", "other_head"] (spNext K T1)) (c2 : Cal P w K mg base 1 "is_between" ["mask", "head", "other_head"] spBetween) : FnOk P w K mg base CX0 8 f fd ["links", "head", "other_head"] (spWays K T1 T2) := by
  refine F.ok sc_ways (fun vs H Q E h => ?_) (fun A outer s H vs Q E hr h => ?_)
  · obtain ⟨l, lk, n, a, b, bs, rfl, _⟩ := h
    rfl
  · obtain ⟨l, lk, n, a, b, bs, rfl, hl, L, hn, ha, hb, hab, hT1, hT2, k⟩ := h
    have nd := sc_ways.nd
    have hr1 := hr.mono (j := 1) (by decide)
    refine ⟨_, pss_cons (ps_set (i := 3) nd rfl (Or.inl rfl) (pe_op op_xor (pe_op op_sub (pe_op op_shl pe_int (pe_callB call_len (by rfl) B.len PySem.boot_len (pa_cons (pv 0) pa_nil))) pe_int) (pe_op op_shl pe_int (pv 2))))
      (pss_cons (ps_set (i := 5) nd rfl (Or.inr rfl) (pe_op op_rep (pe_lst (pa_cons pe_int pa_nil)) (pe_op op_shl pe_int (pe_callB call_len (by rfl) B.len PySem.boot_len (pa_cons (pv 0) pa_nil)))))
      (pss_cons (ps_asg pe_int (pg_sub (pv 5) (pv 3) set_list))
      (pss_cons (ps_for PassesOwn.never rfl (pi_range3 rfl B.range (pa_cons (pe_op op_sub (pv 3) pe_int) (pa_cons pe_int (pa_cons (pe_un un_neg pe_int) pa_nil)))) (pg_name (i := 4) nd rfl (Or.inr rfl))
        (pss_one (ps_if (pt_val (pe_cal c2 hr1 rfl (pa_cons (pv 4) (pa_cons (pv 1) (pa_cons (pv 2) pa_nil)))) (by intro _; rfl))
          (pss_one (ps_asg (pe_gsum (k := 0) (N := ["place", "mask", "ways"]) (src := [none, some 4, some 5]) (vs := [0])
            ⟨fun B s H fp code hB => pg_name (i := 0) (by decide +kernel : (["place", "mask", "ways"] : List Str).Nodup) rfl (Or.inl rfl), fun B s H fp code hB => pts_nil, fun B s H fp code hB => pe_ix (ix_lstK (K := K) rfl) (pv 2) (pe_op op_or (pv 1) (pe_op op_shl pe_int (pv 0))) (fun _ _ => rfl)⟩
            (hr.mono (by decide)) rfl B.sum TB rfl (gOk (ND := waN) (sc := defScope st_ways_on) (by decide +kernel)) (pi_list (pe_cal c1 hr rfl (pa_cons (pv 0) (pa_cons (pv 4) (pa_cons (pv 2) pa_nil)))))) (pg_sub (pv 5) (pv 4) set_list))) pss_nil)))
      (pss_one (ps_ret (pv 5)))))), ?_⟩
    have hlen : (vsN lk).length = n := by rw [List.length_map, L.len]
    have hbl : 2 ^ b < 2 ^ n := Nat.pow_lt_pow_right (by decide) hb
    have hp12 : 2 ^ n ≤ 2 ^ 12 := Nat.pow_le_pow_right (by decide) hn
    have hp0 := Nat.two_pow_pos n
    refine ⟨_, rfl, _, n, rfl, .inl ⟨_, SqL.of hl, hlen.symm⟩, _, _, rfl, rfl, ⟨by omega, by omega, by decide⟩, _, _, rfl, rfl, _, rfl, _, _, rfl, rfl, ⟨by omega, by omega, by decide⟩, _, _, rfl, rfl, ?_⟩
    dsimp only [gName, tSeq, List.set]
    rw [one_shl, shl_pp, xor_pp]
    have hlast := rest_lt hbl
    have elast : (2 ^ n - 1) ^^^ 2 ^ b = rest n (2 ^ b) := rfl
    rw [elast]
    generalize hla : rest n (2 ^ b) = last at hlast
    refine ⟨by decide, fun q0 hq0 => ?_⟩
    have x1 : Ext H (upd H q0 (.lst [.int 0])) := Ext.new hq0
    refine ⟨_, rfl, _, n, rfl, .inl ⟨_, SqL.of (x1.lst hl), hlen.symm⟩, _, _, rfl, rfl, ⟨by omega, by omega, by decide⟩, ?_⟩
    dsimp only
    rw [shl_pp]
    refine ⟨q0, ((2 ^ n : Nat) : Int), _, rfl, rfl, upd_same, by omega, by omega, ?_, fun p hp => ?_⟩
    · rw [Int.toNat_natCast]
      have : 5000 ≤ sizeLine := by decide
      simp only [List.length_cons, List.length_nil]
      omega
    have x2 : Ext H (upd (upd H q0 (.lst [.int 0])) p (.lst (List.replicate ((2 ^ n : Nat) : Int).toNat [V.int 0]).flatten)) := x1.trans (Ext.new hp)
    have hp0' : H p = none := x1.free hp
    have e0 : (List.replicate ((2 ^ n : Nat) : Int).toNat [V.int 0]).flatten = vsN (List.replicate (2 ^ n) 0) := by
      rw [Int.toNat_natCast]
      generalize 2 ^ n = m
      induction m with
      | zero => rfl
      | succ m ih => rw [List.replicate_succ, List.flatten_cons, ih]; rfl
    rw [e0] at x2 ⊢
    dsimp only [gName, tSeq, List.set]
    have hpp : (upd (upd H q0 (.lst [.int 0])) p (.lst (vsN (List.replicate (2 ^ n) 0)))) p = some (.lst (vsN (List.replicate (2 ^ n) 0))) := upd_same
    generalize upd (upd H q0 (.lst [.int 0])) p (.lst (vsN (List.replicate (2 ^ n) 0))) = H2 at x2 hpp ⊢
    -- ways[last] = 1
    refine ⟨_, rfl, _, rfl, p, _, _, last, rfl, rfl, hpp, by rw [List.length_map, List.length_replicate]; simp [ixN_nat hlast], ?_⟩
    have x3 : Ext H (upd H2 p (.lst (vsN ((List.replicate (2 ^ n) 0).set last 1)))) := x2.write hp0'
    have hset : (vsN (List.replicate (2 ^ n) 0)).set last (V.int 1) = vsN ((List.replicate (2 ^ n) 0).set last 1) := vsN_set _ _ 1
    rw [hset]
    dsimp only [gName, tSeq, List.set]
    refine ⟨_, rfl, _, _, rfl, rfl, _, rfl, _, _, _, _, rfl, RgC.neg (by omega) (by omega) (by decide) (by decide), for_rangeC (lo := (last : Int) - 1) (c := -1) (n := ((last : Int) - 1 - 0).toNat) (fun i σ H3 => ∃ (o4 : Option V) (ws : List Nat), σ = [some (.ref l), some (.int (a : Int)), some (.int (b : Int)), some (.int (last : Int)), o4, some (.ref p)] ∧ Ext H H3 ∧ H3 p = some (.lst (vsN ws)) ∧ ws.length = 2 ^ n ∧ ∀ mask, Betw n a b mask → last < mask + i + 1 → ws.getD mask 0 = wayC bs n b mask)
      ⟨_, _, rfl, x3, upd_same, by rw [List.length_set, List.length_replicate], fun mask hB hlt => ?_⟩ ?_ ?_⟩
    · have hle := betw_le hb hB
      have em : mask = last := by omega
      rw [wayC_last hb hB (by rw [em, hla]), em, List.getD_eq_getElem?_getD, List.getElem?_set_self (by rw [List.length_replicate]; exact hlast)]
      rfl
    · rintro i σ H3 hi ⟨o4, ws, rfl, x3, hws, hwl, hW⟩
      have hi' : i + 1 < last := by omega
      have em : (last : Int) - 1 + ((i : Nat) : Int) * -1 = ((last - 1 - i : Nat) : Int) := by omega
      rw [em]
      generalize hm : last - 1 - i = m
      have hml : m < last := by omega
      have hm2 : m < 2 ^ n := by omega
      refine ⟨_, rfl, _, rfl, _, rfl, m, a, b, rfl, ⟨_, rfl, ?_⟩⟩
      have keep : ¬ Betw n a b m → ∀ mask, Betw n a b mask → last < mask + (i + 1) + 1 → ws.getD mask 0 = wayC bs n b mask := fun hno mask hB hlt => hW mask hB (by
        by_cases e : mask = m
        · rw [e] at hB
          exact absurd hB hno
        · omega)
      cases eab : (m.testBit a && !m.testBit b) with
      | false =>
        refine iteF ⟨_, ws, rfl, x3, hws, hwl, keep fun hB => ?_⟩
        rw [hB.one, hB.two] at eab
        cases eab
      | true =>
        rw [Bool.and_eq_true, Bool.not_eq_true'] at eab
        have hB : Betw n a b m := ⟨hm2, eab.1, eab.2⟩
        refine iteT ?_
        refine ⟨_, rfl, _, rfl, _, rfl, l, lk, n, m, b, bs, rfl, x3.lst hl, L, hn, hm2, hb, eab.2, x3.tabs _ hT1, fun q1 H4 x4 hq1 hq1l => ?_⟩
        refine ⟨q1, rfl, ⟨_, SqL.of hq1l⟩, (x3.trans x4).tabs _ hT2, fun H5 hT5 => ?_⟩
        have x5 : Ext H4 H5 := Ext.tabbed ((x3.trans x4).tabs _ hT2) hT5
        have x35 := x4.trans x5
        have hq5 := x5.lst hq1l
        have hw5 := x35.lst hws
        refine g_sumF (Ph := fun H6 => H6 = H5) (src_lst fun H6 e => by rw [e]; exact SqL.of hq5) (fun j => ((ws.getD (m ||| 2 ^ (nextL bs n b m).getD j 0) 0 : Nat) : Int)) rfl (fun j H6 C hp2 hj k2 => ?_) fun H6 hp2 ns ens => ?_
        · subst hp2
          rw [getD_vsN _ _ hj]
          rw [List.length_map] at hj
          have hmem : (nextL bs n b m).getD j 0 ∈ nextL bs n b m := by
            rw [List.getD_eq_getElem?_getD, List.getElem?_eq_getElem hj]
            exact List.getElem_mem hj
          have hB2 := hB.add hmem
          have hpn := ((mem_nextL hm2).mp hmem).1.1
          generalize (nextL bs n b m).getD j 0 = pl at hB2 hpn k2 ⊢
          refine ⟨rfl, _, rfl, _, rfl, _, rfl, _, _, rfl, rfl, ⟨by omega, by omega, by decide⟩, _, _, rfl, rfl, p, _, ((m ||| 2 ^ pl : Nat) : Int), _, rfl, ?_, SqL.of hw5, atI_nat (vsN_get (by rw [hwl]; exact hB2.lt)), k2 H6 rfl⟩
          show V.int (Builtin.bitOr (m : Int) ((1 : Int) * 2 ^ ((pl : Nat) : Int).toNat)) = _
          rw [shl_pp, or_pp]
        · subst hp2
          have es : ns.sum = ((wayC bs n b m : Nat) : Int) := by
            rw [← ints_inj ens, List.length_map, wayC_sum hb hB (by rw [hla]; omega)]
            have e1 : (List.range (nextL bs n b m).length).map (fun j => ((ws.getD (m ||| 2 ^ (nextL bs n b m).getD j 0) 0 : Nat) : Int)) = ((nextL bs n b m).map fun p => wayC bs n b (m ||| 2 ^ p)).map fun (x : Nat) => (x : Int) := by
              rw [map_range_getD (nextL bs n b m) fun (p : Nat) => ((ws.getD (m ||| 2 ^ p) 0 : Nat) : Int), List.map_map]
              refine List.map_congr_left fun p hp => ?_
              have hB2 := hB.add hp
              have hgt := or_more ((mem_nextL hm2).mp hp).1.2
              show ((ws.getD (m ||| 2 ^ p) 0 : Nat) : Int) = ((wayC bs n b (m ||| 2 ^ p) : Nat) : Int)
              rw [hW _ hB2 (by omega)]
            rw [e1, sumNat_cast]
          refine ⟨_, rfl, _, rfl, p, _, _, m, rfl, rfl, hw5, by rw [List.length_map, hwl]; simp [ixN_nat hm2], ?_⟩
          rw [es, vsN_set]
          refine ⟨_, _, rfl, (x3.trans x35).write hp0', upd_same, by rw [List.length_set]; exact hwl, fun mask hB3 hlt => ?_⟩
          rw [Mk.getD_set (by rw [hwl]; exact hm2)]
          by_cases e : mask = m
          · rw [if_pos e, e]
          · rw [if_neg e]
            exact hW mask hB3 (by omega)
    · rintro σ H3 ⟨o4, ws, rfl, x3, hws, hwl, hW⟩
      refine ⟨_, rfl, k p ws H3 x3 hp0' hws ⟨hwl, fun mask hB => hW mask hB ?_⟩⟩
      have : mask ≠ 0 := fun z => by
        have := hB.one
        rw [z, Nat.zero_testBit] at this
        cases this
      have hle := betw_le hb hB
      omega
end
end Wd

set_option Elab.async false
set_option linter.all false
set_option maxRecDepth 100000
set_option maxHeartbeats 4000000
namespace Wd
open PySem PySem.Spec PyProof.Rows L2 Bx Gx











































section
variable {P : Program} {w : World} {K : PySem.W.Frag} {mg : Str → Option Value} {base : Heap}
/-! ### next_step -/
theorem wayC_len {bs : List (Nat × Nat)} {n a b mask p : Nat} (hb : b < n) (h : Betw n a b mask) (hp : p ∈ nextL bs n b mask) {k : Nat} (hk : cnt n mask = k + 1) : wayC bs n b (mask ||| 2 ^ p) = ((complF bs n b k (mask ||| 2 ^ p)).map (p :: ·)).length := by
  have := cnt_next hb h hp
  unfold wayC
  rw [List.length_map, show cnt n (mask ||| 2 ^ p) = k by omega]
theorem sum_take_le : ∀ (l : List Nat) (i : Nat), (l.take i).sum ≤ l.sum
  | [], i => by simp
  | x :: l, 0 => by simp
  | x :: l, i + 1 => by
    rw [List.take_succ_cons, List.sum_cons, List.sum_cons]
    have := sum_take_le l i
    omega
def spStep (K : PySem.W.Frag) (T1 : Addr) : Sp := fun vs H Q _ => ∃ (l wy : Addr) (lk ws : List Nat) (n m a b num : Nat) (bs : List (Nat × Nat)), vs = [.ref l, .ref wy, .int (m : Int), .int (b : Int), .int (num : Int)] ∧ H l = some (.lst (vsN lk)) ∧ H wy = some (.lst (vsN ws)) ∧ Mk.Lk n bs lk ∧ WaysL bs n a b ws ∧ n ≤ 12 ∧ b < n ∧ Betw n a b m ∧ cnt n m ≠ 0 ∧ num < wayC bs n b m ∧ TabG H T1 ∧
  ∀ (q : Addr) (p left : Nat) (H' : Hp), Ext H H' → H q = none → H' q = some (.tup [.int (p : Int), .int (left : Int)]) → p ∈ nextL bs n b m → left < wayC bs n b (m ||| 2 ^ p) →
    (complF bs n b (cnt n m) m)[num]? = ((complF bs n b (cnt n (m ||| 2 ^ p)) (m ||| 2 ^ p))[left]?).map (p :: ·) → Q (.ref q) H'
abbrev nsN : List Str := ["links", "ways", "mask", "other_head", "number", "left", "places", "at"]
theorem sc_step : FnScope nsN ["links", "ways", "mask", "other_head", "number"] (defScope st_next_step) := ⟨rfl, rfl, rfl, by decide +kernel, rfl, by decide +kernel, by decide +kernel⟩
theorem ok_step {f T1 : Addr} {fd : FuncData} (F : Fun K "next_step" "next_step" st_next_step f fd) (c1 : Cal P w K mg base 7 "next_places" ["links", "mask", "other_head"] (spNext K T1)) : FnOk P w K mg base CX0 8 f fd ["links", "ways", "mask", "other_head", "number"] (spStep K T1) := by
  refine F.ok sc_step (fun vs H Q E h => ?_) (fun cdv A outer s H vs Q E hr h => ?_)
  · obtain ⟨l, wy, lk, ws, n, m, a, b, num, bs, rfl, _⟩ := h
    rfl
  · obtain ⟨l, wy, lk, ws, n, m, a, b, num, bs, rfl, hl, hwy, L, W, hn, hb, hB, hc, hnum, hT, k⟩ := h
    have nd := sc_step.nd
    refine ⟨_, pss_cons (ps_set (i := 5) nd rfl (Or.inl rfl) (pv 4))
      (pss_cons (ps_set (i := 6) nd rfl (Or.inl rfl) (pe_cal c1 hr rfl (pa_cons (pv 0) (pa_cons (pv 2) (pa_cons (pv 3) pa_nil)))))
      (pss_cons (ps_set (i := 7) nd rfl (Or.inl rfl) pe_int)
      (pss_cons (ps_while PassesOwn.never (pt_cmpR op_ge (pv 5) (pe_ix ix_list (pv 1) (pe_op op_or (pv 2) (pe_op op_shl pe_int (pe_ix ix_list (pv 6) (pv 7) (fun _ _ => rfl)))) (fun _ _ => rfl)) (nomark _))
        (pss_cons (ps_aug (i := 5) nd rfl (Or.inl rfl) (pe_ix ix_list (pv 1) (pe_op op_or (pv 2) (pe_op op_shl pe_int (pe_ix ix_list (pv 6) (pv 7) (fun _ _ => rfl)))) (fun _ _ => rfl)) iop_sub)
        (pss_one (ps_aug (i := 7) nd rfl (Or.inl rfl) pe_int iop_add))))
      (pss_one (ps_ret (pe_tup (pa_cons (pe_ix ix_list (pv 6) (pv 7) (fun _ _ => rfl)) (pa_cons (pv 5) pa_nil)))))))), ?_⟩
    obtain ⟨kk, hk⟩ := Nat.exists_eq_succ_of_ne_zero hc
    have hnl : m ≠ rest n (2 ^ b) := fun z => hc ((cnt_zero hb hB).mpr z)
    have hsum := wayC_sum (bs := bs) hb hB hnl
    refine ⟨_, rfl, ?_⟩
    dsimp only [gName, tSeq, List.set]
    refine ⟨_, rfl, _, rfl, _, rfl, l, lk, n, m, b, bs, rfl, hl, L, hn, hB.lt, hb, hB.two, hT, fun pl H1 x1 hpl0 hpl => ?_⟩
    have hwy1 := x1.lst hwy
    have hin : ∀ p ∈ nextL bs n b m, p ∈ nextL bs n b m := fun _ h => h
    have hw : ∀ p ∈ nextL bs n b m, ws.getD (m ||| 2 ^ p) 0 = wayC bs n b (m ||| 2 ^ p) := fun p hp => W.at_ _ (hB.add hp)
    have hlt : ∀ p ∈ nextL bs n b m, p < n ∧ m ||| 2 ^ p < 2 ^ n := fun p hp => ⟨((mem_nextL hB.lt).mp hp).1.1, (hB.add hp).lt⟩
    have hl12 : (nextL bs n b m).length ≤ 12 := Nat.le_trans (List.length_filter_le _ _) (Nat.le_trans (Mk.bits_len _ _) hn)
    generalize hps : nextL bs n b m = ps at hpl hsum hw hlt hl12
    dsimp only [gName, tSeq, List.set]
    have readW : ∀ i, i < ps.length → ∃ p, ps[i]? = some p ∧ p ∈ ps ∧ atI (vsN ps) ((i : Nat) : Int) = some (.int (p : Int)) ∧ atI (vsN ws) ((m ||| 2 ^ p : Nat) : Int) = some (.int ((wayC bs n b (m ||| 2 ^ p) : Nat) : Int)) := fun i hi => by
      have hm := List.getElem_mem hi
      refine ⟨ps[i], List.getElem?_eq_getElem hi, hm, atI_nat (vsN_at hi), atI_nat ?_⟩
      rw [vsN_get (by rw [W.len]; exact (hlt _ hm).2), hw _ hm]
    refine while_by (fun σ H2 => H2 = H1 ∧ ∃ (left i : Nat), σ = [some (.ref l), some (.ref wy), some (.int (m : Int)), some (.int (b : Int)), some (.int (num : Int)), some (.int (left : Int)), some (.ref pl), some (.int (i : Int))] ∧ ((ps.take i).map fun p => wayC bs n b (m ||| 2 ^ p)).sum + left = num ∧ i < ps.length)
      (fun σ _ => match σ with
        | [_, _, _, _, _, _, _, some (.int i)] => ps.length - i.toNat
        | _ => 0) ⟨rfl, num, 0, rfl, by simp, ?_⟩ ?_ ?_
    · rw [hsum] at hnum
      cases ps with
      | nil => simp at hnum
      | cons _ _ => simp
    · rintro σ H2 ⟨rfl, left, i, rfl, hnl2, hi⟩
      obtain ⟨p, hp, hmem, g1, g2⟩ := readW i hi
      have hsh := (hlt p hmem).1
      have em : V.int (Builtin.bitOr (m : Int) ((1 : Int) * 2 ^ ((p : Nat) : Int).toNat)) = V.int ((m ||| 2 ^ p : Nat) : Int) := by rw [shl_pp, or_pp]
      refine ⟨_, rfl, _, rfl, _, rfl, _, rfl, _, rfl, pl, _, i, _, rfl, rfl, SqL.of hpl, g1, _, _, rfl, rfl, ⟨by omega, by omega, by decide⟩, _, _, rfl, rfl, wy, _, ((m ||| 2 ^ p : Nat) : Int), _, rfl, em, SqL.of hwy1, g2, _, _, rfl, rfl, _, rfl, ?_⟩
      have htk : ps.take (i + 1) = ps.take i ++ [p] := by rw [List.take_add_one, hp]; rfl
      by_cases hge : wayC bs n b (m ||| 2 ^ p) ≤ left
      · rw [decide_eq_true (show ((wayC bs n b (m ||| 2 ^ p) : Nat) : Int) ≤ (left : Int) by omega)]
        refine iteT ⟨_, rfl, _, rfl, _, rfl, _, rfl, _, rfl, pl, _, i, _, rfl, rfl, SqL.of hpl, g1, _, _, rfl, rfl, ⟨by omega, by omega, by decide⟩, _, _, rfl, rfl, wy, _, ((m ||| 2 ^ p : Nat) : Int), _, rfl, em, SqL.of hwy1, g2, _, _, rfl, rfl, ?_⟩
        refine ⟨_, rfl, _, _, rfl, rfl, ⟨rfl, left - wayC bs n b (m ||| 2 ^ p), i + 1, ?_, ?_, ?_⟩, ?_⟩
        · dsimp only [List.set]
          rw [show (left : Int) - ((wayC bs n b (m ||| 2 ^ p) : Nat) : Int) = ((left - wayC bs n b (m ||| 2 ^ p) : Nat) : Int) by omega]
          rfl
        · rw [htk, List.map_append, List.sum_append, List.map_cons, List.map_nil, List.sum_cons, List.sum_nil]
          omega
        · refine Classical.byContradiction fun z => ?_
          have e1 : ps.take (i + 1) = ps := List.take_of_length_le (by omega)
          rw [htk] at e1
          have e2 := congrArg (fun l => (l.map fun p => wayC bs n b (m ||| 2 ^ p)).sum) e1
          simp only [List.map_append, List.sum_append, List.map_cons, List.map_nil, List.sum_cons, List.sum_nil] at e2
          omega
        · show ps.length - ((i : Int) + 1).toNat < ps.length - ((i : Int)).toNat
          omega
      · rw [decide_eq_false (show ¬ ((wayC bs n b (m ||| 2 ^ p) : Nat) : Int) ≤ (left : Int) by omega)]
        refine iteF ⟨_, rfl, _, rfl, pl, _, i, _, rfl, rfl, SqL.of hpl, g1, _, rfl, by show 2 ≤ sizeLine; decide, fun q hq => ?_⟩
        refine k q p left _ (x1.trans (.new hq)) (x1.free hq) upd_same (by rw [hps]; exact hmem) (by omega) ?_
        have hB2 := hB.add (by rw [hps]; exact hmem : p ∈ nextL bs n b m)
        have hcn := cnt_next hb hB (by rw [hps]; exact hmem : p ∈ nextL bs n b m)
        have ek : cnt n (m ||| 2 ^ p) = kk := by omega
        rw [hk, complF, hps, ek, ← hnl2]
        have hfl : ∀ y ∈ ps, ((complF bs n b kk (m ||| 2 ^ y)).map (y :: ·)).length = wayC bs n b (m ||| 2 ^ y) := fun y hy => (wayC_len hb hB (by rw [hps]; exact hy) hk).symm
        have e1 : ((ps.take i).map fun p => wayC bs n b (m ||| 2 ^ p)) = (ps.take i).map fun y => ((complF bs n b kk (m ||| 2 ^ y)).map (y :: ·)).length := List.map_congr_left fun y hy => (hfl y (List.mem_of_mem_take hy)).symm
        rw [e1, flat_at (fun p => (complF bs n b kk (m ||| 2 ^ p)).map (p :: ·)) ps i p left hp (by rw [hfl p hmem]; omega), List.getElem?_map]
    · rintro σ H2 Q1 Q2 hq ⟨v5, e5, v1, e1, v2, e2, v6, e6, v7, e7, p, xs, i, v, ex, ey, hs, ha, i2, j2, ei, ej, hC, i3, j3, e31, e32, p4, xs4, i4, v4, e41, e42, hs4, ha4, i5, j5, e51, e52, b0, eb, q⟩
      exact ⟨v5, e5, v1, e1, v2, e2, v6, e6, v7, e7, p, xs, i, v, ex, ey, hs, ha, i2, j2, ei, ej, hC, i3, j3, e31, e32, p4, xs4, i4, v4, e41, e42, hs4, ha4, i5, j5, e51, e52, b0, eb, hq _ _ q⟩
end
end Wd

set_option Elab.async false
set_option linter.all false
set_option maxRecDepth 100000
set_option maxHeartbeats 4000000
namespace Wd
open PySem PySem.Spec PyProof.Rows L2 Bx Gx











































section
variable {P : Program} {w : World} {K : PySem.W.Frag} {mg : Str → Option Value} {base : Heap}
/-! ### order_at -/
theorem cnt_start {n a : Nat} (ha : a < n) : cnt n (2 ^ a) + 2 = n ∨ n = 1 := by
  have h0 : (0 : Nat) < 2 ^ n := Nat.two_pow_pos n
  have e := bits_less (n := n) (mask := 0) h0 ha (Nat.zero_testBit a)
  rw [Nat.zero_or] at e
  have e2 : Mk.bits n (rest n 0) = List.range n := by
    rw [← bits_rest]
    exact List.filter_eq_self.mpr fun x _ => by rw [Nat.zero_testBit]; rfl
  rw [e2, List.length_range] at e
  unfold cnt
  omega
def spOrdAt (K : PySem.W.Frag) (T1 : Addr) : Sp := fun vs H Q _ => ∃ (l wy : Addr) (lk ws : List Nat) (n a b num : Nat) (bs : List (Nat × Nat)), vs = [.ref l, .ref wy, .int (a : Int), .int (b : Int), .int (num : Int)] ∧ H l = some (.lst (vsN lk)) ∧ H wy = some (.lst (vsN ws)) ∧ Mk.Lk n bs lk ∧ WaysL bs n a b ws ∧ n ≤ 12 ∧ a < n ∧ b < n ∧ a ≠ b ∧ num < wayC bs n b (2 ^ a) ∧ TabG H T1 ∧
  ∀ (q : Addr) (r : List Nat) (H' : Hp), Ext H H' → H q = none → H' q = some (.tup (vsN (a :: r))) → (complF bs n b (cnt n (2 ^ a)) (2 ^ a))[num]? = some r → Q (.ref q) H'
abbrev oaN : List Str := ["links", "ways", "head", "other_head", "number", "order", "mask", "left", "place"]
theorem sc_ordAt : FnScope oaN ["links", "ways", "head", "other_head", "number"] (defScope st_order_at) := ⟨rfl, rfl, rfl, by decide +kernel, rfl, by decide +kernel, by decide +kernel⟩
theorem ok_ordAt {f T1 : Addr} {fd : FuncData} (F : Fun K "order_at" "order_at" st_order_at f fd) (B : Bl mg) (c1 : Cal P w K mg base 8 "next_step" ["links", "ways", "mask", "other_head", "number"] (spStep K T1)) : FnOk P w K mg base CX0 9 f fd ["links", "ways", "head", "other_head", "number"] (spOrdAt K T1) := by
  refine F.ok sc_ordAt (fun vs H Q E h => ?_) (fun cdv A outer s H vs Q E hr h => ?_)
  · obtain ⟨l, wy, lk, ws, n, a, b, num, bs, rfl, _⟩ := h
    rfl
  · obtain ⟨l, wy, lk, ws, n, a, b, num, bs, rfl, hl, hwy, L, W, hn, ha, hb, hab, hnum, hT, k⟩ := h
    have nd := sc_ordAt.nd
    refine ⟨_, pss_cons (ps_set (i := 5) nd rfl (Or.inl rfl) (pe_lst (pa_cons (pv 2) pa_nil)))
      (pss_cons (ps_set (i := 6) nd rfl (Or.inl rfl) (pe_op op_shl pe_int (pv 2)))
      (pss_cons (ps_set (i := 7) nd rfl (Or.inl rfl) (pv 4))
      (pss_cons (ps_while PassesOwn.never (pt_cmpR op_lt (pe_callB call_len (by rfl) B.len PySem.boot_len (pa_cons (pv 5) pa_nil)) (pe_op op_sub (pe_callB call_len (by rfl) B.len PySem.boot_len (pa_cons (pv 0) pa_nil)) pe_int) (nomark _))
        (pss_cons (ps_asg (pe_cal c1 hr rfl (pa_cons (pv 0) (pa_cons (pv 1) (pa_cons (pv 6) (pa_cons (pv 3) (pa_cons (pv 7) pa_nil)))))) (pg_tup (by rfl) (pgs_cons (pg_name (i := 8) nd rfl (Or.inl rfl)) (pgs_cons (pg_name (i := 7) nd rfl (Or.inl rfl)) pgs_nil))))
        (pss_cons (ps_expr (pe_bm PySem.F.plainAttrs_list PySem.F.slot_list_append PySem.F.type_list_append mt_append (pv 5) (pa_cons (pv 8) pa_nil)))
        (pss_one (ps_aug (i := 6) nd rfl (Or.inl rfl) (pe_op op_shl pe_int (pv 8)) iop_or)))))
      (pss_cons (ps_expr (pe_bm PySem.F.plainAttrs_list PySem.F.slot_list_append PySem.F.type_list_append mt_append (pv 5) (pa_cons (pv 3) pa_nil)))
      (pss_one (ps_ret (pe_tupleOf rfl B.tuple (pv 5)))))))), ?_⟩
    have hlen : (vsN lk).length = n := by rw [List.length_map, L.len]
    have hB0 := betw_start (n := n) ha hab
    have hc0 : cnt n (2 ^ a) + 2 = n := (cnt_start ha).resolve_right (by omega)
    refine ⟨_, rfl, by show 1 ≤ sizeLine; decide, fun od hod => ?_⟩
    have x1 : Ext H (upd H od (.lst [.int (a : Int)])) := .new hod
    have h1 : (upd H od (.lst [.int (a : Int)])) od = some (.lst (vsN [a])) := upd_same
    dsimp only [gName, tSeq, List.set]
    generalize upd H od (.lst [.int (a : Int)]) = H1 at x1 h1 ⊢
    refine ⟨_, rfl, _, _, rfl, rfl, ⟨by omega, by omega, by decide⟩, ?_⟩
    dsimp only [gName, tSeq, List.set]
    rw [shl_pp]
    refine ⟨_, rfl, ?_⟩
    dsimp only [gName, tSeq, List.set]
    refine while_by (fun σ H2 => ∃ (pt : List Nat) (m left : Nat) (o8 : Option V), σ = [some (.ref l), some (.ref wy), some (.int (a : Int)), some (.int (b : Int)), some (.int (num : Int)), some (.ref od), some (.int (m : Int)), some (.int (left : Int)), o8] ∧ Ext H H2 ∧ H2 od = some (.lst (vsN (a :: pt))) ∧ Betw n a b m ∧ left < wayC bs n b m ∧ pt.length + 2 + cnt n m = n ∧
        (complF bs n b (cnt n (2 ^ a)) (2 ^ a))[num]? = ((complF bs n b (cnt n m) m)[left]?).map (pt ++ ·))
      (fun σ _ => match σ with
        | [_, _, _, _, _, _, some (.int m), _, _] => 2 ^ n - m.toNat
        | _ => 0) ⟨[], 2 ^ a, num, _, rfl, x1, h1, hB0, hnum, by show 0 + 2 + _ = n; omega, by simp⟩ ?_ ?_
    · rintro σ H2 ⟨pt, m, left, o8, rfl, x2, h2, hB, hleft, hlenp, hcomp⟩
      refine ⟨_, rfl, _, (a :: pt).length, rfl, .inl ⟨_, SqL.of h2, (by simp)⟩, _, rfl, _, n, rfl, .inl ⟨_, SqL.of (x2.lst hl), hlen.symm⟩, _, _, rfl, rfl, _, _, rfl, rfl, _, rfl, ?_⟩
      have hpl : (a :: pt).length = pt.length + 1 := rfl
      by_cases hc : cnt n m = 0
      · rw [decide_eq_false (show ¬ (((a :: pt).length : Nat) : Int) < (n : Int) - 1 by omega)]
        refine iteF ?_
        have hml := (cnt_zero hb hB).mp hc
        rw [hc, complF] at hcomp
        have hw1 := wayC_last (bs := bs) hb hB hml
        have hl0 : left = 0 := by omega
        subst hl0
        refine ⟨_, rfl, .inl ⟨rfl, _, SqL.of h2⟩, _, rfl, od, _, _, rfl, rfl, h2, by rw [List.length_map]; exact small1000 (by omega), ?_⟩
        have e3 : vsN (a :: pt) ++ [V.int (b : Int)] = vsN (a :: (pt ++ [b])) := by
          show List.map _ _ ++ _ = List.map _ (a :: (pt ++ [b]))
          rw [← List.cons_append, List.map_append]
          rfl
        rw [e3]
        have x3 : Ext H (upd H2 od (.lst (vsN (a :: (pt ++ [b]))))) := x2.write hod
        have h3 : (upd H2 od (.lst (vsN (a :: (pt ++ [b]))))) od = some (.lst (vsN (a :: (pt ++ [b])))) := upd_same
        generalize upd H2 od (.lst (vsN (a :: (pt ++ [b])))) = H3 at x3 h3 ⊢
        refine ⟨_, rfl, .inl ⟨od, _, rfl, SqL.of h3, fun q hq => ?_⟩⟩
        exact k q (pt ++ [b]) _ (x3.trans (.new hq)) (x3.free hq) upd_same (by rw [hcomp]; rfl)
      · rw [decide_eq_true (show (((a :: pt).length : Nat) : Int) < (n : Int) - 1 by omega)]
        refine iteT ⟨_, rfl, _, rfl, _, rfl, _, rfl, _, rfl, l, wy, lk, ws, n, m, a, b, left, bs, rfl, x2.lst hl, x2.lst hwy, L, W, hn, hb, hB, hc, hleft, x2.tabs _ hT, fun q p left' H3 x3 hq0 hq hpm hl' hcm => ?_⟩
        refine ⟨q, _, rfl, SqT.of hq, rfl, _, _, rfl, _, _, rfl, rfl, ?_⟩
        dsimp only [gName, tSeq, List.set]
        have h3 := x3.lst h2
        have hB2 := hB.add hpm
        have hcn := cnt_next hb hB hpm
        have hpn := ((mem_nextL hB.lt).mp hpm).1
        have hgt := or_more hpn.2
        refine ⟨_, rfl, .inl ⟨rfl, _, SqL.of h3⟩, _, rfl, od, _, _, rfl, rfl, h3, by rw [List.length_map]; exact small1000 (by omega), ?_⟩
        refine ⟨_, rfl, _, rfl, _, _, rfl, rfl, ⟨by omega, by omega, by decide⟩, _, _, rfl, rfl, ⟨pt ++ [p], m ||| 2 ^ p, left', some (.int (p : Int)), ?_, (x2.trans x3).write hod, ?_, hB2, hl', by rw [List.length_append, List.length_singleton]; omega, ?_⟩, ?_⟩
        · dsimp only [List.set]
          rw [shl_pp, or_pp]
        · rw [upd_same]
          show some (HO.lst (List.map _ (a :: pt) ++ _)) = some (HO.lst (List.map _ (a :: (pt ++ [p]))))
          rw [← List.cons_append, List.map_append]
          rfl
        · rw [hcomp, hcm, Option.map_map]
          refine congrArg (fun f => Option.map f _) (funext fun z => ?_)
          simp
        · dsimp only [List.set]
          rw [shl_pp, or_pp, Int.toNat_natCast, Int.toNat_natCast]
          have := hB2.lt
          omega
    · rintro σ H2 Q1 Q2 hq ⟨v5, e5, x, m, e1, hL, v0, e0, x0, n0, e2, hL0, i1, j1, e3, e4, i2, j2, e51, e52, b0, eb, q⟩
      exact ⟨v5, e5, x, m, e1, hL, v0, e0, x0, n0, e2, hL0, i1, j1, e3, e4, i2, j2, e51, e52, b0, eb, hq _ _ q⟩
end
end Wd

set_option Elab.async false
set_option linter.all false
set_option maxRecDepth 100000
set_option maxHeartbeats 4000000
namespace Wd
open PySem PySem.Spec PyProof.Rows L2 Bx Gx











































section
/-! ### shut lots -/
def leftM (n : Nat) : Option Nat → Nat
  | none => 2 ^ n - 1
  | some c => (2 ^ n - 1) ^^^ 2 ^ c
def cutsL (n : Nat) : List (Option Nat) := none :: (List.range n).map some
def cutV : Option Nat → V
  | none => .non
  | some c => .int (c : Int)
def cutD : Option Nat → PyData
  | none => .none
  | some c => .int (c : Int)
theorem leftM_lt {n : Nat} {cut : Option Nat} (h : cut ∈ cutsL n) : leftM n cut < 2 ^ n := by
  have hp := Nat.two_pow_pos n
  cases cut with
  | none => show 2 ^ n - 1 < 2 ^ n; omega
  | some c =>
    have hc : c < n := by
      rcases List.mem_cons.mp h with z | z
      · cases z
      · obtain ⟨x, hx, e⟩ := List.mem_map.mp z
        rw [← Option.some.inj e]
        exact List.mem_range.mp hx
    exact Nat.xor_lt_two_pow (by omega) (Nat.pow_lt_pow_right (by decide) hc)
theorem leftM_bit {n : Nat} {cut : Option Nat} (h : cut ∈ cutsL n) (x : Nat) : (leftM n cut).testBit x = true ↔ x < n ∧ some x ≠ cut := by
  cases cut with
  | none =>
    show (2 ^ n - 1).testBit x = true ↔ _
    rw [bit_whole, decide_eq_true_eq]
    exact ⟨(fun z => ⟨z, (fun e => nomatch e)⟩), (fun z => z.1)⟩
  | some c =>
    have hc : c < n := by
      rcases List.mem_cons.mp h with z | z
      · cases z
      · obtain ⟨x, hx, e⟩ := List.mem_map.mp z
        rw [← Option.some.inj e]
        exact List.mem_range.mp hx
    show ((2 ^ n - 1) ^^^ 2 ^ c).testBit x = true ↔ _
    rw [Nat.testBit_xor, bit_whole, Nat.testBit_two_pow]
    by_cases e : c = x
    · subst e
      rw [decide_eq_true hc, decide_eq_true rfl]
      exact ⟨(fun z => nomatch z), (fun z => absurd rfl z.2)⟩
    · rw [decide_eq_false e, Bool.xor_false, decide_eq_true_eq]
      exact ⟨fun z => ⟨z, fun q => e (Option.some.inj q).symm⟩, fun z => z.1⟩
def NoHl (bs : List (Nat × Nat)) (n hm : Nat) (cut : Option Nat) : Prop := ∃ qs, Mk.Pcs bs (leftM n cut) qs ∧ ∀ q ∈ qs, q &&& hm ≠ 0
def Hl (bs : List (Nat × Nat)) (n hm : Nat) (cut : Option Nat) (q : Nat) : Prop := ∃ qs, Mk.Pcs bs (leftM n cut) qs ∧ (qs.filter fun q => decide (q &&& hm = 0)).head? = some q
theorem noShut_of {bs : List (Nat × Nat)} {n hm a b : Nat} (hmb : ∀ q, hm.testBit q = true ↔ q = a ∨ q = b) (h : ∀ cut ∈ cutsL n, NoHl bs n hm cut) : NoShut bs n a b := fun cut x hx hcut => by
  by_cases hin : cut ∈ cutsL n
  · obtain ⟨qs, hP, hq⟩ := h cut hin
    have D := hP.parted
    obtain ⟨q, hqm, hqx⟩ := (D.all x).mp ((leftM_bit hin x).mpr ⟨hx, hcut⟩)
    obtain ⟨g, g1, g2⟩ := and_ne.mp (hq q hqm)
    obtain ⟨x0, h0, hc⟩ := D.one q hqm
    refine ⟨g, (hmb g).mp g2, ((hc x hqx).symm.trans (hc g g1)).mono fun z hz => ?_⟩
    exact (leftM_bit hin z).mp ((D.all z).mpr ⟨q, hqm, hz⟩)
  · -- a cut that is no place leaves all
    have hall : ∀ z, z < n → some z ≠ cut := fun z hz e => hin (by rw [← e]; exact List.mem_cons_of_mem _ (List.mem_map.mpr ⟨z, List.mem_range.mpr hz, rfl⟩))
    have hnone : (none : Option Nat) ∈ cutsL n := List.mem_cons_self
    obtain ⟨qs, hP, hq⟩ := h none hnone
    have D := hP.parted
    obtain ⟨q, hqm, hqx⟩ := (D.all x).mp ((leftM_bit hnone x).mpr ⟨hx, fun e => nomatch e⟩)
    obtain ⟨g, g1, g2⟩ := and_ne.mp (hq q hqm)
    obtain ⟨x0, h0, hc⟩ := D.one q hqm
    refine ⟨g, (hmb g).mp g2, ((hc x hqx).symm.trans (hc g g1)).mono fun z hz => ?_⟩
    have := ((leftM_bit hnone z).mp ((D.all z).mpr ⟨q, hqm, hz⟩)).1
    exact ⟨this, hall z this⟩
theorem mask_two {a b : Nat} (h : a ≠ b) (q : Nat) : (Mk.mask [a, b]).testBit q = true ↔ q = a ∨ q = b := by
  have e : Mk.mask [a, b] = Mk.mask [b, a] := by simp [Mk.mask, Nat.add_comm]
  rcases Nat.lt_trichotomy a b with z | z | z
  · rw [Mk.bit_mask (by simp [z]), decide_eq_true_eq]
    simp
  · exact absurd z h
  · rw [e, Mk.bit_mask (by simp [z]), decide_eq_true_eq]
    simp [or_comm]
/-- what first_shut tells: the place in the sequence of cuts, the cut, the lot's mask -/
structure ShutAt (bs : List (Nat × Nat)) (n hm : Nat) (i : Nat) (cut : Option Nat) (q : Nat) : Prop where
  at_ : (cutsL n)[i]? = some cut
  sooner : ∀ j c, j < i → (cutsL n)[j]? = some c → NoHl bs n hm c
  lot : Hl bs n hm cut q
theorem ShutAt.lt {bs : List (Nat × Nat)} {n hm i : Nat} {cut : Option Nat} {q : Nat} (h : ShutAt bs n hm i cut q) : q < 2 ^ n := by
  obtain ⟨qs, hP, hq⟩ := h.lot
  have hin := List.mem_of_getElem? h.at_
  have hqm : q ∈ qs := (List.mem_filter.mp (List.mem_of_mem_head? hq)).1
  exact Mk.lt_of_sub (leftM_lt hin) fun z hz => (hP.parted.all z).mpr ⟨q, hqm, hz⟩
end
section
variable {P : Program} {w : World} {K : PySem.W.Frag} {mg : Str → Option Value} {base : Heap}
/-! ### first_shut -/
theorem dp_cut {H : Hp} (cut : Option Nat) : Dp K H (cutV cut) (cutD cut) := by
  cases cut with
  | none => exact .non
  | some c => exact .int _
def spShut1 (K : PySem.W.Frag) (T1 T3 : Addr) : Sp := fun vs H Q _ => ∃ (l : V) (fs : List Int) (bs : List (Nat × Nat)) (a b : Nat), vs = [l, .int (a : Int), .int (b : Int)] ∧ Dp K H l (landD fs bs) ∧ fs.length ≤ 12 ∧ Mk.Bs fs.length bs ∧ a < fs.length ∧ b < fs.length ∧ a ≠ b ∧ TabG H T1 ∧ TabG H T3 ∧
  ((∀ cut ∈ cutsL fs.length, NoHl bs fs.length (Mk.mask [a, b]) cut) → ∀ H', Ext H H' → Q .non H') ∧
  ∀ (i : Nat) (cut : Option Nat) (m : Nat) (q t : Addr) (H' : Hp), ShutAt bs fs.length (Mk.mask [a, b]) i cut m → Ext H H' → H q = none → H' q = some (.tup [cutV cut, .ref t]) → Dp K H' (.ref t) (lotD (Mk.bits fs.length m)) → Q (.ref q) H'
abbrev fsN : List Str := ["land", "head", "other_head", "links", "heads", "whole", "cut", "left", "piece", "headless"]
theorem sc_shut1 : FnScope fsN ["land", "head", "other_head"] (defScope st_first_shut) := ⟨rfl, rfl, rfl, by decide +kernel, rfl, by decide +kernel, by decide +kernel⟩
theorem ok_shut1 {f T1 T3 : Addr} {fd : FuncData} (F : Fun K "first_shut" "first_shut" st_first_shut f fd) (B : Bl mg) (c1 : Cal P w K mg base 1 "links_of" ["land"] (spLinksOf K)) (c2 : Cal P w K mg base 4 "mask_of" ["lot"] (spMaskOf K T3)) (c3 : Cal P w K mg base 1 "whole_mask" ["land"] (spWhole K))
    (c4 : Cal P w K mg base 8 "piece_masks" ["links", "mask"] (spPieceMasks K T1)) (c5 : Cal P w K mg base 6 "lot_of" ["mask"] (spLotOf K T1)) : FnOk P w K mg base CX0 9 f fd ["land", "head", "other_head"] (spShut1 K T1 T3) := by
  refine F.ok sc_shut1 (fun vs H Q E h => ?_) (fun cdv A outer s H vs Q E hr h => ?_)
  · obtain ⟨l, fs, bs, a, b, rfl, _⟩ := h
    rfl
  · obtain ⟨l, fs, bs, a, b, rfl, hd, hn, hb, ha, hb2, hab, hT1, hT3, k0, k⟩ := h
    have nd := sc_shut1.nd
    have hr1 := hr.mono (j := 1) (by decide)
    have hr4 := hr.mono (j := 4) (by decide)
    have hr6 := hr.mono (j := 6) (by decide)
    refine ⟨_, pss_cons (ps_set (i := 3) nd rfl (Or.inl rfl) (pe_cal c1 hr1 rfl (pa_cons (pv 0) pa_nil)))
      (pss_cons (ps_set (i := 4) nd rfl (Or.inr rfl) (pe_cal c2 hr4 rfl (pa_cons (pe_tup (pa_cons (pv 1) (pa_cons (pv 2) pa_nil))) pa_nil)))
      (pss_cons (ps_set (i := 5) nd rfl (Or.inl rfl) (pe_cal c3 hr1 rfl (pa_cons (pv 0) pa_nil)))
      (pss_cons (ps_for PassesOwn.never rfl (pi_list (pe_op op_cat (pe_lst (pa_cons pe_non pa_nil)) (pe_listRg rfl rfl B.list (prg_1 rfl B.range (pe_callB call_len (by rfl) B.len PySem.boot_len (pa_cons (pv 3) pa_nil)))))) (pg_name (i := 6) nd rfl (Or.inl rfl))
        (pss_cons (ps_set (i := 7) nd rfl (Or.inl rfl) (pe_ifExp (pt_cmpR op_isN (pv 6) pe_non (nomark _)) (pv 5) (pe_op op_xor (pv 5) (pe_op op_shl pe_int (pv 6)))))
        (pss_cons (ps_setLc (i := 9) (own := [("piece", 8)]) (g := gName 8) (by rfl) nd rfl rfl (sw_true rfl rfl rfl (by decide +kernel)) (pi_list (pe_cal c4 hr rfl (pa_cons (pv 3) (pa_cons (pv 7) pa_nil)))) (blkOk_by (own := [("piece", 8)]) (N := fsN) (sc := defScope st_first_shut) (by decide +kernel))
          (fun _ _ _ _ _ => pg_name (i := 8) nd rfl (Or.inl rfl)) (fun _ _ _ _ _ => pts_one (pt_cmpR op_eq (pe_op op_and (pv 8) (pv 4)) pe_int (nomark _))) (fun _ _ _ _ _ => pv 8))
        (pss_one (ps_if (pt_truth (pv 9) (by intro _; rfl)) (pss_one (ps_ret (pe_tup (pa_cons (pv 6) (pa_cons (pe_cal c5 hr6 rfl (pa_cons (pe_ix ix_list (pv 9) pe_int (fun _ _ => rfl)) pa_nil)) pa_nil))))) pss_nil)))))
      (pss_one (ps_ret pe_non))))), ?_⟩
    have hp12 : 2 ^ fs.length ≤ 2 ^ 12 := Nat.pow_le_pow_right (by decide) hn
    have hp0 := Nat.two_pow_pos fs.length
    generalize hnn : fs.length = n at hn hb ha hb2 k k0 hp12 hp0
    refine ⟨_, rfl, l, fs, bs, rfl, hd, by omega, by rw [hnn]; exact hb, fun r H1 lk x1 hr0 hlk L => ?_⟩
    rw [hnn] at L
    dsimp only [gName, tSeq, List.set]
    refine ⟨_, rfl, _, rfl, by show 2 ≤ sizeLine; decide, fun t0 ht0 => ?_⟩
    have x2 : Ext H1 (upd H1 t0 (.tup [.int (a : Int), .int (b : Int)])) := .new ht0
    refine ⟨.ref t0, [a, b], rfl, .tup (SqT.of upd_same) (dpAll_lot [a, b]), fun p hp => ?_, (x1.trans x2).tabs _ hT3, fun H3 x3 => ?_⟩
    · simp only [List.mem_cons, List.not_mem_nil, or_false] at hp
      omega
    have x13 := x2.trans x3
    clear x2 x3 ht0
    generalize hhm : Mk.mask [a, b] = hm at k k0 ⊢
    dsimp only [gName, tSeq, List.set]
    refine ⟨_, rfl, l, fs, bordD bs, rfl, dp_ext (x1.trans x13) hd, by omega, ?_⟩
    rw [hnn]
    dsimp only [gName, tSeq, List.set]
    have hlen : (vsN lk).length = n := by rw [List.length_map, L.len]
    refine ⟨by show 1 ≤ sizeLine; decide, fun l0 hl0 => ?_⟩
    have x4 : Ext H3 (upd H3 l0 (.lst [.non])) := .new hl0
    have h40 : (upd H3 l0 (.lst [.non])) l0 = some (.lst [.non]) := upd_same
    generalize upd H3 l0 (.lst [.non]) = H4 at x4 h40 ⊢
    refine ⟨_, rfl, _, n, rfl, .inl ⟨_, SqL.of ((x13.trans x4).lst hlk), hlen.symm⟩, _, rfl, ⟨by omega, by omega⟩, fun l1 hl1 => ?_⟩
    rw [rgV_nat]
    have x5 : Ext H4 (upd H4 l1 (.lst (vsN (List.range n)))) := .new hl1
    have h51 : (upd H4 l1 (.lst (vsN (List.range n)))) l1 = some (.lst (vsN (List.range n))) := upd_same
    have h50 := x5.lst h40
    generalize upd H4 l1 (.lst (vsN (List.range n))) = H5 at x5 h51 h50 ⊢
    have hs1 : [V.non].length + n ≤ sizeLine := by
      have : 1000 ≤ sizeLine := by decide
      simp only [List.length_cons, List.length_nil]
      omega
    refine ⟨l0, l1, _, _, rfl, rfl, h50, h51, by rw [List.length_map, List.length_range]; exact hs1, fun lc hlc => ?_⟩
    have ecat : [V.non] ++ vsN (List.range n) = (cutsL n).map cutV := by
      show V.non :: List.map _ (List.range n) = V.non :: List.map cutV ((List.range n).map some)
      rw [List.map_map]
      rfl
    rw [ecat]
    have x6 : Ext H5 (upd H5 lc (.lst ((cutsL n).map cutV))) := .new hlc
    have h6c : (upd H5 lc (.lst ((cutsL n).map cutV))) lc = some (.lst ((cutsL n).map cutV)) := upd_same
    have x16 := ((x13.trans x4).trans x5).trans x6
    generalize upd H5 lc (.lst ((cutsL n).map cutV)) = H6 at x6 h6c x16 ⊢
    clear x13 x4 x5 x6 h40 h50 h51 hl0 hl1 hlc
    have x06 := x1.trans x16
    have hlk6 := x16.lst hlk
    refine ⟨lc, rfl, ⟨_, SqL.of h6c⟩, for_list (K := K) (a := lc) (xs := (cutsL n).map cutV) (fun i σ H7 => ∃ (o6 o7 o9 : Option V), σ = [some l, some (.int (a : Int)), some (.int (b : Int)), some (.ref r), some (.int (hm : Int)), some (.int ((2 ^ n - 1 : Nat) : Int)), o6, o7, none, o9] ∧ Ext H6 H7 ∧ ∀ j c, j < i → (cutsL n)[j]? = some c → NoHl bs n hm c)
      ⟨_, _, _, rfl, .refl _, fun j c h => absurd h (Nat.not_lt_zero _)⟩ (fun i σ H7 _ ⟨_, _, _, _, x7, _⟩ => SqL.of (x7.lst h6c)) ?_ ?_⟩
    · rintro i y σ H7 hy ⟨o6, o7, o9, rfl, x7, hno⟩
      rw [List.getElem?_map] at hy
      obtain ⟨cut, hcut, rfl⟩ := Option.map_eq_some_iff.mp hy
      have hin := List.mem_of_getElem? hcut
      have hll := leftM_lt hin
      have left : ∀ (σ : L2.St) (Q : VK), σ[5]? = some (some (.int ((2 ^ n - 1 : Nat) : Int))) → σ[6]? = some (some (cutV cut)) → Q (.int ((leftM n cut : Nat) : Int)) H7 →
          tIf (tTest (tOp (fun x y H Q => y = .non ∧ Q (.bl (decide (x = .non))) H) (tVar 6) (tC .non))) (tVar 5) (tOp (rI0 fun i j => .int (Builtin.bitXor i j)) (tVar 5) (tOp (rI CPow fun i j => .int (i * 2 ^ j.toNat)) (tC (.int 1)) (tVar 6))) σ H7 Q := fun σ Q e5 e6 q => by
        refine ⟨_, e6, rfl, _, rfl, ?_⟩
        cases cut with
        | none =>
          rw [decide_eq_true (show cutV none = V.non from rfl)]
          exact iteT ⟨_, e5, q⟩
        | some c =>
          have hc : c < n := by
            rcases List.mem_cons.mp hin with z | z
            · cases z
            · obtain ⟨x, hx, e⟩ := List.mem_map.mp z
              rw [← Option.some.inj e]
              exact List.mem_range.mp hx
          rw [decide_eq_false (show ¬ cutV (some c) = V.non from fun z => nomatch z)]
          refine iteF ⟨_, e5, _, e6, _, _, rfl, rfl, ⟨by omega, by omega, by decide⟩, _, _, rfl, rfl, ?_⟩
          dsimp only
          rw [shl_pp, xor_pp]
          exact q
      refine left _ _ rfl rfl ?_
      dsimp only [gName, tSeq, List.set]
      refine ⟨_, rfl, _, rfl, r, lk, n, leftM n cut, bs, rfl, x7.lst hlk6, L, hb, hn, hll, (x06.trans x7).tabs _ hT1, fun pl H8 ps x8 hpl0 hpl hP => ?_⟩
      refine ⟨pl, rfl, ⟨_, SqL.of hpl⟩, fun D hD => ?_⟩
      have hpsl : ps.length ≤ 4096 := by
        have : ∀ (m : Nat) (l : List Nat), Mk.Pcs bs m l → l.length ≤ m := fun m l h => by
          induction h with
          | nil => exact Nat.le_refl _
          | cons hq hlow hR hP ih =>
            have hqp := (hR _).mpr ⟨_, by simp [Nat.testBit_two_pow], .refl hq⟩
            have := Mk.xor_lt hR.sub hqp
            rw [List.length_cons]
            omega
        have := this _ _ hP
        omega
      refine lc_list (K := K) (a := pl) (xs := vsN ps) (fun j H9 => H9 D = some (.lst (vsN ((ps.take j).filter fun q => decide (q &&& hm = 0)))) ∧ Ext H8 H9) ⟨upd_same, .new hD⟩ (fun j H9 _ ⟨_, x9⟩ => SqL.of (x9.lst hpl)) (fun j y H9 hy ⟨e9, x9⟩ => ?_) (fun H9 ⟨e9, x9⟩ => ?_)
      · have hjl : j < ps.length := by
          have := (List.getElem?_eq_some_iff.mp hy).1
          rwa [List.length_map] at this
        rw [List.getElem?_map, List.getElem?_eq_getElem hjl] at hy
        obtain rfl := (Option.some.inj hy).symm
        have et : ps.take (j + 1) = ps.take j ++ [ps[j]] := by rw [List.take_add_one, List.getElem?_eq_getElem hjl]; rfl
        rw [et]
        generalize ps[j] = q
        refine ⟨rfl, _, rfl, _, rfl, _, _, rfl, rfl, rfl, _, rfl, ?_⟩
        have ed : decide (V.int (Builtin.bitAnd (q : Int) (hm : Int)) = V.int 0) = decide (q &&& hm = 0) := by
          rw [and_pp]
          by_cases z : q &&& hm = 0
          · rw [decide_eq_true z]
            exact decide_eq_true (by rw [z]; rfl)
          · rw [decide_eq_false z]
            exact decide_eq_false fun w => z (by injection w with w; omega)
        dsimp only
        rw [ed]
        cases hq : decide (q &&& hm = 0) with
        | false =>
          refine iteF ⟨?_, x9⟩
          rw [List.filter_append, List.filter_cons_of_neg (by simp [hq])]
          simpa using e9
        | true =>
          refine iteT ⟨_, rfl, _, e9, ?_, ?_, x9.write hD⟩
          · have := List.length_filter_le (fun q => decide (q &&& hm = 0)) (ps.take j)
            rw [List.length_take] at this
            rw [List.length_map]
            exact small5000 (by omega)
          · rw [upd_same, List.filter_append, List.filter_cons_of_pos (by simpa using hq)]
            show some (HO.lst (List.map _ _ ++ _)) = some (HO.lst (List.map _ (_ ++ [q])))
            rw [List.map_append]
            rfl
      rw [List.length_map, List.take_length] at e9
      dsimp only [gName, tSeq, List.set]
      have x79 := x8.trans x9
      cases hf : ps.filter fun q => decide (q &&& hm = 0) with
      | nil =>
        rw [hf] at e9
        refine ⟨_, rfl, false, .inl ⟨_, SqL.of e9, rfl⟩, iteF ⟨_, _, _, rfl, x7.trans x79, fun j c hj hc => ?_⟩⟩
        by_cases e : j = i
        · rw [e, hcut] at hc
          rw [← Option.some.inj hc]
          refine ⟨ps, hP, fun q hq z => ?_⟩
          have hz : q ∈ ps.filter fun q => decide (q &&& hm = 0) := List.mem_filter.mpr ⟨hq, decide_eq_true z⟩
          rw [hf] at hz
          cases hz
        · exact hno j c (by omega) hc
      | cons q0 qr =>
        rw [hf] at e9
        have hS : ShutAt bs n hm i cut q0 := ⟨hcut, hno, ps, hP, by rw [hf]; rfl⟩
        refine ⟨_, rfl, true, .inl ⟨_, SqL.of e9, rfl⟩, iteT ?_⟩
        refine ⟨_, rfl, _, rfl, D, _, _, _, rfl, rfl, SqL.of e9, atI_nat (j := 0) rfl, q0, n, rfl, hS.lt, by omega, ((x06.trans x7).trans x79).tabs _ hT1, fun t H10 x10 ht0 dt _ => ?_⟩
        refine ⟨by show 2 ≤ sizeLine; decide, fun q hq => ?_⟩
        exact k i cut q0 q t _ hS (((x06.trans x7).trans (x79.trans x10)).trans (.new hq)) (((x06.trans x7).trans (x79.trans x10)).free hq) upd_same (dp_ext (.new hq) dt)
    · rintro σ H7 ⟨o6, o7, o9, rfl, x7, hno⟩
      refine k0 (fun cut hc => ?_) H7 (x06.trans x7)
      obtain ⟨j, hj⟩ := List.getElem?_of_mem hc
      refine hno j cut ?_ hj
      rw [List.length_map]
      exact (List.getElem?_eq_some_iff.mp hj).1
end
end Wd

set_option Elab.async false
set_option linter.all false
set_option maxRecDepth 100000
set_option maxHeartbeats 4000000
namespace Wd
open PySem PySem.Spec PyProof.Rows L2 Bx Gx











































section
variable {P : Program} {w : World} {K : PySem.W.Frag} {mg : Str → Option Value} {base : Heap}
/-! ### the places to which a lot hangs from one of them -/
theorem inV_vsN (k : Nat) (l : List Nat) : inV (.int (k : Int)) (vsN l) = decide (k ∈ l) := by
  unfold inV vsN
  rw [List.any_map]
  induction l with
  | nil => rfl
  | cons x r ih =>
    rw [List.any_cons, ih]
    have e : ((fun y => eqV y (.int (k : Int))) ∘ fun (m : Nat) => V.int (m : Int)) x = decide (k = x) := by
      show ((x : Int) == (k : Int)) = _
      rw [Bool.eq_iff_iff]
      simp
      omega
    rw [e, Bool.eq_iff_iff]
    simp
theorem flat_vsN (l : List Nat) : (vsN l).all flatV = true := by
  rw [List.all_eq_true]
  intro x hx
  obtain ⟨y, _, rfl⟩ := List.mem_map.mp hx
  rfl
/-- a lot's own part, ascending: what hangs to a place -/
structure Part (bs : List (Nat × Nat)) (ps : List Nat) (p : Nat) (r : List Nat) : Prop where
  asc : r.Pairwise (· < ·)
  mem : ∀ x, x ∈ r ↔ Mk.Conn bs (· ∈ ps) p x
def spLReached (K : PySem.W.Frag) : Sp := fun vs H Q _ => ∃ (l : V) (v : Addr) (fs : List Int) (bs : List (Nat × Nat)) (ps : List Nat) (p : Nat), vs = [l, .ref v, .int (p : Int)] ∧ Dp K H l (landD fs bs) ∧ fs.length ≤ 12 ∧ Mk.Bs fs.length bs ∧ SqT K H v (vsN ps) ∧ (∀ x ∈ ps, x < fs.length) ∧ p ∈ ps ∧
  ∀ q H' r, Ext H H' → H q = none → H' q = some (.tup (vsN r)) → Part bs ps p r → Q (.ref q) H'
end
section
variable {P : Program} {w : World} {K : PySem.W.Frag} {mg : Str → Option Value} {base : Heap}
/-! ### the greatest lots that hang together -/
def spLPieces (K : PySem.W.Frag) : Sp := fun vs H Q _ => ∃ (l : V) (v : Addr) (fs : List Int) (bs : List (Nat × Nat)) (ps : List Nat), vs = [l, .ref v] ∧ Dp K H l (landD fs bs) ∧ fs.length ≤ 12 ∧ Mk.Bs fs.length bs ∧ SqT K H v (vsN ps) ∧ (∀ x ∈ ps, x < fs.length) ∧ ps.Pairwise (· < ·) ∧
  ∀ q H' (rs : List (List Nat)), Ext H H' → H q = none → Dp K H' (.ref q) (.tuple (rs.map lotD)) → (∀ r ∈ rs, r.Pairwise (· < ·) ∧ ∀ x ∈ r, x ∈ ps) → rs.length ≤ ps.length → Mk.Pcs bs (Mk.mask ps) (rs.map Mk.mask) → Q (.ref q) H'
theorem dp_lotT {H : Hp} {a : Addr} {r : List Nat} (h : SqT K H a (vsN r)) : Dp K H (.ref a) (lotD r) := .tup h (dpAll_lot r)
end
section
/-! ### is_shut -/
def cutIn (cut : Option Nat) (ps : List Nat) : Bool := match cut with
  | none => false
  | some c => decide (c ∈ ps)
def leadB (bs : List (Nat × Nat)) (n : Nat) (cut : Option Nat) (ps : List Nat) (p : Nat) : Bool := (List.range n).all fun q => !Mk.adj bs p q || (decide (q ∈ ps) || decide (some q = cut))
def shutB (bs : List (Nat × Nat)) (n a b : Nat) (cut : Option Nat) (ps : List Nat) : Bool := !(decide (a ∈ ps) || (decide (b ∈ ps) || cutIn cut ps)) && ps.all (leadB bs n cut ps)
theorem leadB_iff {bs : List (Nat × Nat)} {n p : Nat} {cut : Option Nat} {ps : List Nat} (hb : Mk.Bs n bs) : leadB bs n cut ps p = true ↔ ∀ q, Mk.adj bs p q = true → q ∈ ps ∨ some q = cut := by
  unfold leadB
  rw [List.all_eq_true]
  constructor
  · intro h q hq
    have := h q (List.mem_range.mpr (Mk.adj_lt hb hq).2.1)
    rw [hq] at this
    simpa using this
  · intro h q _
    cases hq : Mk.adj bs p q with
    | false => rfl
    | true =>
      have := h q hq
      simpa using this
theorem inV_cut (cut : Option Nat) (ps : List Nat) : inV (cutV cut) (vsN ps) = cutIn cut ps := by
  cases cut with
  | some c => exact inV_vsN c ps
  | none =>
    show inV .non (vsN ps) = false
    unfold inV vsN
    rw [List.any_map]
    exact List.any_eq_false.mpr fun x _ => by simp [eqV]
theorem flat_cut (cut : Option Nat) : flatV (cutV cut) = true := by cases cut <;> rfl
def allowM (cut : Option Nat) (ps : List Nat) : Nat := match cut with
  | none => Mk.mask ps
  | some c => Mk.mask ps ||| 2 ^ c
theorem allowM_bit {cut : Option Nat} {ps : List Nat} (ha : ps.Pairwise (· < ·)) (q : Nat) : (allowM cut ps).testBit q = true ↔ q ∈ ps ∨ some q = cut := by
  cases cut with
  | none =>
    show (Mk.mask ps).testBit q = true ↔ _
    rw [Mk.bit_mask ha, decide_eq_true_eq]
    exact ⟨.inl, fun h => h.elim id (fun z => nomatch z)⟩
  | some c =>
    show (Mk.mask ps ||| 2 ^ c).testBit q = true ↔ _
    rw [Nat.testBit_or, Bool.or_eq_true, Mk.bit_mask ha, Nat.testBit_two_pow, decide_eq_true_eq, decide_eq_true_eq]
    exact ⟨fun h => h.imp id fun z => by rw [z], fun h => h.imp id fun z => (Option.some.inj z).symm⟩
theorem sub_and {k m : Nat} : k &&& m = k ↔ ∀ q, k.testBit q = true → m.testBit q = true := by
  constructor
  · intro h q hq
    rw [← h, Nat.testBit_and, Bool.and_eq_true] at hq
    exact hq.2
  · intro h
    refine Mk.eq_of_bits fun q => ?_
    rw [Nat.testBit_and, Bool.and_eq_true]
    exact ⟨fun z => z.1, fun z => ⟨z, h q z⟩⟩
end
section
variable {P : Program} {w : World} {K : PySem.W.Frag} {mg : Str → Option Value} {base : Heap}
def spIsShut (K : PySem.W.Frag) (ts : List Addr) : Sp := fun vs H Q _ => ∃ (l v : V) (fs : List Int) (bs : List (Nat × Nat)) (a b : Nat) (cut : Option Nat) (ps : List Nat), vs = [l, .int (a : Int), .int (b : Int), cutV cut, v] ∧ Dp K H l (landD fs bs) ∧ LandOk fs bs ∧ a < fs.length ∧ b < fs.length ∧ a ≠ b ∧ cut ∈ cutsL fs.length ∧ Dp K H v (lotD ps) ∧ LotOk fs.length ps ∧ Tabs ts H ∧
  ∀ H', Ext H H' → Q (.bl (shutB bs fs.length a b cut ps)) H'
abbrev isN : List Str := ["land", "head", "other_head", "cut", "lot", "allowed", "links"]
/-! ### ordered -/
def spOrdered (K : PySem.W.Frag) (ts : List Addr) : Sp := fun vs H Q _ => ∃ (l : V) (fs : List Int) (bs : List (Nat × Nat)) (a b : Nat), vs = [l, .int (a : Int), .int (b : Int)] ∧ Dp K H l (landD fs bs) ∧ LandOk fs bs ∧ a < fs.length ∧ b < fs.length ∧ a ≠ b ∧ Tabs ts H ∧
  ((∀ cut ∈ cutsL fs.length, NoHl bs fs.length (Mk.mask [a, b]) cut) → ∀ (q t : Addr) (r : List Nat) (H' : Hp), Ext H H' → H q = none → H' q = some (.tup [.str "yes", .ref t]) → H' t = some (.tup (vsN (a :: r))) → (complF bs fs.length b (cnt fs.length (2 ^ a)) (2 ^ a))[0]? = some r → Q (.ref q) H') ∧
  ∀ (i : Nat) (cut : Option Nat) (m : Nat) (q t : Addr) (H' : Hp), ShutAt bs fs.length (Mk.mask [a, b]) i cut m → Ext H H' → H q = none → H' q = some (.tup [.str "no", cutV cut, .ref t]) → Dp K H' (.ref t) (lotD (Mk.bits fs.length m)) → Q (.ref q) H'
abbrev orN : List Str := ["land", "head", "other_head", "shut", "cut", "lot", "links", "ways"]
theorem sc_ordered : FnScope orN ["land", "head", "other_head"] (defScope st_ordered) := ⟨rfl, rfl, rfl, by decide +kernel, rfl, by decide +kernel, by decide +kernel⟩
theorem ok_ordered {f T1 T2 T3 : Addr} {fd : FuncData} (F : Fun K "ordered" "ordered" st_ordered f fd) (c1 : Cal P w K mg base 5 "check_land" ["land"] (spFaultLand K)) (c2 : Cal P w K mg base 4 "check_heads" ["land", "head", "other_head"] (spCheckHeads K)) (c3 : Cal P w K mg base 9 "first_shut" ["land", "head", "other_head"] (spShut1 K T1 T3))
    (c4 : Cal P w K mg base 1 "links_of" ["land"] (spLinksOf K)) (c5 : Cal P w K mg base 8 "ways_on" ["links", "head", "other_head"] (spWays K T1 T2)) (c6 : Cal P w K mg base 9 "order_at" ["links", "ways", "head", "other_head", "number"] (spOrdAt K T1)) : FnOk P w K mg base CX0 10 f fd ["land", "head", "other_head"] (spOrdered K [T1, T2, T3]) := by
  refine F.ok sc_ordered (fun vs H Q E h => ?_) (fun cdv A outer s H vs Q E hr h => ?_)
  · obtain ⟨l, fs, bs, a, b, rfl, _⟩ := h
    rfl
  · obtain ⟨l, fs, bs, a, b, rfl, hd, ok, ha, hb, hab, hT, k1, k2⟩ := h
    have nd := sc_ordered.nd
    have hr1 := hr.mono (j := 1) (by decide)
    have hr5 := hr.mono (j := 5) (by decide)
    have hr4 := hr.mono (j := 4) (by decide)
    have hr8 := hr.mono (j := 8) (by decide)
    refine ⟨_, pss_cons (ps_expr (pe_cal c1 hr5 rfl (pa_cons (pv 0) pa_nil)))
      (pss_cons (ps_expr (pe_cal c2 hr4 rfl (pa_cons (pv 0) (pa_cons (pv 1) (pa_cons (pv 2) pa_nil)))))
      (pss_cons (ps_set (i := 3) nd rfl (Or.inl rfl) (pe_cal c3 hr rfl (pa_cons (pv 0) (pa_cons (pv 1) (pa_cons (pv 2) pa_nil)))))
      (pss_cons (ps_if (pt_cmpR op_notN (pv 3) pe_non (nomark _))
        (pss_cons (ps_asg (pv 3) (pg_tup (by rfl) (pgs_cons (pg_name (i := 4) nd rfl (Or.inl rfl)) (pgs_cons (pg_name (i := 5) nd rfl (Or.inl rfl)) pgs_nil))))
        (pss_one (ps_ret (pe_tup (pa_cons pe_str (pa_cons (pv 4) (pa_cons (pv 5) pa_nil))))))) pss_nil)
      (pss_cons (ps_set (i := 6) nd rfl (Or.inl rfl) (pe_cal c4 hr1 rfl (pa_cons (pv 0) pa_nil)))
      (pss_cons (ps_set (i := 7) nd rfl (Or.inl rfl) (pe_cal c5 hr8 rfl (pa_cons (pv 6) (pa_cons (pv 1) (pa_cons (pv 2) pa_nil)))))
      (pss_one (ps_ret (pe_tup (pa_cons pe_str (pa_cons (pe_cal c6 hr rfl (pa_cons (pv 6) (pa_cons (pv 7) (pa_cons (pv 1) (pa_cons (pv 2) (pa_cons pe_int pa_nil)))))) pa_nil)))))))))), ?_⟩
    have hn := ok.most
    have hT1 := hT T1 (by simp)
    have hT2 := hT T2 (by simp)
    have hT3 := hT T3 (by simp)
    refine ⟨_, rfl, l, fs, bs, rfl, hd, ok, ?_⟩
    refine ⟨_, rfl, _, rfl, _, rfl, l, fs, bordD bs, a, b, rfl, hd, hn, ha, hb, hab, ?_⟩
    refine ⟨_, rfl, _, rfl, _, rfl, l, fs, bs, a, b, rfl, hd, hn, ok.bord, ha, hb, hab, hT1, hT3, fun hno H1 x1 => ?_, fun i cut m q t H1 hS x1 hq0 hq ht => ?_⟩
    · dsimp only [gName, tSeq, List.set]
      refine ⟨_, rfl, rfl, _, rfl, ?_⟩
      rw [decide_eq_true rfl]
      refine iteF ?_
      refine ⟨_, rfl, l, fs, bs, rfl, dp_ext x1 hd, hn, ok.bord, fun r H2 lk x2 hr0 hlk L => ?_⟩
      dsimp only [gName, tSeq, List.set]
      have x12 := x1.trans x2
      refine ⟨_, rfl, _, rfl, _, rfl, r, lk, fs.length, a, b, bs, rfl, hlk, L, hn, ha, hb, hab, x12.tabs _ hT1, x12.tabs _ hT2, fun wy ws H3 x3 hwy0 hwy W => ?_⟩
      dsimp only [gName, tSeq, List.set]
      have ns := noShut_of (mask_two hab) hno
      have x13 := x12.trans x3
      refine ⟨_, rfl, _, rfl, _, rfl, _, rfl, r, wy, lk, ws, fs.length, a, b, 0, bs, rfl, x3.lst hlk, hwy, L, W, hn, ha, hb, hab, an_order ha hb hab ns, x13.tabs _ hT1, fun t c H4 x4 ht0 ht hc => ?_⟩
      refine ⟨by show 2 ≤ sizeLine; decide, fun q hq => ?_⟩
      exact k1 hno q t c _ ((x13.trans x4).trans (.new hq)) ((x13.trans x4).free hq) upd_same ((Ext.new hq).tup ht) hc
    · dsimp only [gName, tSeq, List.set]
      refine ⟨_, rfl, rfl, _, rfl, ?_⟩
      rw [decide_eq_false (show ¬ V.ref q = V.non from fun z => nomatch z)]
      refine iteT ⟨_, rfl, q, _, rfl, SqT.of hq, rfl, _, _, rfl, _, _, rfl, rfl, ?_⟩
      dsimp only [gName, tSeq, List.set]
      refine ⟨_, rfl, _, rfl, by show 3 ≤ sizeLine; decide, fun q2 hq2 => ?_⟩
      exact k2 i cut m q2 t _ hS (x1.trans (.new hq2)) (x1.free hq2) upd_same (dp_ext (.new hq2) ht)
end
end Wd

set_option Elab.async false
set_option linter.all false
set_option maxRecDepth 100000
set_option maxHeartbeats 4000000
namespace Wd
open PySem PySem.Spec PyProof.Rows L2 Bx Gx











































section
/-! ### orders: each place in the middle has a neighbour ahead and one behind -/
structure OrdP (bs : List (Nat × Nat)) (n a b : Nat) (os : List Nat) : Prop where
  pm : os.Perm (List.range n)
  hd : ∃ t, os = a :: t
  ls : ∃ t, os = t ++ [b]
  mid : ∀ pre p suf, os = pre ++ p :: suf → pre ≠ [] → suf ≠ [] → (∃ q ∈ pre, Mk.adj bs p q = true) ∧ ∃ q ∈ suf, Mk.adj bs p q = true
variable {bs bs' : List (Nat × Nat)} {n a b : Nat} {os : List Nat}
theorem OrdP.nd (h : OrdP bs n a b os) : os.Nodup := h.pm.nodup_iff.mpr List.nodup_range
theorem OrdP.mem (h : OrdP bs n a b os) {p : Nat} : p ∈ os ↔ p < n := by rw [h.pm.mem_iff, List.mem_range]
theorem OrdP.len (h : OrdP bs n a b os) : os.length = n := by rw [h.pm.length_eq, List.length_range]
theorem OrdP.more (h : OrdP bs n a b os) (k : ∀ p q, Mk.adj bs p q = true → Mk.adj bs' p q = true) : OrdP bs' n a b os :=
  ⟨h.pm, h.hd, h.ls, fun pre p suf e h1 h2 => by
    obtain ⟨⟨q, g1, g2⟩, r, g3, g4⟩ := h.mid pre p suf e h1 h2
    exact ⟨⟨q, g1, k _ _ g2⟩, r, g3, k _ _ g4⟩⟩
theorem OrdP.rev (h : OrdP bs n a b os) : OrdP bs n b a os.reverse := by
  obtain ⟨t, ht⟩ := h.hd
  obtain ⟨u, hu⟩ := h.ls
  refine ⟨(List.reverse_perm os).trans h.pm, ⟨u.reverse, by rw [hu, List.reverse_append]; rfl⟩, ⟨t.reverse, by rw [ht, List.reverse_cons]⟩, fun pre p suf e h1 h2 => ?_⟩
  have e2 : os = suf.reverse ++ p :: pre.reverse := by
    have := congrArg List.reverse e
    rw [List.reverse_reverse, List.reverse_append, List.reverse_cons, List.append_assoc] at this
    exact this
  obtain ⟨⟨q, g1, g2⟩, r, g3, g4⟩ := h.mid _ _ _ e2 (by simpa using h2) (by simpa using h1)
  exact ⟨⟨r, by simpa using g3, g4⟩, q, by simpa using g1, g2⟩
/-- beginnings hang together -/
theorem OrdP.front (h : OrdP bs n a b os) {pre suf : List Nat} (e : os = pre ++ suf) (hs : suf ≠ []) : ∀ (k : Nat) (u : List Nat) (x : Nat) (v : List Nat), u.length = k → pre = u ++ x :: v → Mk.Conn bs (· ∈ u ++ [x]) x a := by
  intro k
  induction k using Nat.strongRecOn with
  | _ k ih =>
    intro u x v hu hpre
    obtain ⟨t, ht⟩ := h.hd
    by_cases hu0 : u = []
    · subst hu0
      have : x = a := by
        rw [ht, hpre] at e
        injection e with e1
        exact e1.symm
      subst this
      exact .refl (by simp)
    · obtain ⟨⟨q, hq, had⟩, _⟩ := h.mid u x (v ++ suf) (by rw [e, hpre, List.append_assoc]; rfl) hu0 (by simp [hs])
      obtain ⟨u1, u2, e2⟩ := List.append_of_mem hq
      have hl : u1.length < k := by rw [← hu, e2, List.length_append, List.length_cons]; omega
      have c := ih _ hl u1 q (u2 ++ x :: v) rfl (by rw [hpre, e2, List.append_assoc]; rfl)
      refine (Mk.Conn.one (by simp) ?_ had).trans (c.mono fun y hy => ?_)
      · exact List.mem_append_left _ hq
      · rw [e2]
        simp only [List.mem_append, List.mem_cons, List.not_mem_nil, or_false] at hy ⊢
        rcases hy with hy | hy
        · exact .inl (.inl hy)
        · exact .inl (.inr (.inl hy))
theorem OrdP.fronts (h : OrdP bs n a b os) {pre suf : List Nat} (e : os = pre ++ suf) (hp : pre ≠ []) (hs : suf ≠ []) : a ∈ pre ∧ ∀ x ∈ pre, Mk.Conn bs (· ∈ pre) x a := by
  have key : ∀ x ∈ pre, Mk.Conn bs (· ∈ pre) x a := fun x hx => by
    obtain ⟨u, v, e2⟩ := List.append_of_mem hx
    refine (h.front e hs _ u x v rfl e2).mono fun y hy => ?_
    rw [e2]
    simp only [List.mem_append, List.mem_cons, List.not_mem_nil, or_false] at hy ⊢
    rcases hy with hy | hy
    · exact .inl hy
    · exact .inr (.inl hy)
  obtain ⟨x, t, rfl⟩ := List.exists_cons_of_ne_nil hp
  exact ⟨(key x List.mem_cons_self).snd, key⟩
theorem OrdP.backs (h : OrdP bs n a b os) {pre suf : List Nat} (e : os = pre ++ suf) (hp : pre ≠ []) (hs : suf ≠ []) : b ∈ suf ∧ ∀ x ∈ suf, Mk.Conn bs (· ∈ suf) x b := by
  have e2 : os.reverse = suf.reverse ++ pre.reverse := by rw [e, List.reverse_append]
  obtain ⟨h1, h2⟩ := h.rev.fronts e2 (by simpa using hs) (by simpa using hp)
  refine ⟨by simpa using h1, fun x hx => (h2 x (by simpa using hx)).mono fun y hy => by simpa using hy⟩
theorem first_split {P : Nat → Prop} [DecidablePred P] : ∀ {l : List Nat}, (∃ x ∈ l, P x) → ∃ u x v, l = u ++ x :: v ∧ P x ∧ ∀ y ∈ u, ¬ P y
  | [], h => by obtain ⟨x, hx, _⟩ := h; cases hx
  | z :: l, h => by
    by_cases hz : P z
    · exact ⟨[], z, l, rfl, hz, fun y hy => nomatch hy⟩
    · obtain ⟨x, hx, px⟩ := h
      rcases List.mem_cons.mp hx with rfl | hx
      · exact absurd px hz
      · obtain ⟨u, y, v, e, h1, h2⟩ := first_split (P := P) (l := l) ⟨x, hx, px⟩
        refine ⟨z :: u, y, v, by rw [e]; rfl, h1, fun w hw => ?_⟩
        rcases List.mem_cons.mp hw with rfl | hw
        · exact hz
        · exact h2 w hw
/-- no order where a lot is shut -/
theorem OrdP.open_ (h : OrdP bs n a b os) (hb : Mk.Bs n bs) {cut : Option Nat} {ps : List Nat} (hne : ps ≠ []) (hlt : ∀ p ∈ ps, p < n) (hs : shutB bs n a b cut ps = true) : False := by
  unfold shutB at hs
  rw [Bool.and_eq_true, Bool.not_eq_true', Bool.or_eq_false_iff, Bool.or_eq_false_iff, decide_eq_false_iff_not, decide_eq_false_iff_not, List.all_eq_true] at hs
  obtain ⟨⟨na, nb, _⟩, hlead⟩ := hs
  have hlead' : ∀ p ∈ ps, ∀ q, Mk.adj bs p q = true → q ∈ ps ∨ some q = cut := fun p hp => (leadB_iff hb).mp (hlead p hp)
  clear hlead
  obtain ⟨p0, r0, rfl⟩ := List.exists_cons_of_ne_nil hne
  have hin : ∃ x ∈ os, x ∈ p0 :: r0 := ⟨p0, h.mem.mpr (hlt _ List.mem_cons_self), List.mem_cons_self⟩
  generalize p0 :: r0 = ps at na nb hlead' hin
  have key : ∀ {a b : Nat} {os : List Nat}, OrdP bs n a b os → a ∉ ps → b ∉ ps → (∃ x ∈ os, x ∈ ps) → ∃ u x v q, os = u ++ x :: v ∧ x ∈ ps ∧ (∀ y ∈ u, y ∉ ps) ∧ q ∈ u ∧ some q = cut := fun {a b os} h na nb hin => by
    obtain ⟨u, x, v, e, h1, h2⟩ := first_split (P := fun x => x ∈ ps) hin
    obtain ⟨t, ht⟩ := h.hd
    obtain ⟨s, hs⟩ := h.ls
    have hu : u ≠ [] := fun z => by
      subst z
      rw [ht] at e
      injection e with e1
      exact na (e1 ▸ h1)
    have hv : v ≠ [] := fun z => by
      subst z
      rw [hs] at e
      have := congrArg List.getLast? e
      rw [List.getLast?_append, List.getLast?_append] at this
      have e1 : b = x := by simpa using this
      exact nb (e1 ▸ h1)
    obtain ⟨⟨q, hq, had⟩, _⟩ := h.mid u x v e hu hv
    rcases hlead' x h1 q had with z | z
    · exact absurd z (h2 q hq)
    · exact ⟨u, x, v, q, e, h1, h2, hq, z⟩
  obtain ⟨u, x, v, q, e, hx, hu, hq, hc⟩ := key h na nb hin
  obtain ⟨u', x', v', q', e', hx', hu', hq', hc'⟩ := key h.rev nb na (by obtain ⟨y, h1, h2⟩ := hin; exact ⟨y, by simpa using h1, h2⟩)
  have eq : q' = q := Option.some.inj (hc'.trans hc.symm)
  subst eq
  have e2 : os = v'.reverse ++ x' :: u'.reverse := by
    have := congrArg List.reverse e'
    rw [List.reverse_reverse, List.reverse_append, List.reverse_cons, List.append_assoc] at this
    exact this
  have hq2 : q' ∈ u'.reverse := by simpa using hq'
  have nd := h.nd
  rw [e, List.nodup_append] at nd
  rw [e] at e2
  rcases List.append_eq_append_iff.mp e2 with ⟨c, e3, e4⟩ | ⟨c, e3, e4⟩
  · refine nd.2.2 q' hq q' ?_ rfl
    rw [e4]
    exact List.mem_append_right _ (List.mem_cons_of_mem _ hq2)
  · cases c with
    | nil =>
      injection e4 with e5 e6
      refine nd.2.2 q' hq q' ?_ rfl
      rw [← e6]
      exact List.mem_cons_of_mem _ hq2
    | cons c0 c =>
      injection e4 with e5 e6
      exact hu x' (by rw [e3, e5]; simp) hx'
end
section
variable {bs : List (Nat × Nat)} {n a b : Nat}
theorem pcs_closed {bs : List (Nat × Nat)} {m : Nat} {qs : List Nat} (h : Mk.Pcs bs m qs) : ∀ q ∈ qs, ∀ x y, q.testBit x = true → m.testBit y = true → Mk.adj bs x y = true → q.testBit y = true := by
  induction h with
  | nil => exact fun q hq => nomatch hq
  | @cons m q p l hq hlow hR hP ih =>
    have hsub := hR.sub
    have hx := fun z => Mk.xor_sub hsub z
    intro r hr x y hrx hmy had
    rcases List.mem_cons.mp hr with rfl | hr
    · obtain ⟨s, h1, h2⟩ := (hR x).mp hrx
      exact (hR y).mpr ⟨s, h1, .step h2 had hmy⟩
    · have hin := (hx x).mp ((hP.parted.all x).mpr ⟨r, hr, hrx⟩)
      refine ih r hr x y hrx ((hx y).mpr ⟨hmy, ?_⟩) had
      cases z : p.testBit y with
      | false => rfl
      | true =>
        obtain ⟨s, h1, h2⟩ := (hR y).mp z
        have := (hR x).mpr ⟨s, h1, .step h2 (by rw [Mk.adj_comm]; exact had) hin.1⟩
        rw [hin.2] at this
        cases this
/-- the places in the middle, one by one, as the mask of those ahead grows -/
def goB (bs : List (Nat × Nat)) (n : Nat) : Nat → List Nat → Bool
  | _, [] => true
  | m, p :: r => nearB bs n m p && (nearB bs n (rest n m) p && goB bs n (m ||| 2 ^ p) r)
theorem goB_iff : ∀ {mid pre : List Nat} {m : Nat}, m < 2 ^ n → (∀ q, m.testBit q = true ↔ q ∈ pre) → (∀ p ∈ mid, p < n) → (goB bs n m mid = true ↔ ∀ u p v, mid = u ++ p :: v → (∃ q ∈ pre ++ u, Mk.adj bs p q = true) ∧ ∃ q, q < n ∧ q ∉ pre ++ u ∧ Mk.adj bs p q = true)
  | [], pre, m, hm, hp, hl => by
    constructor
    · intro _ u p v e
      cases u <;> cases e
    · exact fun _ => rfl
  | p :: r, pre, m, hm, hp, hl => by
    have hpn := hl p List.mem_cons_self
    have hm2 : m ||| 2 ^ p < 2 ^ n := Nat.or_lt_two_pow hm (Nat.pow_lt_pow_right (by decide) hpn)
    have ih := goB_iff (mid := r) (pre := pre ++ [p]) (m := m ||| 2 ^ p) hm2 (fun q => by
      rw [or_bit, Bool.or_eq_true, hp, decide_eq_true_eq, List.mem_append, List.mem_singleton]
      exact or_congr Iff.rfl ⟨Eq.symm, Eq.symm⟩) (fun q hq => hl q (List.mem_cons_of_mem _ hq))
    have e1 : nearB bs n m p = true ↔ ∃ q ∈ pre ++ [], Mk.adj bs p q = true := by
      rw [nearB_iff hm, List.append_nil]
      exact ⟨fun ⟨q, h1, h2⟩ => ⟨q, (hp q).mp h1, h2⟩, fun ⟨q, h1, h2⟩ => ⟨q, (hp q).mpr h1, h2⟩⟩
    have e2 : nearB bs n (rest n m) p = true ↔ ∃ q, q < n ∧ q ∉ pre ++ [] ∧ Mk.adj bs p q = true := by
      rw [nearB_iff (rest_lt hm), List.append_nil]
      constructor
      · rintro ⟨q, h1, h2⟩
        obtain ⟨h3, h4⟩ := (bit_in hm).mp h1
        exact ⟨q, h3, (fun z => by rw [(hp q).mpr z] at h4; exact absurd h4 (by decide)), h2⟩
      · rintro ⟨q, h1, h2, h3⟩
        exact ⟨q, (bit_in hm).mpr ⟨h1, by cases z : m.testBit q with
          | true => exact absurd ((hp q).mp z) h2
          | false => rfl⟩, h3⟩
    rw [goB, Bool.and_eq_true, Bool.and_eq_true, e1, e2, ih]
    constructor
    · rintro ⟨h1, h2, h3⟩ u p' v e
      cases u with
      | nil =>
        injection e with e1 _
        subst e1
        exact ⟨h1, h2⟩
      | cons u0 u =>
        injection e with e1 e2
        subst e1
        have := h3 u p' v e2
        rw [List.append_assoc] at this
        exact this
    · intro h
      refine ⟨(h [] p r rfl).1, (h [] p r rfl).2, fun u p' v e => ?_⟩
      have := h (p :: u) p' v (by rw [e]; rfl)
      rw [List.append_assoc]
      exact this
/-- an order of all places from head to head, as the program looks at it -/
theorem ordP_of {mid : List Nat} (hbs : Mk.Bs n bs) (hpm : (a :: (mid ++ [b])).Perm (List.range n)) : goB bs n (2 ^ a) mid = true ↔ OrdP bs n a b (a :: (mid ++ [b])) := by
  have mem : ∀ {p : Nat}, p ∈ a :: (mid ++ [b]) ↔ p < n := by intro p; rw [hpm.mem_iff, List.mem_range]
  have nd : (a :: (mid ++ [b])).Nodup := hpm.nodup_iff.mpr List.nodup_range
  have ha : a < n := mem.mp List.mem_cons_self
  have hmid : ∀ p ∈ mid, p < n := fun p hp => mem.mp (List.mem_cons_of_mem _ (List.mem_append_left _ hp))
  rw [goB_iff (pre := [a]) (Nat.pow_lt_pow_right (by decide) ha) (fun q => by rw [Nat.testBit_two_pow, decide_eq_true_eq, List.mem_singleton]; exact ⟨Eq.symm, Eq.symm⟩) hmid]
  constructor
  · intro h
    refine ⟨hpm, ⟨_, rfl⟩, ⟨a :: mid, rfl⟩, fun pre p suf e h1 h2 => ?_⟩
    obtain ⟨x, u, rfl⟩ := List.exists_cons_of_ne_nil h1
    injection e with e1 e2
    subst e1
    obtain ⟨v, y, rfl⟩ : ∃ v y, suf = v ++ [y] := ⟨suf.dropLast, suf.getLast h2, (List.dropLast_concat_getLast h2).symm⟩
    have e3 : mid ++ [b] = (u ++ p :: v) ++ [y] := by rw [e2, List.append_assoc]; rfl
    obtain ⟨e4, e5⟩ := List.append_inj' e3 rfl
    injection e5 with e5 _
    subst e5
    obtain ⟨⟨q, g1, g2⟩, r, g3, g4, g5⟩ := h u p v e4
    refine ⟨⟨q, g1, g2⟩, r, ?_, g5⟩
    have hr := mem.mpr g3
    rw [e2] at hr
    rcases List.mem_cons.mp hr with z | z
    · exact absurd (by simp [z]) g4
    · rcases List.mem_append.mp z with z | z
      · exact absurd (by simp [z]) g4
      · rcases List.mem_cons.mp z with z | z
        · subst z
          exact absurd rfl (Mk.adj_lt hbs g5).2.2
        · exact z
  · intro h u p v e
    obtain ⟨⟨q, g1, g2⟩, r, g3, g4⟩ := h.mid (a :: u) p (v ++ [b]) (by rw [e, List.append_assoc]; rfl) (fun z => nomatch z) (by simp)
    refine ⟨⟨q, g1, g2⟩, r, ?_, ?_, g4⟩
    · exact mem.mp (by rw [e]; simp only [List.mem_cons, List.mem_append, List.not_mem_nil, or_false] at g3 ⊢; rcases g3 with g3 | g3 <;> simp [g3])
    · intro z
      have e2 : a :: (mid ++ [b]) = (a :: u) ++ p :: (v ++ [b]) := by rw [e, List.append_assoc]; rfl
      rw [e2, List.nodup_append] at nd
      exact nd.2.2 r z r (List.mem_cons_of_mem _ g3) rfl
/-- what the program's way of going on gives are orders -/
theorem complF_go (hb : b < n) : ∀ {k m : Nat} {r : List Nat}, Betw n a b m → cnt n m = k → r ∈ complF bs n b k m → ∃ mid, r = mid ++ [b] ∧ goB bs n m mid = true ∧ r.Nodup ∧ ∀ x, x ∈ r ↔ x < n ∧ m.testBit x = false
  | 0, m, r, h, hk, hr => by
    obtain rfl := List.mem_singleton.mp hr
    have e := (cnt_zero hb h).mp hk
    refine ⟨[], rfl, rfl, by simp, fun x => ?_⟩
    rw [List.mem_singleton, e]
    constructor
    · rintro rfl
      exact ⟨hb, by rw [bit_rest hb, Nat.testBit_two_pow]; simp⟩
    · rintro ⟨hx, h2⟩
      rw [bit_rest hx, Nat.testBit_two_pow] at h2
      have : b = x := by simpa using h2
      exact this.symm
  | k + 1, m, r, h, hk, hr => by
    rw [complF, List.mem_flatMap] at hr
    obtain ⟨p, hp, hr⟩ := hr
    obtain ⟨r', hr', rfl⟩ := List.mem_map.mp hr
    have hk' : cnt n (m ||| 2 ^ p) = k := by have := cnt_next hb h hp; omega
    obtain ⟨mid, rfl, h1, h2, h3⟩ := complF_go hb (h.add hp) hk' hr'
    have hp' := hp
    unfold nextL at hp'
    rw [List.mem_filter, Bool.and_eq_true, Bool.and_eq_true] at hp'
    obtain ⟨⟨hpn, hpm⟩, hpb, _⟩ := (mem_nextL h.lt).mp hp
    refine ⟨p :: mid, rfl, by rw [goB, hp'.2.2.1, hp'.2.2.2, h1]; rfl, ?_, fun x => ?_⟩
    · refine List.nodup_cons.mpr ⟨fun z => ?_, h2⟩
      have := (h3 p).mp z
      rw [or_bit, decide_eq_true rfl, Bool.or_true] at this
      cases this.2
    · rw [List.mem_cons, h3 x, or_bit, Bool.or_eq_false_iff, decide_eq_false_iff_not]
      constructor
      · rintro (rfl | ⟨h4, h5, _⟩)
        · exact ⟨hpn, hpm⟩
        · exact ⟨h4, h5⟩
      · rintro ⟨h4, h5⟩
        by_cases e : x = p
        · exact .inl e
        · exact .inr ⟨h4, h5, fun z => e z.symm⟩
theorem compl_ord (hbs : Mk.Bs n bs) (ha : a < n) (hb : b < n) (hab : a ≠ b) {r : List Nat} (h : r ∈ complF bs n b (cnt n (2 ^ a)) (2 ^ a)) : ∃ mid, r = mid ++ [b] ∧ OrdP bs n a b (a :: r) := by
  obtain ⟨mid, rfl, h1, h2, h3⟩ := complF_go hb (betw_start ha hab) rfl h
  have hpm : (a :: (mid ++ [b])).Perm (List.range n) := by
    refine (List.perm_ext_iff_of_nodup (List.nodup_cons.mpr ⟨fun z => ?_, h2⟩) List.nodup_range).mpr fun x => ?_
    · have := (h3 a).mp z
      rw [Nat.testBit_two_pow, decide_eq_true rfl] at this
      cases this.2
    · rw [List.mem_cons, h3 x, List.mem_range, Nat.testBit_two_pow, decide_eq_false_iff_not]
      constructor
      · rintro (rfl | h)
        · exact ha
        · exact h.1
      · intro hx
        by_cases e : x = a
        · exact .inl e
        · exact .inr ⟨hx, fun z => e z.symm⟩
  exact ⟨mid, rfl, (ordP_of hbs hpm).mp h1⟩
theorem no_orders (hbs : Mk.Bs n bs) (ha : a < n) (hb : b < n) (hab : a ≠ b) (h : ∀ os, ¬ OrdP bs n a b os) : wayC bs n b (2 ^ a) = 0 := by
  unfold wayC
  rw [List.length_eq_zero_iff]
  refine List.eq_nil_iff_forall_not_mem.mpr fun r hr => ?_
  obtain ⟨mid, _, h1⟩ := compl_ord hbs ha hb hab hr
  exact h _ h1
/-- the lot told is shut -/
theorem ShutAt.shut {i : Nat} {cut : Option Nat} {m : Nat} (hab : a ≠ b) (hbs : Mk.Bs n bs) (h : ShutAt bs n (Mk.mask [a, b]) i cut m) : shutB bs n a b cut (Mk.bits n m) = true ∧ LotOk n (Mk.bits n m) ∧ cut ∈ cutsL n := by
  obtain ⟨qs, hP, hq⟩ := h.lot
  have hin := List.mem_of_getElem? h.at_
  have hqf := List.mem_filter.mp (List.mem_of_mem_head? hq)
  have hmlt := h.lt
  have hpd := hP.parted
  have h0 : m &&& Mk.mask [a, b] = 0 := of_decide_eq_true hqf.2
  have nohd : ∀ z, z = a ∨ z = b → m.testBit z = false := fun z hz => by
    have := congrArg (fun k => k.testBit z) h0
    simp only [Nat.testBit_and, Nat.zero_testBit] at this
    rw [(mask_two hab z).mpr hz, Bool.and_true] at this
    exact this
  have hsub : ∀ z, m.testBit z = true → (leftM n cut).testBit z = true := fun z hz => (hpd.all z).mpr ⟨m, hqf.1, hz⟩
  have hbit : ∀ z, z ∈ Mk.bits n m ↔ m.testBit z = true := fun z => by
    rw [Mk.mem_bits]
    exact ⟨fun h => h.2, fun h => ⟨Mk.lt_of_bit hmlt h, h⟩⟩
  obtain ⟨x, hx, hone⟩ := hpd.one m hqf.1
  refine ⟨?_, ⟨fun e => ?_, fun p hp => (Mk.mem_bits.mp hp).1, Mk.bits_pair n m⟩, hin⟩
  · unfold shutB
    have e1 : decide (a ∈ Mk.bits n m) = false := decide_eq_false fun z => by rw [hbit, nohd a (.inl rfl)] at z; cases z
    have e2 : decide (b ∈ Mk.bits n m) = false := decide_eq_false fun z => by rw [hbit, nohd b (.inr rfl)] at z; cases z
    have e3 : cutIn cut (Mk.bits n m) = false := by
      cases cut with
      | none => rfl
      | some c =>
        refine decide_eq_false fun z => ?_
        have := (leftM_bit hin c).mp (hsub c ((hbit c).mp z))
        exact this.2 rfl
    rw [e1, e2, e3, Bool.or_false, Bool.or_false, Bool.not_false, Bool.true_and, List.all_eq_true]
    intro p hp
    rw [leadB_iff hbs]
    intro q hq
    by_cases hc : some q = cut
    · exact .inr hc
    · left
      have hqn : q < n := (Mk.adj_lt hbs hq).2.1
      have hql : (leftM n cut).testBit q = true := (leftM_bit hin q).mpr ⟨hqn, hc⟩
      rw [hbit]
      exact pcs_closed hP m hqf.1 p q ((hbit p).mp hp) hql hq
  · rw [← hbit, e] at hx
    cases hx
end
end Wd

set_option Elab.async false
set_option linter.all false
set_option maxRecDepth 100000
set_option maxHeartbeats 4000000
/-! Ex: defs that raise an own error, their calls within a try, by position and all by name. -/
namespace Bx
open PySem PySem.Spec PyProof.Rows L2
theorem FunC.okX {P : Program} {w : World} {K : PySem.W.Frag} {mg : Str → Option Value} {base : Heap} {x qual : Str} {st : Stmt} {f : Addr} {fd : FuncData} {c : Addr} {N ps : List Str} {k : Nat} {sp : Sp} (F : FunC K x qual st f fd c) (S : FnScope N ps (defScope st)) (len : ∀ vs H Q E, sp vs H Q E → vs.length = ps.length)
    (hbody : ∀ (A : Around) (outer : List Env) (s : Shared) (H : Hp) (vs : List V) (Q : VK) (E : XK), Room k (A.deeper (envOfC qual (defScope st) s.heap.objs.size f (.ref c))) → sp vs H Q E →
      ∃ t, PSs (cxOf (L2.CX P w) P w K mg base N qual (defScope st) f (.ref c) A outer s H E) (defBody st) t ∧ t { nx := fun _ H' => Q .non H', rt := Q } (start N vs) H) : FnOk P w K mg base (L2.CX P w) (k + 1) f fd ps sp := by
  obtain ⟨oc, od, kV, doc, pm, an, ct, osl, rfl, lk, hcd⟩ := F.ex
  exact fn_of lk hcd S len fun A outer s H vs Q E hr hsp => hbody A outer s H vs Q E hr hsp
/-- an own error class over ValueError, without an __init__ of its own -/
structure Xc (K : PySem.W.Frag) (mg : Str → Option Value) (x : Str) (C : Addr) : Prop where
  g : mg x = some (.ref C)
  x : PySem.W.excIn K C [.type "ValueError", .type "Exception", .type "BaseException", .type "object"] "ValueError.__new__" = true
  k : PySem.W.keepIn K (.ref C) = true
  b : PySem.W.subIn K (.ref C) (.type "BaseException") = some true
  t : PySem.W.typeIn K (.ref C) = some (.type "type")
/-- raise C('..') -/
theorem ps_raiseC {X : Cx} {W : WX} {x m : Str} {C : Addr} {j : Nat} {p p2 pos pos' : Pos} (hc : X.calm = true) (tk : Takes X W) (q : Xc X.K X.mg x C) (hg : Gl X x) (hdb : (x == ("__debug__" : Str)) = false := by decide) :
    PS X (.Raise (some (.Call (.Name x p) [.Constant (.str m) j p2] [] pos)) none pos') (fun _ σ H => W (.ref C) none σ H) :=
  ps_raise hc tk (pmk_own PySem.F.excBase_ValueError q.x q.g q.k (raises_own q.b q.t) hg hdb)
/-- a callee that may raise -/
structure CalX (P : Program) (w : World) (K : PySem.W.Frag) (mg : Str → Option Value) (base : Heap) (k : Nat) (x : Str) (ps : List Str) (sp : Sp) : Prop where
  ex : ∃ (f : Addr) (fd : FuncData), FnOk P w K mg base (L2.CX P w) k f fd ps sp ∧ mg x = some (.ref f) ∧ PySem.W.keepIn K (.ref f) = true ∧ Binds K fd ps []
structure CalXK (P : Program) (w : World) (K : PySem.W.Frag) (mg : Str → Option Value) (base : Heap) (k : Nat) (x : Str) (ps ks : List Str) (g : {α : Type} → List α → List α → List α) (sp : Sp) : Prop where
  ex : ∃ (f : Addr) (fd : FuncData), FnOk P w K mg base (L2.CX P w) k f fd ps sp ∧ mg x = some (.ref f) ∧ PySem.W.keepIn K (.ref f) = true ∧ KBinds K fd ps ks g g
section
variable {X : Cx} {k : Nat} {x : Str} {ps ks : List Str} {sp : Sp} {p pos : Pos} {e : Expr} {es : List Expr} {t tk' : TA} {W : WX} {g : {α : Type} → List α → List α → List α} {kws : List Keyword}
theorem pe_calS (C : CalX X.prog X.w X.K X.mg X.base k x ps sp) (hr : Room k X.A) (tk : Takes X W) (hg : Gl X x) (ha : PA X (e :: es) t) (hdb : (x == ("__debug__" : Str)) = false := by decide) (he : starEach (e :: es) X.env = (false, eval e X.env) :: starEach es X.env := by rfl) (hpl : (backTo pos (starEach es X.env)).any (·.1) = false := by rfl) :
    PE X (.Call (.Name x p) (e :: es) [] pos) (tCallS sp (WE W) t) := by
  obtain ⟨f, fd, h1, h2, h3, h4⟩ := C.ex
  exact pe_callS h1 hr hg h2 h3 h4 (fun σ => passAt tk σ) ha hdb he hpl
def tCallSK (sp : Sp) (gV : List V → List V → List V) (E : L2.St → XK) (tk : TA) : TE := fun σ H Q => tk σ H fun zs H2 => sp (gV [] zs) H2 Q (E σ)
theorem pe_calSK (C : CalXK X.prog X.w X.K X.mg X.base k x ps ks g sp) (hr : Room k X.A) (tk : Takes X W) (hg : Gl X x) (hkw : PK X kws tk') (hall : (backToKw pos (keywordEach kws X.env)).all (·.1.isSome) = true := by rfl) (hks : (backToKw pos (keywordEach kws X.env)).filterMap (·.1) = ks := by rfl)
    (hdb : (x == ("__debug__" : Str)) = false := by decide)
    (hpl : ((backTo pos (starEach [] X.env)).any (·.1) || (backToKw pos (keywordEach kws X.env)).any (·.1.isNone)) = false := by rfl) : PE X (.Call (.Name x p) [] kws pos) (tCallSK sp g (WE W) tk') := by
  obtain ⟨f, fd, F, hm, hk, hb⟩ := C.ex
  refine ⟨fun pins s σ H Q I h => wpAny_Call_Name_kw (ld_glob I hg hm (PySem.W.callWith_KW0 (h₀ := X.base) I.ok.mod.kin hk hall (thn (hkw.run pos pins s σ H _ I h) fun ws s2 ⟨zs, H2, I2, rz, q2⟩ => ⟨I2.kIn, ?_⟩) hpl) hdb)⟩
  rw [hks]
  have r2 := hb.rel (vs := []) (us := []) .nil rz
  have hl : (g [] ws).length = ps.length := by rw [← r2.length]; exact F.len _ _ _ _ q2
  refine wpAny_call (codeAny_mono (F.run X.A X.stack s2 H2 ⟨[], ks.zip ws⟩ (g [] ws) (g [] zs) Q (WE W σ) hr I2.env0 (hb.to s2 [] ws I2.kIn hl) r2 q2) fun r s' hq => ?_)
  cases r with
  | error e => exact passAt tk σ pins H2 s2 e s' I2 hq
  | ok fl =>
    cases fl with
    | ret u => exact I2.after hq
    | _ => exact False.elim hq
end
end Bx

set_option Elab.async false
set_option linter.all false
set_option maxRecDepth 100000
set_option maxHeartbeats 4000000
/-! Ids: index of a tuple's data; len(set(t)) of a tuple of unlike ints; a dict comprehension over a range. -/
namespace Bx
open PySem PySem.Spec PyProof.Rows L2
section
variable {X : Cx}
/-- t.index(x): the first place of an equal one -/
def rIndexT (K : PySem.W.Frag) : V → List V → Hp → VK → Prop := fun x xs H Q => ∃ (a : Addr) (y : V) (d : PyData) (ds : List PyData) (j : Nat) (z : PyData), x = V.ref a ∧ xs = [y] ∧ Dp K H (V.ref a) (.tuple ds) ∧ Dp K H y d ∧
  SeqAt.shaped (.tuple ds) = true ∧ SeqAt.shaped d = true ∧ ds[j]? = some z ∧ PyData.eqv z d = true ∧ (∀ (m : Nat) (z' : PyData), m < j → ds[m]? = some z' → PyData.eqv z' d = false) ∧ Q (.int (j : Nat)) H
theorem mt_indexT (hu : X.A.units + 65 < cLine) : MtR X "tuple.index" (rIndexT X.K) := by
  intro pins s σ H x xs v us Q I rx rxs h
  obtain ⟨a, y, d, ds, j, z, rfl, rfl, hl, hy, sl, sd, hz, hzj, hno, q⟩ := h
  cases rx
  cases rxs with
  | cons ry rt =>
    rename_i uy ut
    cases rt
    obtain ⟨bs, r1⟩ := Dp.reads I d y uy hy ry
    have hxs : PyData.canLayAll0 ds = true := SeqAt.canLay_of_shaped sl
    have hroom : X.A.units + 1 + min (PyData.depthAll ds) d.depth < cLine := room_in_shaped sd hu
    cases hl with
    | tup hs ha =>
      obtain ⟨its, rv, pl, hlen⟩ := I.tuple hs
      obtain ⟨⟨cls, dd, data, sls⟩, ho, hc, n, hdt⟩ := pl
      simp only at hc hdt
      subst hc
      subst hdt
      obtain ⟨as, h4⟩ := Dp.readsAll I ds _ its ha rv
      have hn : its.length = ds.length := SeqAt.ReadsAll.length ds its as h4
      have hmap : its.map (SeqAt.readOf s.heap) = ds := SeqAt.readsAll_map ds its as hxs h4
      obtain ⟨hjd, _⟩ := List.getElem?_eq_some_iff.mp hz
      have hjl : j < its.length := by omega
      have hj : j < its.toArray.size := by simpa using hjl
      have at_ : ∀ (m : Nat) (hm : m < its.toArray.size) (z' : PyData), ds[m]? = some z' → SeqAt.readOf s.heap its.toArray[m] = z' := by
        intro m hm z' hz'
        have hml : m < its.length := by simpa using hm
        rw [← hmap, List.getElem?_map, List.getElem?_eq_getElem hml] at hz'
        have e1 : SeqAt.readOf s.heap its[m] = z' := Option.some.inj (show some (SeqAt.readOf s.heap its[m]) = some z' from hz')
        simpa using e1
      refine call_meets PySem.F.slot_tuple_index ⟨_, ho, rfl⟩ PySem.F.entry_tuple_index (PySem.F.args_tuple_index_2 _ _)
        (TI.tuple_indexAt a its.toArray n dd sls uy (fun u => PyData.eqv (SeqAt.readOf s.heap u) d) j hj ?_ ?_) ⟨ho, SeqAt.items_eqAt (vs := its.toArray) (show ReadsAll s.heap its.toArray.toList ds as from h4) r1 hxs (SeqAt.canLay_of_shaped sd) hroom, ?_⟩
      · show PyData.eqv (SeqAt.readOf s.heap its.toArray[j]) d = true
        rw [at_ j hj z hz]
        exact hzj
      · intro m hm hmj
        have hmd : m < ds.length := by omega
        have hz' : ds[m]? = some ds[m] := List.getElem?_eq_getElem hmd
        show PyData.eqv (SeqAt.readOf s.heap its.toArray[m]) d = false
        rw [at_ m hm _ hz']
        exact hno m _ hmj hz'
      · exact ⟨.int (j : Nat), H, I.tok _, ⟨_, rfl⟩, q⟩
theorem mt_indexTK {K : PySem.W.Frag} (h : X.K = K) (hu : X.A.units + 65 < cLine) : MtR X "tuple.index" (rIndexT K) := h ▸ mt_indexT hu
/-- len(set(t)), the ints of t unlike -/
def tLenSetT (K : PySem.W.Frag) (ta : TE) : TE := fun σ H Q => ta σ H fun x H1 => ∃ (l : Addr) (ns : List Int), x = V.ref l ∧ SqT K H1 l (ns.map V.int) ∧ ns.length ≤ 1000 ∧ ns.Nodup ∧ Q (.int ns.length) H1
theorem pe_lenSetT {a : Expr} {ta : TE} {p p2 q pos : Pos} (hc : X.calm = true) (hg : Gl X "len") (hm : X.mg "len" = none) (hg2 : Gl X "set") (hm2 : X.mg "set" = none) (ha : PE X a ta)
    (na : starEach [a] X.env = (false, eval a X.env) :: starEach [] X.env := by rfl) : PE X (.Call (.Name "len" p) [.Call (.Name "set" p2) [a] [] q] [] pos) (tLenSetT X.K ta) := by
  refine ⟨fun pins s σ H Q I h => ?_⟩
  refine Call_ (ld_blt I hg hm PySem.boot_len ?_)
  refine PyProof.Rows.callWith_builtin1 (PyProof.Rows.args_cons ?_ rfl) rfl rfl
  refine Call_ (ld_blt I hg2 hm2 PyProof.Rows.boot_set ?_)
  refine PyProof.Rows.callWith_type1 (PyProof.Rows.args_cons (thn (ha.run pins s σ H _ I h) fun v s1 ⟨x, H1, I1, r1, q1⟩ => PyProof.Rows.args_nil ?_) na) na rfl
  obtain ⟨l, ns, rfl, hq, h1, hnd, q1⟩ := q1
  cases r1
  obtain ⟨its, r, pt, hz⟩ := I1.tuple hq
  have hi : IntsAre its.toArray.toList ns := ints_of_vals r
  refine call_set_tupI ns (I1.ok.hd hc) (show s1.heap.IsTuple l its.toArray from pt) hi (by unfold scanBound; omega) fun h' tk c R1 hcn k => ?_
  refine PyProof.Rows.args_nil ?_
  obtain ⟨o, es, ep, t, ho, hex, hdt, g, nd, hmm, hb, hf, hn, hr, hl2⟩ := R1
  have I2 : Inv X pins σ H1 { s1 with heap := h', toks := tk } := I1.kept fun b o e => k b o e
  have hsz : es.size = ns.length := by
    have hp := (List.perm_ext_iff_of_nodup nd hnd).mpr fun j => by rw [← hmm j, decide_eq_true_eq]
    have := hp.length_eq
    rw [List.length_map, Array.length_toList] at this
    exact this
  refine call_len_set ho hex hdt hf (by omega) ⟨.int ns.length, H1, I2.tok _, ⟨_, by rw [hsz]⟩, q1⟩
end
theorem dc_range {lo : Int} {n : Nat} {g : TG} {tt : TT} {tk tv : TE} {vs : List Nat} {σ : L2.St} {H1 : Hp} {D : Addr} {Qd : Hp → Prop} (Pv : Nat → Hp → Prop) (h0 : Pv 0 (upd H1 D (.dK [])))
    (hs : ∀ i H, i < n → Pv i H → g (.int (lo + i)) (wipe σ vs) H fun σ2 H2 => wipe σ2 vs = wipe σ vs ∧ tt σ2 H2 fun b H3 =>
      if b = true then tk σ2 H3 fun y H4 => tv σ2 H4 fun z H5 => ∃ kvs k, y = kV k ∧ H5 D = some (.dK kvs) ∧ kvs.length < sizeLine ∧ Pv (i + 1) (upd H5 D (.dK (putK kvs k z))) else Pv (i + 1) H3) (hd : ∀ H, Pv n H → Qd H) :
    ∃ W : Nat → Nat → Hp → Prop, (∃ m, W 0 m (upd H1 D (.dK []))) ∧ ∀ i m H, W i m H →
      ((Itr lo n).stop i H ∧ Qd H) ∨ ((Itr lo n).go i H ∧ ∃ Nx : Hp → Prop, (∀ H', Nx H' → ∃ m', m' < m ∧ W (i + 1) m' H') ∧ ∀ x H', (Itr lo n).yld i H x H' → g x (wipe σ vs) H' fun σ2 H2 => wipe σ2 vs = wipe σ vs ∧ tt σ2 H2 fun b H3 =>
        if b = true then tk σ2 H3 fun y H4 => tv σ2 H4 fun z H5 => ∃ kvs k, y = kV k ∧ H5 D = some (.dK kvs) ∧ kvs.length < sizeLine ∧ Nx (upd H5 D (.dK (putK kvs k z))) else Nx H3) := by
  refine ⟨fun i m H => m = n - i ∧ i ≤ n ∧ Pv i H, ⟨n, by simp, Nat.zero_le _, h0⟩, ?_⟩
  rintro i m H ⟨rfl, hi, p⟩
  by_cases hlt : i < n
  · refine .inr ⟨hlt, Pv (i + 1), fun H' p' => ⟨n - (i + 1), by omega, rfl, hlt, p'⟩, fun x H' y => ?_⟩
    obtain ⟨e, y⟩ := y
    subst e y
    exact hs i _ hlt p
  · have e : i = n := by omega
    subst e
    exact .inl ⟨Nat.le_refl _, hd H p⟩
end Bx

set_option Elab.async false
set_option linter.all false
set_option maxRecDepth 100000
set_option maxHeartbeats 4000000
/-! Ls: len(set(t)) of any ints: as many as t has, exactly if they are unlike. -/
namespace Bx
open PySem PySem.Spec PyProof.Rows L2
theorem perm_of {α : Type} [DecidableEq α] : ∀ {l m : List α}, l.Nodup → (∀ x ∈ l, x ∈ m) → l.length = m.length → l.Perm m
  | [], m, _, _, h => by
    have : m = [] := List.length_eq_zero_iff.mp h.symm
    rw [this]
  | x :: l, m, hn, hs, h => by
    obtain ⟨u, v, rfl⟩ := List.append_of_mem (hs x List.mem_cons_self)
    rw [List.nodup_cons] at hn
    have ih := perm_of (l := l) (m := u ++ v) hn.2 (fun y hy => by
      have := hs y (List.mem_cons_of_mem _ hy)
      rw [List.mem_append, List.mem_cons] at this
      rw [List.mem_append]
      rcases this with z | z | z
      · exact .inl z
      · exact absurd (z ▸ hy) hn.1
      · exact .inr z) (by rw [List.length_append, List.length_cons, List.length_cons] at h; rw [List.length_append]; omega)
    exact (ih.cons x).trans List.perm_middle.symm
section
variable {X : Cx}
def tLenSetA (K : PySem.W.Frag) (ta : TE) : TE := fun σ H Q => ta σ H fun x H1 => ∃ (l : Addr) (ns : List Int), x = V.ref l ∧ SqT K H1 l (ns.map V.int) ∧ ns.length ≤ 1000 ∧ ∀ c : Nat, (c = ns.length ↔ ns.Nodup) → Q (.int c) H1
theorem pe_lenSetA {a : Expr} {ta : TE} {p p2 q pos : Pos} (hc : X.calm = true) (hg : Gl X "len") (hm : X.mg "len" = none) (hg2 : Gl X "set") (hm2 : X.mg "set" = none) (ha : PE X a ta)
    (na : starEach [a] X.env = (false, eval a X.env) :: starEach [] X.env := by rfl) : PE X (.Call (.Name "len" p) [.Call (.Name "set" p2) [a] [] q] [] pos) (tLenSetA X.K ta) := by
  refine ⟨fun pins s σ H Q I h => ?_⟩
  refine Call_ (ld_blt I hg hm PySem.boot_len ?_)
  refine PyProof.Rows.callWith_builtin1 (PyProof.Rows.args_cons ?_ rfl) rfl rfl
  refine Call_ (ld_blt I hg2 hm2 PyProof.Rows.boot_set ?_)
  refine PyProof.Rows.callWith_type1 (PyProof.Rows.args_cons (thn (ha.run pins s σ H _ I h) fun v s1 ⟨x, H1, I1, r1, q1⟩ => PyProof.Rows.args_nil ?_) na) na rfl
  obtain ⟨l, ns, rfl, hq, h1, q1⟩ := q1
  cases r1
  obtain ⟨its, r, pt, hz⟩ := I1.tuple hq
  have hi : IntsAre its.toArray.toList ns := ints_of_vals r
  refine call_set_tupI ns (I1.ok.hd hc) (show s1.heap.IsTuple l its.toArray from pt) hi (by unfold scanBound; omega) fun h' tk c R1 hcn k => ?_
  refine PyProof.Rows.args_nil ?_
  obtain ⟨o, es, ep, t, ho, hex, hdt, g, nd, hmm, hb, hf, hn, hr, hl2⟩ := R1
  have I2 : Inv X pins σ H1 { s1 with heap := h', toks := tk } := I1.kept fun b o e => k b o e
  have hsz : es.size = ns.length ↔ ns.Nodup := by
    have hle : (es.toList.map (·.1)).length = es.size := by rw [List.length_map, Array.length_toList]
    constructor
    · intro e
      have hp := perm_of nd (m := ns) (fun j hj => by
        have := (hmm j).mpr hj
        rwa [decide_eq_true_eq] at this) (by rw [List.length_map, Array.length_toList]; exact e)
      exact hp.nodup_iff.mp nd
    · intro hnd
      have hp := (List.perm_ext_iff_of_nodup nd hnd).mpr fun j => by rw [← hmm j, decide_eq_true_eq]
      have := hp.length_eq
      rw [List.length_map, Array.length_toList] at this
      exact this
  refine call_len_set ho hex hdt hf (by omega) ⟨.int es.size, H1, I2.tok _, ⟨_, rfl⟩, q1 es.size hsz⟩
end
end Bx

set_option Elab.async false
set_option linter.all false
set_option maxRecDepth 100000
set_option maxHeartbeats 4000000
namespace Wd
open PySem PySem.Spec PyProof.Rows L2 Bx Gx











































section
variable {P : Program} {w : World} {K : PySem.W.Frag} {mg : Str → Option Value} {base : Heap}
/-! ### is_sequence of any value -/
def IsSeqD (n : Nat) (d : PyData) : Prop := ∃ os : List Nat, d = lotD os ∧ os.Perm (List.range n)
theorem places_of : ∀ {n : Nat} {ds : List PyData}, ds.all (isIntD 0 ((n : Int) - 1)) = true → ∃ os : List Nat, ds = os.map (fun (p : Nat) => PyData.int (p : Int)) ∧ ∀ p ∈ os, p < n
  | n, [], _ => ⟨[], rfl, fun p hp => nomatch hp⟩
  | n, d :: ds, h => by
    rw [List.all_cons, Bool.and_eq_true] at h
    obtain ⟨os, rfl, h2⟩ := places_of (n := n) h.2
    have h1 := h.1
    match d, h1 with
    | .int i, h1 =>
      have h1 : 0 ≤ i ∧ i ≤ (n : Int) - 1 := of_decide_eq_true h1
      refine ⟨i.toNat :: os, ?_, fun p hp => ?_⟩
      · rw [List.map_cons]
        congr 2
        omega
      · rcases List.mem_cons.mp hp with rfl | hp
        · omega
        · exact h2 p hp
theorem lot_all {n : Nat} {os : List Nat} (h : os.Perm (List.range n)) : (os.map fun (p : Nat) => PyData.int (p : Int)).all (isIntD 0 ((n : Int) - 1)) = true := by
  rw [List.all_eq_true]
  intro d hd
  obtain ⟨p, hp, rfl⟩ := List.mem_map.mp hd
  have := List.mem_range.mp (h.mem_iff.mp hp)
  exact decide_eq_true (by omega)
theorem tupX_dp {H : Hp} {v : V} {d : PyData} (h : Dp K H v d) : (∃ ds a xs, d = .tuple ds ∧ v = .ref a ∧ SqT K H a xs ∧ DpAll K H xs ds) ∨ (∃ T, T ∈ tyNames ∧ TyB K H v T ∧ T ≠ "tuple" ∧ ∀ ds, d ≠ .tuple ds) := by
  cases h with
  | non => exact .inr ⟨"NoneType", by decide, .non, by decide, fun _ z => nomatch z⟩
  | bl b => exact .inr ⟨"bool", by decide, .bl b, by decide, fun _ z => nomatch z⟩
  | int i => exact .inr ⟨"int", by decide, .int i, by decide, fun _ z => nomatch z⟩
  | str x => exact .inr ⟨"str", by decide, .str x, by decide, fun _ z => nomatch z⟩
  | lst h _ => exact .inr ⟨"list", by decide, .lst h, by decide, fun _ z => nomatch z⟩
  | tup h hs => exact .inl ⟨_, _, _, rfl, rfl, h, hs⟩
def spIsSeqA (K : PySem.W.Frag) (T1 : Addr) : Sp := fun vs H Q _ => ∃ (l v : V) (fs : List Int) (bd d : PyData), vs = [l, v] ∧ Dp K H l (.tuple [.tuple (fs.map .int), bd]) ∧ fs.length ≤ 12 ∧ Dp K H v d ∧ TabG H T1 ∧ ∀ r H', Ext H H' → (r = true ↔ IsSeqD fs.length d) → Q (.bl r) H'
theorem sc_is_sequenceA : FnScope ["land", "value"] ["land", "value"] (defScope st_is_sequence) := ⟨rfl, rfl, rfl, by decide +kernel, rfl, by decide +kernel, by decide +kernel⟩
theorem ok_is_sequenceA {f c T1 : Addr} {fd : FuncData} (F : FunC K "is_sequence" "is_sequence" st_is_sequence f fd c) (TB : TabB base mg c T1) (B : Bl mg) (c1 : Cal P w K mg base 2 "is_place" ["land", "value"] (spIsPlace K)) : FnOk P w K mg base CX0 6 f fd ["land", "value"] (spIsSeqA K T1) := by
  refine F.ok sc_is_sequenceA (fun vs H Q E h => ?_) (fun A outer s H vs Q E hr h => ?_)
  · obtain ⟨l, v, fs, bd, d, rfl, _⟩ := h
    rfl
  · obtain ⟨l, v, fs, bd, d, rfl, hl, hn, hd, hT1, k⟩ := h
    refine ⟨_, pss_cons (ps_if (PW.pt (pw_or (pt_cmpR op_neTy (pe_callTy call_type1 rfl B.type (by decide +kernel) (pa_cons (pv 1) pa_nil)) (pe_bltn rfl B.tuple (by decide +kernel) (v := .ty "tuple") rfl) (nomark _))
        (pw_or1 (pt_cmpR op_ne (pe_callB call_len (by rfl) B.len PySem.boot_len (pa_cons (pv 1) pa_nil)) (pe_callB call_len (by rfl) B.len PySem.boot_len (pa_cons (pe_ix ix_tup (pv 0) pe_int (fun _ _ => rfl)) pa_nil)) (nomark _))))) (pss_one (ps_ret pe_bl)) pss_nil)
      (pss_one (ps_ret (pe_and (pe_gall (k := 3) (N := ["place", "land"]) (src := [none, some 0]) (vs := [0])
        ⟨fun B s H fp code hB => pg_name (i := 0) (by decide +kernel : (["place", "land"] : List Str).Nodup) rfl (Or.inl rfl), fun B s H fp code hB => pts_nil, fun B s H fp code hB => pe_cal c1 (hB.deeper _) rfl (pa_cons (pv 1) (pa_cons (pv 0) pa_nil))⟩
        hr rfl B.all TB rfl (gOk (ND := ["land", "value"]) (sc := defScope st_is_sequence) (by decide +kernel)) (pi_tup (pv 1)))
        (pe_one (pe_cmpR op_eq (pe_lenSetA (by rfl) (by rfl) B.len (by rfl) B.set (pv 1)) (pe_callB call_len (by rfl) B.len PySem.boot_len (pa_cons (pv 1) pa_nil)) (nomark _)))))), ?_⟩
    obtain ⟨al, xl, rfl, h2, h3⟩ := dp_tup hl
    cases h3 with
    | cons hf h4 =>
    obtain ⟨af, rfl, h5⟩ := dp_ints hf
    rcases tupX_dp hd with ⟨ds, t, zs, rfl, rfl, h1, hz⟩ | ⟨T, hT, ht, hne, hno⟩
    · refine ⟨_, rfl, _, "tuple", rfl, .tup h1, "tuple", "tuple", rfl, rfl, by decide, by decide, false, rfl, ?_⟩
      have hzl := dpAll_len hz
      have bad : ∀ H', Ext H H' → ¬ IsSeqD fs.length (.tuple ds) → Q (.bl false) H' := fun H' x hs => k false H' x ⟨(fun z => nomatch z), fun z => absurd z hs⟩
      refine iteF ⟨_, rfl, _, ds.length, rfl, .inr ⟨_, h1, hzl.symm⟩, _, rfl, al, _, _, _, rfl, rfl, h2, atI_nat (j := 0) rfl, _, fs.length, rfl, .inr ⟨_, h5, by simp⟩, rfl, _, rfl, ?_⟩
      show if (!decide (V.int (ds.length : Int) = V.int (fs.length : Int))) = true then _ else _
      by_cases hlen : ds.length = fs.length
      · rw [show (!decide (V.int (ds.length : Int) = V.int (fs.length : Int))) = false by rw [hlen]; simp]
        refine iteF ?_
        refine ⟨_, rfl, t, rfl, ⟨_, h1⟩, hT1, fun H2 hT => ?_⟩
        have x2 : Ext H H2 := Ext.tabbed hT1 hT
        have hg : ∀ i, i < zs.length → Dp K H (zs.getD i .non) (ds.getD i .none) := fun i hi => by
          obtain ⟨d, g1, g2⟩ := dpAll_get' hz (List.getElem?_eq_getElem hi)
          rw [List.getD_eq_getElem?_getD, List.getElem?_eq_getElem hi, List.getD_eq_getElem?_getD, g1]
          exact g2
        refine g_all (Ph := fun H4 => H4 = H2) (src_tup fun H4 e => by rw [e]; exact x2.sqT h1) (fun i => isIntD 0 ((fs.length : Int) - 1) (ds.getD i .none)) rfl (fun i H C hp hi k2 => ?_) (fun H4 hp ea => ?_) fun H4 hp ea => ?_
        · subst hp
          refine ⟨rfl, _, rfl, _, rfl, _, _, fs, bd, ds.getD i .none, rfl, dp_ext x2 hl, by omega, dp_ext x2 (hg i hi), ?_⟩
          exact k2 H rfl
        · subst hp
          have hall : ds.all (isIntD 0 ((fs.length : Int) - 1)) = true := by
            rw [List.all_eq_true]
            intro d hd'
            obtain ⟨i, hi, rfl⟩ := List.getElem_of_mem hd'
            rw [List.all_eq_true] at ea
            have := ea i (List.mem_range.mpr (by omega))
            rw [List.getD_eq_getElem?_getD, List.getElem?_eq_getElem hi] at this
            exact this
          obtain ⟨os, rfl, hlt⟩ := places_of hall
          obtain ⟨t', et, ht'⟩ := dp_lot hd
          injection et with et
          subst et
          rw [List.length_map] at hlen
          refine ⟨_, rfl, iteT ⟨_, rfl, t, os.map fun (p : Nat) => (p : Int), rfl, ?_, by rw [List.length_map]; omega, fun c hc => ⟨_, rfl, _, os.length, rfl, .inr ⟨_, x2.sqT ht', by simp⟩, ?_⟩⟩⟩
          · rw [List.map_map]
            exact x2.sqT ht'
          · rw [List.length_map] at hc
            refine ⟨rfl, k _ H4 x2 ?_⟩
            rw [decide_eq_true_eq]
            have e1 : (V.int (c : Int) = V.int (os.length : Int)) ↔ c = os.length := ⟨fun z => by injection z with z; exact Int.ofNat.inj z, fun z => by rw [z]⟩
            rw [e1, hc]
            have e2 : (os.map fun (p : Nat) => (p : Int)).Nodup ↔ os.Nodup := by
              rw [List.nodup_iff_pairwise_ne, List.nodup_iff_pairwise_ne, List.pairwise_map]
              exact ⟨fun h => h.imp fun z e => z (by omega), fun h => h.imp fun z e => z (by omega)⟩
            rw [e2]
            constructor
            · intro hnd
              exact ⟨os, rfl, perm_of hnd (fun p hp => List.mem_range.mpr (hlt p hp)) (by rw [List.length_range]; exact hlen)⟩
            · rintro ⟨os', e, hp⟩
              have : os = os' := by
                unfold lotD at e
                injection e with e
                exact (List.map_inj_right fun a b e => by injection e with e; omega).mp e
              rw [this]
              exact hp.nodup_iff.mpr List.nodup_range
        · subst hp
          refine ⟨_, rfl, iteF (bad H4 x2 fun ⟨os, e, hp⟩ => ?_)⟩
          have e' : ds = os.map fun (p : Nat) => PyData.int (p : Int) := by
            unfold lotD at e
            injection e
          have hall := lot_all hp
          rw [← e'] at hall
          have : ((List.range zs.length).all fun i => isIntD 0 ((fs.length : Int) - 1) (ds.getD i .none)) = true := by
            rw [List.all_eq_true]
            intro i hi
            have hi := List.mem_range.mp hi
            rw [List.all_eq_true] at hall
            rw [List.getD_eq_getElem?_getD, List.getElem?_eq_getElem (by omega)]
            exact hall _ (List.getElem_mem _)
          rw [this] at ea
          cases ea
      · rw [show (!decide (V.int (ds.length : Int) = V.int (fs.length : Int))) = true by
          rw [decide_eq_false]
          · rfl
          · intro z
            injection z with z
            exact hlen (by omega)]
        refine iteT (bad H (.refl H) fun ⟨os, e, hp⟩ => hlen ?_)
        unfold lotD at e
        injection e with e
        rw [e, List.length_map, hp.length_eq, List.length_range]
    · refine ⟨_, rfl, _, T, rfl, ht, T, "tuple", rfl, rfl, hT, by decide, true, ?_, ?_⟩
      · rw [decide_eq_false hne]
        rfl
      · exact iteT (iteT (k false H (.refl H) ⟨(fun z => nomatch z), fun ⟨os, e, _⟩ => absurd e (hno _)⟩))
end
end Wd

set_option Elab.async false
set_option linter.all false
set_option maxRecDepth 100000
set_option maxHeartbeats 4000000
namespace Wd
open PySem PySem.Spec PyProof.Rows L2 Bx Gx











































section
variable {P : Program} {w : World} {K : PySem.W.Frag} {mg : Str → Option Value} {base : Heap}
/-! ### is_order_between of any value -/
theorem cut_mid (x y : V) (mid : List V) : L2.cutV (x :: (mid ++ [y])) (some 1) (some (-1)) = mid := by
  unfold L2.cutV
  have hl : (x :: (mid ++ [y])).length = mid.length + 2 := by simp
  have e1 : HT.sIx (x :: (mid ++ [y])).length 0 (some 1) = 1 := by
    rw [hl]
    exact (HT.sIx_nat _ _ 1).trans (by omega)
  have e2 : HT.sIx (x :: (mid ++ [y])).length (x :: (mid ++ [y])).length (some (-1)) = mid.length + 1 := by
    rw [hl]
    simp only [HT.sIx]
    rw [if_pos (by decide)]
    omega
  rw [e1, e2, List.drop_succ_cons, List.drop_zero, Nat.add_sub_cancel, List.take_left' rfl]
theorem rest_step {n m p : Nat} (hp : p < n) (hm : m < 2 ^ n) (h : m.testBit p = false) : rest n m ^^^ 2 ^ p = rest n (m ||| 2 ^ p) := by
  have h2 : m ||| 2 ^ p < 2 ^ n := Nat.or_lt_two_pow hm (Nat.pow_lt_pow_right (by decide) hp)
  refine Mk.eq_of_bits fun q => ?_
  by_cases hq : q < n
  · rw [Nat.testBit_xor, bit_rest hq, bit_rest hq, or_bit, Nat.testBit_two_pow]
    by_cases e : p = q
    · subst e
      rw [h, decide_eq_true rfl]
      rfl
    · rw [decide_eq_false e, Bool.or_false]
      simp
  · have g1 : ∀ k, k < 2 ^ n → k.testBit q = false := fun k hk => Nat.testBit_lt_two_pow (Nat.lt_of_lt_of_le hk (Nat.pow_le_pow_right (by decide) (by omega)))
    rw [g1 _ (Nat.xor_lt_two_pow (rest_lt hm) (Nat.pow_lt_pow_right (by decide) hp)), g1 _ (rest_lt h2)]
def IsOrdD (bs : List (Nat × Nat)) (n a b : Nat) (d : PyData) : Prop := ∃ mid : List Nat, d = lotD (a :: (mid ++ [b])) ∧ OrdP bs n a b (a :: (mid ++ [b]))
def spOrdBtA (K : PySem.W.Frag) (T1 : Addr) : Sp := fun vs H Q _ => ∃ (l v : V) (fs : List Int) (bs : List (Nat × Nat)) (a b : Nat) (d : PyData), vs = [l, .int (a : Int), .int (b : Int), v] ∧ Dp K H l (landD fs bs) ∧ LandOk fs bs ∧ Dp K H v d ∧ TabG H T1 ∧
  ∀ r H', Ext H H' → (r = true ↔ IsOrdD bs fs.length a b d) → Q (.bl r) H'
abbrev obN : List Str := ["land", "head", "other_head", "value", "links", "ahead", "behind", "place"]
theorem sc_ordBt : FnScope obN ["land", "head", "other_head", "value"] (defScope st_is_order_between) := ⟨rfl, rfl, rfl, by decide +kernel, rfl, by decide +kernel, by decide +kernel⟩
theorem ok_ordBtA {f T1 : Addr} {fd : FuncData} (F : Fun K "is_order_between" "is_order_between" st_is_order_between f fd) (c1 : Cal P w K mg base 6 "is_sequence" ["land", "value"] (spIsSeqA K T1)) (c2 : Cal P w K mg base 1 "links_of" ["land"] (spLinksOf K)) (c3 : Cal P w K mg base 1 "whole_mask" ["land"] (spWhole K)) (c4 : Cal P w K mg base 1 "has_both_ways" ["link", "ahead", "behind"] spBoth) : FnOk P w K mg base CX0 7 f fd ["land", "head", "other_head", "value"] (spOrdBtA K T1) := by
  refine F.ok sc_ordBt (fun vs H Q E h => ?_) (fun cdv A outer s H vs Q E hr h => ?_)
  · obtain ⟨l, v, fs, bs, a, b, d, rfl, _⟩ := h
    rfl
  · obtain ⟨l, v, fs, bs, a, b, d, rfl, hd, ok, hv, hT, k0⟩ := h
    have nd := sc_ordBt.nd
    have hr1 := hr.mono (j := 1) (by decide)
    refine ⟨_, pss_cons (ps_if (PW.pt (pw_or (pt_not (pt_val (pe_cal c1 hr rfl (pa_cons (pv 0) (pa_cons (pv 3) pa_nil))) (by intro _; rfl))) (pw_or (pt_cmpR op_ne (pe_ix ix_tup (pv 3) pe_int (fun _ _ => rfl)) (pv 1) (nomark _)) (pw_or1 (pt_cmpR op_ne (pe_ix ix_tup (pv 3) (pe_un un_neg pe_int) (fun _ _ => rfl)) (pv 2) (nomark _)))))) (pss_one (ps_ret pe_bl)) pss_nil)
      (pss_cons (ps_set (i := 4) nd rfl (Or.inl rfl) (pe_cal c2 hr1 rfl (pa_cons (pv 0) pa_nil)))
      (pss_cons (ps_set (i := 5) nd rfl (Or.inl rfl) (pe_op op_shl pe_int (pv 1)))
      (pss_cons (ps_set (i := 6) nd rfl (Or.inl rfl) (pe_op op_xor (pe_cal c3 hr1 rfl (pa_cons (pv 0) pa_nil)) (pv 5)))
      (pss_cons (ps_for PassesOwn.never rfl (pi_tup (pe_slice sl_tupA (pv 3) (po_some pe_int) (po_some (pe_un un_neg pe_int)))) (pg_name (i := 7) nd rfl (Or.inl rfl))
        (pss_cons (ps_if (pt_not (pt_val (pe_cal c4 hr1 rfl (pa_cons (pe_ix ix_list (pv 4) (pv 7) (fun _ _ => rfl)) (pa_cons (pv 5) (pa_cons (pv 6) pa_nil)))) (by intro _; rfl))) (pss_one (ps_ret pe_bl)) pss_nil)
        (pss_cons (ps_aug (i := 5) nd rfl (Or.inl rfl) (pe_op op_shl pe_int (pv 7)) iop_or)
        (pss_one (ps_aug (i := 6) nd rfl (Or.inl rfl) (pe_op op_shl pe_int (pv 7)) iop_xor)))))
      (pss_one (ps_ret pe_bl)))))), ?_⟩
    have hn := ok.most
    have hfew := ok.few
    refine ⟨_, rfl, _, rfl, l, v, fs, bordD bs, d, rfl, hd, hn, hv, hT, fun r0 H1 x1 hr0 => ⟨r0, rfl, ?_⟩⟩
    have bad : ¬ IsOrdD bs fs.length a b d → ∀ H', Ext H H' → Q (.bl false) H' := fun hno H' x => k0 false H' x ⟨(fun z => nomatch z), fun z => absurd z hno⟩
    cases r0 with
    | false => exact iteT (iteT (bad (fun ⟨ms, e, ho⟩ => nomatch hr0.mpr ⟨_, e, ho.pm⟩) H1 x1))
    | true =>
    refine iteF ?_
    obtain ⟨os, rfl, hpm0⟩ := hr0.mp rfl
    have hol : os.length = fs.length := by rw [hpm0.length_eq, List.length_range]
    obtain ⟨x0, mid, y0, rfl⟩ : ∃ x0 mid y0, os = x0 :: (mid ++ [y0]) := by
      match os, hol with
      | [], e => simp at e; omega
      | [_], e => simp at e; omega
      | x0 :: x1 :: tl, _ => exact ⟨x0, (x1 :: tl).dropLast, (x1 :: tl).getLast (by simp), by rw [List.dropLast_concat_getLast]⟩
    obtain ⟨av, rfl, hav⟩ := dp_lot hv
    have ev : (x0 :: (mid ++ [y0])).map (fun (p : Nat) => V.int (p : Int)) = V.int (x0 : Int) :: (vsN mid ++ [V.int (y0 : Int)]) := by
      rw [List.map_cons, List.map_append]
      rfl
    rw [ev] at hav
    have hav1 := x1.sqT hav
    have lotJ : ∀ {u w : List Nat}, lotD u = lotD w → u = w := fun {u w} e => by
      unfold lotD at e
      injection e with e
      exact (List.map_inj_right fun a b e => by injection e with e; omega).mp e
    have ijn : ∀ {u w : Nat}, (V.int (u : Int) = V.int (w : Int)) ↔ u = w := fun {u w} => ⟨fun z => by injection z with z; exact Int.ofNat.inj z, fun z => by rw [z]⟩
    refine ⟨_, rfl, av, _, _, _, rfl, rfl, hav1, atI_nat (j := 0) rfl, _, rfl, rfl, _, rfl, ?_⟩
    by_cases ex : ¬ x0 = a
    · rw [decide_eq_false (fun z => ex (ijn.mp z))]
      refine iteT (iteT (bad (fun ⟨ms, e, ho⟩ => ex ?_) H1 x1))
      have := lotJ e
      injection this
    have ex := Classical.not_not.mp ex
    subst ex
    rw [decide_eq_true rfl]
    refine iteF ⟨_, rfl, _, rfl, av, _, _, _, rfl, rfl, hav1, atI_last (V.int (x0 : Int) :: vsN mid) _, _, rfl, rfl, _, rfl, ?_⟩
    by_cases ey : ¬ y0 = b
    · rw [decide_eq_false (fun z => ey (ijn.mp z))]
      refine iteT (bad (fun ⟨ms, e, ho⟩ => ey ?_) H1 x1)
      have h1 := lotJ e
      injection h1 with _ h1
      have h2 := List.append_inj_right' h1 rfl
      injection h2
    have ey := Classical.not_not.mp ey
    subst ey
    rw [decide_eq_true rfl]
    refine iteF ?_
    have k : ∀ H', Ext H H' → Q (.bl (goB bs fs.length (2 ^ x0) mid)) H' := fun H' x => k0 _ H' x (by
      rw [ordP_of ok.bord hpm0]
      constructor
      · exact fun h => ⟨mid, rfl, h⟩
      · rintro ⟨ms, e, ho⟩
        have h1 := lotJ e
        rw [h1]
        exact ho)
    have hpm := hpm0
    have mem : ∀ {p : Nat}, p ∈ x0 :: (mid ++ [y0]) ↔ p < fs.length := by intro p; rw [hpm.mem_iff, List.mem_range]
    have ndp : (x0 :: (mid ++ [y0])).Nodup := hpm.nodup_iff.mpr List.nodup_range
    have ha : x0 < fs.length := mem.mp List.mem_cons_self
    have hlen : mid.length + 2 = fs.length := by
      rw [← hol]
      simp
    have hd1 := dp_ext x1 hd
    refine ⟨_, rfl, l, fs, bs, rfl, hd1, hn, ok.bord, fun lq H2 lk x2 hlq0 hlq L => ?_⟩
    dsimp only [gName, tSeq, List.set]
    refine ⟨_, rfl, _, _, rfl, rfl, ⟨by omega, by omega, by decide⟩, ?_⟩
    dsimp only [gName, tSeq, List.set]
    rw [shl_pp]
    refine ⟨_, rfl, l, fs, bordD bs, rfl, dp_ext x2 hd1, hn, _, rfl, _, _, rfl, rfl, ?_⟩
    dsimp only [gName, tSeq, List.set]
    rw [xor_pp]
    have e0 : (2 ^ fs.length - 1) ^^^ 2 ^ x0 = rest fs.length (2 ^ x0) := rfl
    rw [e0]
    have hav2 := x2.sqT hav1
    refine ⟨_, rfl, _, rfl, _, rfl, _, rfl, av, _, rfl, hav2, fun z => absurd z.1 ?_, fun _ p hp => ?_⟩
    · intro e
      have := (HT.sIx_nat _ 0 1).symm.trans e
      rw [List.length_cons] at this
      omega
    rw [cut_mid]
    have x3 : Ext H2 (upd H2 p (.tup (vsN mid))) := .new hp
    have h3 : (upd H2 p (.tup (vsN mid))) p = some (.tup (vsN mid)) := upd_same
    generalize upd H2 p (.tup (vsN mid)) = H3 at x3 h3
    have hlq3 := x3.lst hlq
    refine ⟨p, rfl, ⟨_, SqT.of h3⟩, for_tup (K := K) (a := p) (xs := vsN mid) (fun i σ H4 => ∃ (m : Nat) (o7 : Option V), σ = [some l, some (.int (x0 : Int)), some (.int (y0 : Int)), some (.ref av), some (.ref lq), some (.int (m : Int)), some (.int (rest fs.length m : Int)), o7] ∧ H4 = H3 ∧ m < 2 ^ fs.length ∧ (∀ q, m.testBit q = true ↔ q ∈ x0 :: mid.take i) ∧ goB bs fs.length (2 ^ x0) mid = goB bs fs.length m (mid.drop i))
      ⟨_, _, rfl, rfl, Nat.pow_lt_pow_right (by decide) ha, fun q => by rw [Nat.testBit_two_pow, decide_eq_true_eq, List.take_zero, List.mem_singleton]; exact ⟨Eq.symm, Eq.symm⟩, rfl⟩ (fun i σ H4 _ ⟨_, _, _, e, _⟩ => by rw [e]; exact SqT.of h3) ?_ ?_⟩
    · rintro i y σ H4 hy ⟨m, o7, rfl, rfl, hm, hbit, hgo⟩
      have hil : i < mid.length := by
        have := (List.getElem?_eq_some_iff.mp hy).1
        rwa [List.length_map] at this
      rw [List.getElem?_map, List.getElem?_eq_getElem hil] at hy
      obtain rfl := (Option.some.inj hy).symm
      have ed : mid.drop i = mid[i] :: mid.drop (i + 1) := List.drop_eq_getElem_cons hil
      have et : mid.take (i + 1) = mid.take i ++ [mid[i]] := by rw [List.take_add_one, List.getElem?_eq_getElem hil]; rfl
      have hz : mid[i] < fs.length := mem.mp (List.mem_cons_of_mem _ (List.mem_append_left _ (List.getElem_mem hil)))
      have hnew : m.testBit mid[i] = false := by
        cases z : m.testBit mid[i] with
        | false => rfl
        | true =>
          have h1 := (hbit _).mp z
          have e5 : x0 :: (mid ++ [y0]) = (x0 :: mid.take i) ++ (mid[i] :: (mid.drop (i + 1) ++ [y0])) := by
            show x0 :: (mid ++ [y0]) = x0 :: (mid.take i ++ ((mid[i] :: mid.drop (i + 1)) ++ [y0]))
            rw [← ed, ← List.append_assoc, List.take_append_drop]
          rw [e5, List.nodup_append] at ndp
          exact absurd rfl (ndp.2.2 _ h1 _ List.mem_cons_self)
      rw [ed] at hgo
      rw [et]
      generalize mid[i] = z at hz hnew hgo
      dsimp only [gName, tSeq, List.set]
      have g1 : (vsN lk)[z]? = some (V.int ((lk.getD z 0 : Nat) : Int)) := vsN_get (by rw [L.len]; exact hz)
      refine ⟨_, rfl, _, rfl, lq, _, z, _, rfl, rfl, SqL.of hlq3, atI_nat g1, _, rfl, _, rfl, lk.getD z 0, m, rest fs.length m, rfl, _, rfl, ?_⟩
      rw [near_lk L hz hm, near_lk L hz (rest_lt hm)]
      have hgo2 : goB bs fs.length (2 ^ x0) mid = (nearB bs fs.length m z && nearB bs fs.length (rest fs.length m) z && goB bs fs.length (m ||| 2 ^ z) (mid.drop (i + 1))) := by
        rw [hgo, goB, Bool.and_assoc]
      cases hq : (nearB bs fs.length m z && nearB bs fs.length (rest fs.length m) z) with
      | false =>
        rw [hq, Bool.false_and] at hgo2
        have q := k H4 ((x1.trans x2).trans x3)
        rw [hgo2] at q
        exact iteT q
      | true =>
        rw [hq, Bool.true_and] at hgo2
        have hm2 : m ||| 2 ^ z < 2 ^ fs.length := Nat.or_lt_two_pow hm (Nat.pow_lt_pow_right (by decide) hz)
        refine iteF ⟨_, rfl, _, rfl, _, _, rfl, rfl, ⟨by omega, by omega, by decide⟩, _, _, rfl, rfl, ?_⟩
        dsimp only [gName, tSeq, List.set]
        rw [shl_pp, or_pp]
        refine ⟨_, rfl, _, rfl, _, _, rfl, rfl, ⟨by omega, by omega, by decide⟩, _, _, rfl, rfl, ?_⟩
        dsimp only [gName, tSeq, List.set]
        rw [shl_pp, xor_pp, rest_step hz hm hnew]
        refine ⟨_, _, rfl, rfl, hm2, fun q => ?_, hgo2⟩
        rw [or_bit, Bool.or_eq_true, hbit, decide_eq_true_eq]
        simp only [List.mem_cons, List.mem_append, List.not_mem_nil, or_false]
        constructor
        · rintro ((h | h) | h)
          · exact .inl h
          · exact .inr (.inl h)
          · exact .inr (.inr h.symm)
        · rintro (h | h | h)
          · exact .inl (.inl h)
          · exact .inl (.inr h)
          · exact .inr h.symm
    · rintro σ H4 ⟨m, o7, rfl, rfl, hm, hbit, hgo⟩
      have q := k H4 ((x1.trans x2).trans x3)
      have e5 : mid.drop (vsN mid).length = [] := by rw [List.length_map]; exact List.drop_length
      rw [hgo, e5] at q
      exact q
end
end Wd

set_option Elab.async false
set_option linter.all false
set_option maxRecDepth 100000
set_option maxHeartbeats 4000000
namespace Wd
open PySem PySem.Spec PyProof.Rows L2 Bx Gx











































section
variable {P : Program} {w : World} {K : PySem.W.Frag} {mg : Str → Option Value} {base : Heap}
/-! ### is_order of any value -/
def spIsOrderA (K : PySem.W.Frag) (T1 : Addr) : Sp := fun vs H Q _ => ∃ (l v : V) (fs : List Int) (bs : List (Nat × Nat)) (a b : Nat) (d : PyData), vs = [l, .int (a : Int), .int (b : Int), v] ∧ Dp K H l (landD fs bs) ∧ LandOk fs bs ∧ a < fs.length ∧ b < fs.length ∧ a ≠ b ∧ Dp K H v d ∧ TabG H T1 ∧
  ∀ r H', Ext H H' → (r = true ↔ IsOrdD bs fs.length a b d) → Q (.bl r) H'
abbrev iorN : List Str := ["land", "head", "other_head", "value"]
theorem sc_isOrder : FnScope iorN ["land", "head", "other_head", "value"] (defScope st_is_order) := ⟨rfl, rfl, rfl, by decide +kernel, rfl, by decide +kernel, by decide +kernel⟩
theorem ok_isOrderA {f T1 : Addr} {fd : FuncData} (F : Fun K "is_order" "is_order" st_is_order f fd) (c1 : Cal P w K mg base 5 "check_land" ["land"] (spFaultLand K)) (c2 : Cal P w K mg base 4 "check_heads" ["land", "head", "other_head"] (spCheckHeads K)) (c3 : Cal P w K mg base 7 "is_order_between" ["land", "head", "other_head", "value"] (spOrdBtA K T1)) : FnOk P w K mg base CX0 8 f fd ["land", "head", "other_head", "value"] (spIsOrderA K T1) := by
  refine F.ok sc_isOrder (fun vs H Q E h => ?_) (fun cdv A outer s H vs Q E hr h => ?_)
  · obtain ⟨l, v, fs, bs, a, b, d, rfl, _⟩ := h
    rfl
  · obtain ⟨l, v, fs, bs, a, b, d, rfl, hd, ok, ha, hb, hab, hv, hT, k⟩ := h
    have hr5 := hr.mono (j := 5) (by decide)
    have hr4 := hr.mono (j := 4) (by decide)
    refine ⟨_, pss_cons (ps_expr (pe_cal c1 hr5 rfl (pa_cons (pv 0) pa_nil)))
      (pss_cons (ps_expr (pe_cal c2 hr4 rfl (pa_cons (pv 0) (pa_cons (pv 1) (pa_cons (pv 2) pa_nil)))))
      (pss_one (ps_ret (pe_cal c3 hr rfl (pa_cons (pv 0) (pa_cons (pv 1) (pa_cons (pv 2) (pa_cons (pv 3) pa_nil)))))))), ?_⟩
    refine ⟨_, rfl, l, fs, bs, rfl, hd, ok, ?_⟩
    refine ⟨_, rfl, _, rfl, _, rfl, l, fs, bordD bs, a, b, rfl, hd, ok.most, ha, hb, hab, ?_⟩
    exact ⟨_, rfl, _, rfl, _, rfl, _, rfl, l, v, fs, bs, a, b, d, rfl, hd, ok, hv, hT, k⟩
end
section
variable {P : Program} {w : World} {K : PySem.W.Frag} {mg : Str → Option Value} {base : Heap}
/-! ### is_order of a right row, order_count -/
def spCount (K : PySem.W.Frag) (T1 T2 : Addr) : Sp := fun vs H Q _ => ∃ (l : V) (fs : List Int) (bs : List (Nat × Nat)) (a b : Nat), vs = [l, .int (a : Int), .int (b : Int)] ∧ Dp K H l (landD fs bs) ∧ LandOk fs bs ∧ a < fs.length ∧ b < fs.length ∧ a ≠ b ∧ TabG H T1 ∧ TabG H T2 ∧
  ∀ H', Ext H H' → Q (.int ((wayC bs fs.length b (2 ^ a) : Nat) : Int)) H'
theorem sc_count : FnScope ["land", "head", "other_head"] ["land", "head", "other_head"] (defScope st_order_count) := ⟨rfl, rfl, rfl, by decide +kernel, rfl, by decide +kernel, by decide +kernel⟩
theorem ok_count {f T1 T2 : Addr} {fd : FuncData} (F : Fun K "order_count" "order_count" st_order_count f fd) (c1 : Cal P w K mg base 5 "check_land" ["land"] (spFaultLand K)) (c2 : Cal P w K mg base 4 "check_heads" ["land", "head", "other_head"] (spCheckHeads K)) (c3 : Cal P w K mg base 1 "links_of" ["land"] (spLinksOf K)) (c4 : Cal P w K mg base 8 "ways_on" ["links", "head", "other_head"] (spWays K T1 T2)) : FnOk P w K mg base CX0 9 f fd ["land", "head", "other_head"] (spCount K T1 T2) := by
  refine F.ok sc_count (fun vs H Q E h => ?_) (fun cdv A outer s H vs Q E hr h => ?_)
  · obtain ⟨l, fs, bs, a, b, rfl, _⟩ := h
    rfl
  · obtain ⟨l, fs, bs, a, b, rfl, hd, ok, ha, hb, hab, hT1, hT2, k⟩ := h
    have hr5 := hr.mono (j := 5) (by decide)
    have hr4 := hr.mono (j := 4) (by decide)
    have hr1 := hr.mono (j := 1) (by decide)
    refine ⟨_, pss_cons (ps_expr (pe_cal c1 hr5 rfl (pa_cons (pv 0) pa_nil)))
      (pss_cons (ps_expr (pe_cal c2 hr4 rfl (pa_cons (pv 0) (pa_cons (pv 1) (pa_cons (pv 2) pa_nil)))))
      (pss_one (ps_ret (pe_ix ix_list (pe_cal c4 hr rfl (pa_cons (pe_cal c3 hr1 rfl (pa_cons (pv 0) pa_nil)) (pa_cons (pv 1) (pa_cons (pv 2) pa_nil)))) (pe_op op_shl pe_int (pv 1)) (fun _ _ => rfl))))), ?_⟩
    refine ⟨_, rfl, l, fs, bs, rfl, hd, ok, ?_⟩
    refine ⟨_, rfl, _, rfl, _, rfl, l, fs, bordD bs, a, b, rfl, hd, ok.most, ha, hb, hab, ?_⟩
    refine ⟨_, rfl, l, fs, bs, rfl, hd, ok.most, ok.bord, fun r H2 lk x2 hr0 hlk L => ?_⟩
    refine ⟨_, rfl, _, rfl, r, lk, fs.length, a, b, bs, rfl, hlk, L, ok.most, ha, hb, hab, x2.tabs _ hT1, x2.tabs _ hT2, fun wy ws H3 x3 hwy0 hwy W => ?_⟩
    have hn := ok.most
    have hbs := betw_start (n := fs.length) ha hab
    have hw := W.at_ _ hbs
    have hlen : 2 ^ a < ws.length := by rw [W.len]; exact hbs.lt
    refine ⟨_, rfl, _, _, rfl, rfl, ⟨by omega, by omega, by decide⟩, ?_⟩
    dsimp only
    rw [shl_pp]
    refine ⟨wy, _, 2 ^ a, _, rfl, rfl, SqL.of hwy, atI_nat (v := V.int ((ws.getD (2 ^ a) 0 : Nat) : Int)) ?_, ?_⟩
    · rw [List.getElem?_map, List.getElem?_eq_getElem hlen, List.getD_eq_getElem?_getD, List.getElem?_eq_getElem hlen]
      rfl
    · rw [hw]
      exact k H3 (x2.trans x3)
end
section
variable {P : Program} {w : World} {K : PySem.W.Frag} {mg : Str → Option Value} {base : Heap}
/-! ### counts that are checked; nth_order, by_order -/
def spCkX (K : PySem.W.Frag) (CC : Addr) : Sp := fun vs H Q E => ∃ (v : V) (d : PyData) (lo hi : Int), vs = [v, .int lo, .int hi] ∧ Dp K H v d ∧ (isIntD lo hi d = true → Q .non H) ∧ (isIntD lo hi d = false → E (.ref CC) none H)
def spCkSX (K : PySem.W.Frag) (CC : Addr) : Sp := fun vs H Q E => ∃ (l v : V) (fs : List Int) (bd d : PyData), vs = [l, v] ∧ Dp K H l (.tuple [.tuple (fs.map .int), bd]) ∧ fs.length ≤ 12 ∧ Dp K H v d ∧ (isIntD 1 ((fs.length : Int) - 1) d = true → Q .non H) ∧ (isIntD 1 ((fs.length : Int) - 1) d = false → E (.ref CC) none H)
def spNth (K : PySem.W.Frag) (T1 T2 : Addr) : Sp := fun vs H Q _ => ∃ (l : V) (fs : List Int) (bs : List (Nat × Nat)) (a b num : Nat), vs = [l, .int (a : Int), .int (b : Int), .int (num : Int)] ∧ Dp K H l (landD fs bs) ∧ LandOk fs bs ∧ a < fs.length ∧ b < fs.length ∧ a ≠ b ∧ TabG H T1 ∧ TabG H T2 ∧ num < wayC bs fs.length b (2 ^ a) ∧
  ∀ (q : Addr) (r : List Nat) (H' : Hp), Ext H H' → H q = none → H' q = some (.tup (vsN (a :: r))) → (complF bs fs.length b (cnt fs.length (2 ^ a)) (2 ^ a))[num]? = some r → Q (.ref q) H'
abbrev ntN : List Str := ["land", "head", "other_head", "number", "links", "ways"]
end
end Wd

set_option Elab.async false
set_option linter.all false
set_option maxRecDepth 100000
set_option maxHeartbeats 4000000
/-! Is: places told by an order: a land led along, its borders, what hangs together there. -/
namespace Wd.Is
open Mk
/-- two ways that undo each other below n -/
structure Tw (n : Nat) (π ρ : Nat → Nat) : Prop where
  f : ∀ p, p < n → π p < n
  b : ∀ p, p < n → ρ p < n
  fb : ∀ p, p < n → ρ (π p) = p
  bf : ∀ p, p < n → π (ρ p) = p
section
variable {n : Nat} {π ρ : Nat → Nat}
theorem Tw.symm (h : Tw n π ρ) : Tw n ρ π := ⟨h.b, h.f, h.bf, h.fb⟩
theorem Tw.inj (h : Tw n π ρ) {p q : Nat} (hp : p < n) (hq : q < n) (e : π p = π q) : p = q := by rw [← h.fb p hp, ← h.fb q hq, e]
/-- a lot led along -/
def ledL (n : Nat) (π : Nat → Nat) (ps : List Nat) : List Nat := (List.range n).filter fun x => decide (x ∈ ps.map π)
theorem ledL_asc (ps : List Nat) : (ledL n π ps).Pairwise (· < ·) := List.pairwise_lt_range.filter _
theorem ledL_lt {ps : List Nat} {x : Nat} (h : x ∈ ledL n π ps) : x < n := List.mem_range.mp (List.mem_filter.mp h).1
theorem mem_ledL (h : Tw n π ρ) {ps : List Nat} (hp : ∀ p ∈ ps, p < n) {x : Nat} : x ∈ ledL n π ps ↔ ∃ p, p ∈ ps ∧ π p = x := by
  unfold ledL
  rw [List.mem_filter, List.mem_range, decide_eq_true_eq, List.mem_map]
  exact ⟨fun z => z.2, fun ⟨p, h1, h2⟩ => ⟨h2 ▸ h.f p (hp p h1), p, h1, h2⟩⟩
theorem mem_ledL' (h : Tw n π ρ) {ps : List Nat} (hp : ∀ p ∈ ps, p < n) {p : Nat} (hpn : p < n) : π p ∈ ledL n π ps ↔ p ∈ ps := by
  rw [mem_ledL h hp]
  exact ⟨fun ⟨q, h1, h2⟩ => h.inj (hp q h1) hpn h2 ▸ h1, fun z => ⟨p, z, rfl⟩⟩
theorem ledL_back (h : Tw n π ρ) {ps : List Nat} (hp : ∀ p ∈ ps, p < n) (ha : ps.Pairwise (· < ·)) : ledL n ρ (ledL n π ps) = ps := by
  refine asc_ext (ledL_asc _) ha fun q => ?_
  rw [mem_ledL h.symm fun x hx => ledL_lt hx]
  constructor
  · rintro ⟨x, h1, rfl⟩
    obtain ⟨p, h2, rfl⟩ := (mem_ledL h hp).mp h1
    rw [h.fb p (hp p h2)]
    exact h2
  · intro hq
    exact ⟨π q, (mem_ledL' h hp (hp q hq)).mpr hq, h.fb q (hp q hq)⟩
theorem map_nodup (h : Tw n π ρ) {ps : List Nat} (hp : ∀ p ∈ ps, p < n) (hn : ps.Nodup) : (ps.map π).Nodup := by
  rw [List.nodup_iff_pairwise_ne] at hn ⊢
  rw [List.pairwise_map]
  exact hn.imp_of_mem fun ha hb hne e => hne (h.inj (hp _ ha) (hp _ hb) e)
theorem asc_nodup {ps : List Nat} (ha : ps.Pairwise (· < ·)) : ps.Nodup := by
  rw [List.nodup_iff_pairwise_ne]
  exact ha.imp fun h => Nat.ne_of_lt h
theorem ledL_perm (h : Tw n π ρ) {ps : List Nat} (hp : ∀ p ∈ ps, p < n) (ha : ps.Pairwise (· < ·)) : (ps.map π).Perm (ledL n π ps) := by
  refine (List.perm_ext_iff_of_nodup (map_nodup h hp (asc_nodup ha)) (asc_nodup (ledL_asc _))).mpr fun x => ?_
  rw [mem_ledL h hp, List.mem_map]
theorem ledL_inj (h : Tw n π ρ) {ps qs : List Nat} (hp : ∀ p ∈ ps, p < n) (ha : ps.Pairwise (· < ·)) (hq : ∀ p ∈ qs, p < n) (hb : qs.Pairwise (· < ·)) (e : ledL n π ps = ledL n π qs) : ps = qs := by
  rw [← ledL_back h hp ha, e, ledL_back h hq hb]
theorem ledL_ne (h : Tw n π ρ) {ps : List Nat} (hp : ∀ p ∈ ps, p < n) (hne : ps ≠ []) : ledL n π ps ≠ [] := by
  cases ps with
  | nil => exact absurd rfl hne
  | cons p r =>
    intro e
    have : π p ∈ ledL n π (p :: r) := (mem_ledL' h hp (hp p List.mem_cons_self)).mpr List.mem_cons_self
    rw [e] at this
    cases this
/-! ### borders -/
def prM (π : Nat → Nat) (b : Nat × Nat) : Nat × Nat := (min (π b.1) (π b.2), max (π b.1) (π b.2))
theorem prM_lt (h : Tw n π ρ) {b : Nat × Nat} (h1 : b.1 < b.2) (h2 : b.2 < n) : (prM π b).1 < (prM π b).2 ∧ (prM π b).2 < n := by
  have e1 := h.f b.1 (by omega)
  have e2 := h.f b.2 h2
  have e3 : π b.1 ≠ π b.2 := fun e => by have := h.inj (by omega) h2 e; omega
  show min (π b.1) (π b.2) < max (π b.1) (π b.2) ∧ max (π b.1) (π b.2) < n
  omega
theorem prM_back (h : Tw n π ρ) {b : Nat × Nat} (h1 : b.1 < b.2) (h2 : b.2 < n) : prM ρ (prM π b) = b := by
  have e1 := h.fb b.1 (by omega)
  have e2 := h.fb b.2 h2
  obtain ⟨x, y⟩ := b
  show (min (ρ (min (π x) (π y))) (ρ (max (π x) (π y))), max (ρ (min (π x) (π y))) (ρ (max (π x) (π y)))) = (x, y)
  simp only at h1 h2 e1 e2
  by_cases z : π x ≤ π y
  · rw [Nat.min_eq_left z, Nat.max_eq_right z, e1, e2, Nat.min_eq_left (by omega), Nat.max_eq_right (by omega)]
  · have z' : π y ≤ π x := by omega
    rw [Nat.min_eq_right z', Nat.max_eq_left z', e1, e2, Nat.min_eq_right (show x ≤ y by omega), Nat.max_eq_left (show x ≤ y by omega)]
/-- a land's borders, and those of the land led along -/
structure Iso (n : Nat) (π ρ : Nat → Nat) (bs cs : List (Nat × Nat)) : Prop where
  t : Tw n π ρ
  a1 : Tu.AscP bs
  a2 : Tu.AscP cs
  b1 : Bs n bs
  b2 : Bs n cs
  m : ∀ c, c ∈ cs ↔ ∃ b, b ∈ bs ∧ prM π b = c
variable {bs cs : List (Nat × Nat)}
theorem Iso.symm (h : Iso n π ρ bs cs) : Iso n ρ π cs bs := by
  refine ⟨h.t.symm, h.a2, h.a1, h.b2, h.b1, fun b => ⟨fun hb => ⟨prM π b, (h.m _).mpr ⟨b, hb, rfl⟩, prM_back h.t (h.b1 b hb).1 (h.b1 b hb).2⟩, ?_⟩⟩
  rintro ⟨c, hc, rfl⟩
  obtain ⟨b, hb, rfl⟩ := (h.m c).mp hc
  rw [prM_back h.t (h.b1 b hb).1 (h.b1 b hb).2]
  exact hb
theorem mem_prM (h : Iso n π ρ bs cs) {b : Nat × Nat} (h1 : b.1 < b.2) (h2 : b.2 < n) : prM π b ∈ cs ↔ b ∈ bs := by
  rw [h.m]
  constructor
  · rintro ⟨d, hd, e⟩
    rw [← prM_back h.t h1 h2, ← e, prM_back h.t (h.b1 d hd).1 (h.b1 d hd).2]
    exact hd
  · exact fun hb => ⟨b, hb, rfl⟩
theorem adj_led (h : Iso n π ρ bs cs) {x y : Nat} (hx : x < n) (hy : y < n) : adj cs (π x) (π y) = adj bs x y := by
  by_cases e : x = y
  · subst e
    have f1 : adj bs x x = false := by
      cases q : adj bs x x with
      | false => rfl
      | true => exact absurd rfl (adj_lt h.b1 q).2.2
    have f2 : adj cs (π x) (π x) = false := by
      cases q : adj cs (π x) (π x) with
      | false => rfl
      | true => exact absurd rfl (adj_lt h.b2 q).2.2
    rw [f1, f2]
  · unfold adj
    have key : (min (π x) (π y), max (π x) (π y)) = prM π (min x y, max x y) := by
      show _ = (min (π (min x y)) (π (max x y)), max (π (min x y)) (π (max x y)))
      by_cases z : x ≤ y
      · rw [Nat.min_eq_left z, Nat.max_eq_right z]
      · rw [Nat.min_eq_right (show y ≤ x by omega), Nat.max_eq_left (show y ≤ x by omega), Nat.min_comm, Nat.max_comm]
    rw [key]
    have := mem_prM h (b := (min x y, max x y)) (by show min x y < max x y; omega) (by show max x y < n; omega)
    rw [Bool.eq_iff_iff, List.contains_iff_mem, List.contains_iff_mem]
    exact this
theorem conn_led (h : Iso n π ρ bs cs) {S T : Nat → Prop} (hS : ∀ z, S z → z < n) (hT : ∀ z, S z → T (π z)) {p q : Nat} (c : Conn bs S p q) : Conn cs T (π p) (π q) := by
  induction c with
  | refl h0 => exact .refl (hT _ h0)
  | step c0 a h2 ih =>
    exact .step ih (by rw [adj_led h (hS _ c0.snd) (hS _ h2)]; exact a) (hT _ h2)
theorem conn_iff (h : Iso n π ρ bs cs) {ps : List Nat} (hp : ∀ p ∈ ps, p < n) {p q : Nat} (hpn : p < n) (hqn : q < n) : Conn cs (· ∈ ledL n π ps) (π p) (π q) ↔ Conn bs (· ∈ ps) p q := by
  constructor
  · intro c
    have := conn_led h.symm (S := (· ∈ ledL n π ps)) (T := (· ∈ ps)) (fun z hz => ledL_lt hz) (fun z hz => by
      obtain ⟨x, hx, rfl⟩ := (mem_ledL h.t hp).mp hz
      rw [h.t.fb x (hp x hx)]
      exact hx) c
    rw [h.t.fb p hpn, h.t.fb q hqn] at this
    exact this
  · exact conn_led h (fun z hz => hp z hz) fun z hz => (mem_ledL' h.t hp (hp z hz)).mpr hz
end
end Wd.Is

set_option Elab.async false
set_option linter.all false
set_option maxRecDepth 100000
set_option maxHeartbeats 4000000
namespace Wd
open PySem PySem.Spec PyProof.Rows L2 Bx Gx











































section
variable {bs cs : List (Nat × Nat)} {n a b : Nat}
/-! ### how many orders: each comes once -/
theorem complF_nodup (hb : b < n) : ∀ {k m : Nat}, Betw n a b m → cnt n m = k → (complF bs n b k m).Nodup
  | 0, m, _, _ => by simp [complF]
  | k + 1, m, h, hk => by
    rw [complF, List.nodup_iff_pairwise_ne, List.pairwise_flatMap]
    have nd : (nextL bs n b m).Nodup := by
      unfold nextL
      exact ((Mk.bits_pair _ _).imp Nat.ne_of_lt : (Mk.bits n (rest n m)).Nodup).filter _
    refine ⟨fun p hp => ?_, ?_⟩
    · have hk' : cnt n (m ||| 2 ^ p) = k := by have := cnt_next hb h hp; omega
      have ih : (complF bs n b k (m ||| 2 ^ p)).Nodup := complF_nodup hb (h.add hp) hk'
      rw [List.pairwise_map]
      exact (List.nodup_iff_pairwise_ne.mp ih).imp fun {u v} hne e => hne (List.cons.inj e).2
    · refine (List.nodup_iff_pairwise_ne.mp nd).imp fun {p q} hne u hu v hv e => ?_
      obtain ⟨u', _, rfl⟩ := List.mem_map.mp hu
      obtain ⟨v', _, rfl⟩ := List.mem_map.mp hv
      exact hne (List.cons.inj e).1
/-- all that may go on goes on -/
theorem go_complF (hb : b < n) : ∀ {k m : Nat} {mid : List Nat}, Betw n a b m → cnt n m = k → goB bs n m mid = true → (mid ++ [b]).Nodup → (∀ x, x ∈ mid ++ [b] ↔ x < n ∧ m.testBit x = false) → mid ++ [b] ∈ complF bs n b k m
  | 0, m, mid, h, hk, hg, nd, hm => by
    have e := (cnt_zero hb h).mp hk
    cases mid with
    | nil => simp [complF]
    | cons p r =>
      exfalso
      obtain ⟨h1, h2⟩ := (hm p).mp (by simp)
      rw [e, bit_rest h1, Nat.testBit_two_pow] at h2
      have : b = p := by simpa using h2
      subst this
      rw [List.cons_append, List.nodup_cons] at nd
      exact nd.1 (by simp)
  | k + 1, m, mid, h, hk, hg, nd, hm => by
    cases mid with
    | nil =>
      exfalso
      have : m = rest n (2 ^ b) := by
        refine Nat.eq_of_testBit_eq fun x => ?_
        by_cases hx : x < n
        · rw [bit_rest hx, Nat.testBit_two_pow]
          have := hm x
          rw [List.nil_append, List.mem_singleton] at this
          by_cases e : x = b
          · subst e
            rw [(this.mp rfl).2]
            simp
          · rw [decide_eq_false (fun z => e z.symm)]
            cases e2 : m.testBit x with
            | true => rfl
            | false => exact absurd (this.mpr ⟨hx, e2⟩) e
        · have h1 : m.testBit x = false := Nat.testBit_lt_two_pow (Nat.lt_of_lt_of_le h.lt (Nat.pow_le_pow_right (by decide) (by omega)))
          have h2 : (rest n (2 ^ b)).testBit x = false := Nat.testBit_lt_two_pow (Nat.lt_of_lt_of_le (rest_lt (Nat.pow_lt_pow_right (by decide) hb)) (Nat.pow_le_pow_right (by decide) (by omega)))
          rw [h1, h2]
      rw [(cnt_zero hb h).mpr this] at hk
      cases hk
    | cons p r =>
      have hg' : (nearB bs n m p && (nearB bs n (rest n m) p && goB bs n (m ||| 2 ^ p) r)) = true := hg
      obtain ⟨g1, g2⟩ := Bool.and_eq_true_iff.mp hg'
      obtain ⟨g2, g3⟩ := Bool.and_eq_true_iff.mp g2
      obtain ⟨hpn, hpm⟩ := (hm p).mp (by simp)
      have hpb : p ≠ b := fun e => by
        subst e
        rw [List.cons_append, List.nodup_cons] at nd
        exact nd.1 (by simp)
      have hp : p ∈ nextL bs n b m := by
        unfold nextL
        rw [List.mem_filter, g1, g2, Mk.mem_bits, bit_rest hpn, hpm, decide_eq_false hpb]
        exact ⟨⟨hpn, rfl⟩, rfl⟩
      have hk' : cnt n (m ||| 2 ^ p) = k := by have := cnt_next hb h hp; omega
      rw [List.cons_append, List.nodup_cons] at nd
      rw [complF, List.mem_flatMap]
      refine ⟨p, hp, List.mem_map.mpr ⟨r ++ [b], go_complF hb (h.add hp) hk' g3 nd.2 fun x => ?_, rfl⟩⟩
      rw [or_bit, Bool.or_eq_false_iff, decide_eq_false_iff_not]
      have := hm x
      rw [List.cons_append, List.mem_cons] at this
      constructor
      · intro hx
        obtain ⟨h1, h2⟩ := this.mp (.inr hx)
        exact ⟨h1, h2, fun e => nd.1 (e ▸ hx)⟩
      · rintro ⟨h1, h2, h3⟩
        rcases this.mpr ⟨h1, h2⟩ with e | hx
        · exact absurd e.symm h3
        · exact hx
theorem ord_compl (hbs : Mk.Bs n bs) (ha : a < n) (hb : b < n) (hab : a ≠ b) {r : List Nat} (h : OrdP bs n a b (a :: r)) : r ∈ complF bs n b (cnt n (2 ^ a)) (2 ^ a) := by
  obtain ⟨t, ht⟩ := h.ls
  obtain ⟨mid, rfl⟩ : ∃ mid, r = mid ++ [b] := by
    cases t with
    | nil =>
      injection ht with e _
      exact absurd e hab
    | cons x t =>
      injection ht with _ e
      exact ⟨t, e⟩
  have nd := h.nd
  have hg := (ordP_of hbs h.pm).mpr h
  rw [List.nodup_cons] at nd
  refine go_complF hb (betw_start ha hab) rfl hg nd.2 fun x => ?_
  rw [Nat.testBit_two_pow, decide_eq_false_iff_not]
  have hm : x ∈ a :: (mid ++ [b]) ↔ x < n := h.mem
  rw [List.mem_cons] at hm
  constructor
  · intro hx
    exact ⟨hm.mp (.inr hx), fun e => nd.1 (e ▸ hx)⟩
  · rintro ⟨h1, h2⟩
    exact (hm.mpr h1).resolve_left fun e => h2 e.symm
theorem OrdP.ne {os : List Nat} (h : OrdP bs n a b os) : os ≠ [] := by
  obtain ⟨t, rfl⟩ := h.hd
  simp
/-- orders go along -/
theorem OrdP.led {π ρ : Nat → Nat} (I : Is.Iso n π ρ bs cs) {os : List Nat} (h : OrdP bs n a b os) : OrdP cs n (π a) (π b) (os.map π) := by
  have lt : ∀ p ∈ os, p < n := fun p hp => h.mem.mp hp
  refine ⟨?_, ?_, ?_, fun pre p suf e h1 h2 => ?_⟩
  · refine (List.perm_ext_iff_of_nodup (Is.map_nodup I.t lt h.nd) List.nodup_range).mpr fun x => ?_
    rw [List.mem_map, List.mem_range]
    constructor
    · rintro ⟨p, hp, rfl⟩
      exact I.t.f p (lt p hp)
    · intro hx
      exact ⟨ρ x, h.mem.mpr (I.t.b x hx), I.t.bf x hx⟩
  · obtain ⟨t, rfl⟩ := h.hd
    exact ⟨t.map π, rfl⟩
  · obtain ⟨t, rfl⟩ := h.ls
    exact ⟨t.map π, by rw [List.map_append]; rfl⟩
  · obtain ⟨pre0, rest0, e0, rfl, e1⟩ := List.map_eq_append_iff.mp e
    obtain ⟨p0, suf0, rfl, rfl, rfl⟩ := List.map_eq_cons_iff.mp e1
    have lp : p0 < n := lt p0 (by rw [e0]; simp)
    obtain ⟨⟨q, hq, aq⟩, ⟨q', hq', aq'⟩⟩ := h.mid pre0 p0 suf0 e0 (fun z => h1 (by rw [z]; rfl)) (fun z => h2 (by rw [z]; rfl))
    have lq : q < n := lt q (by rw [e0]; simp [hq])
    have lq' : q' < n := lt q' (by rw [e0]; simp [hq'])
    exact ⟨⟨π q, List.mem_map.mpr ⟨q, hq, rfl⟩, by rw [Is.adj_led I lp lq]; exact aq⟩, ⟨π q', List.mem_map.mpr ⟨q', hq', rfl⟩, by rw [Is.adj_led I lp lq']; exact aq'⟩⟩
theorem map_injOn {π ρ : Nat → Nat} (t : Is.Tw n π ρ) : ∀ {u v : List Nat}, (∀ p ∈ u, p < n) → (∀ p ∈ v, p < n) → u.map π = v.map π → u = v
  | [], [], _, _, _ => rfl
  | [], _ :: _, _, _, e => by cases e
  | _ :: _, [], _, _, e => by cases e
  | x :: u, y :: v, hu, hv, e => by
    injection e with e1 e2
    rw [t.inj (hu x (by simp)) (hv y (by simp)) e1, map_injOn t (fun p hp => hu p (by simp [hp])) (fun p hp => hv p (by simp [hp])) e2]
theorem wayC_le_led {π ρ : Nat → Nat} (I : Is.Iso n π ρ bs cs) (hbs : Mk.Bs n bs) (hcs : Mk.Bs n cs) (ha : a < n) (hb : b < n) (hab : a ≠ b) : wayC bs n b (2 ^ a) ≤ wayC cs n (π b) (2 ^ (π a)) := by
  have ha' := I.t.f a ha
  have hb' := I.t.f b hb
  have hab' : π a ≠ π b := fun e => hab (I.t.inj ha hb e)
  unfold wayC
  have nd := complF_nodup (bs := bs) hb (betw_start ha hab) rfl
  have key : ∀ r ∈ complF bs n b (cnt n (2 ^ a)) (2 ^ a), (∀ p ∈ r, p < n) ∧ r.map π ∈ complF cs n (π b) (cnt n (2 ^ (π a))) (2 ^ (π a)) := fun r hr => by
    obtain ⟨mid, _, hO⟩ := compl_ord hbs ha hb hab hr
    exact ⟨fun p hp => hO.mem.mp (List.mem_cons_of_mem _ hp), ord_compl hcs ha' hb' hab' (hO.led I)⟩
  have nd2 : ((complF bs n b (cnt n (2 ^ a)) (2 ^ a)).map (List.map π)).Nodup := by
    rw [List.nodup_iff_pairwise_ne, List.pairwise_map]
    exact (List.nodup_iff_pairwise_ne.mp nd).imp_of_mem fun {u v} hu hv hne e => hne (map_injOn I.t (key u hu).1 (key v hv).1 e)
  have := Tu.len_sub nd2 (D := complF cs n (π b) (cnt n (2 ^ (π a))) (2 ^ (π a))) fun x hx => by
    obtain ⟨r, hr, rfl⟩ := List.mem_map.mp hx
    exact (key r hr).2
  rwa [List.length_map] at this
/-- as many orders of a land led along -/
theorem wayC_led {π ρ : Nat → Nat} (I : Is.Iso n π ρ bs cs) (ha : a < n) (hb : b < n) (hab : a ≠ b) : wayC cs n (π b) (2 ^ (π a)) = wayC bs n b (2 ^ a) := by
  have h1 := wayC_le_led I I.b1 I.b2 ha hb hab
  have h2 := wayC_le_led I.symm I.b2 I.b1 (I.t.f a ha) (I.t.f b hb) (fun e => hab (I.t.inj ha hb e))
  rw [I.t.fb a ha, I.t.fb b hb] at h2
  omega
/-- borders more: no order is lost -/
theorem wayC_more (hbs : Mk.Bs n bs) (hcs : Mk.Bs n cs) (ha : a < n) (hb : b < n) (hab : a ≠ b) (k : ∀ p q, Mk.adj bs p q = true → Mk.adj cs p q = true) : wayC bs n b (2 ^ a) ≤ wayC cs n b (2 ^ a) := by
  unfold wayC
  refine Tu.len_sub (complF_nodup hb (betw_start ha hab) rfl) fun r hr => ?_
  obtain ⟨mid, _, hO⟩ := compl_ord hbs ha hb hab hr
  exact ord_compl hcs ha hb hab (hO.more k)
end
end Wd

set_option Elab.async false
set_option linter.all false
set_option maxRecDepth 100000
set_option maxHeartbeats 4000000
namespace Wd
open PySem PySem.Spec PyProof.Rows L2 Bx Gx











































section
variable {bs cs : List (Nat × Nat)} {n a b : Nat} {π ρ : Nat → Nat}
/-! ### partings of a land led along -/
def ledM (n : Nat) (π : Nat → Nat) (m : Nat) : Nat := Mk.mask (Is.ledL n π (Mk.bits n m))
theorem bits_ledM (m : Nat) : Mk.bits n (ledM n π m) = Is.ledL n π (Mk.bits n m) := Mk.bits_mask (Is.ledL_asc _) fun _ h => Is.ledL_lt h
theorem ledM_lt (m : Nat) : ledM n π m < 2 ^ n := Mk.mask_lt (Is.ledL_asc _) fun _ h => Is.ledL_lt h
theorem bit_ledM (t : Is.Tw n π ρ) {m p : Nat} (hp : p < n) : (ledM n π m).testBit (π p) = m.testBit p := by
  have h1 : (ledM n π m).testBit (π p) = true ↔ π p ∈ Mk.bits n (ledM n π m) := by rw [Mk.mem_bits]; exact ⟨fun z => ⟨t.f p hp, z⟩, fun z => z.2⟩
  have h2 : m.testBit p = true ↔ p ∈ Mk.bits n m := by rw [Mk.mem_bits]; exact ⟨fun z => ⟨hp, z⟩, fun z => z.2⟩
  rw [bits_ledM, Is.mem_ledL' t (fun q hq => (Mk.mem_bits.mp hq).1) hp, ← h2] at h1
  cases e : m.testBit p with
  | true => exact h1.mpr e
  | false =>
    cases e2 : (ledM n π m).testBit (π p) with
    | false => rfl
    | true => rw [h1.mp e2] at e; cases e
theorem ledM_rest (t : Is.Tw n π ρ) {m : Nat} (hm : m < 2 ^ n) : ledM n π (rest n m) = rest n (ledM n π m) := by
  refine Nat.eq_of_testBit_eq fun x => ?_
  by_cases hx : x < n
  · have e := t.bf x hx
    rw [← e, bit_ledM t (t.b x hx), bit_rest (t.b x hx), bit_rest (t.f _ (t.b x hx)), bit_ledM t (t.b x hx)]
  · have hp : 2 ^ n ≤ 2 ^ x := Nat.pow_le_pow_right (by decide) (by omega)
    rw [Nat.testBit_lt_two_pow (Nat.lt_of_lt_of_le (ledM_lt _) hp), Nat.testBit_lt_two_pow (Nat.lt_of_lt_of_le (rest_lt (ledM_lt _)) hp)]
theorem ledM_back (t : Is.Tw n π ρ) {m : Nat} (hm : m < 2 ^ n) : ledM n ρ (ledM n π m) = m := by
  refine Nat.eq_of_testBit_eq fun x => ?_
  by_cases hx : x < n
  · have e := t.fb x hx
    rw [← e, bit_ledM t.symm (t.f x hx), bit_ledM t hx, e]
  · have hp : 2 ^ n ≤ 2 ^ x := Nat.pow_le_pow_right (by decide) (by omega)
    rw [Nat.testBit_lt_two_pow (Nat.lt_of_lt_of_le (ledM_lt _) hp), Nat.testBit_lt_two_pow (Nat.lt_of_lt_of_le hm hp)]
theorem size_ledM (t : Is.Tw n π ρ) (m : Nat) : (Mk.bits n (ledM n π m)).length = (Mk.bits n m).length := by
  rw [bits_ledM, ← (Is.ledL_perm t (fun q hq => (Mk.mem_bits.mp hq).1) (Mk.bits_pair _ _)).length_eq, List.length_map]
theorem one_led (I : Is.Iso n π ρ bs cs) {m : Nat} (hm : m < 2 ^ n) (h : One bs m) : One cs (ledM n π m) := fun p q hp hq => by
  have lt : ∀ {x m' : Nat}, m' < 2 ^ n → m'.testBit x = true → x < n := fun {x m'} hm' hx => by
    rcases Nat.lt_or_ge x n with h | h
    · exact h
    · rw [Nat.testBit_lt_two_pow (Nat.lt_of_lt_of_le hm' (Nat.pow_le_pow_right (by decide) h))] at hx
      cases hx
  have hpn := lt (ledM_lt m) hp
  have hqn := lt (ledM_lt m) hq
  have e1 := I.t.bf p hpn
  have e2 := I.t.bf q hqn
  rw [← e1, bit_ledM I.t (I.t.b p hpn)] at hp
  rw [← e2, bit_ledM I.t (I.t.b q hqn)] at hq
  have c := h _ _ hp hq
  rw [← e1, ← e2]
  exact Is.conn_led I (S := Mk.In m) (T := Mk.In (ledM n π m)) (fun z hz => lt hm hz) (fun z hz => by
    show (ledM n π m).testBit (π z) = true
    rw [bit_ledM I.t (lt hm hz)]
    exact hz) c
theorem part_led (I : Is.Iso n π ρ bs cs) (ha : a < n) (hb : b < n) {m : Nat} (hm : m ∈ partsOf n bs a b) : ledM n π m ∈ partsOf n cs (π a) (π b) := by
  obtain ⟨h1, h2⟩ := mem_partsOf.mp hm
  have hm2 : m < 2 ^ n := by omega
  have o1 : (ledM n π m).testBit (π a) = true := by rw [bit_ledM I.t ha]; exact h2.one
  have o2 : (ledM n π m).testBit (π b) = false := by rw [bit_ledM I.t hb]; exact h2.two
  refine mem_partsOf.mpr ⟨?_, ?_, o1, o2, one_led I hm2 h2.hang, ?_⟩
  · have := ledM_lt (n := n) (π := π) m
    rcases Nat.lt_or_ge (ledM n π m) (2 ^ n - 1) with h | h
    · exact h
    · exfalso
      have e : ledM n π m = 2 ^ n - 1 := by omega
      rw [e, bit_whole, decide_eq_true (I.t.f b hb)] at o2
      cases o2
  · rcases Nat.eq_zero_or_pos (ledM n π m) with h | h
    · rw [h, Nat.zero_testBit] at o1
      cases o1
    · exact h
  · rw [← ledM_rest I.t hm2]
    exact one_led I (rest_lt hm2) h2.hang2
/-- how many partings of a size there are -/
noncomputable def sizeC (n : Nat) (bs : List (Nat × Nat)) (a b s : Nat) : Nat := ((partsOf n bs a b).filter fun m => decide ((Mk.bits n m).length = s)).length
theorem partsOf_nd (n : Nat) (bs : List (Nat × Nat)) (a b : Nat) : (partsOf n bs a b).Nodup := List.nodup_range.filter _
theorem sizeC_le (I : Is.Iso n π ρ bs cs) (ha : a < n) (hb : b < n) (s : Nat) : sizeC n bs a b s ≤ sizeC n cs (π a) (π b) s := by
  unfold sizeC
  have nd2 : (((partsOf n bs a b).filter fun m => decide ((Mk.bits n m).length = s)).map (ledM n π)).Nodup := by
    rw [List.nodup_iff_pairwise_ne, List.pairwise_map]
    refine (List.nodup_iff_pairwise_ne.mp ((partsOf_nd n bs a b).filter _)).imp_of_mem fun {u v} hu hv hne e => hne ?_
    have h1 := (mem_partsOf.mp (List.mem_filter.mp hu).1).1
    have h2 := (mem_partsOf.mp (List.mem_filter.mp hv).1).1
    rw [← ledM_back I.t (show u < 2 ^ n by omega), ← ledM_back I.t (show v < 2 ^ n by omega), e]
  have := Tu.len_sub nd2 (D := (partsOf n cs (π a) (π b)).filter fun m => decide ((Mk.bits n m).length = s)) fun x hx => by
    obtain ⟨m, hm, rfl⟩ := List.mem_map.mp hx
    obtain ⟨h1, h2⟩ := List.mem_filter.mp hm
    exact List.mem_filter.mpr ⟨part_led I ha hb h1, by rw [size_ledM I.t]; exact h2⟩
  rwa [List.length_map] at this
theorem sizeC_led (I : Is.Iso n π ρ bs cs) (ha : a < n) (hb : b < n) (s : Nat) : sizeC n cs (π a) (π b) s = sizeC n bs a b s := by
  have h1 := sizeC_le I ha hb s
  have h2 := sizeC_le I.symm (I.t.f a ha) (I.t.f b hb) s
  rw [I.t.fb a ha, I.t.fb b hb] at h2
  omega
end
end Wd

set_option Elab.async false
set_option linter.all false
set_option maxRecDepth 100000
set_option maxHeartbeats 4000000
/-! Rv: four, five, six arguments by name, from behind. -/
namespace Bx
open PySem PySem.Spec PyProof.Rows L2
def rev4 {α : Type} : List α → List α → List α
  | [], [d, c, b, a] => [a, b, c, d]
  | _, _ => []
theorem rev4_rel {vs zs : List V} {us ws : List Value} (h1 : Vals vs us) (h2 : Vals zs ws) : Vals (rev4 vs zs) (rev4 us ws) := by
  cases h1 with
  | cons _ _ => exact .nil
  | nil =>
    cases h2 with
    | nil => exact .nil
    | cons x0 g0 =>
      cases g0 with
      | nil => exact .nil
      | cons x1 g1 =>
        cases g1 with
        | nil => exact .nil
        | cons x2 g2 =>
          cases g2 with
          | nil => exact .nil
          | cons x3 g3 =>
            cases g3 with
            | nil => exact .cons x3 (.cons x2 (.cons x1 (.cons x0 (.nil))))
            | cons _ _ => exact .nil
def rev5 {α : Type} : List α → List α → List α
  | [], [e, d, c, b, a] => [a, b, c, d, e]
  | _, _ => []
theorem rev5_rel {vs zs : List V} {us ws : List Value} (h1 : Vals vs us) (h2 : Vals zs ws) : Vals (rev5 vs zs) (rev5 us ws) := by
  cases h1 with
  | cons _ _ => exact .nil
  | nil =>
    cases h2 with
    | nil => exact .nil
    | cons x0 g0 =>
      cases g0 with
      | nil => exact .nil
      | cons x1 g1 =>
        cases g1 with
        | nil => exact .nil
        | cons x2 g2 =>
          cases g2 with
          | nil => exact .nil
          | cons x3 g3 =>
            cases g3 with
            | nil => exact .nil
            | cons x4 g4 =>
              cases g4 with
              | nil => exact .cons x4 (.cons x3 (.cons x2 (.cons x1 (.cons x0 (.nil)))))
              | cons _ _ => exact .nil
def rev6 {α : Type} : List α → List α → List α
  | [], [f, e, d, c, b, a] => [a, b, c, d, e, f]
  | _, _ => []
theorem rev6_rel {vs zs : List V} {us ws : List Value} (h1 : Vals vs us) (h2 : Vals zs ws) : Vals (rev6 vs zs) (rev6 us ws) := by
  cases h1 with
  | cons _ _ => exact .nil
  | nil =>
    cases h2 with
    | nil => exact .nil
    | cons x0 g0 =>
      cases g0 with
      | nil => exact .nil
      | cons x1 g1 =>
        cases g1 with
        | nil => exact .nil
        | cons x2 g2 =>
          cases g2 with
          | nil => exact .nil
          | cons x3 g3 =>
            cases g3 with
            | nil => exact .nil
            | cons x4 g4 =>
              cases g4 with
              | nil => exact .nil
              | cons x5 g5 =>
                cases g5 with
                | nil => exact .cons x5 (.cons x4 (.cons x3 (.cons x2 (.cons x1 (.cons x0 (.nil))))))
                | cons _ _ => exact .nil
end Bx

set_option Elab.async false
set_option linter.all false
set_option maxRecDepth 100000
set_option maxHeartbeats 4000000
/-! Ib: x is True, x is not True, of bools. -/
namespace Bx
open PySem PySem.Spec PyProof.Rows L2
variable {X : Cx}
def rIsB (neg : Bool) : R2 := fun x y H Q => ∃ a b : Bool, x = .bl a ∧ y = .bl b ∧ Q (.bl (neg ^^ decide (a = b))) H
theorem isB {a b : Bool} {prog : Program} {w : World} {A : Around} {E : Value → Shared → Prop} {s : Shared} {Q : Bool → Shared → Prop} (h : Q (decide (a = b)) s) : wpAny (model prog w) A (isSame (.bool a) (.bool b)) Q E s := by
  have e : isSame (.bool a) (.bool b) = pure (decide (a = b)) := by cases a <;> cases b <;> rfl
  rw [e]
  exact wpAny_pure h
theorem op_isB : OpR X (compareOp .Is) (rIsB false) := by
  intro pins s σ H x y v u Q I rx ry h
  obtain ⟨a, b, rfl, rfl, q⟩ := h
  cases rx
  cases ry
  show wpAny _ _ ((isSame (.bool a) (.bool b)) >>= fun z => pure (Value.bool z)) _ _ s
  exact wpAny_bind (isB (wpAny_pure (fin_bl I q (by simp))))
theorem op_notB : OpR X (compareOp .IsNot) (rIsB true) := by
  intro pins s σ H x y v u Q I rx ry h
  obtain ⟨a, b, rfl, rfl, q⟩ := h
  cases rx
  cases ry
  show wpAny _ _ ((isSame (.bool a) (.bool b)) >>= fun z => pure (Value.bool (!z))) _ _ s
  exact wpAny_bind (isB (wpAny_pure (fin_bl I q (by simp))))
/-- a method of a value, the fragment named -/
theorem pe_bmK {X : Cx} {K : PySem.W.Frag} {T : String} {o e : Expr} {es : List Expr} {to : TE} {t : TA} {name : Str} {id : String} {apos cpos : Pos} {r : V → List V → Hp → VK → Prop} (h : X.K = K) (pa : PlainAttrs T) (slot : Slot T name id) (hty : typeOf (.builtin id) = pure (.type "method_descriptor")) (hm : MtR X id r) (ho : PE X o to) (ha : PA X (e :: es) t)
    (hbase : attributeBase o name X.env (eval o X.env) = eval o X.env := by rfl)
    (hfew : ((backTo cpos (starEach (e :: es) X.env)).all (fun x => !x.1) && (backToKw cpos (keywordEach [] X.env)).all (fun x => x.1.isSome)
      && decide ((e :: es).length + ([] : List Keyword).length + (if ([] : List Keyword).isEmpty then 0 else 1) < 30)) = true := by rfl)
    (hline : (apos.endLine == cpos.line) = true := by rfl) (hs : starEach (e :: es) X.env = (false, eval e X.env) :: starEach es X.env := by rfl) (hplain : (backTo cpos (starEach es X.env)).any (·.1) = false := by rfl) :
    PE X (.Call (.Attribute o name apos) (e :: es) [] cpos) (tBM K T r to t) := by
  subst h
  exact pe_bm pa slot hty hm ho ha hbase hfew hline hs hplain
theorem call_lenKB {X : Cx} {K : PySem.W.Frag} (h : X.K = K) : CallR X (.builtin "len") (fun xs H Q => ∃ x n, xs = [x] ∧ LenV K x H n ∧ Q (.int ((n : Nat) : Int)) H) := h ▸ call_len
end Bx

set_option Elab.async false
set_option linter.all false
set_option maxRecDepth 100000
set_option maxHeartbeats 4000000
/-! Xi: own errors with a field: made and raised, caught as x, their class asked, the field read. -/
namespace Bx
open PySem PySem.Spec PyProof.Rows L2
/-! ### the class -/
def oexB (K : PySem.W.Frag) (C : Addr) : Bool := (match K.lookup C with
  | some ⟨.type "type", _, .cls cd, sl⟩ => (match cd.mro, sl.toList with
    | .ref C' :: bm, [_, _, _, _, some (.builtin n), _] => decide (C' = C) && (decide (n = "ValueError.__new__") && (!cd.hasDel && (cd.hasDict && PySem.HandSPX.refsVE bm)))
    | _, _ => false)
  | _ => false) && (decide (PySem.W.findIn K (.ref C) "__setattr__" = some (some (.builtin "object.__setattr__"))) && (decide (PySem.W.subIn K (.ref C) (.type "BaseException") = some true) && (decide (PySem.W.typeIn K (.ref C) = some (.type "type")) && PySem.W.keepIn K (.ref C))))
theorem oexB_ok {K : PySem.W.Frag} {C : Addr} (h : oexB K C = true) : OexC K C := by
  obtain ⟨q, h⟩ := Bool.and_eq_true_iff.mp h
  obtain ⟨h2, h⟩ := Bool.and_eq_true_iff.mp h
  obtain ⟨h3, h⟩ := Bool.and_eq_true_iff.mp h
  obtain ⟨h4, h5⟩ := Bool.and_eq_true_iff.mp h
  refine ⟨?_, of_decide_eq_true h2, of_decide_eq_true h3, of_decide_eq_true h4, h5⟩
  split at q
  · rename_i dd cd sl ho
    split at q
    · rename_i C' bm k0 k1 k2 k3 n k5 hm hs
      obtain ⟨q1, q⟩ := Bool.and_eq_true_iff.mp q
      obtain ⟨q2, q⟩ := Bool.and_eq_true_iff.mp q
      obtain ⟨q3, q⟩ := Bool.and_eq_true_iff.mp q
      obtain ⟨q4, q5⟩ := Bool.and_eq_true_iff.mp q
      have e1 := of_decide_eq_true q1
      have e2 := of_decide_eq_true q2
      subst e1 e2
      obtain ⟨nm, bs, mro, ns, qn, hd, sn, sub, ab, col, del⟩ := cd
      dsimp only at hm q3 q4
      have q3 : del = false := by simpa using q3
      subst hm q3 q4
      have hsl : sl = #[k0, k1, k2, k3, some (.builtin "ValueError.__new__"), k5] := by
        obtain ⟨l⟩ := sl
        simp only at hs
        rw [hs]
      subst hsl
      exact ⟨nm, qn, ns, bs, bm, sn, sub, ab, col, dd, k0, k1, k2, k3, k5, ho, q5⟩
    · cases q
  · cases q
/-- an own error class whose __init__(self, f) keeps its argument as the field f -/
structure Yc (P : Program) (w : World) (K : PySem.W.Frag) (mg : Str → Option Value) (base : Heap) (x : Str) (C : Addr) (f : Str) : Prop where
  g : mg x = some (.ref C)
  o : OexC K C
  no : PySem.W.findIn K (.ref C) f = some none
  i : ∃ (fI : Addr) (fd : FuncData), PySem.W.findIn K (.ref C) "__init__" = some (some (.ref fI)) ∧ PySem.W.typeIn K (.ref fI) = some (.type "function") ∧ Binds K fd ["self", f] [] ∧
    FnOk P w K mg base CX0 1 fI fd ["self", f] (fun vs H Q _ => ∃ (a : Addr) (v : V), vs = [.ref a, v] ∧ H a = some (exo a C none) ∧ ∀ dx, H dx = none → dx ≠ a → Q .non (upd (upd H dx (exd dx [(f, v)])) a (exo a C (some dx))))
def ycB (K : PySem.W.Frag) (x : Str) (f : Str) : Bool := oexB K (He.ga K x) && (decide (PySem.W.findIn K (.ref (He.ga K x)) f = some none) && (decide (PySem.W.findIn K (.ref (He.ga K x)) "__init__" = some (some (.ref (He.fAd K (x, some "__init__"))))) && decide (PySem.W.typeIn K (.ref (He.fAd K (x, some "__init__"))) = some (.type "function"))))
/-- what the class D must say, so that isinstance asks its instances rightly -/
def excB (K : PySem.W.Frag) (D : Addr) : Bool := decide (PySem.W.findIn K (.ref D) "__getattribute__" = some (some (.builtin "BaseException.__getattribute__"))) && (decide (PySem.W.findIn K (.ref D) "__getattr__" = some none) && (decide (PySem.W.subIn K (.ref D) (.type "BaseException") = some true) && (PySem.W.hasDictIn K D && (decide (PySem.W.findIn K (.ref D) "__class__" = some (some (.builtin "object.__class__"))) &&
  (decide (PySem.W.specialIn K (.builtin "object.__class__") "__get__" = some (some (.builtin "getset_descriptor.__get__"))) && (decide (PySem.W.takesIn K (.builtin "object.__class__") = some true) && decide (PySem.W.mroIn K D (.type "object") = some true)))))))
theorem excB_ok {K : PySem.W.Frag} {D : Addr} (h : excB K D = true) : ExcC K D := by
  obtain ⟨h1, h⟩ := Bool.and_eq_true_iff.mp h
  obtain ⟨h2, h⟩ := Bool.and_eq_true_iff.mp h
  obtain ⟨h3, h⟩ := Bool.and_eq_true_iff.mp h
  obtain ⟨h4, h⟩ := Bool.and_eq_true_iff.mp h
  obtain ⟨h5, h⟩ := Bool.and_eq_true_iff.mp h
  obtain ⟨h6, h⟩ := Bool.and_eq_true_iff.mp h
  obtain ⟨h7, h8⟩ := Bool.and_eq_true_iff.mp h
  exact ⟨of_decide_eq_true h1, of_decide_eq_true h2, of_decide_eq_true h3, h4, of_decide_eq_true h5, of_decide_eq_true h6, of_decide_eq_true h7, of_decide_eq_true h8⟩
/-- isinstance(e, c), e the exception that the suite holds, with or without its dict -/
def rIsX (K : PySem.W.Frag) (a : Addr) (cls : Value) (d : Option Addr) : List V → Hp → VK → Prop := fun xs H Q => ∃ (D : Addr) (c : V) (cv : Value) (b : Bool), cls = .ref D ∧ ExcC K D ∧ xs = [.ref a, c] ∧ (∀ u, RelV c u → u = cv) ∧ PySem.W.kitOne K (.ref D) cv = some b ∧ (∀ dd, d = some dd → ∃ fs, H dd = some (.xd fs)) ∧ Q (.bl b) H
theorem call_isX {X : Cx} {a : Addr} {cls : Value} {d : Option Addr} {oe : Obj} {pn : List (Addr × Obj)} (hz : Zc cls d oe) (hf : ∃ vs, oe.data = .fields vs) : CallR (X.suite a ((a, oe) :: pn)) (.builtin "isinstance") (rIsX X.K a cls d) := by
  intro pins s σ H xs us Q I r h
  obtain ⟨D, c, cv, b, rfl, C, rfl, hcv, e, hdd, q⟩ := h
  cases r with
  | cons rx rr =>
    cases rr with
    | cons rt rr =>
      cases rr
      cases rx
      have ec := hcv _ rt
      subst ec
      obtain ⟨hget, _⟩ := I.pin (a, oe) (List.mem_append.mpr (.inl List.mem_cons_self))
      obtain ⟨vs, hv⟩ := hf
      have J : ∃ od, PySem.W.InstAt s.heap a oe D od := by
        obtain ⟨oc, od, oda, osl⟩ := oe
        obtain ⟨h1, h2⟩ := hz
        dsimp only at h1 h2 hv
        subst h1 h2 hv
        cases od with
        | none => exact ⟨none, hget, rfl, rfl, trivial⟩
        | some dd =>
          obtain ⟨fs, hfs⟩ := hdd dd rfl
          have hx : ObjOk X.prog X.w H s.heap dd (.xd fs) := I.hok dd _ hfs
          obtain ⟨mA, ⟨o, _, _, ho, _⟩, _⟩ := hx
          exact ⟨some o, hget, rfl, rfl, ho⟩
      obtain ⟨od, J⟩ := J
      have hcl : (PySem.W.clsIn X.K D).isSome = true := by
        obtain ⟨cd, hc, _⟩ := PySem.W.any_some C.hd
        rw [hc]
        rfl
      exact PySem.W.kia_one (PySem.W.kitx_exc hcl C.hg C.hk C.hs C.ha C.hn C.ht C.hm) I.kIn J e (fun z => nomatch z) fun tk => ⟨.bl b, H, I.kept (t' := tk) fun _ _ z => z, rfl, q⟩
theorem mt_lcountK {X : Cx} {K : PySem.W.Frag} (h : X.K = K) : MtR X "list.count" (rCntI K) := h ▸ mt_lcount
end Bx

set_option Elab.async false
set_option linter.all false
set_option maxRecDepth 100000
set_option maxHeartbeats 4000000
namespace Wd
open PySem PySem.Spec PyProof.Rows L2 Bx Gx











































section
variable {P : Program} {w : World} {K : PySem.W.Frag} {mg : Str → Option Value} {base : Heap}
/-! ### ward_counts, barred_sizes told exactly -/
theorem size_count (n : Nat) : ∀ (l : List Nat) {s : Nat}, (l.filter fun m => decide ((Mk.bits n m).length = s)).length = (l.map fun m => (((Mk.bits n m).length : Nat) : Int)).count (s : Int)
  | [], s => rfl
  | m :: l, s => by
    rw [List.map_cons, List.count_cons, List.filter_cons]
    by_cases h : (Mk.bits n m).length = s
    · rw [decide_eq_true h, if_pos rfl, List.length_cons, size_count n l, h]
      simp
    · rw [decide_eq_false h, if_neg Bool.false_ne_true, size_count n l]
      have : ¬ (((Mk.bits n m).length : Nat) : Int) = (s : Int) := by omega
      simp [this]
noncomputable def cntsOf (n : Nat) (bs : List (Nat × Nat)) (a b : Nat) : List Int := (List.range (n - 1)).map fun i => ((sizeC n bs a b (i + 1) : Nat) : Int)
noncomputable def barsOf (n : Nat) (bs : List (Nat × Nat)) (a b : Nat) : List Nat := ((List.range (n - 1)).filter fun i => decide (sizeC n bs a b (i + 1) = 0)).map (· + 1)
def spWardCE (K : PySem.W.Frag) (T1 T2 : Addr) : Sp := fun vs H Q _ => ∃ (l : V) (fs : List Int) (bs : List (Nat × Nat)) (a b : Nat), vs = [l, .int (a : Int), .int (b : Int)] ∧ Dp K H l (landD fs bs) ∧ LandOk fs bs ∧ a < fs.length ∧ b < fs.length ∧ a ≠ b ∧ TabG H T1 ∧ TabG H T2 ∧
  ∀ (q : Addr) (H' : Hp), Ext H H' → SqT K H' q ((cntsOf fs.length bs a b).map V.int) → Q (.ref q) H'
abbrev wcNE : List Str := ["land", "head", "other_head", "parting", "sizes"]
theorem sc_wardCE : FnScope wcNE ["land", "head", "other_head"] (defScope st_ward_counts) := ⟨rfl, rfl, rfl, by decide +kernel, rfl, by decide +kernel, by decide +kernel⟩
theorem ok_wardCE {f c T1 T2 : Addr} {fd : FuncData} (F : FunC K "ward_counts" "ward_counts" st_ward_counts f fd c) (TB : TabB base mg c T2) (B : Bl mg) (c1 : Cal P w K mg base 5 "check_land" ["land"] (spFaultLand K)) (c2 : Cal P w K mg base 4 "check_heads" ["land", "head", "other_head"] (spCheckHeads K))
    (c3 : Cal P w K mg base 9 "partings" ["land", "head", "other_head"] (spPartings K T1)) : FnOk P w K mg base CX0 10 f fd ["land", "head", "other_head"] (spWardCE K T1 T2) := by
  refine F.ok sc_wardCE (fun vs H Q E h => ?_) (fun A outer s H vs Q E hr h => ?_)
  · obtain ⟨l, fs, bs, a, b, rfl, _⟩ := h
    rfl
  · obtain ⟨l, fs, bs, a, b, rfl, hd, ok, ha, hb, hab, hT1, hT2, k⟩ := h
    have nd := sc_wardCE.nd
    refine ⟨_, pss_cons (ps_expr (pe_cal c1 (hr.mono (by decide)) rfl (pa_cons (pv 0) pa_nil)))
      (pss_cons (ps_expr (pe_cal c2 (hr.mono (by decide)) rfl (pa_cons (pv 0) (pa_cons (pv 1) (pa_cons (pv 2) pa_nil)))))
      (pss_cons (ps_set (i := 4) nd rfl (Or.inr rfl) (pe_lc (own := [("parting", 3)]) (g := gName 3) (by rfl) nd (pi_list (pe_cal c3 (hr.mono (by decide)) rfl (pa_cons (pv 0) (pa_cons (pv 1) (pa_cons (pv 2) pa_nil))))) (blkOk_by (own := [("parting", 3)]) (N := wcNE) (sc := defScope st_ward_counts) (by decide +kernel)) (fun _ _ _ _ _ => pg_name (i := 3) nd rfl (Or.inl rfl)) (fun _ _ _ _ _ => pts_nil) (fun _ _ _ _ _ => pe_callB (call_lenKB (K := K) rfl) (by rfl) B.len PySem.boot_len (pa_cons (pe_ix (ix_tupK (K := K) rfl) (pv 3) pe_int (fun _ _ => rfl)) pa_nil))))
      (pss_one (ps_ret (pe_gtup (k := 0) (N := ["size", "sizes"]) (src := [none, some 4]) (vs := [0])
        ⟨fun B s H fp code hB => pg_name (i := 0) (by decide +kernel : (["size", "sizes"] : List Str).Nodup) rfl (Or.inl rfl), fun B s H fp code hB => pts_nil, fun B s H fp code hB => pe_bmK (K := K) rfl PySem.F.plainAttrs_list PySem.F.slot_list_count PySem.F.type_list_count (mt_lcountK (K := K) rfl) (pv 1) (pa_cons (pv 0) pa_nil)⟩
        (hr.mono (by decide)) rfl B.tuple TB rfl (gOk (ND := wcNE) (sc := defScope st_ward_counts) (by decide +kernel))
        (pi_range2 rfl B.range (pa_cons pe_int (pa_cons (pe_callB call_len (by rfl) B.len PySem.boot_len (pa_cons (pe_ix ix_tup (pv 0) pe_int (fun _ _ => rfl)) pa_nil)) pa_nil)))))))), ?_⟩
    have hn := ok.most
    refine ⟨_, rfl, l, fs, bs, rfl, hd, ok, ?_⟩
    refine ⟨_, rfl, _, rfl, _, rfl, l, fs, bordD bs, a, b, rfl, hd, hn, ha, hb, hab, ?_⟩
    refine ⟨_, rfl, _, rfl, _, rfl, l, fs, bs, a, b, rfl, hd, hn, ok.bord, ha, hb, hT1, fun q ys H1 x1 hq0 hq hda => ?_⟩
    have hlen := dpAll_len hda
    have hpl : (partsOf fs.length bs a b).length ≤ 2 ^ fs.length - 1 := partsTo_len fs.length bs a b (2 ^ fs.length - 1)
    have hp12 : 2 ^ fs.length ≤ 2 ^ 12 := Nat.pow_le_pow_right (by decide) hn
    rw [List.length_map] at hlen
    have hcn : ∀ s : Nat, sizeC fs.length bs a b s = (((partsOf fs.length bs a b).map fun m => (((Mk.bits fs.length m).length : Nat) : Int)).count (s : Int)) := fun s => size_count _ _
    generalize partsOf fs.length bs a b = ms at *
    have hlm : ys.length ≤ 5000 := by rw [hlen]; exact Nat.le_trans hpl (by omega)
    refine ⟨q, rfl, ⟨_, SqL.of hq⟩, fun D hD => ?_⟩
    refine lc_list (K := K) (a := q) (xs := ys) (fun i H2 => ∃ ns : List Int, H2 D = some (.lst (ns.map V.int)) ∧ ns = (ms.take i).map (fun m => (((Mk.bits fs.length m).length : Nat) : Int)) ∧ Ext H1 H2) ⟨[], upd_same, by rw [List.take_zero]; rfl, .new hD⟩ (fun i H2 _ ⟨_, _, _, x2⟩ => SqL.of (x2.lst hq)) (fun i y H2 hy ⟨ns, e2, hz, x2⟩ => ?_) (fun H2 ⟨ns, e2, hz, x2⟩ => ?_)
    · obtain ⟨d, hd1, hd2⟩ := dpAll_get' hda hy
      have hil : i < ys.length := (List.getElem?_eq_some_iff.mp hy).1
      rw [List.getElem?_map] at hd1
      obtain ⟨m, hm, rfl⟩ := Option.map_eq_some_iff.mp hd1
      obtain ⟨t, v1, v2, rfl, ht, g1, g2⟩ := dp_two hd2
      obtain ⟨a1, xs1, rfl, h1, h2⟩ := dp_tup g1
      refine ⟨rfl, ?_⟩
      dsimp only [tYes]
      rw [if_pos rfl]
      have hxl := dpAll_len h2
      rw [List.length_map] at hxl
      refine ⟨_, rfl, _, _, _, _, rfl, rfl, x2.sqT ht, rfl, _, xs1.length, rfl, .inr ⟨_, x2.sqT h1, rfl⟩, _, e2, small5000 (by rw [List.length_map, hz, List.length_map, List.length_take]; omega), ns ++ [(xs1.length : Int)], ?_, by rw [hz, List.take_add_one, hm, List.map_append, hxl]; rfl, x2.write hD⟩
      rw [List.map_append]
      exact upd_same
    · dsimp only [gName, tSeq, List.set, L2.start, List.map, List.length, List.replicate, List.append]
      obtain ⟨af, xl, rfl, hl1, hl2⟩ := dp_tup hd
      obtain ⟨v0, hv0, hv1⟩ := dpAll_get (i := 0) hl2 rfl
      obtain ⟨al, rfl, hv2⟩ := dp_ints hv1
      have x12 := x1.trans x2
      refine ⟨_, rfl, _, _, _, _, rfl, rfl, x12.sqT hl1, atI_nat hv0, _, fs.length, rfl, .inr ⟨_, x12.sqT hv2, by simp⟩, ?_⟩
      refine ⟨_, _, rfl, ⟨by decide, by decide, by omega, by omega⟩, (x12.tabs _ hT2), fun H3 hT3 => ?_⟩
      have x3 : Ext H2 H3 := Ext.tabbed (x12.tabs _ hT2) hT3
      have hD2 : SqL K H2 D (ns.map V.int) := SqL.of e2
      generalize hN : ((fs.length : Int) - 1).toNat = N
      have hN2 : N ≤ fs.length := by omega
      refine g_tup (Pw := fun i ys H4 => H4 = H3 ∧ ys = ((List.range i).map fun (j : Nat) => ((ns.count (1 + (j : Int)) : Nat) : Int)).map V.int) (fun _ _ => src_range) (by rw [sizeLine_eq]; omega) (fun _ => true) (fun _ => rfl) ⟨rfl, rfl⟩
        (fun i ys H4 ⟨_, e⟩ => by rw [e, List.length_map, List.length_map, List.length_range]; omega) (fun i ys H4 C hp hi k2 => k2 H4 hp) (fun i ys H4 _ _ z => nomatch z) (fun i ys H4 C ⟨e1, e3⟩ hi _ k2 => ?_) fun ys H4 ⟨e1, e3⟩ p hp => ?_
      · subst e1
        refine ⟨_, rfl, .inl ⟨rfl, _, SqL.of (x3.lst e2)⟩, _, rfl, D, ns, _, rfl, rfl, SqL.of (x3.lst e2), ?_⟩
        refine k2 _ _ ⟨rfl, ?_⟩
        rw [e3, List.range_succ, List.map_append, List.map_append]
        rfl
      · subst e1 e3
        refine k p _ ((x12.trans x3).trans (Ext.new hp)) ?_
        have hpl2 : ys.length = ms.length := hlen
        rw [hpl2, List.take_length] at hz
        have ec : cntsOf fs.length bs a b = (List.range N).map fun (j : Nat) => ((ns.count (1 + (j : Int)) : Nat) : Int) := by
          unfold cntsOf
          rw [show N = fs.length - 1 by omega]
          refine List.map_congr_left fun j _ => ?_
          rw [hcn, hz, show ((j + 1 : Nat) : Int) = 1 + (j : Int) by omega]
        rw [ec]
        exact SqT.of upd_same
end
end Wd

set_option Elab.async false
set_option linter.all false
set_option maxRecDepth 100000
set_option maxHeartbeats 4000000
namespace Wd
open PySem PySem.Spec PyProof.Rows L2 Bx Gx











































section
variable {P : Program} {w : World} {K : PySem.W.Frag} {mg : Str → Option Value} {base : Heap}
/-! ### barred_sizes exactly -/
def spBarredE (K : PySem.W.Frag) (T1 T2 T3 : Addr) : Sp := fun vs H Q _ => ∃ (l : V) (fs : List Int) (bs : List (Nat × Nat)) (a b : Nat), vs = [l, .int (a : Int), .int (b : Int)] ∧ Dp K H l (landD fs bs) ∧ LandOk fs bs ∧ a < fs.length ∧ b < fs.length ∧ a ≠ b ∧ TabG H T1 ∧ TabG H T2 ∧ TabG H T3 ∧
  ∀ (q : Addr) (H' : Hp), Ext H H' → SqT K H' q (vsN (barsOf fs.length bs a b)) → Q (.ref q) H'
abbrev bzNE : List Str := ["land", "head", "other_head", "counts"]
theorem sc_barredE : FnScope bzNE ["land", "head", "other_head"] (defScope st_barred_sizes) := ⟨rfl, rfl, rfl, by decide +kernel, rfl, by decide +kernel, by decide +kernel⟩
theorem ok_barredE {f c T1 T2 T3 : Addr} {fd : FuncData} (F : FunC K "barred_sizes" "barred_sizes" st_barred_sizes f fd c) (TB : TabB base mg c T3) (B : Bl mg) (c1 : Cal P w K mg base 10 "ward_counts" ["land", "head", "other_head"] (spWardCE K T1 T2)) : FnOk P w K mg base CX0 11 f fd ["land", "head", "other_head"] (spBarredE K T1 T2 T3) := by
  refine F.ok sc_barredE (fun vs H Q E h => ?_) (fun A outer s H vs Q E hr h => ?_)
  · obtain ⟨l, fs, bs, a, b, rfl, _⟩ := h
    rfl
  · obtain ⟨l, fs, bs, a, b, rfl, hd, ok, ha, hb, hab, hT1, hT2, hT3, k⟩ := h
    have nd := sc_barredE.nd
    refine ⟨_, pss_cons (ps_set (i := 3) nd rfl (Or.inr rfl) (pe_cal c1 (hr.mono (by decide)) rfl (pa_cons (pv 0) (pa_cons (pv 1) (pa_cons (pv 2) pa_nil)))))
      (pss_one (ps_ret (pe_gtup (k := 0) (N := ["k", "counts"]) (src := [none, some 3]) (vs := [0])
        ⟨fun B s H fp code hB => pg_name (i := 0) (by decide +kernel : (["k", "counts"] : List Str).Nodup) rfl (Or.inl rfl), fun B s H fp code hB => pts_one (pt_cmpR op_eq (pe_ix (ix_tupK (K := K) rfl) (pv 1) (pv 0) (fun _ _ => rfl)) pe_int (nomark _)), fun B s H fp code hB => pe_op op_add (pv 0) pe_int⟩
        (hr.mono (by decide)) rfl B.tuple TB rfl (gOk (ND := bzNE) (sc := defScope st_barred_sizes) (by decide +kernel))
        (pi_range1 rfl B.range (pa_cons (pe_callB call_len (by rfl) B.len PySem.boot_len (pa_cons (pv 3) pa_nil)) pa_nil))))), ?_⟩
    have hn := ok.most
    refine ⟨_, rfl, _, rfl, _, rfl, l, fs, bs, a, b, rfl, hd, ok, ha, hb, hab, hT1, hT2, fun q H1 x1 hq => ?_⟩
    dsimp only [gName, tSeq, List.set]
    have hcl : (cntsOf fs.length bs a b).length = fs.length - 1 := by unfold cntsOf; rw [List.length_map, List.length_range]
    refine ⟨_, rfl, _, fs.length - 1, rfl, .inr ⟨_, hq, by rw [List.length_map, hcl]⟩, _, rfl, by omega, by omega, x1.tabs _ hT3, fun H2 hT => ?_⟩
    have x2 : Ext H1 H2 := Ext.tabbed (x1.tabs _ hT3) hT
    generalize hN : (((fs.length - 1 : Nat) : Int)).toNat = N
    have hN2 : N = fs.length - 1 := by rw [← hN, Int.toNat_natCast]
    have gv : ∀ i, i < N → ((cntsOf fs.length bs a b).map V.int)[i]? = some (V.int ((sizeC fs.length bs a b (i + 1) : Nat) : Int)) := fun i hi => by
      unfold cntsOf
      rw [List.getElem?_map, List.getElem?_map, List.getElem?_range (by omega)]
      rfl
    refine g_tup (Pw := fun i ys H4 => H4 = H2 ∧ ys = vsN (((List.range i).filter fun i => decide (sizeC fs.length bs a b (i + 1) = 0)).map (· + 1))) (fun _ _ => src_range) (by rw [sizeLine_eq]; omega) (fun i => decide (sizeC fs.length bs a b (i + 1) = 0)) (fun _ => rfl) ⟨rfl, rfl⟩
      (fun i ys H4 ⟨_, e⟩ => ?_) (fun i ys H4 C hp hi k2 => ?_) (fun i ys H4 ⟨e1, e2⟩ _ hk => ⟨e1, ?_⟩) (fun i ys H4 C ⟨e1, e2⟩ hi hk k2 => ?_) fun ys H4 ⟨e1, e2⟩ p hp => ?_
    · rw [e, vsN, List.length_map, List.length_map]
      have := List.length_filter_le (fun i => decide (sizeC fs.length bs a b (i + 1) = 0)) (List.range i)
      rw [List.length_range] at this
      exact this
    · obtain ⟨e1, e2⟩ := hp
      subst e1
      refine ⟨_, rfl, _, rfl, q, _, _, V.int ((sizeC fs.length bs a b (i + 1) : Nat) : Int), rfl, rfl, x2.sqT hq, ?_, rfl, _, rfl, ?_⟩
      · rw [show (0 : Int) + (i : Int) = (i : Int) by omega]
        exact atI_nat (gv i hi)
      · have ed : decide (V.int ((sizeC fs.length bs a b (i + 1) : Nat) : Int) = V.int 0) = decide (sizeC fs.length bs a b (i + 1) = 0) := by
          rw [decide_eq_decide]
          constructor
          · intro z
            injection z with z
            omega
          · intro z
            rw [z]
            rfl
        rw [ed]
        exact k2 H4 ⟨rfl, e2⟩
    · rw [e2, List.range_succ, List.filter_append, List.filter_cons_of_neg (by simpa using hk)]
      simp
    · subst e1
      refine ⟨_, rfl, _, _, rfl, rfl, k2 _ _ ⟨rfl, ?_⟩⟩
      rw [e2, List.range_succ, List.filter_append, List.filter_cons_of_pos (by simpa using hk), List.map_append, vsN, vsN, List.map_append]
      show _ ++ [V.int (0 + (i : Int) + 1)] = _ ++ [V.int ((i + 1 : Nat) : Int)]
      rw [show (0 : Int) + (i : Int) + 1 = ((i + 1 : Nat) : Int) by omega]
    · subst e1 e2
      refine k _ _ ((x1.trans x2).trans (Ext.new hp)) ?_
      unfold barsOf
      rw [← hN2]
      exact SqT.of upd_same
end
end Wd

set_option Elab.async false
set_option linter.all false
set_option maxRecDepth 100000
set_option maxHeartbeats 4000000
namespace Wd
open PySem PySem.Spec PyProof.Rows L2 Bx Gx











































section
variable {P : Program} {w : World} {K : PySem.W.Frag} {mg : Str → Option Value} {base : Heap}
/-! ### two_wards exactly -/
noncomputable def sized (n : Nat) (bs : List (Nat × Nat)) (a b s : Nat) : List Nat := (partsOf n bs a b).filter fun m => decide ((Mk.bits n m).length = s)
def spTwoWE (K : PySem.W.Frag) (T1 : Addr) : Sp := fun vs H Q _ => ∃ (l : V) (fs : List Int) (bs : List (Nat × Nat)) (a b s : Nat), vs = [l, .int (a : Int), .int (b : Int), .int (s : Int)] ∧ Dp K H l (landD fs bs) ∧ LandOk fs bs ∧ a < fs.length ∧ b < fs.length ∧ a ≠ b ∧ 1 ≤ s ∧ s < fs.length ∧ TabG H T1 ∧
  (sized fs.length bs a b s = [] → ∀ H', Ext H H' → Q .non H') ∧ ∀ (v : V) (m : Nat) (H' : Hp), Ext H H' → m ∈ sized fs.length bs a b s → (∀ m' ∈ sized fs.length bs a b s, PySem.W.dataLt (partD fs.length m') (partD fs.length m) = false) → Dp K H' v (partD fs.length m) → Q v H'
abbrev twNE : List Str := ["land", "head", "other_head", "size", "found", "parting"]
end
end Wd

set_option Elab.async false
set_option linter.all false
set_option maxRecDepth 100000
set_option maxHeartbeats 4000000
namespace Wd
open PySem PySem.Spec PyProof.Rows L2 Bx Gx











































section
/-! ### the fairest parting is one -/
theorem eqvAll_ints : ∀ {u v : List Nat}, PyData.eqvAll (u.map fun (p : Nat) => PyData.int (p : Int)) (v.map fun (p : Nat) => PyData.int (p : Int)) = true → u = v
  | [], [], _ => rfl
  | [], _ :: _, h => by simp [PyData.eqvAll] at h
  | _ :: _, [], h => by simp [PyData.eqvAll] at h
  | a :: u, b :: v, h => by
    rw [List.map_cons, List.map_cons, PySem.W.eqv_all_cons, Bool.and_eq_true] at h
    have e : a = b := by
      have := h.1
      simp [PyData.eqv] at this
      omega
    rw [e, eqvAll_ints h.2]
theorem eqv_lotD {u v : List Nat} (h : PyData.eqv (lotD u) (lotD v) = true) : u = v := by
  refine eqvAll_ints ?_
  unfold lotD at h
  simpa [PyData.eqv] using h
theorem eqv_tri {fs : List Int} {m m' : Nat} (h : PyData.eqv (triD fs m) (triD fs m') = true) : triD fs m = triD fs m' := by
  have h2 : PyData.eqvAll (.int (gapM fs m) :: wardsD fs.length m) (.int (gapM fs m') :: wardsD fs.length m') = true := by simpa [PyData.eqv] using h
  rw [PySem.W.eqv_all_cons, Bool.and_eq_true] at h2
  obtain ⟨h1, h2⟩ := h2
  rw [PySem.W.eqv_all_cons, Bool.and_eq_true] at h2
  obtain ⟨h3, h2⟩ := h2
  rw [PySem.W.eqv_all_cons, Bool.and_eq_true] at h2
  have e1 : gapM fs m = gapM fs m' := by simpa [PyData.eqv] using h1
  have e2 := eqv_lotD h3
  have e3 := eqv_lotD h2.1
  show PyData.tuple [.int (gapM fs m), lotD (Mk.bits fs.length m), lotD (Mk.bits fs.length (rest fs.length m))] = PyData.tuple [.int (gapM fs m'), lotD (Mk.bits fs.length m'), lotD (Mk.bits fs.length (rest fs.length m'))]
  rw [e1, e2, e3]
theorem Best.uniq {fs : List Int} {ms ns : List Nat} {m m' : Nat} (h : Best fs ms m) (h' : Best fs ns m') (hp : ∀ x, x ∈ ms ↔ x ∈ ns) : triD fs m = triD fs m' :=
  eqv_tri (lt_tri (alike_tri fs m m') (h'.least m ((hp m).mp h.mem)) (h.least m' ((hp m').mpr h'.mem)))
theorem tri_ne {fs : List Int} {m m' : Nat} (h : gapM fs m ≠ gapM fs m') : PySem.W.dataLt (triD fs m) (triD fs m') = decide (gapM fs m < gapM fs m') := by
  rw [PySem.W.dataLt_tuple, PySem.W.dataLt_all_no (by simp [PySem.W.alike]) (by simp [PyData.eqv]; omega), PySem.W.dataLt_int]
theorem tri_eq {fs : List Int} {m m' : Nat} (h : gapM fs m = gapM fs m') : PySem.W.dataLt (triD fs m) (triD fs m') = PySem.W.dataLt (partD fs.length m) (partD fs.length m') := by
  rw [PySem.W.dataLt_tuple, PySem.W.dataLt_all_yes (by simp [PySem.W.alike]) (by simp [PyData.eqv, h]), PySem.W.dataLt_tuple]
theorem gap_le {fs : List Int} {m m' : Nat} (h : PySem.W.dataLt (triD fs m') (triD fs m) = false) : gapM fs m ≤ gapM fs m' := by
  by_cases e : gapM fs m' = gapM fs m
  · omega
  · rw [tri_ne e, decide_eq_false_iff_not] at h
    omega
end
end Wd

set_option Elab.async false
set_option linter.all false
set_option maxRecDepth 100000
set_option maxHeartbeats 4000000
namespace Wd
open PySem PySem.Spec PyProof.Rows L2 Bx Gx











































section
variable {bs cs : List (Nat × Nat)} {n a b : Nat} {π ρ : Nat → Nat} {fs gs : List Int}
/-! ### gaps: of a land led along, of all folk times a number -/
theorem sum_permI {l m : List Int} (h : l.Perm m) : l.sum = m.sum := by
  induction h with
  | nil => rfl
  | cons x _ ih => rw [List.sum_cons, List.sum_cons, ih]
  | swap x y l => rw [List.sum_cons, List.sum_cons, List.sum_cons, List.sum_cons]; omega
  | trans _ _ h1 h2 => rw [h1, h2]
theorem folk_ledM (t : Is.Tw n π ρ) (hg : ∀ p, p < n → gs.getD (π p) 0 = fs.getD p 0) (m : Nat) : folkOf gs (Mk.bits n (ledM n π m)) = folkOf fs (Mk.bits n m) := by
  have lt : ∀ q ∈ Mk.bits n m, q < n := fun q hq => (Mk.mem_bits.mp hq).1
  unfold folkOf
  rw [bits_ledM, ← sum_permI ((Is.ledL_perm t lt (Mk.bits_pair _ _)).map fun p => gs.getD p 0), List.map_map]
  congr 1
  exact List.map_congr_left fun p hp => hg p (lt p hp)
theorem gapM_led (t : Is.Tw n π ρ) (hf : fs.length = n) (hgl : gs.length = n) (hg : ∀ p, p < n → gs.getD (π p) 0 = fs.getD p 0) {m : Nat} (hm : m < 2 ^ n) : gapM gs (ledM n π m) = gapM fs m := by
  unfold gapM gapI
  rw [hf, hgl, ← ledM_rest t hm, folk_ledM t hg, folk_ledM t hg]
theorem best_led (I : Is.Iso n π ρ bs cs) (hf : fs.length = n) (hgl : gs.length = n) (hg : ∀ p, p < n → gs.getD (π p) 0 = fs.getD p 0) (ha : a < n) (hb : b < n) {m m' : Nat} (h : Best fs (partsOf n bs a b) m) (h' : Best gs (partsOf n cs (π a) (π b)) m') : gapM gs m' = gapM fs m := by
  have hm : m < 2 ^ n := by have := (mem_partsOf.mp h.mem).1; omega
  have hm' : m' < 2 ^ n := by have := (mem_partsOf.mp h'.mem).1; omega
  have g1 := gap_le (h'.least _ (part_led I ha hb h.mem))
  rw [gapM_led I.t hf hgl hg hm] at g1
  have hg' : ∀ p, p < n → fs.getD (ρ p) 0 = gs.getD p 0 := fun p hp => by
    have := hg (ρ p) (I.t.b p hp)
    rw [I.t.bf p hp] at this
    exact this.symm
  have h2 := part_led I.symm (I.t.f a ha) (I.t.f b hb) h'.mem
  rw [I.t.fb a ha, I.t.fb b hb] at h2
  have g2 := gap_le (h.least _ h2)
  rw [gapM_led I.t.symm hgl hf hg' hm'] at g2
  omega
theorem parts_nil_led (I : Is.Iso n π ρ bs cs) (ha : a < n) (hb : b < n) (h : partsOf n cs (π a) (π b) = []) : partsOf n bs a b = [] := by
  refine List.eq_nil_iff_forall_not_mem.mpr fun m hm => ?_
  have := part_led I ha hb hm
  rw [h] at this
  cases this
theorem folk_mul (c : Int) (ps : List Nat) : folkOf (fs.map (c * ·)) ps = c * folkOf fs ps := by
  unfold folkOf
  induction ps with
  | nil => simp
  | cons p ps ih =>
    rw [List.map_cons, List.sum_cons, ih, List.map_cons, List.sum_cons, Int.mul_add]
    congr 1
    rw [List.getD_eq_getElem?_getD, List.getElem?_map, List.getD_eq_getElem?_getD]
    cases fs[p]? with
    | none => simp
    | some x => rfl
theorem gapM_mul {c : Int} (hc : 1 ≤ c) (m : Nat) : gapM (fs.map (c * ·)) m = c * gapM fs m := by
  unfold gapM gapI absI
  rw [List.length_map, folk_mul, folk_mul, ← Int.mul_sub]
  generalize folkOf fs (Mk.bits fs.length m) - folkOf fs (Mk.bits fs.length (rest fs.length m)) = x
  by_cases h : x < 0
  · rw [if_pos h, if_pos (Int.mul_neg_of_pos_of_neg (by omega) h)]
    rw [Int.mul_neg]
  · rw [if_neg h, if_neg (by have := Int.mul_nonneg (show (0 : Int) ≤ c by omega) (show (0 : Int) ≤ x by omega); omega)]
theorem lt_mul {c : Int} (hc : 1 ≤ c) (m m' : Nat) : PySem.W.dataLt (triD (fs.map (c * ·)) m) (triD (fs.map (c * ·)) m') = PySem.W.dataLt (triD fs m) (triD fs m') := by
  have hl : (fs.map (c * ·)).length = fs.length := List.length_map _
  by_cases e : gapM fs m = gapM fs m'
  · rw [tri_eq e, tri_eq (by rw [gapM_mul hc, gapM_mul hc, e]), hl]
  · have e2 : ¬ gapM (fs.map (c * ·)) m = gapM (fs.map (c * ·)) m' := by
      rw [gapM_mul hc, gapM_mul hc]
      exact fun z => e (Int.eq_of_mul_eq_mul_left (by omega) z)
    rw [tri_ne e, tri_ne e2, gapM_mul hc, gapM_mul hc, decide_eq_decide]
    constructor
    · intro z
      exact Int.lt_of_mul_lt_mul_left z (by omega)
    · intro z
      exact Int.mul_lt_mul_of_pos_left z (by omega)
theorem best_mul {c : Int} (hc : 1 ≤ c) {ms : List Nat} {m : Nat} : Best (fs.map (c * ·)) ms m ↔ Best fs ms m :=
  ⟨fun h => ⟨h.mem, fun m' hm => by rw [← lt_mul hc]; exact h.least m' hm⟩, fun h => ⟨h.mem, fun m' hm => by rw [lt_mul hc]; exact h.least m' hm⟩⟩
end
end Wd

set_option Elab.async false
set_option linter.all false
set_option maxRecDepth 100000
set_option maxHeartbeats 4000000
namespace Wd
open PySem PySem.Spec PyProof.Rows L2 Bx Gx











































section
/-! ### pairs sorted, an order of all places, folk led along (as in a19k06, a20k06, m3iso) -/
abbrev prD (b : Nat × Nat) : PyData := .tuple [.int (b.1 : Int), .int (b.2 : Int)]
theorem lt_prs (a b : Nat × Nat) : PySem.W.dataLt (prD a) (prD b) = decide (a.1 < b.1 ∨ (a.1 = b.1 ∧ a.2 < b.2)) := by
  have e1 : PyData.eqv (.int (a.1 : Int)) (.int (b.1 : Int)) = decide (a.1 = b.1) := by
    by_cases h : a.1 = b.1
    · rw [h]; simp [PyData.eqv]
    · rw [decide_eq_false h]; simp [PyData.eqv]; omega
  have e2 : PyData.eqv (.int (a.2 : Int)) (.int (b.2 : Int)) = decide (a.2 = b.2) := by
    by_cases h : a.2 = b.2
    · rw [h]; simp [PyData.eqv]
    · rw [decide_eq_false h]; simp [PyData.eqv]; omega
  rw [PySem.W.dataLt_tuple, PySem.W.dataLt_cons (by simp [PySem.W.alike]), PySem.W.dataLt_cons (by simp [PySem.W.alike]), e1, e2, PySem.W.dataLt_int, PySem.W.dataLt_int]
  by_cases h : a.1 = b.1
  · rw [decide_eq_true h, if_pos rfl]
    by_cases g : a.2 = b.2
    · rw [decide_eq_true g, if_pos rfl]
      have : ¬ (a.1 < b.1 ∨ a.1 = b.1 ∧ a.2 < b.2) := by omega
      rw [decide_eq_false this]
      rfl
    · rw [decide_eq_false g, if_neg Bool.false_ne_true]
      exact decide_eq_decide.mpr (by omega)
  · rw [decide_eq_false h, if_neg Bool.false_ne_true]
    exact decide_eq_decide.mpr (by omega)
theorem sorted_prs {bs : List (Nat × Nat)} (nd : bs.Nodup) {es : List PyData} (pm : es.Perm (bs.map prD)) (pw : es.Pairwise fun d e => PySem.W.dataLt e d = false) : ∃ cs, es = cs.map prD ∧ Tu.AscP cs ∧ ∀ p, p ∈ cs ↔ p ∈ bs := by
  obtain ⟨cs, h1, rfl⟩ := perm_unmap prD pm rfl
  refine ⟨cs, rfl, ?_, fun p => h1.mem_iff⟩
  have nd2 := h1.nodup_iff.mpr nd
  rw [List.nodup_iff_pairwise_ne] at nd2
  rw [List.pairwise_map] at pw
  refine (pw.and nd2).imp fun {a b} h => ?_
  have z := h.1
  rw [lt_prs, decide_eq_false_iff_not] at z
  have hne := h.2
  show a.1 < b.1 ∨ (a.1 = b.1 ∧ a.2 < b.2)
  have : ¬ (a.1 = b.1 ∧ a.2 = b.2) := fun e => hne (Prod.ext e.1 e.2)
  omega
theorem alike_prs (a b : Nat × Nat) : PySem.W.alike (prD a) (prD b) = true := by simp [PySem.W.alike, PySem.W.alikeAll]
theorem allAlike_prs (bs : List (Nat × Nat)) : PySem.W.AllAlike (bs.map prD) := PySem.W.AllAlike.of alike_prs
theorem sortable_prs (bs : List (Nat × Nat)) : PySem.W.Sortable (bs.map prD) := .inl fun d hd => by
  obtain ⟨b, _, rfl⟩ := List.mem_map.mp hd
  exact ⟨_, _, rfl⟩
theorem depth_prs (bs : List (Nat × Nat)) : ∀ d ∈ bs.map prD, d.depth ≤ 40 := fun d hd => by
  obtain ⟨b, _, rfl⟩ := List.mem_map.mp hd
  simp [PyData.depth, PyData.depthAll]
/-! ### an order of all places -/
structure OrdOk (n : Nat) (os : List Nat) : Prop where
  pm : os.Perm (List.range n)
theorem OrdOk.len {n : Nat} {os : List Nat} (h : OrdOk n os) : os.length = n := by rw [h.pm.length_eq, List.length_range]
theorem OrdOk.nd {n : Nat} {os : List Nat} (h : OrdOk n os) : os.Nodup := h.pm.nodup_iff.mpr List.nodup_range
theorem OrdOk.mem {n : Nat} {os : List Nat} (h : OrdOk n os) {p : Nat} : p ∈ os ↔ p < n := by rw [h.pm.mem_iff, List.mem_range]
theorem OrdOk.at_ {n : Nat} {os : List Nat} (h : OrdOk n os) {k : Nat} (hk : k < n) : os[k]? = some (os.getD k 0) := by
  rw [List.getD_eq_getElem?_getD, List.getElem?_eq_getElem (by rw [h.len]; exact hk)]
  rfl
theorem OrdOk.tw {n : Nat} {os : List Nat} (h : OrdOk n os) : Is.Tw n (fun p => os.idxOf p) (fun k => os.getD k 0) := by
  have ix : ∀ p, p < n → os.idxOf p < os.length := fun p hp => List.idxOf_lt_length_of_mem (h.mem.mpr hp)
  refine ⟨fun p hp => by have := ix p hp; rw [h.len] at this; exact this, fun k hk => ?_, fun p hp => ?_, fun k hk => ?_⟩
  · exact h.mem.mp (List.mem_of_getElem? (h.at_ hk))
  · show os.getD (os.idxOf p) 0 = p
    rw [List.getD_eq_getElem?_getD, List.getElem?_eq_getElem (ix p hp), List.getElem_idxOf]
    rfl
  · show os.idxOf (os.getD k 0) = k
    have hk2 : k < os.length := by rw [h.len]; exact hk
    have e : os.getD k 0 = os[k] := by rw [List.getD_eq_getElem?_getD, List.getElem?_eq_getElem hk2]; rfl
    have hm : os[k] ∈ os := List.getElem_mem hk2
    have h2 := List.idxOf_lt_length_of_mem hm
    rw [e]
    have h3 : os[os.idxOf os[k]] = os[k] := List.getElem_idxOf h2
    exact (List.getElem_inj h.nd).mp h3
abbrev ixO (os : List Nat) : Nat → Nat := fun p => os.idxOf p
abbrev atO (os : List Nat) : Nat → Nat := fun k => os.getD k 0
def ledF (n : Nat) (ρ : Nat → Nat) (fs : List Int) : List Int := (List.range n).map fun k => fs.getD (ρ k) 0
theorem ledF_len {n : Nat} {ρ : Nat → Nat} (fs : List Int) : (ledF n ρ fs).length = n := by rw [ledF, List.length_map, List.length_range]
theorem ledF_get {n : Nat} {ρ : Nat → Nat} (fs : List Int) {k : Nat} (hk : k < n) : (ledF n ρ fs).getD k 0 = fs.getD (ρ k) 0 := by
  rw [List.getD_eq_getElem?_getD, ledF, List.getElem?_map, List.getElem?_eq_getElem (by rw [List.length_range]; exact hk), List.getElem_range]
  rfl
end
end Wd

set_option Elab.async false
set_option linter.all false
set_option maxRecDepth 100000
set_option maxHeartbeats 4000000
namespace Wd
open PySem PySem.Spec PyProof.Rows L2 Bx Gx











































section
variable {bs : List (Nat × Nat)} {n a b : Nat}
/-! ### what ordered tells is one thing (shutAt_uniq as in l1shut) -/
theorem shutAt_uniq {hm i i' : Nat} {cut cut' : Option Nat} {q q' : Nat} (h : ShutAt bs n hm i cut q) (h' : ShutAt bs n hm i' cut' q') : cut = cut' ∧ q = q' := by
  have no : ∀ {j : Nat} {c : Option Nat} {p : Nat}, Hl bs n hm c p → NoHl bs n hm c → False := fun {j c p} ⟨qs, hP, hq⟩ ⟨qs', hP', hn⟩ => by
    obtain rfl := hP.uniq hP'
    have := List.mem_filter.mp (List.mem_of_mem_head? hq)
    exact hn p this.1 (of_decide_eq_true this.2)
  have ei : i = i' := by
    rcases Nat.lt_trichotomy i i' with g | g | g
    · exact (no (j := 0) h.lot (h'.sooner i cut g h.at_)).elim
    · exact g
    · exact (no (j := 0) h'.lot (h.sooner i' cut' g h'.at_)).elim
  subst ei
  have ec := Option.some.inj (h.at_.symm.trans h'.at_)
  subst ec
  obtain ⟨qs, hP, hq⟩ := h.lot
  obtain ⟨qs', hP', hq'⟩ := h'.lot
  obtain rfl := hP.uniq hP'
  exact ⟨rfl, Option.some.inj (hq.symm.trans hq')⟩
theorem shutAt_not {hm i : Nat} {cut : Option Nat} {q : Nat} (h : ShutAt bs n hm i cut q) (hno : ∀ c ∈ cutsL n, NoHl bs n hm c) : False := by
  obtain ⟨qs, hP, hq⟩ := h.lot
  obtain ⟨qs', hP', hn⟩ := hno cut (List.mem_of_getElem? h.at_)
  obtain rfl := hP.uniq hP'
  have := List.mem_filter.mp (List.mem_of_mem_head? hq)
  exact hn q this.1 (of_decide_eq_true this.2)
inductive IsAns (n : Nat) (bs : List (Nat × Nat)) (a b : Nat) : PyData → Prop
  | yes {r : List Nat} : (∀ cut ∈ cutsL n, NoHl bs n (Mk.mask [a, b]) cut) → (complF bs n b (cnt n (2 ^ a)) (2 ^ a))[0]? = some r → IsAns n bs a b (.tuple [.str "yes", lotD (a :: r)])
  | no {i : Nat} {cut : Option Nat} {m : Nat} : ShutAt bs n (Mk.mask [a, b]) i cut m → IsAns n bs a b (.tuple [.str "no", cutD cut, lotD (Mk.bits n m)])
theorem IsAns.uniq {d e : PyData} (h : IsAns n bs a b d) (h' : IsAns n bs a b e) : d = e := by
  cases h with
  | yes h1 h2 =>
    cases h' with
    | yes h3 h4 =>
      rw [h2] at h4
      rw [Option.some.inj h4]
    | no h3 => exact (shutAt_not h3 h1).elim
  | no h1 =>
    cases h' with
    | yes h3 h4 => exact (shutAt_not h1 h3).elim
    | no h3 =>
      obtain ⟨e1, e2⟩ := shutAt_uniq h1 h3
      rw [e1, e2]
/-- a shut lot is told just where there is no order -/
theorem IsAns.noOrd {i : Nat} {cut : Option Nat} {m : Nat} (hbs : Mk.Bs n bs) (ha : a < n) (hb : b < n) (hab : a ≠ b) (h : ShutAt bs n (Mk.mask [a, b]) i cut m) : wayC bs n b (2 ^ a) = 0 := by
  refine no_orders hbs ha hb hab fun os hO => ?_
  obtain ⟨h1, h2, h3⟩ := h.shut hab hbs
  exact hO.open_ hbs h2.ne h2.lt h1
theorem yes_way {r : List Nat} (h : (complF bs n b (cnt n (2 ^ a)) (2 ^ a))[0]? = some r) : 0 < wayC bs n b (2 ^ a) := by
  unfold wayC
  obtain ⟨h1, _⟩ := List.getElem?_eq_some_iff.mp h
  exact h1
end
end Wd

set_option Elab.async false
set_option linter.all false
set_option maxRecDepth 100000
set_option maxHeartbeats 4000000
namespace Wd
open PySem PySem.Spec PyProof.Rows L2 Bx Gx











































section
variable {P : Program} {w : World} {K : PySem.W.Frag} {mg : Str → Option Value} {base : Heap}
/-! ### ordered: its answer as one datum (IsAns) -/
def spOrdD (K : PySem.W.Frag) (ts : List Addr) : Sp := fun vs H Q _ => ∃ (l : V) (fs : List Int) (bs : List (Nat × Nat)) (a b : Nat), vs = [l, .int (a : Int), .int (b : Int)] ∧ Dp K H l (landD fs bs) ∧ LandOk fs bs ∧ a < fs.length ∧ b < fs.length ∧ a ≠ b ∧ Tabs ts H ∧
  ∀ (q : Addr) (d : PyData) (H' : Hp), Ext H H' → IsAns fs.length bs a b d → Dp K H' (.ref q) d → Q (.ref q) H'
theorem ord_d {k : Nat} {f : Addr} {fd : FuncData} {ts : List Addr} (c : FnOk P w K mg base CX0 k f fd ["land", "head", "other_head"] (spOrdered K ts)) : FnOk P w K mg base CX0 k f fd ["land", "head", "other_head"] (spOrdD K ts) :=
  c.imp fun vs H Q E h => by
    obtain ⟨l, fs, bs, a, b, rfl, h1, h2, h3, h4, h5, h6, k⟩ := h
    refine ⟨l, fs, bs, a, b, rfl, h1, h2, h3, h4, h5, h6, fun hn q t r H' x _ hq ht hr => ?_, fun i cut m q t H' hS x _ hq ht => ?_⟩
    · exact k q _ H' x (.yes hn hr) (.tup (SqT.of hq) (.cons (.str _) (.cons (.tup (SqT.of ht) (dpAll_lot _)) .nil)))
    · refine k q _ H' x (.no hS) (.tup (SqT.of hq) (.cons (.str _) (.cons ?_ (.cons ht .nil))))
      cases cut with
      | none => exact .non
      | some c => exact .int _
end
end Wd

set_option Elab.async false
set_option linter.all false
set_option maxRecDepth 100000
set_option maxHeartbeats 4000000
namespace Wd
open PySem PySem.Spec PyProof.Rows L2 Bx Gx











































section
/-! ### no more orders than sequences -/
def fct : Nat → Nat
  | 0 => 1
  | k + 1 => (k + 1) * fct k
theorem fct_pos : ∀ k, 0 < fct k
  | 0 => Nat.one_pos
  | k + 1 => Nat.mul_pos (Nat.succ_pos k) (fct_pos k)
theorem fct_mono {j k : Nat} (h : j ≤ k) : fct j ≤ fct k := by
  induction h with
  | refl => exact Nat.le_refl _
  | @step m _ ih => exact Nat.le_trans ih (Nat.le_trans (by rw [Nat.one_mul]; exact Nat.le_refl _ : fct m ≤ 1 * fct m) (Nat.mul_le_mul_right _ (Nat.succ_le_succ (Nat.zero_le _))))
theorem nextL_le {bs : List (Nat × Nat)} {n a b mask : Nat} (hb : b < n) (h : Betw n a b mask) : (nextL bs n b mask).length ≤ cnt n mask := by
  have hbm : b ∈ Mk.bits n (rest n mask) := Mk.mem_bits.mpr ⟨hb, (bit_in h.lt).mpr ⟨hb, h.two⟩⟩
  have nd2 : (Mk.bits n (rest n mask)).Nodup := (Mk.bits_pair _ _).imp Nat.ne_of_lt
  have hnb : b ∉ nextL bs n b mask := fun z => ((mem_nextL h.lt).mp z).2.1 rfl
  have := Mk.sub_le (l := b :: nextL bs n b mask) (m := Mk.bits n (rest n mask)) (List.nodup_cons.mpr ⟨hnb, nd2.filter _⟩) fun x hx => by
    rcases List.mem_cons.mp hx with rfl | hx
    · exact hbm
    · exact (List.mem_filter.mp hx).1
  rw [List.length_cons] at this
  unfold cnt
  omega
theorem sum_le_mul {α : Type} (f : α → Nat) (B : Nat) : ∀ l : List α, (∀ x ∈ l, f x ≤ B) → (l.map f).sum ≤ l.length * B
  | [], _ => by simp
  | x :: l, h => by
    rw [List.map_cons, List.sum_cons, List.length_cons, Nat.succ_mul]
    have h1 := h x List.mem_cons_self
    have h2 := sum_le_mul f B l fun y hy => h y (List.mem_cons_of_mem _ hy)
    omega
theorem wayC_le {bs : List (Nat × Nat)} {n a b : Nat} (hb : b < n) : ∀ (k mask : Nat), cnt n mask = k → Betw n a b mask → wayC bs n b mask ≤ fct k
  | 0, mask, e, h => by
    rw [wayC_last hb h ((cnt_zero hb h).mp e)]
    exact Nat.le_refl _
  | k + 1, mask, e, h => by
    rw [wayC_sum hb h fun z => by rw [(cnt_zero hb h).mpr z] at e; cases e]
    have hl := nextL_le (bs := bs) hb h
    refine Nat.le_trans (sum_le_mul _ (fct k) _ fun p hp => ?_) (Nat.mul_le_mul_right _ (by omega))
    have hc := cnt_next hb h hp
    exact wayC_le hb k _ (by omega) (h.add hp)
theorem wayC_few {bs : List (Nat × Nat)} {n a b : Nat} (hn : n ≤ 12) (ha : a < n) (hb : b < n) (hab : a ≠ b) : wayC bs n b (2 ^ a) < 100000000 := by
  have h1 := wayC_le (bs := bs) hb _ _ rfl (betw_start (n := n) ha hab)
  have h2 : cnt n (2 ^ a) ≤ 10 := by
    have := (cnt_start ha).resolve_right (by omega)
    omega
  exact Nat.lt_of_le_of_lt (Nat.le_trans h1 (fct_mono h2)) (by decide)
end
section
/-! ### orders as data (as in w4law) -/
theorem ordD_lot {bs : List (Nat × Nat)} {n a b : Nat} {row : List Nat} (h : OrdP bs n a b row) (hab : a ≠ b) : IsOrdD bs n a b (lotD row) := by
  obtain ⟨t, ht⟩ := h.hd
  obtain ⟨u, hu⟩ := h.ls
  cases u with
  | nil =>
    rw [hu] at ht
    injection ht with e1 _
    exact absurd e1.symm hab
  | cons x u =>
    rw [hu] at ht
    injection ht with e1 _
    subst e1
    exact ⟨u, by rw [hu]; rfl, by rw [hu] at h; exact h⟩
theorem lotD_inj {x y : List Nat} (h : lotD x = lotD y) : x = y := by
  unfold lotD at h
  injection h with h
  exact (List.map_inj_right fun a b e => by injection e with e; omega).mp h
/-- where there is an order no lot is shut -/
theorem OrdP.noShut {bs : List (Nat × Nat)} {n a b : Nat} {os : List Nat} (h : OrdP bs n a b os) : NoShut bs n a b := fun cut x hx hcut => by
  obtain ⟨u, v, e⟩ := List.append_of_mem (h.mem.mpr hx)
  have nd := h.nd
  rw [e, List.nodup_append] at nd
  by_cases hu : ∀ y ∈ u, some y ≠ cut
  · by_cases hv : v = []
    · obtain ⟨t, ht⟩ := h.ls
      have : x = b := by
        rw [e, hv] at ht
        have := congrArg List.getLast? ht
        rw [List.getLast?_append, List.getLast?_append] at this
        simpa using this
      exact ⟨b, .inr rfl, by rw [this]; exact .refl ⟨this ▸ hx, this ▸ hcut⟩⟩
    · have hf := h.fronts (pre := u ++ [x]) (suf := v) (by rw [e]; simp) (by simp) hv
      refine ⟨a, .inl rfl, (hf.2 x (by simp)).mono fun y hy => ⟨h.mem.mp (by rw [e]; simp only [List.mem_append, List.mem_cons, List.not_mem_nil, or_false] at hy ⊢; rcases hy with hy | hy <;> simp [hy]), ?_⟩⟩
      rcases List.mem_append.mp hy with z | z
      · exact hu y z
      · rw [List.mem_singleton.mp z]; exact hcut
  · have hu0 : u ≠ [] := fun z => hu fun y hy => by rw [z] at hy; cases hy
    have hb := h.backs (pre := u) (suf := x :: v) e hu0 (by simp)
    refine ⟨b, .inr rfl, (hb.2 x (by simp)).mono fun y hy => ⟨h.mem.mp (by rw [e]; exact List.mem_append_right _ hy), fun z => hu fun w hw e2 => ?_⟩⟩
    have ew : w = y := Option.some.inj (e2.trans z.symm)
    exact nd.2.2 w hw y hy ew
end
section
/-! ### slices, rows of numbers (as in y4law) -/
theorem sortable_ints (u : List Int) : PySem.W.Sortable (u.map PyData.int) := .inr fun d hd => by
  obtain ⟨p, _, rfl⟩ := List.mem_map.mp hd
  exact ⟨(fun z => nomatch z), fun xs z => nomatch z⟩
theorem alike_ints (u : List Int) : PySem.W.AllAlike (u.map PyData.int) := .of fun a b => by simp [PySem.W.alike]
theorem cut_to (xs : List V) (k : Nat) : L2.cutV xs none (some (k : Int)) = xs.take k := by
  unfold L2.cutV
  rw [HT.sIx_none, HT.sIx_nat, List.drop_zero, Nat.sub_zero]
  by_cases h : k ≤ xs.length
  · rw [Nat.min_eq_left h]
  · rw [Nat.min_eq_right (by omega), List.take_length, List.take_of_length_le (by omega)]
theorem cut_from (xs : List V) (k : Nat) : L2.cutV xs (some (k : Int)) none = xs.drop k := by
  unfold L2.cutV
  rw [HT.sIx_none, HT.sIx_nat]
  by_cases h : k ≤ xs.length
  · rw [Nat.min_eq_left h, List.take_of_length_le (by rw [List.length_drop]; omega)]
  · rw [Nat.min_eq_right (by omega), List.drop_length, List.drop_of_length_le (by omega)]
    simp
end
section
variable {K : PySem.W.Frag} {bs : List (Nat × Nat)} {n a b : Nat}
/-! ### ordered's answer, read -/
theorem tIf_via {tA : TT} {ta tb : TE} {σ : L2.St} {H : Hp} {Q : VK} (x : V) (h : ∀ Q' : VK, Q' x H → tIf tA ta tb σ H Q') (k : Q x H) : tIf tA ta tb σ H Q := h Q k
theorem sorted_nats {us vs : List Nat} {ns : List Int} (h : ns.Perm (us.map fun (p : Nat) => (p : Int))) (hs : ns.Pairwise (· ≤ ·)) (hv : us.Perm vs) (ha : vs.Pairwise (· < ·)) : ns = vs.map fun (p : Nat) => (p : Int) := by
  obtain ⟨xs, h1, rfl⟩ := perm_unmap (fun (p : Nat) => (p : Int)) h rfl
  have h2 := h1.trans hv
  have nd : xs.Pairwise (· ≠ ·) := h2.symm.nodup (ha.imp fun h => Nat.ne_of_lt h)
  have hx : xs.Pairwise (· < ·) := by
    rw [List.pairwise_map] at hs
    exact (hs.and nd).imp fun {a b} h => by omega
  rw [perm_uniq (R := fun (a b : Nat) => a < b) (fun a b h1 h2 => by omega) h2 hx ha]
/-- lists of places at addresses: each is a lot in some sequence -/
structure Heaped (H : Hp) (as : List Addr) (us vs : List (List Nat)) : Prop where
  la : as.length = vs.length
  lu : us.length = vs.length
  at_ : ∀ (i : Nat) (a : Addr) (u v : List Nat), as[i]? = some a → us[i]? = some u → vs[i]? = some v → H a = some (.lst (vsN u)) ∧ u.Perm v
theorem nodup_lenN {n : Nat} {ps : List Nat} (h : ps.Nodup) (lt : ∀ p ∈ ps, p < n) : ps.length ≤ n := Mk.nodup_le n ps h lt
theorem tIfS_no {t : TT} {A B : TS} {D : L2.Ends} {σ : L2.St} {H : Hp} (h : ∀ Q' : Bool → Hp → Prop, Q' false H → t σ H Q') (k : B D σ H) : tIfS t A B D σ H := h _ (by rw [if_neg Bool.false_ne_true]; exact k)
theorem neB_same (x : V) : (!decide (x = x)) = false := by simp
theorem nn_ref (t : Addr) : decide (V.ref t = V.non) = false := decide_eq_false fun z => nomatch z
theorem adj_sup {bs cs : List (Nat × Nat)} (h : ∀ p ∈ bs, p ∈ cs) (p q : Nat) (a : Mk.adj bs p q = true) : Mk.adj cs p q = true := by
  unfold Mk.adj at a ⊢
  rw [List.contains_iff_mem] at a ⊢
  exact h _ a
theorem sl_tail {H : Hp} {t : Addr} {x : V} {ys : List V} {Q : VK} (h : SqT K H t (x :: ys)) (k : ∀ p H', Ext H H' → SqT K H' p ys → Q (.ref p) H') : rSlA K (.ref t) (some 1) none H Q := by
  have e : L2.cutV (x :: ys) (some ((1 : Nat) : Int)) none = ys := by rw [cut_from]; rfl
  refine ⟨t, x :: ys, rfl, h, fun z => k t H (.refl H) ?_, fun _ p hp => ?_⟩
  · have e2 : L2.cutV (x :: ys) (some ((1 : Nat) : Int)) none = x :: ys := by
      unfold L2.cutV
      have z1 : HT.sIx (x :: ys).length 0 (some ((1 : Nat) : Int)) = 0 := z.1
      rw [z1, z.2, List.drop_zero, Nat.sub_zero, List.take_length]
    rw [← e, e2]
    exact h
  · have e3 : L2.cutV (x :: ys) (some (1 : Int)) none = ys := e
    rw [e3]
    exact k p _ (.new hp) (SqT.of upd_same)
theorem of_dp_cut {H : Hp} {v : V} {cut : Option Nat} (h : Dp K H v (cutD cut)) : v = cutV cut := by
  cases cut with
  | none => cases h; rfl
  | some c => cases h; rfl
theorem ans_read {H : Hp} {q : Addr} {d : PyData} (hA : IsAns n bs a b d) (h : Dp K H (.ref q) d) :
    (0 < wayC bs n b (2 ^ a) ∧ ∃ x, SqT K H q [V.str "yes", x]) ∨ (∃ (j : Nat) (cut : Option Nat) (m : Nat) (t : Addr), ShutAt bs n (Mk.mask [a, b]) j cut m ∧ SqT K H q [V.str "no", cutV cut, .ref t] ∧ SqT K H t (vsN (Mk.bits n m))) := by
  cases hA with
  | yes h1 h2 =>
    obtain ⟨q', xs, e, hq, hx⟩ := dp_tup h
    injection e with e
    subst e
    cases hx with
    | cons g1 hx =>
      cases hx with
      | cons g2 hx =>
        cases hx
        cases g1
        exact .inl ⟨yes_way h2, _, hq⟩
  | no h1 =>
    obtain ⟨q', xs, e, hq, hx⟩ := dp_tup h
    injection e with e
    subst e
    cases hx with
    | cons g1 hx =>
      cases hx with
      | cons g2 hx =>
        cases hx with
        | cons g3 hx =>
          cases hx
          cases g1
          obtain ⟨t, rfl, ht⟩ := dp_lot g3
          obtain rfl := of_dp_cut g2
          exact .inr ⟨_, _, _, t, h1, hq, ht⟩
end
end Wd

set_option Elab.async false
set_option linter.all false
set_option maxRecDepth 100000
set_option maxHeartbeats 4000000
namespace Wd
open PySem PySem.Spec PyProof.Rows L2 Bx Gx











































section
variable {P : Program} {w : World} {K : PySem.W.Frag} {mg : Str → Option Value} {base : Heap}
/-! ### fairest's and two_wards' answers as one datum each -/
inductive IsFair (fs : List Int) (bs : List (Nat × Nat)) (a b : Nat) : PyData → Prop
  | no : partsOf fs.length bs a b = [] → IsFair fs bs a b .none
  | yes {m : Nat} : Best fs (partsOf fs.length bs a b) m → IsFair fs bs a b (triD fs m)
theorem IsFair.uniq {fs : List Int} {bs : List (Nat × Nat)} {a b : Nat} {d e : PyData} (h : IsFair fs bs a b d) (h' : IsFair fs bs a b e) : d = e := by
  cases h with
  | no h1 =>
    cases h' with
    | no h2 => rfl
    | yes h2 =>
      have := h2.mem
      rw [h1] at this
      cases this
  | yes h1 =>
    cases h' with
    | no h2 =>
      have := h1.mem
      rw [h2] at this
      cases this
    | yes h2 => exact h1.uniq h2 fun _ => Iff.rfl
def spFairD (K : PySem.W.Frag) (T1 T2 : Addr) : Sp := fun vs H Q _ => ∃ (l : V) (fs : List Int) (bs : List (Nat × Nat)) (a b : Nat), vs = [l, .int (a : Int), .int (b : Int)] ∧ Dp K H l (landD fs bs) ∧ LandOk fs bs ∧ a < fs.length ∧ b < fs.length ∧ a ≠ b ∧ TabG H T1 ∧ TabG H T2 ∧
  ∀ (v : V) (d : PyData) (H' : Hp), Ext H H' → IsFair fs bs a b d → Dp K H' v d → Q v H'
theorem fair_d {k : Nat} {f T1 T2 : Addr} {fd : FuncData} (c : FnOk P w K mg base CX0 k f fd ["land", "head", "other_head"] (spFairest K T1 T2)) : FnOk P w K mg base CX0 k f fd ["land", "head", "other_head"] (spFairD K T1 T2) :=
  c.imp fun vs H Q E h => by
    obtain ⟨l, fs, bs, a, b, rfl, h1, h2, h3, h4, h5, h6, h7, k⟩ := h
    exact ⟨l, fs, bs, a, b, rfl, h1, h2, h3, h4, h5, h6, h7, fun e H' x => k _ _ H' x (.no e) .non, fun v m H' x hB hd => k v _ H' x (.yes hB) hd⟩
theorem IsFair.noL {fs : List Int} {bs : List (Nat × Nat)} {a b : Nat} {d : PyData} (h : IsFair fs bs a b d) : noL d = true := by
  cases h with
  | no _ => rfl
  | yes _ => exact noL_tri fs _
theorem IsAns.noL {n : Nat} {bs : List (Nat × Nat)} {a b : Nat} {d : PyData} (h : IsAns n bs a b d) : noL d = true := by
  cases h with
  | yes _ _ =>
    show noLs [_, _] = true
    rw [noLs, noLs, noL_lotD]
    rfl
  | @no _ cut _ _ =>
    show noLs [_, _, _] = true
    rw [noLs, noLs, noLs, noL_lotD]
    cases cut <;> rfl
inductive IsTwo (n : Nat) (bs : List (Nat × Nat)) (a b s : Nat) : PyData → Prop
  | no : sized n bs a b s = [] → IsTwo n bs a b s .none
  | yes {m : Nat} : m ∈ sized n bs a b s → (∀ m' ∈ sized n bs a b s, PySem.W.dataLt (partD n m') (partD n m) = false) → IsTwo n bs a b s (partD n m)
theorem eqv_part {n m m' : Nat} (h : PyData.eqv (partD n m) (partD n m') = true) : partD n m = partD n m' := by
  have h2 : PyData.eqvAll (wardsD n m) (wardsD n m') = true := by simpa [PyData.eqv] using h
  rw [PySem.W.eqv_all_cons, Bool.and_eq_true] at h2
  obtain ⟨h3, h2⟩ := h2
  rw [PySem.W.eqv_all_cons, Bool.and_eq_true] at h2
  have e2 := eqv_lotD h3
  have e3 := eqv_lotD h2.1
  show PyData.tuple [lotD (Mk.bits n m), lotD (Mk.bits n (rest n m))] = PyData.tuple [lotD (Mk.bits n m'), lotD (Mk.bits n (rest n m'))]
  rw [e2, e3]
theorem IsTwo.uniq {n : Nat} {bs : List (Nat × Nat)} {a b s : Nat} {d e : PyData} (h : IsTwo n bs a b s d) (h' : IsTwo n bs a b s e) : d = e := by
  cases h with
  | no h1 =>
    cases h' with
    | no h2 => rfl
    | yes h2 => rw [h1] at h2; cases h2
  | yes h1 g1 =>
    cases h' with
    | no h2 => rw [h2] at h1; cases h1
    | yes h2 g2 => exact eqv_part (lt_tri (alike_part n _ _) (g2 _ h1) (g1 _ h2))
def spTwoD (K : PySem.W.Frag) (T1 : Addr) : Sp := fun vs H Q _ => ∃ (l : V) (fs : List Int) (bs : List (Nat × Nat)) (a b s : Nat), vs = [l, .int (a : Int), .int (b : Int), .int (s : Int)] ∧ Dp K H l (landD fs bs) ∧ LandOk fs bs ∧ a < fs.length ∧ b < fs.length ∧ a ≠ b ∧ 1 ≤ s ∧ s < fs.length ∧ TabG H T1 ∧
  ∀ (v : V) (d : PyData) (H' : Hp), Ext H H' → IsTwo fs.length bs a b s d → Dp K H' v d → Q v H'
theorem two_d {k : Nat} {f T1 : Addr} {fd : FuncData} (c : FnOk P w K mg base CX0 k f fd ["land", "head", "other_head", "size"] (spTwoWE K T1)) : FnOk P w K mg base CX0 k f fd ["land", "head", "other_head", "size"] (spTwoD K T1) :=
  c.imp fun vs H Q E h => by
    obtain ⟨l, fs, bs, a, b, s, rfl, h1, h2, h3, h4, h5, h6, h7, h8, k⟩ := h
    exact ⟨l, fs, bs, a, b, s, rfl, h1, h2, h3, h4, h5, h6, h7, h8, fun e H' x => k _ _ H' x (.no e) .non, fun v m H' x h1 h2 hd => k v _ H' x (.yes h1 h2) hd⟩
theorem sh_int0 (i : Int) : Sh 0 (.int i) := ⟨by simp [PyData.canLay0], by simp [PyData.depth]⟩
theorem sh_non (n : Nat) : Sh n .none := ⟨by simp [PyData.canLay0], by simp [PyData.depth]⟩
theorem shUp {n m : Nat} {d : PyData} (h : Sh n d) (le : n ≤ m) : Sh m d := ⟨h.lay, Nat.le_trans h.dep le⟩
theorem sh_lot1 (u : List Nat) : Sh 1 (lotD u) := .tup fun d hd => by
  obtain ⟨p, _, rfl⟩ := List.mem_map.mp hd
  exact sh_int0 _
theorem sm_lotY {u : List Nat} (h : u.length ≤ 500) : smD (lotD u) = true := by
  have hz : ∀ l : List Nat, smDs (l.map fun (p : Nat) => PyData.int (p : Int)) = true := fun l => by
    induction l with
    | nil => rfl
    | cons p r ih => rw [List.map_cons, smDs, ih]; rfl
  unfold lotD
  rw [smD, hz, List.length_map, decide_eq_true h]
  rfl
theorem IsFair.fine {fs : List Int} {bs : List (Nat × Nat)} {a b : Nat} {d : PyData} (hn : fs.length ≤ 12) (h : IsFair fs bs a b d) : Sh 2 d ∧ smD d = true := by
  cases h with
  | no _ => exact ⟨sh_non 2, rfl⟩
  | @yes m _ =>
    have b1 := Mk.bits_len fs.length m
    have b2 := Mk.bits_len fs.length (rest fs.length m)
    refine ⟨.tup fun d hd => ?_, ?_⟩
    · simp only [List.mem_cons, List.not_mem_nil, or_false] at hd
      rcases hd with rfl | rfl | rfl
      · exact shUp (sh_int0 _) (by decide)
      · exact sh_lot1 _
      · exact sh_lot1 _
    · simp only [triD, wardsD, smD, smDs, sm_lotY (show (Mk.bits fs.length m).length ≤ 500 by omega), sm_lotY (show (Mk.bits fs.length (rest fs.length m)).length ≤ 500 by omega)]
      rfl
theorem IsTwo.fine {n : Nat} {bs : List (Nat × Nat)} {a b s : Nat} {d : PyData} (hn : n ≤ 12) (h : IsTwo n bs a b s d) : Sh 2 d ∧ smD d = true := by
  cases h with
  | no _ => exact ⟨sh_non 2, rfl⟩
  | @yes m _ _ =>
    have b1 := Mk.bits_len n m
    have b2 := Mk.bits_len n (rest n m)
    refine ⟨.tup fun d hd => ?_, ?_⟩
    · simp only [List.mem_cons, List.not_mem_nil, or_false] at hd
      rcases hd with rfl | rfl
      · exact sh_lot1 _
      · exact sh_lot1 _
    · simp only [partD, wardsD, smD, smDs, sm_lotY (show (Mk.bits n m).length ≤ 500 by omega), sm_lotY (show (Mk.bits n (rest n m)).length ≤ 500 by omega)]
      rfl
theorem IsAns.fine {n : Nat} {bs : List (Nat × Nat)} {a b : Nat} {d : PyData} (hn : n ≤ 12) (hbs : Mk.Bs n bs) (ha : a < n) (hb : b < n) (hab : a ≠ b) (h : IsAns n bs a b d) : Sh 2 d ∧ smD d = true := by
  have hstr : ∀ (n : Nat) (z : Str), PyData.canLay0 (.str z) = true → Sh n (.str z) := fun n z hz => ⟨hz, by simp [PyData.depth]⟩
  cases h with
  | @yes r _ hr =>
    obtain ⟨mid, _, hO⟩ := compl_ord hbs ha hb hab (List.mem_of_getElem? hr)
    have hl := hO.pm.length_eq
    rw [List.length_range] at hl
    refine ⟨.tup fun d hd => ?_, ?_⟩
    · simp only [List.mem_cons, List.not_mem_nil, or_false] at hd
      rcases hd with rfl | rfl
      · exact hstr _ _ (by simp [PyData.canLay0]; decide +kernel)
      · exact sh_lot1 _
    · simp [smD, smDs, sm_lotY (show (a :: r).length ≤ 500 by omega)]
  | @no _ cut m _ =>
    have b1 := Mk.bits_len n m
    refine ⟨.tup fun d hd => ?_, ?_⟩
    · simp only [List.mem_cons, List.not_mem_nil, or_false] at hd
      rcases hd with rfl | rfl | rfl
      · exact hstr _ _ (by simp [PyData.canLay0]; decide +kernel)
      · cases cut with
        | none => exact sh_non _
        | some c => exact shUp (sh_int0 _) (by decide)
      · exact sh_lot1 _
    · cases cut <;> simp [cutD, smD, smDs, sm_lotY (show (Mk.bits n m).length ≤ 500 by omega)]
theorem fine3 {d e g : PyData} (h1 : Sh 2 d ∧ smD d = true) (h2 : Sh 2 e ∧ smD e = true) (h3 : Sh 2 g ∧ smD g = true) : Sh 3 (.list [d, e, g]) ∧ smD (.list [d, e, g]) = true :=
  ⟨.lst fun x hx => by
    simp only [List.mem_cons, List.not_mem_nil, or_false] at hx
    rcases hx with rfl | rfl | rfl
    · exact h1.1
    · exact h2.1
    · exact h3.1, by simp [smD, smDs, h1.2, h2.2, h3.2]⟩
theorem fine2 {d e : PyData} (h1 : Sh 2 d ∧ smD d = true) (h2 : Sh 2 e ∧ smD e = true) : Sh 3 (.list [d, e]) ∧ smD (.list [d, e]) = true :=
  ⟨.lst fun x hx => by
    simp only [List.mem_cons, List.not_mem_nil, or_false] at hx
    rcases hx with rfl | rfl
    · exact h1.1
    · exact h2.1, by simp [smD, smDs, h1.2, h2.2]⟩
/-- what is due of all folk times a number -/
def dueD (c : Int) : PyData → PyData
  | .tuple (.int g :: r) => .tuple (.int (c * g) :: r)
  | d => d
theorem IsFair.mul {fs : List Int} {bs : List (Nat × Nat)} {a b : Nat} {c : Int} (hc : 1 ≤ c) {d : PyData} (h : IsFair fs bs a b d) : IsFair (fs.map (c * ·)) bs a b (dueD c d) := by
  have hl : (fs.map (c * ·)).length = fs.length := List.length_map _
  cases h with
  | no h1 => exact .no (by rw [hl]; exact h1)
  | @yes m h1 =>
    have h2 : Best (fs.map (c * ·)) (partsOf (fs.map (c * ·)).length bs a b) m := by rw [hl]; exact (best_mul hc).mpr h1
    have h3 := IsFair.yes h2
    have e : triD (fs.map (c * ·)) m = dueD c (triD fs m) := by
      show PyData.tuple (.int (gapM (fs.map (c * ·)) m) :: wardsD (fs.map (c * ·)).length m) = .tuple (.int (c * gapM fs m) :: wardsD fs.length m)
      rw [gapM_mul hc, hl]
    rwa [e] at h3
end
end Wd

set_option Elab.async false
set_option linter.all false
set_option maxRecDepth 100000
set_option maxHeartbeats 4000000
namespace Wd
open PySem PySem.Spec PyProof.Rows L2 Bx Gx











































section
variable {bs : List (Nat × Nat)} {n a b : Nat}
/-! ### heads exchanged; a place with one neighbour alone -/
theorem wayC_rev_le (hbs : Mk.Bs n bs) (ha : a < n) (hb : b < n) (hab : a ≠ b) : wayC bs n b (2 ^ a) ≤ wayC bs n a (2 ^ b) := by
  unfold wayC
  have nd := complF_nodup (bs := bs) hb (betw_start ha hab) rfl
  have key : ∀ r ∈ complF bs n b (cnt n (2 ^ a)) (2 ^ a), (a :: r).reverse = b :: (a :: r).reverse.tail ∧ (a :: r).reverse.tail ∈ complF bs n a (cnt n (2 ^ b)) (2 ^ b) := fun r hr => by
    obtain ⟨mid, _, hO⟩ := compl_ord hbs ha hb hab hr
    have hV := hO.rev
    obtain ⟨t, ht⟩ := hV.hd
    have e : (a :: r).reverse.tail = t := by rw [ht]; rfl
    rw [e]
    refine ⟨ht, ord_compl hbs hb ha (Ne.symm hab) ?_⟩
    rw [← ht]
    exact hV
  have nd2 : ((complF bs n b (cnt n (2 ^ a)) (2 ^ a)).map fun r => (a :: r).reverse.tail).Nodup := by
    rw [List.nodup_iff_pairwise_ne, List.pairwise_map]
    refine (List.nodup_iff_pairwise_ne.mp nd).imp_of_mem fun {u v} hu hv hne e => hne ?_
    have e2 : (a :: u).reverse = (a :: v).reverse := by rw [(key u hu).1, (key v hv).1, e]
    have := List.reverse_inj.mp e2
    injection this
  have := Tu.len_sub nd2 (D := complF bs n a (cnt n (2 ^ b)) (2 ^ b)) fun x hx => by
    obtain ⟨r, hr, rfl⟩ := List.mem_map.mp hx
    exact (key r hr).2
  rwa [List.length_map] at this
theorem wayC_rev (hbs : Mk.Bs n bs) (ha : a < n) (hb : b < n) (hab : a ≠ b) : wayC bs n a (2 ^ b) = wayC bs n b (2 ^ a) :=
  Nat.le_antisymm (wayC_rev_le hbs hb ha (Ne.symm hab)) (wayC_rev_le hbs ha hb hab)
theorem size_or {m p : Nat} (hm : m < 2 ^ n) (hp : p < n) (h : m.testBit p = false) : (Mk.bits n (m ||| 2 ^ p)).length = (Mk.bits n m).length + 1 := by
  have e : (Mk.bits n (m ||| 2 ^ p)).Perm (p :: Mk.bits n m) := by
    refine (List.perm_ext_iff_of_nodup ((Mk.bits_pair _ _).imp Nat.ne_of_lt) (List.nodup_cons.mpr ⟨fun z => ?_, (Mk.bits_pair _ _).imp Nat.ne_of_lt⟩)).mpr fun x => ?_
    · rw [(Mk.mem_bits.mp z).2] at h
      cases h
    · rw [List.mem_cons, Mk.mem_bits, Mk.mem_bits, or_bit, Bool.or_eq_true, decide_eq_true_eq]
      constructor
      · rintro ⟨h1, h2 | h2⟩
        · exact .inr ⟨h1, h2⟩
        · exact .inl h2.symm
      · rintro (rfl | ⟨h1, h2⟩)
        · exact ⟨hp, .inr rfl⟩
        · exact ⟨h1, .inl h2⟩
  rw [e.length_eq, List.length_cons]
theorem size_rest (m : Nat) : (Mk.bits n m).length + (Mk.bits n (rest n m)).length = n := by
  rw [← bits_rest]
  have h : ∀ (f : Nat → Bool) (l : List Nat), (l.filter f).length + (l.filter fun k => !f k).length = l.length := fun f l => by
    induction l with
    | nil => rfl
    | cons x l ih =>
      rw [List.filter_cons, List.filter_cons]
      cases f x with
      | true =>
        rw [if_pos rfl]
        show (x :: l.filter f).length + (if (!true) = true then _ else _ : List Nat).length = _
        rw [if_neg (by decide), List.length_cons, List.length_cons]
        omega
      | false =>
        rw [if_neg (by decide)]
        show (l.filter f).length + (if (!false) = true then _ else _ : List Nat).length = _
        rw [if_pos (by decide), List.length_cons, List.length_cons]
        omega
  have := h (fun k => m.testBit k) (List.range n)
  rw [List.length_range] at this
  exact this
theorem part_rev (ha : a < n) (hb : b < n) {m : Nat} (hm : m ∈ partsOf n bs a b) : rest n m ∈ partsOf n bs b a := by
  obtain ⟨h1, h2⟩ := mem_partsOf.mp hm
  have hm2 : m < 2 ^ n := by omega
  have o1 : (rest n m).testBit b = true := by rw [bit_rest hb, h2.two]; rfl
  have o2 : (rest n m).testBit a = false := by rw [bit_rest ha, h2.one]; rfl
  refine mem_partsOf.mpr ⟨?_, ?_, o1, o2, h2.hang2, by rw [rest_rest hm2]; exact h2.hang⟩
  · have := rest_lt hm2
    rcases Nat.lt_or_ge (rest n m) (2 ^ n - 1) with h | h
    · exact h
    · exfalso
      have e : rest n m = 2 ^ n - 1 := by omega
      rw [e, bit_whole, decide_eq_true ha] at o2
      cases o2
  · rcases Nat.eq_zero_or_pos (rest n m) with h | h
    · rw [h, Nat.zero_testBit] at o1
      cases o1
    · exact h
theorem sizeC_rev_le (ha : a < n) (hb : b < n) {s : Nat} (hs : s ≤ n) : sizeC n bs a b s ≤ sizeC n bs b a (n - s) := by
  unfold sizeC
  have nd2 : (((partsOf n bs a b).filter fun m => decide ((Mk.bits n m).length = s)).map (rest n)).Nodup := by
    rw [List.nodup_iff_pairwise_ne, List.pairwise_map]
    refine (List.nodup_iff_pairwise_ne.mp ((partsOf_nd n bs a b).filter _)).imp_of_mem fun {u v} hu hv hne e => hne ?_
    have h1 := (mem_partsOf.mp (List.mem_filter.mp hu).1).1
    have h2 := (mem_partsOf.mp (List.mem_filter.mp hv).1).1
    rw [← rest_rest (show u < 2 ^ n by omega), ← rest_rest (show v < 2 ^ n by omega), e]
  have := Tu.len_sub nd2 (D := (partsOf n bs b a).filter fun m => decide ((Mk.bits n m).length = n - s)) fun x hx => by
    obtain ⟨m, hm, rfl⟩ := List.mem_map.mp hx
    obtain ⟨h1, h2⟩ := List.mem_filter.mp hm
    refine List.mem_filter.mpr ⟨part_rev ha hb h1, decide_eq_true ?_⟩
    have := of_decide_eq_true h2
    have := size_rest (n := n) m
    omega
  rwa [List.length_map] at this
theorem sizeC_rev (ha : a < n) (hb : b < n) {s : Nat} (hs : s ≤ n) : sizeC n bs b a s = sizeC n bs a b (n - s) := by
  have h1 := sizeC_rev_le (bs := bs) ha hb (s := n - s) (by omega)
  have h2 := sizeC_rev_le (bs := bs) hb ha hs
  rw [show n - (n - s) = s by omega] at h1
  omega
theorem cnts_rev (ha : a < n) (hb : b < n) : cntsOf n bs b a = (cntsOf n bs a b).reverse := by
  unfold cntsOf
  refine List.ext_getElem (by simp) fun i h1 h2 => ?_
  rw [List.length_map, List.length_range] at h1
  rw [List.getElem_map, List.getElem_reverse, List.getElem_map, List.getElem_range, List.getElem_range, sizeC_rev ha hb (by omega)]
  congr 2
  rw [List.length_map, List.length_range]
  omega
theorem lone_none {t u : Nat} {os : List Nat} (ht : t < n) (hta : t ≠ a) (htb : t ≠ b) (h : ∀ q, Mk.adj bs t q = true → q = u) : ¬ OrdP bs n a b os := fun hO => by
  obtain ⟨pre, suf, e⟩ := List.append_of_mem (hO.mem.mpr ht)
  have h1 : pre ≠ [] := fun z => by
    obtain ⟨r, hr⟩ := hO.hd
    rw [z, hr] at e
    injection e with e _
    exact hta e.symm
  have h2 : suf ≠ [] := fun z => by
    obtain ⟨r, hr⟩ := hO.ls
    rw [z, hr] at e
    have := congrArg List.reverse e
    rw [List.reverse_append, List.reverse_append] at this
    injection this with this _
    exact htb this.symm
  obtain ⟨⟨q, g1, g2⟩, q', g3, g4⟩ := hO.mid pre t suf e h1 h2
  have e1 := h q g2
  have e2 := h q' g4
  subst e1
  subst e2
  have nd := hO.nd
  rw [e, List.nodup_append] at nd
  exact nd.2.2 _ g1 _ (List.mem_cons_of_mem _ g3) rfl
end
section
/-! ### lands made by a rule -/
def bsC (n : Nat) (e : Nat → Nat → Bool) : List (Nat × Nat) := (List.range n).flatMap fun i => ((List.range n).filter fun j => decide (i < j) && e i j).map fun j => (i, j)
variable {n : Nat} {e : Nat → Nat → Bool}
theorem mem_bsC {p : Nat × Nat} : p ∈ bsC n e ↔ p.1 < p.2 ∧ p.2 < n ∧ e p.1 p.2 = true := by
  unfold bsC
  rw [List.mem_flatMap]
  constructor
  · rintro ⟨i, _, h⟩
    obtain ⟨j, hj, rfl⟩ := List.mem_map.mp h
    obtain ⟨h1, h2⟩ := List.mem_filter.mp hj
    obtain ⟨h3, h4⟩ := Bool.and_eq_true_iff.mp h2
    exact ⟨of_decide_eq_true h3, List.mem_range.mp h1, h4⟩
  · rintro ⟨h1, h2, h3⟩
    exact ⟨p.1, List.mem_range.mpr (by omega), List.mem_map.mpr ⟨p.2, List.mem_filter.mpr ⟨List.mem_range.mpr h2, by rw [decide_eq_true h1, h3]; rfl⟩, rfl⟩⟩
theorem asc_bsC : Tu.AscP (bsC n e) := by
  unfold bsC Tu.AscP
  rw [List.pairwise_flatMap]
  refine ⟨fun i _ => ?_, List.pairwise_lt_range.imp fun {i j} hij x hx y hy => ?_⟩
  · rw [List.pairwise_map]
    exact (List.pairwise_lt_range.filter _).imp fun h => .inr ⟨rfl, h⟩
  · obtain ⟨_, _, rfl⟩ := List.mem_map.mp hx
    obtain ⟨_, _, rfl⟩ := List.mem_map.mp hy
    exact .inl hij
theorem bs_bsC : Mk.Bs n (bsC n e) := fun b hb => ⟨(mem_bsC.mp hb).1, (mem_bsC.mp hb).2.1⟩
theorem adj_bsC {x y : Nat} (hx : x < n) (hy : y < n) : Mk.adj (bsC n e) x y = true ↔ (x < y ∧ e x y = true) ∨ (y < x ∧ e y x = true) := by
  unfold Mk.adj
  rw [List.contains_iff_mem, mem_bsC]
  rcases Nat.lt_trichotomy x y with h | h | h
  · rw [Nat.min_eq_left (by omega), Nat.max_eq_right (by omega)]
    exact ⟨fun z => .inl ⟨z.1, z.2.2⟩, fun z => z.elim (fun z => ⟨z.1, hy, z.2⟩) fun z => absurd z.1 (by omega)⟩
  · subst h
    rw [Nat.min_self, Nat.max_self]
    exact ⟨fun z => absurd z.1 (Nat.lt_irrefl _), fun z => absurd (z.elim (·.1) (·.1)) (Nat.lt_irrefl _)⟩
  · rw [Nat.min_eq_right (by omega), Nat.max_eq_left (by omega)]
    exact ⟨fun z => .inr ⟨z.1, z.2.2⟩, fun z => z.elim (fun z => absurd z.1 (by omega)) fun z => ⟨z.1, hx, z.2⟩⟩
/-- the land's borders led along, out of any list of the same borders -/
theorem iso_bsC {π ρ : Nat → Nat} {ps cs : List (Nat × Nat)} (t : Is.Tw n π ρ) (hp : ∀ p, p ∈ ps ↔ p.1 < p.2 ∧ p.2 < n ∧ e p.1 p.2 = true) (hasc : Tu.AscP cs) (hm : ∀ p, p ∈ cs ↔ p ∈ ps.map (Is.prM π)) : Is.Iso n π ρ (bsC n e) cs :=
  ⟨t, asc_bsC, hasc, bs_bsC, fun c hc => by
    obtain ⟨b, hb, rfl⟩ := List.mem_map.mp ((hm c).mp hc)
    have := (hp b).mp hb
    exact Is.prM_lt t this.1 this.2.1, fun c => by
    rw [hm, List.mem_map]
    constructor
    · rintro ⟨b, hb, rfl⟩
      exact ⟨b, mem_bsC.mpr ((hp b).mp hb), rfl⟩
    · rintro ⟨b, hb, rfl⟩
      exact ⟨b, (hp b).mpr (mem_bsC.mp hb), rfl⟩⟩
/-! ### mixes of two rows -/
def mix : Nat → Nat → Nat
  | 0, _ => 1
  | _ + 1, 0 => 1
  | a + 1, b + 1 => mix a (b + 1) + mix (a + 1) b
theorem mix_zero (a : Nat) : mix a 0 = 1 := by cases a <;> simp [mix]
theorem sum_permN {l m : List Nat} (h : l.Perm m) : l.sum = m.sum := by
  induction h with
  | nil => rfl
  | cons x _ ih => rw [List.sum_cons, List.sum_cons, ih]
  | swap x y l => rw [List.sum_cons, List.sum_cons, List.sum_cons, List.sum_cons]; omega
  | trans _ _ h1 h2 => rw [h1, h2]
theorem nextL_nd {bs : List (Nat × Nat)} {b m : Nat} : (nextL bs n b m).Nodup := by
  unfold nextL
  exact ((Mk.bits_pair _ _).imp Nat.ne_of_lt : (Mk.bits n (rest n m)).Nodup).filter _
end
section
variable {bs : List (Nat × Nat)} {n i j p q : Nat}
/-! ### a ring: orders are mixes of two rows -/
def Rg (n x y : Nat) : Prop := y = x + 1 ∨ x = y + 1 ∨ (x = 0 ∧ y + 1 = n) ∨ (y = 0 ∧ x + 1 = n)
/-- a ring's place is in the part that goes x places on from i, y places back -/
def RB (n i j x y t : Nat) : Prop := t = i ∨ (i < t ∧ t < j ∧ t ≤ i + x) ∨ (t < i ∧ i ≤ t + y) ∨ (j < t ∧ t < n ∧ i + n ≤ t + y)
structure RM (n i j x y m : Nat) : Prop where
  lt : m < 2 ^ n
  b : ∀ t, m.testBit t = true ↔ RB n i j x y t
def OutP (n i u t : Nat) : Prop := (u ≤ i ∧ t + u = i) ∨ (i < u ∧ t + u = i + n)
structure RingN (bs : List (Nat × Nat)) (n i j p q : Nat) : Prop where
  bd : Mk.Bs n bs
  r : ∀ x y, x < n → y < n → (Mk.adj bs x y = true ↔ Rg n x y)
  hp : i + p + 1 = j
  hq : p + q + 2 = n
  hj : j < n
  n3 : 3 ≤ n
theorem RM.no {x y m t : Nat} (M : RM n i j x y m) : m.testBit t = false ↔ ¬ RB n i j x y t := by
  rw [← M.b]
  cases m.testBit t <;> simp
theorem RM.inn (R : RingN bs n i j p q) {x y m : Nat} (M : RM n i j x y m) (hx : x < p) : RM n i j (x + 1) y (m ||| 2 ^ (i + x + 1)) := by
  have h1 := R.hp; have h2 := R.hq; have h3 := R.hj
  refine ⟨Nat.or_lt_two_pow M.lt (Nat.pow_lt_pow_right (by decide) (by omega)), fun t => ?_⟩
  rw [or_bit, Bool.or_eq_true, decide_eq_true_eq, M.b]
  unfold RB
  omega
theorem RM.out (R : RingN bs n i j p q) {x y m t0 : Nat} (M : RM n i j x y m) (hy : y < q) (ht : OutP n i (y + 1) t0) : RM n i j x (y + 1) (m ||| 2 ^ t0) := by
  have h1 := R.hp; have h2 := R.hq; have h3 := R.hj
  have ht2 := ht
  unfold OutP at ht2
  refine ⟨Nat.or_lt_two_pow M.lt (Nat.pow_lt_pow_right (by decide) (by omega)), fun t => ?_⟩
  rw [or_bit, Bool.or_eq_true, decide_eq_true_eq, M.b]
  unfold RB
  rcases ht2 with ht2 | ht2 <;> omega
theorem ring_next (R : RingN bs n i j p q) {x y m t : Nat} (M : RM n i j x y m) (hx : x ≤ p) (hy : y ≤ q) : t ∈ nextL bs n j m ↔ (x < p ∧ t = i + x + 1) ∨ (y < q ∧ OutP n i (y + 1) t) := by
  have h1 := R.hp; have h2 := R.hq; have h3 := R.hj; have h4 := R.n3
  rw [mem_nextL M.lt, M.no]
  constructor
  · rintro ⟨⟨ht, hn⟩, htj, ⟨a, ha, hA⟩, ⟨c, hc, hcn, hC⟩⟩
    have han := Mk.lt_of_bit M.lt ha
    have hA := (R.r t a ht han).mp hA
    have hC := (R.r t c ht hc).mp hC
    have ha := (M.b a).mp ha
    have hcn := M.no.mp hcn
    unfold RB at hn ha hcn
    unfold Rg at hA hC
    unfold OutP
    by_cases c1 : t < i
    · right
      rcases hA with hA | hA | hA | hA <;> rcases hC with hC | hC | hC | hC <;> omega
    · by_cases c2 : t < j
      · left
        rcases hA with hA | hA | hA | hA <;> rcases hC with hC | hC | hC | hC <;> omega
      · right
        rcases hA with hA | hA | hA | hA <;> rcases hC with hC | hC | hC | hC <;> omega
  · rintro (⟨hxp, rfl⟩ | ⟨hyq, ht⟩)
    · refine ⟨⟨by omega, by unfold RB; omega⟩, by omega, ⟨i + x, (M.b _).mpr (by unfold RB; omega), (R.r _ _ (by omega) (by omega)).mpr (by unfold Rg; omega)⟩, ⟨i + x + 2, by omega, M.no.mpr (by unfold RB; omega), (R.r _ _ (by omega) (by omega)).mpr (by unfold Rg; omega)⟩⟩
    · unfold OutP at ht
      have htn : t < n := by omega
      have hnb : ¬ RB n i j x y t := by unfold RB; omega
      refine ⟨⟨htn, hnb⟩, by omega, ?_, ?_⟩
      · by_cases c : t + 1 = n
        · exact ⟨0, (M.b _).mpr (by unfold RB; omega), (R.r _ _ htn (by omega)).mpr (by unfold Rg; omega)⟩
        · exact ⟨t + 1, (M.b _).mpr (by unfold RB; omega), (R.r _ _ htn (by omega)).mpr (by unfold Rg; omega)⟩
      · by_cases c : t = 0
        · exact ⟨n - 1, by omega, M.no.mpr (by unfold RB; omega), (R.r _ _ htn (by omega)).mpr (by unfold Rg; omega)⟩
        · exact ⟨t - 1, by omega, M.no.mpr (by unfold RB; omega), (R.r _ _ htn (by omega)).mpr (by unfold Rg; omega)⟩
theorem outP_ex (R : RingN bs n i j p q) {u : Nat} (hu : u ≤ q) : ∃ t, OutP n i u t := by
  have h1 := R.hp; have h2 := R.hq; have h3 := R.hj
  by_cases c : u ≤ i
  · exact ⟨i - u, .inl ⟨c, by omega⟩⟩
  · exact ⟨i + n - u, .inr ⟨by omega, by omega⟩⟩
theorem RM.betw (R : RingN bs n i j p q) {x y m : Nat} (M : RM n i j x y m) (hx : x ≤ p) (hy : y ≤ q) : Betw n i j m := by
  have h1 := R.hp; have h2 := R.hq; have h3 := R.hj
  exact ⟨M.lt, (M.b i).mpr (.inl rfl), M.no.mpr (by unfold RB; omega)⟩
theorem ring_way (R : RingN bs n i j p q) : ∀ (k x y m : Nat), (p - x) + (q - y) = k → x ≤ p → y ≤ q → RM n i j x y m → wayC bs n j m = mix (p - x) (q - y)
  | 0, x, y, m, hk, hx, hy, M => by
    have h1 := R.hp; have h2 := R.hq; have h3 := R.hj
    have e : m = rest n (2 ^ j) := by
      refine Mk.eq_of_bits fun t => ?_
      rw [M.b, bit_in (Nat.pow_lt_pow_right (by decide) h3), Nat.testBit_two_pow, decide_eq_false_iff_not]
      unfold RB
      omega
    rw [wayC_last h3 (M.betw R hx hy) e, show p - x = 0 by omega]
    simp [mix]
  | k + 1, x, y, m, hk, hx, hy, M => by
    have h1 := R.hp; have h2 := R.hq; have h3 := R.hj
    have ne : m ≠ rest n (2 ^ j) := fun e => by
      by_cases c : x < p
      · have := M.no.mpr (show ¬ RB n i j x y (i + x + 1) by unfold RB; omega)
        rw [e, bit_rest (by omega), Nat.testBit_two_pow, decide_eq_false (by omega)] at this
        cases this
      · obtain ⟨t, ht⟩ := outP_ex R (u := y + 1) (by omega)
        have ht2 := ht
        unfold OutP at ht2
        have := M.no.mpr (show ¬ RB n i j x y t by unfold RB; omega)
        rw [e, bit_rest (by omega), Nat.testBit_two_pow, decide_eq_false (by omega)] at this
        cases this
    rw [wayC_sum h3 (M.betw R hx hy) ne]
    have inn : x < p → wayC bs n j (m ||| 2 ^ (i + x + 1)) = mix (p - (x + 1)) (q - y) := fun c => ring_way R k (x + 1) y _ (by omega) (by omega) hy (M.inn R c)
    have out : ∀ t, y < q → OutP n i (y + 1) t → wayC bs n j (m ||| 2 ^ t) = mix (p - x) (q - (y + 1)) := fun t c ht => ring_way R k x (y + 1) _ (by omega) hx (by omega) (M.out R c ht)
    by_cases c1 : x < p
    · by_cases c2 : y < q
      · obtain ⟨t, ht⟩ := outP_ex R (u := y + 1) (by omega)
        have ht2 := ht
        unfold OutP at ht2
        have pm : (nextL bs n j m).Perm [i + x + 1, t] := (List.perm_ext_iff_of_nodup nextL_nd (by simp; omega)).mpr fun z => by
          rw [ring_next R M hx hy, List.mem_cons, List.mem_singleton]
          unfold OutP
          omega
        rw [sum_permN (pm.map _)]
        simp only [List.map_cons, List.map_nil, List.sum_cons, List.sum_nil]
        rw [inn c1, out t c2 ht, show p - x = (p - (x + 1)) + 1 by omega, show q - y = (q - (y + 1)) + 1 by omega]
        simp [mix]
      · have pm : (nextL bs n j m).Perm [i + x + 1] := (List.perm_ext_iff_of_nodup nextL_nd (by simp)).mpr fun z => by
          rw [ring_next R M hx hy, List.mem_singleton]
          omega
        rw [sum_permN (pm.map _)]
        simp only [List.map_cons, List.map_nil, List.sum_cons, List.sum_nil]
        rw [inn c1, show q - y = 0 by omega, mix_zero, mix_zero]
        rfl
    · have c2 : y < q := by omega
      obtain ⟨t, ht⟩ := outP_ex R (u := y + 1) (by omega)
      have ht2 := ht
      unfold OutP at ht2
      have pm : (nextL bs n j m).Perm [t] := (List.perm_ext_iff_of_nodup nextL_nd (by simp)).mpr fun z => by
        rw [ring_next R M hx hy, List.mem_singleton]
        unfold OutP
        omega
      rw [sum_permN (pm.map _)]
      simp only [List.map_cons, List.map_nil, List.sum_cons, List.sum_nil]
      rw [out t c2 ht, show p - x = 0 by omega]
      simp [mix]
theorem ring_orders (R : RingN bs n i j p q) : wayC bs n j (2 ^ i) = mix p q := by
  have h1 := R.hp; have h2 := R.hq; have h3 := R.hj
  have := ring_way R (p + q) 0 0 (2 ^ i) (by omega) (by omega) (by omega) ⟨Nat.pow_lt_pow_right (by decide) (by omega), fun t => by
    rw [Nat.testBit_two_pow, decide_eq_true_eq]
    unfold RB
    omega⟩
  rwa [Nat.sub_zero, Nat.sub_zero] at this
end
end Wd

set_option Elab.async false
set_option linter.all false
set_option maxRecDepth 100000
set_option maxHeartbeats 4000000
namespace Wd
open PySem PySem.Spec PyProof.Rows L2 Bx Gx











































section
variable {bs : List (Nat × Nat)} {n i j p q : Nat}
/-! ### a ring's partings -/
theorem lt_whole {m b : Nat} (h : m < 2 ^ n) (hb : b < n) (h2 : m.testBit b = false) : m < 2 ^ n - 1 := by
  rcases Nat.lt_or_ge m (2 ^ n - 1) with z | z
  · exact z
  · exfalso
    have e : m = 2 ^ n - 1 := by omega
    rw [e, bit_whole, decide_eq_true hb] at h2
    cases h2
theorem pos_bit {m a : Nat} (h : m.testBit a = true) : 0 < m := by
  rcases Nat.eq_zero_or_pos m with z | z
  · rw [z, Nat.zero_testBit] at h
    cases h
  · exact z
theorem one_of {m c : Nat} (h : ∀ t, m.testBit t = true → Mk.Conn bs (Mk.In m) t c) : One bs m := fun _ _ hp hq => (h _ hp).trans (h _ hq).symm
instance decRB (n i j x y t : Nat) : Decidable (RB n i j x y t) := by unfold RB; infer_instance
def ringM (n i j x y : Nat) : Nat := Mk.mask ((List.range n).filter fun t => decide (RB n i j x y t))
theorem ringM_ok (R : RingN bs n i j p q) (x y : Nat) : RM n i j x y (ringM n i j x y) := by
  have h1 := R.hp; have h2 := R.hq; have h3 := R.hj
  have asc : ((List.range n).filter fun t => decide (RB n i j x y t)).Pairwise (· < ·) := List.pairwise_lt_range.filter _
  refine ⟨Mk.mask_lt asc fun t ht => List.mem_range.mp (List.mem_filter.mp ht).1, fun t => ?_⟩
  unfold ringM
  rw [Mk.bit_mask asc, decide_eq_true_eq, List.mem_filter, List.mem_range, decide_eq_true_eq]
  constructor
  · exact fun z => z.2
  · intro z
    refine ⟨?_, z⟩
    unfold RB at z
    omega
theorem RM.uniq {x y m m' : Nat} (M : RM n i j x y m) (M' : RM n i j x y m') : m = m' := Mk.eq_of_bits fun t => by rw [M.b, M'.b]
theorem ring_size (R : RingN bs n i j p q) : ∀ (y x m : Nat), x ≤ p → y ≤ q → RM n i j x y m → (Mk.bits n m).length = 1 + x + y
  | 0, 0, m, _, _, M => by
    have h1 := R.hp; have h2 := R.hq; have h3 := R.hj
    have e : Mk.bits n m = [i] := Mk.asc_ext (Mk.bits_pair _ _) (by simp) fun t => by
      rw [Mk.mem_bits, M.b, List.mem_singleton]
      unfold RB
      omega
    rw [e]
    rfl
  | 0, x + 1, m, hx, hy, M => by
    have h1 := R.hp; have h2 := R.hq; have h3 := R.hj
    have M0 := ringM_ok R x 0
    have e := M.uniq (M0.inn R (by omega))
    rw [e, size_or M0.lt (by omega) (M0.no.mpr (by unfold RB; omega)), ring_size R 0 x _ (by omega) hy M0]
    omega
  | y + 1, x, m, hx, hy, M => by
    have h1 := R.hp; have h2 := R.hq; have h3 := R.hj
    have M0 := ringM_ok R x y
    obtain ⟨t, ht⟩ := outP_ex R (u := y + 1) hy
    have e := M.uniq (M0.out R (by omega) ht)
    unfold OutP at ht
    rw [e, size_or M0.lt (by omega) (M0.no.mpr (by unfold RB; omega)), ring_size R y x _ hx (by omega) M0]
    omega
theorem ring_conn (R : RingN bs n i j p q) {x y m : Nat} (hx : x ≤ p) (hy : y ≤ q) (M : RM n i j x y m) : One bs m := by
  have h1 := R.hp; have h2 := R.hq; have h3 := R.hj; have h4 := R.n3
  have inn : ∀ d, d ≤ x → Mk.Conn bs (Mk.In m) (i + d) i := fun d => by
    induction d with
    | zero => exact fun _ => .refl ((M.b _).mpr (by unfold RB; omega))
    | succ d ih => exact fun hd => (Mk.Conn.one ((M.b _).mpr (by unfold RB; omega)) ((M.b _).mpr (by unfold RB; omega)) ((R.r _ _ (by omega) (by omega)).mpr (by unfold Rg; omega))).trans (ih (by omega))
  have out : ∀ d t, d ≤ y → OutP n i d t → Mk.Conn bs (Mk.In m) t i := fun d => by
    induction d with
    | zero =>
      intro t _ ht
      have : t = i := by unfold OutP at ht; omega
      subst this
      exact .refl ((M.b _).mpr (by unfold RB; omega))
    | succ d ih =>
      intro t hd ht
      obtain ⟨t', ht'⟩ := outP_ex R (u := d) (by omega)
      have c := ih t' (by omega) ht'
      unfold OutP at ht ht'
      exact (Mk.Conn.one ((M.b _).mpr (by unfold RB; omega)) c.fst ((R.r _ _ (by omega) (by omega)).mpr (by unfold Rg; omega))).trans c
  refine one_of (c := i) fun t ht => ?_
  have ht := (M.b t).mp ht
  unfold RB at ht
  rcases ht with ht | ht | ht | ht
  · subst ht
    exact inn 0 (Nat.zero_le _)
  · have := inn (t - i) (by omega)
    rwa [show i + (t - i) = t by omega] at this
  · exact out (i - t) t (by omega) (by unfold OutP; omega)
  · exact out (i + n - t) t (by omega) (by unfold OutP; omega)
theorem ring_conn2 (R : RingN bs n i j p q) {x y m : Nat} (hx : x ≤ p) (hy : y ≤ q) (M : RM n i j x y m) : One bs (rest n m) := by
  have h1 := R.hp; have h2 := R.hq; have h3 := R.hj; have h4 := R.n3
  have inr : ∀ t, t < n → ¬ RB n i j x y t → Mk.In (rest n m) t := fun t ht hn => (bit_in M.lt).mpr ⟨ht, M.no.mpr hn⟩
  have inn : ∀ d t, t + d = j → i + x < t → Mk.Conn bs (Mk.In (rest n m)) t j := fun d => by
    induction d with
    | zero =>
      intro t e _
      obtain rfl : t = j := by omega
      exact .refl (inr _ h3 (by unfold RB; omega))
    | succ d ih => exact fun t e ht => (Mk.Conn.one (inr _ (by omega) (by unfold RB; omega)) (inr _ (by omega) (by unfold RB; omega)) ((R.r t (t + 1) (by omega) (by omega)).mpr (by unfold Rg; omega))).trans (ih (t + 1) (by omega) (by omega))
  have out : ∀ d u t, u + d = q + 1 → y < u → OutP n i u t → Mk.Conn bs (Mk.In (rest n m)) t j := fun d => by
    induction d with
    | zero =>
      intro u t e hu ht
      obtain rfl : t = j := by unfold OutP at ht; omega
      exact .refl (inr _ h3 (by unfold RB; omega))
    | succ d ih =>
      intro u t e hu ht
      obtain ⟨t', ht'⟩ : ∃ t', OutP n i (u + 1) t' := by
        by_cases c : u + 1 ≤ i
        · exact ⟨i - (u + 1), .inl ⟨c, by omega⟩⟩
        · exact ⟨i + n - (u + 1), .inr ⟨by omega, by omega⟩⟩
      have c := ih (u + 1) t' (by omega) (by omega) ht'
      unfold OutP at ht ht'
      exact (Mk.Conn.one (inr _ (by omega) (by unfold RB; omega)) c.fst ((R.r _ _ (by omega) (by omega)).mpr (by unfold Rg; omega))).trans c
  refine one_of (c := j) fun t ht => ?_
  obtain ⟨htn, hb⟩ := (bit_in M.lt).mp ht
  have hb := M.no.mp hb
  unfold RB at hb
  by_cases c1 : t < i
  · exact out (q + 1 - (i - t)) (i - t) t (by omega) (by omega) (by unfold OutP; omega)
  · by_cases c2 : t ≤ j
    · exact inn (j - t) t (by omega) (by omega)
    · exact out (q + 1 - (i + n - t)) (i + n - t) t (by omega) (by omega) (by unfold OutP; omega)
theorem cut_ex (f : Nat → Prop) : ∀ N, (∀ t, 1 ≤ t → t + 1 ≤ N → f (t + 1) → f t) → ∃ x, x ≤ N ∧ ∀ t, 1 ≤ t → t ≤ N → (f t ↔ t ≤ x)
  | 0, _ => ⟨0, Nat.le_refl _, fun t h1 h2 => by omega⟩
  | N + 1, h => by
    obtain ⟨x, hx, hf⟩ := cut_ex f N fun t h1 h2 => h t h1 (by omega)
    by_cases c : f (N + 1)
    · refine ⟨N + 1, Nat.le_refl _, fun t h1 h2 => ⟨fun _ => h2, fun _ => ?_⟩⟩
      have : ∀ d t, 1 ≤ t → t + d = N + 1 → f t := fun d => by
        induction d with
        | zero => intro t _ e; rw [show t = N + 1 by omega]; exact c
        | succ d ih => intro t h1 e; exact h t h1 (by omega) (ih (t + 1) (by omega) (by omega))
      exact this (N + 1 - t) t h1 (by omega)
    · refine ⟨x, by omega, fun t h1 h2 => ?_⟩
      by_cases e : t = N + 1
      · subst e
        exact ⟨fun z => absurd z c, fun z => by omega⟩
      · exact hf t h1 (by omega)
theorem ring_is (R : RingN bs n i j p q) {m : Nat} (hm : m < 2 ^ n) (h : IsPart n bs i j m) : ∃ x y, x ≤ p ∧ y ≤ q ∧ RM n i j x y m := by
  have h1 := R.hp; have h2 := R.hq; have h3 := R.hj; have h4 := R.n3
  have inr : ∀ t, t < n → m.testBit t = false → Mk.In (rest n m) t := fun t ht hn => (bit_in hm).mpr ⟨ht, hn⟩
  have hjr := inr j h3 h.two
  have no : ∀ t, Mk.In (rest n m) t → m.testBit t = false := fun t ht => ((bit_in hm).mp ht).2
  have hi := h.one
  obtain ⟨x, hx, hfx⟩ := cut_ex (fun t => m.testBit (i + t) = true) p fun t g1 g2 g3 => by
    cases e : m.testBit (i + t) with
    | true => rfl
    | false =>
      exfalso
      have c := h.hang2 _ _ (inr (i + t) (by omega) e) hjr
      have := (c.closed (T := fun z => i < z ∧ z ≤ i + t) (by omega) fun a b ha hb hab => by
        have hbn := Mk.lt_of_bit (rest_lt hm) hb
        have hab := (R.r a b (by omega) hbn).mp hab
        have n1 : b ≠ i := fun e => by rw [e] at hb; rw [no i hb] at hi; cases hi
        have n2 : b ≠ i + (t + 1) := fun e => by rw [e] at hb; rw [no _ hb] at g3; cases g3
        unfold Rg at hab
        omega).2
      omega
  obtain ⟨y, hy, hfy⟩ := cut_ex (fun u => ∀ t, OutP n i u t → m.testBit t = true) q fun u g1 g2 g3 t ht => by
    cases e : m.testBit t with
    | true => rfl
    | false =>
      exfalso
      obtain ⟨t', ht'⟩ := outP_ex R (u := u + 1) g2
      have g4 := g3 t' ht'
      unfold OutP at ht ht'
      have c := h.hang2 _ _ (inr t (by omega) e) hjr
      have := (c.closed (T := fun z => (z < i ∧ i ≤ z + u) ∨ (j < z ∧ z < n ∧ i + n ≤ z + u)) (by omega) fun a b ha hb hab => by
        have hbn := Mk.lt_of_bit (rest_lt hm) hb
        have hab := (R.r a b (by omega) hbn).mp hab
        have n1 : b ≠ i := fun e => by rw [e] at hb; rw [no i hb] at hi; cases hi
        have n2 : b ≠ t' := fun e => by rw [e] at hb; rw [no _ hb] at g4; cases g4
        unfold Rg at hab
        omega).2
      omega
  refine ⟨x, y, hx, hy, hm, fun t => ?_⟩
  by_cases c0 : t < n
  · by_cases c1 : t < i
    · have := hfy (i - t) (by omega) (by omega)
      have e : (∀ t', OutP n i (i - t) t' → m.testBit t' = true) ↔ m.testBit t = true := ⟨fun z => z t (by unfold OutP; omega), fun z t' ht' => by
        have : t' = t := by unfold OutP at ht'; omega
        rw [this]; exact z⟩
      rw [← e, this]
      unfold RB
      omega
    · by_cases c2 : t = i
      · rw [c2]
        exact ⟨fun _ => .inl rfl, fun _ => hi⟩
      · by_cases c3 : t < j
        · have := hfx (t - i) (by omega) (by omega)
          rw [show i + (t - i) = t by omega] at this
          rw [this]
          unfold RB
          omega
        · by_cases c4 : t = j
          · rw [c4, h.two]
            unfold RB
            constructor
            · intro z; cases z
            · intro z; omega
          · have := hfy (i + n - t) (by omega) (by omega)
            have e : (∀ t', OutP n i (i + n - t) t' → m.testBit t' = true) ↔ m.testBit t = true := ⟨fun z => z t (by unfold OutP; omega), fun z t' ht' => by
              have : t' = t := by unfold OutP at ht'; omega
              rw [this]; exact z⟩
            rw [← e, this]
            unfold RB
            omega
  · constructor
    · exact fun z => absurd (Mk.lt_of_bit hm z) c0
    · unfold RB
      intro z
      omega
theorem ring_part (R : RingN bs n i j p q) {m : Nat} : m ∈ partsOf n bs i j ↔ ∃ x y, x ≤ p ∧ y ≤ q ∧ RM n i j x y m := by
  have h1 := R.hp; have h2 := R.hq; have h3 := R.hj
  rw [mem_partsOf]
  constructor
  · rintro ⟨g1, g2⟩
    exact ring_is R (by omega) g2
  · rintro ⟨x, y, hx, hy, M⟩
    have B := M.betw R hx hy
    exact ⟨lt_whole M.lt h3 B.two, pos_bit B.one, B.one, B.two, ring_conn R hx hy M, ring_conn2 R hx hy M⟩
def ringC (p q s : Nat) : Nat := ((List.range (p + 1)).filter fun x => decide (x + 1 ≤ s ∧ s ≤ x + 1 + q)).length
theorem ring_sizes (R : RingN bs n i j p q) (s : Nat) : sizeC n bs i j s = ringC p q s := by
  have h1 := R.hp; have h2 := R.hq; have h3 := R.hj
  unfold sizeC ringC
  refine Nat.le_antisymm ?_ ?_
  · have := Tu.len_sub ((partsOf_nd n bs i j).filter fun m => decide ((Mk.bits n m).length = s)) (D := ((List.range (p + 1)).filter fun x => decide (x + 1 ≤ s ∧ s ≤ x + 1 + q)).map fun x => ringM n i j x (s - 1 - x)) fun m hm => by
      obtain ⟨g1, g2⟩ := List.mem_filter.mp hm
      obtain ⟨x, y, hx, hy, M⟩ := (ring_part R).mp g1
      have g2 := of_decide_eq_true g2
      rw [ring_size R y x m hx hy M] at g2
      refine List.mem_map.mpr ⟨x, List.mem_filter.mpr ⟨List.mem_range.mpr (by omega), decide_eq_true (by omega)⟩, ?_⟩
      rw [show s - 1 - x = y by omega]
      exact (ringM_ok R x y).uniq M
    rwa [List.length_map] at this
  · have nd : (((List.range (p + 1)).filter fun x => decide (x + 1 ≤ s ∧ s ≤ x + 1 + q)).map fun x => ringM n i j x (s - 1 - x)).Nodup := by
      rw [List.nodup_iff_pairwise_ne, List.pairwise_map]
      refine (List.pairwise_lt_range.filter _).imp_of_mem fun {u v} hu hv hlt e => ?_
      have hv1 := List.mem_range.mp (List.mem_filter.mp hv).1
      have Mu := ringM_ok R u (s - 1 - u)
      have Mv := ringM_ok R v (s - 1 - v)
      rw [← e] at Mv
      have := (Mu.b (i + u + 1)).mp ((Mv.b _).mpr (by unfold RB; omega))
      unfold RB at this
      have hu2 := of_decide_eq_true (List.mem_filter.mp hu).2
      omega
    have := Tu.len_sub nd (D := (partsOf n bs i j).filter fun m => decide ((Mk.bits n m).length = s)) fun m hm => by
      obtain ⟨x, hx, rfl⟩ := List.mem_map.mp hm
      obtain ⟨g1, g2⟩ := List.mem_filter.mp hx
      have g1 := List.mem_range.mp g1
      have g2 := of_decide_eq_true g2
      have M := ringM_ok R x (s - 1 - x)
      refine List.mem_filter.mpr ⟨(ring_part R).mpr ⟨x, s - 1 - x, by omega, by omega, M⟩, decide_eq_true ?_⟩
      rw [ring_size R _ x _ (by omega) (by omega) M]
      omega
    rwa [List.length_map] at this
end
section
variable {bs : List (Nat × Nat)} {n i j : Nat}
/-! ### a row -/
structure RowN (bs : List (Nat × Nat)) (n i j : Nat) : Prop where
  bd : Mk.Bs n bs
  r : ∀ x y, x < n → y < n → (Mk.adj bs x y = true ↔ y = x + 1 ∨ x = y + 1)
  hij : i < j
  hj : j < n
theorem len_one {l : List Nat} {z : Nat} (nd : l.Nodup) (h : ∀ x, x ∈ l ↔ x = z) : l.length = 1 := by
  have := ((List.perm_ext_iff_of_nodup nd (by simp : [z].Nodup)).mpr fun x => by rw [h, List.mem_singleton]).length_eq
  exact this
theorem bits_two (n a : Nat) (ha : a < n) : Mk.bits n (2 ^ a) = [a] := Mk.asc_ext (Mk.bits_pair _ _) (by simp) fun t => by
  rw [Mk.mem_bits, Nat.testBit_two_pow, decide_eq_true_eq, List.mem_singleton]
  omega
theorem row_way (R : RowN bs n i j) (hi : i = 0) (hj : j + 1 = n) : ∀ (k x m : Nat), x + k + 1 = j → m < 2 ^ n → (∀ t, m.testBit t = true ↔ t ≤ x) → wayC bs n j m = 1
  | 0, x, m, hk, hm, hb => by
    have B : Betw n i j m := ⟨hm, (hb _).mpr (by omega), Bool.eq_false_iff.mpr fun z => by have := (hb _).mp z; omega⟩
    refine wayC_last R.hj B (Mk.eq_of_bits fun t => ?_)
    rw [hb, bit_in (Nat.pow_lt_pow_right (by decide) R.hj), Nat.testBit_two_pow, decide_eq_false_iff_not]
    omega
  | k + 1, x, m, hk, hm, hb => by
    have B : Betw n i j m := ⟨hm, (hb _).mpr (by omega), Bool.eq_false_iff.mpr fun z => by have := (hb _).mp z; omega⟩
    have no : ∀ t, m.testBit t = false ↔ ¬ t ≤ x := fun t => by rw [← hb]; cases m.testBit t <;> simp
    have ne : m ≠ rest n (2 ^ j) := fun e => by
      have := (no (x + 1)).mpr (by omega)
      rw [e, bit_rest (by omega), Nat.testBit_two_pow, decide_eq_false (by omega)] at this
      cases this
    have pm : (nextL bs n j m).Perm [x + 1] := (List.perm_ext_iff_of_nodup nextL_nd (by simp)).mpr fun t => by
      rw [mem_nextL hm, List.mem_singleton, no]
      constructor
      · rintro ⟨⟨g1, g2⟩, g3, ⟨a, ha, hA⟩, _⟩
        have := (R.r t a g1 (Mk.lt_of_bit hm ha)).mp hA
        have := (hb a).mp ha
        omega
      · rintro rfl
        exact ⟨⟨by omega, by omega⟩, by omega, ⟨x, (hb x).mpr (Nat.le_refl _), (R.r _ _ (by omega) (by omega)).mpr (by omega)⟩, x + 2, by omega, (no _).mpr (by omega), (R.r _ _ (by omega) (by omega)).mpr (by omega)⟩
    rw [wayC_sum R.hj B ne, sum_permN (pm.map _)]
    simp only [List.map_cons, List.map_nil, List.sum_cons, List.sum_nil]
    rw [row_way R hi hj k (x + 1) _ (by omega) (Nat.or_lt_two_pow hm (Nat.pow_lt_pow_right (by decide) (by omega))) fun t => by
      rw [or_bit, Bool.or_eq_true, decide_eq_true_eq, hb]
      omega]
    rfl
theorem row_orders (R : RowN bs n i j) : wayC bs n j (2 ^ i) = if i = 0 ∧ j + 1 = n then 1 else 0 := by
  have h1 := R.hij; have h2 := R.hj
  by_cases c : i = 0 ∧ j + 1 = n
  · rw [if_pos c]
    refine row_way R c.1 c.2 (j - 1) 0 _ (by omega) (Nat.pow_lt_pow_right (by decide) (by omega)) fun t => ?_
    rw [Nat.testBit_two_pow, decide_eq_true_eq]
    omega
  · rw [if_neg c]
    refine no_orders R.bd (by omega) h2 (by omega) fun os => ?_
    by_cases c1 : i = 0
    · refine lone_none (t := n - 1) (u := n - 2) (by omega) (by omega) (by omega) fun q hq => ?_
      have hqn := (Mk.adj_lt R.bd hq).2.1
      have := (R.r _ q (by omega) hqn).mp hq
      omega
    · refine lone_none (t := 0) (u := 1) (by omega) (by omega) (by omega) fun q hq => ?_
      have hqn := (Mk.adj_lt R.bd hq).2.1
      have := (R.r _ q (by omega) hqn).mp hq
      omega
theorem row_part (R : RowN bs n i j) {m : Nat} : m ∈ partsOf n bs i j ↔ ∃ t, i ≤ t ∧ t < j ∧ m = 2 ^ (t + 1) - 1 := by
  have h1 := R.hij; have h2 := R.hj
  rw [mem_partsOf]
  constructor
  · rintro ⟨g1, P⟩
    have hm : m < 2 ^ n := by omega
    have inr : ∀ t, t < n → m.testBit t = false → Mk.In (rest n m) t := fun t ht hn => (bit_in hm).mpr ⟨ht, hn⟩
    have no : ∀ t, Mk.In (rest n m) t → m.testBit t = false := fun t ht => ((bit_in hm).mp ht).2
    have hi := P.one
    have hjr := inr j h2 P.two
    have down : ∀ t, t + 1 < n → m.testBit (t + 1) = true → m.testBit t = true := fun t ht g => by
      cases e : m.testBit t with
      | true => rfl
      | false =>
        exfalso
        by_cases c : t < i
        · have cc := P.hang2 _ _ (inr t (by omega) e) hjr
          have := (cc.closed (T := fun z => z < i) c fun a b ha hb hab => by
            have hbn := Mk.lt_of_bit (rest_lt hm) hb
            have hab := (R.r a b (by omega) hbn).mp hab
            have n1 : b ≠ i := fun e => by rw [e] at hb; rw [no i hb] at hi; cases hi
            omega).2
          omega
        · have nti : t ≠ i := fun z => by rw [z, hi] at e; cases e
          have cc := P.hang _ _ hi g
          have := (cc.closed (T := fun z => z < t) (by omega) fun a b ha hb hab => by
            have hbn := Mk.lt_of_bit hm hb
            have hab := (R.r a b (by omega) hbn).mp hab
            have n1 : b ≠ t := fun z => by rw [z] at hb; rw [show m.testBit t = true from hb] at e; cases e
            omega).2
          omega
    obtain ⟨x, hx, hf⟩ := cut_ex (fun t => m.testBit (t - 1) = true) n fun t g2 g3 g4 => by
      have e : t - 1 + 1 = t := by omega
      refine down (t - 1) (by omega) ?_
      rw [e]
      simpa using g4
    have hb : ∀ t, t < n → (m.testBit t = true ↔ t + 1 ≤ x) := fun t ht => by
      have := hf (t + 1) (by omega) (by omega)
      rwa [show t + 1 - 1 = t by omega] at this
    have b1 := (hb i (by omega)).mp hi
    have b2 : ¬ j + 1 ≤ x := fun z => by have := (hb j h2).mpr z; rw [P.two] at this; cases this
    refine ⟨x - 1, by omega, by omega, Mk.eq_of_bits fun t => ?_⟩
    rw [show x - 1 + 1 = x by omega, Nat.testBit_two_pow_sub_one, decide_eq_true_eq]
    by_cases c : t < n
    · rw [hb t c]
      omega
    · constructor
      · exact fun z => absurd (Mk.lt_of_bit hm z) c
      · intro z; omega
  · rintro ⟨t, ht1, ht2, rfl⟩
    have hp : 2 ^ (t + 1) ≤ 2 ^ n := Nat.pow_le_pow_right (by decide) (by omega)
    have hp0 := Nat.two_pow_pos (t + 1)
    have hm : 2 ^ (t + 1) - 1 < 2 ^ n := by omega
    have b : ∀ z, (2 ^ (t + 1) - 1).testBit z = decide (z < t + 1) := fun z => Nat.testBit_two_pow_sub_one _ _
    have o1 : (2 ^ (t + 1) - 1).testBit i = true := by rw [b, decide_eq_true_eq]; omega
    have o2 : (2 ^ (t + 1) - 1).testBit j = false := by rw [b, decide_eq_false_iff_not]; omega
    refine ⟨lt_whole hm h2 o2, pos_bit o1, o1, o2, one_of (c := 0) fun z hz => ?_, one_of (c := n - 1) fun z hz => ?_⟩
    · rw [b, decide_eq_true_eq] at hz
      induction z with
      | zero => exact .refl (by show (2 ^ (t + 1) - 1).testBit 0 = true; rw [b, decide_eq_true_eq]; omega)
      | succ z ih => exact (Mk.Conn.one (by show (2 ^ (t + 1) - 1).testBit (z + 1) = true; rw [b, decide_eq_true_eq]; omega) (by show (2 ^ (t + 1) - 1).testBit z = true; rw [b, decide_eq_true_eq]; omega) ((R.r _ _ (by omega) (by omega)).mpr (by omega))).trans (ih (by omega))
    · have inr : ∀ z, z < n → t < z → Mk.In (rest n (2 ^ (t + 1) - 1)) z := fun z h1 h2 => (bit_in hm).mpr ⟨h1, by rw [b, decide_eq_false_iff_not]; omega⟩
      obtain ⟨hz1, hz2⟩ := (bit_in hm).mp hz
      rw [b, decide_eq_false_iff_not] at hz2
      have : ∀ d z, z + d + 1 = n → t < z → Mk.Conn bs (Mk.In (rest n (2 ^ (t + 1) - 1))) z (n - 1) := fun d => by
        induction d with
        | zero => intro z e ht; obtain rfl : z = n - 1 := by omega
                  exact .refl (inr _ (by omega) (by omega))
        | succ d ih => exact fun z e ht => (Mk.Conn.one (inr _ (by omega) (by omega)) (inr _ (by omega) (by omega)) ((R.r z (z + 1) (by omega) (by omega)).mpr (by omega))).trans (ih (z + 1) (by omega) (by omega))
      exact this (n - 1 - z) z (by omega) (by omega)
theorem row_sizes (R : RowN bs n i j) (s : Nat) : sizeC n bs i j s = if i < s ∧ s ≤ j then 1 else 0 := by
  have h1 := R.hij; have h2 := R.hj
  have size : ∀ t, t < n → (Mk.bits n (2 ^ (t + 1) - 1)).length = t + 1 := fun t ht => by
    have : Mk.bits n (2 ^ (t + 1) - 1) = List.range (t + 1) := Mk.asc_ext (Mk.bits_pair _ _) List.pairwise_lt_range fun z => by
      rw [Mk.mem_bits, Nat.testBit_two_pow_sub_one, decide_eq_true_eq, List.mem_range]
      omega
    rw [this, List.length_range]
  unfold sizeC
  by_cases c : i < s ∧ s ≤ j
  · rw [if_pos c]
    refine len_one (z := 2 ^ s - 1) ((partsOf_nd n bs i j).filter _) fun m => ?_
    rw [List.mem_filter, row_part R, decide_eq_true_eq]
    constructor
    · rintro ⟨⟨t, g1, g2, rfl⟩, g3⟩
      rw [size t (by omega)] at g3
      rw [g3]
    · rintro rfl
      refine ⟨⟨s - 1, by omega, by omega, by rw [show s - 1 + 1 = s by omega]⟩, ?_⟩
      have := size (s - 1) (by omega)
      rw [show s - 1 + 1 = s by omega] at this
      exact this
  · rw [if_neg c]
    refine List.length_eq_zero_iff.mpr (List.eq_nil_iff_forall_not_mem.mpr fun m hm => c ?_)
    obtain ⟨g1, g2⟩ := List.mem_filter.mp hm
    obtain ⟨t, g3, g4, rfl⟩ := (row_part R).mp g1
    have g2 := of_decide_eq_true g2
    rw [size t (by omega)] at g2
    omega
/-! ### a star -/
structure StarN (bs : List (Nat × Nat)) (n i j : Nat) : Prop where
  bd : Mk.Bs n bs
  r : ∀ x y, x < n → y < n → (Mk.adj bs x y = true ↔ x ≠ y ∧ (x = 0 ∨ y = 0))
  hij : i < j
  hj : j < n
  n4 : 4 ≤ n
theorem star_orders (R : StarN bs n i j) : wayC bs n j (2 ^ i) = 0 := by
  have h1 := R.hij; have h2 := R.hj; have h4 := R.n4
  refine no_orders R.bd (by omega) h2 (by omega) fun os => ?_
  obtain ⟨t, g1, g2, g3, g4⟩ : ∃ t, 1 ≤ t ∧ t < n ∧ t ≠ i ∧ t ≠ j := by
    by_cases c1 : 1 ≠ i ∧ 1 ≠ j
    · exact ⟨1, by omega, by omega, c1.1, c1.2⟩
    · by_cases c2 : 2 ≠ i ∧ 2 ≠ j
      · exact ⟨2, by omega, by omega, c2.1, c2.2⟩
      · exact ⟨3, by omega, by omega, by omega, by omega⟩
  refine lone_none (t := t) (u := 0) g2 g3 g4 fun q hq => ?_
  have hqn := (Mk.adj_lt R.bd hq).2.1
  have := (R.r _ q g2 hqn).mp hq
  omega
theorem star_alone (R : StarN bs n i j) {m : Nat} (hm : m < 2 ^ n) (h0 : m.testBit 0 = false) (h : One bs m) {a b : Nat} (ha : m.testBit a = true) (hb : m.testBit b = true) : b = a := by
  have han := Mk.lt_of_bit hm ha
  exact ((h a b ha hb).closed (T := fun z => z = a) rfl fun x y hx hy hxy => by
    subst hx
    have hyn := Mk.lt_of_bit hm hy
    have := (R.r x y han hyn).mp hxy
    have n0 : ∀ z, m.testBit z = true → z ≠ 0 := fun z hz e => by rw [e, h0] at hz; cases hz
    have := n0 x ha
    have := n0 y hy
    omega).2
theorem star_hub (R : StarN bs n i j) {m : Nat} (hm : m < 2 ^ n) (h0 : m.testBit 0 = true) : One bs m := one_of (c := 0) fun t ht => by
  have htn := Mk.lt_of_bit hm ht
  by_cases c : t = 0
  · subst c
    exact .refl h0
  · exact Mk.Conn.one ht h0 ((R.r t 0 htn (by omega)).mpr (by omega))
theorem one_two (a : Nat) : One bs (2 ^ a) := one_of (c := a) fun t ht => by
  rw [Nat.testBit_two_pow, decide_eq_true_eq] at ht
  subst ht
  exact .refl (by show (2 ^ a).testBit a = true; rw [Nat.testBit_two_pow, decide_eq_true_eq])
theorem star_sizes (R : StarN bs n i j) {s : Nat} : sizeC n bs i j s = 0 ↔ ¬ (s + 1 = n ∨ (0 < i ∧ s = 1)) := by
  have h1 := R.hij; have h2 := R.hj; have h4 := R.n4
  have hpi : 2 ^ i < 2 ^ n := Nat.pow_lt_pow_right (by decide) (by omega)
  have hpj : 2 ^ j < 2 ^ n := Nat.pow_lt_pow_right (by decide) h2
  have bt : ∀ a b : Nat, (2 ^ a).testBit b = decide (a = b) := fun a b => Nat.testBit_two_pow
  unfold sizeC
  rw [List.length_eq_zero_iff, List.eq_nil_iff_forall_not_mem]
  constructor
  · rintro h (c | ⟨c1, c2⟩)
    · refine h (rest n (2 ^ j)) (List.mem_filter.mpr ⟨mem_partsOf.mpr ?_, decide_eq_true ?_⟩)
      · have o1 : (rest n (2 ^ j)).testBit i = true := by rw [bit_rest (by omega), bt, decide_eq_false (by omega)]; rfl
        have o2 : (rest n (2 ^ j)).testBit j = false := by rw [bit_rest h2, bt, decide_eq_true rfl]; rfl
        have o3 : (rest n (2 ^ j)).testBit 0 = true := by rw [bit_rest (by omega), bt, decide_eq_false (by omega)]; rfl
        exact ⟨lt_whole (rest_lt hpj) h2 o2, pos_bit o1, o1, o2, star_hub R (rest_lt hpj) o3, by rw [rest_rest hpj]; exact one_two j⟩
      · have := size_rest (n := n) (2 ^ j)
        rw [bits_two n j h2, List.length_singleton] at this
        omega
    · refine h (2 ^ i) (List.mem_filter.mpr ⟨mem_partsOf.mpr ?_, decide_eq_true (by rw [bits_two n i (by omega)]; exact c2.symm)⟩)
      have o1 : (2 ^ i).testBit i = true := by rw [bt, decide_eq_true rfl]
      have o2 : (2 ^ i).testBit j = false := by rw [bt, decide_eq_false (by omega)]
      have o3 : (rest n (2 ^ i)).testBit 0 = true := by rw [bit_rest (by omega), bt, decide_eq_false (by omega)]; rfl
      exact ⟨lt_whole hpi h2 o2, pos_bit o1, o1, o2, one_two i, star_hub R (rest_lt hpi) o3⟩
  · intro c m hm
    obtain ⟨g1, g2⟩ := List.mem_filter.mp hm
    obtain ⟨g3, P⟩ := mem_partsOf.mp g1
    have hm2 : m < 2 ^ n := by omega
    have g2 := of_decide_eq_true g2
    have sr := size_rest (n := n) m
    cases e : m.testBit 0 with
    | true =>
      have hjr : (rest n m).testBit j = true := (bit_in hm2).mpr ⟨h2, P.two⟩
      have h0r : (rest n m).testBit 0 = false := by rw [bit_rest (by omega), e]; rfl
      have l1 : (Mk.bits n (rest n m)).length = 1 := len_one (z := j) ((Mk.bits_pair _ _).imp Nat.ne_of_lt) fun x => by
        rw [Mk.mem_bits]
        exact ⟨fun z => star_alone R (rest_lt hm2) h0r P.hang2 hjr z.2, fun z => by rw [z]; exact ⟨h2, hjr⟩⟩
      omega
    | false =>
      have l1 : (Mk.bits n m).length = 1 := len_one (z := i) ((Mk.bits_pair _ _).imp Nat.ne_of_lt) fun x => by
        rw [Mk.mem_bits]
        exact ⟨fun z => star_alone R hm2 e P.hang P.one z.2, fun z => by rw [z]; exact ⟨by omega, P.one⟩⟩
      have : i ≠ 0 := fun z => by have := P.one; rw [z, e] at this; cases this
      omega
end
section
variable {bs : List (Nat × Nat)} {n i j : Nat}
/-! ### all places border each other -/
structure MeshN (bs : List (Nat × Nat)) (n i j : Nat) : Prop where
  bd : Mk.Bs n bs
  r : ∀ x y, x < n → y < n → (Mk.adj bs x y = true ↔ x ≠ y)
  ne : i ≠ j
  hi : i < n
  hj : j < n
theorem sum_const {α : Type} (f : α → Nat) (c : Nat) : ∀ l : List α, (∀ x ∈ l, f x = c) → (l.map f).sum = l.length * c
  | [], _ => by simp
  | x :: l, h => by
    rw [List.map_cons, List.sum_cons, h x List.mem_cons_self, sum_const f c l fun y hy => h y (List.mem_cons_of_mem _ hy), List.length_cons, Nat.succ_mul]
    omega
theorem mesh_way (R : MeshN bs n i j) : ∀ (k m : Nat), cnt n m = k → Betw n i j m → wayC bs n j m = fct k
  | 0, m, e, B => by
    rw [wayC_last R.hj B ((cnt_zero R.hj B).mp e)]
    rfl
  | k + 1, m, e, B => by
    have no : ∀ t, m.testBit t = false ↔ ¬ m.testBit t = true := fun t => by cases m.testBit t <;> simp
    have pm : (j :: nextL bs n j m).Perm (Mk.bits n (rest n m)) := (List.perm_ext_iff_of_nodup (List.nodup_cons.mpr ⟨fun z => ((mem_nextL B.lt).mp z).2.1 rfl, nextL_nd⟩) ((Mk.bits_pair _ _).imp Nat.ne_of_lt)).mpr fun t => by
      rw [List.mem_cons, mem_nextL B.lt, Mk.mem_bits, bit_in B.lt]
      constructor
      · rintro (rfl | ⟨h, _⟩)
        · exact ⟨R.hj, R.hj, B.two⟩
        · exact ⟨h.1, h⟩
      · rintro ⟨_, h⟩
        by_cases c : t = j
        · exact .inl c
        · refine .inr ⟨h, c, ⟨i, B.one, (R.r t i h.1 R.hi).mpr fun z => ?_⟩, j, R.hj, B.two, (R.r t j h.1 R.hj).mpr c⟩
          rw [z, B.one] at h
          cases h.2
    have hl := pm.length_eq
    rw [List.length_cons] at hl
    have hc : (nextL bs n j m).length = k + 1 := by unfold cnt at e; omega
    rw [wayC_sum R.hj B fun z => (by rw [(cnt_zero R.hj B).mpr z] at e; cases e), sum_const _ (fct k) _ fun t ht => mesh_way R k _ (by have := cnt_next R.hj B ht; omega) (B.add ht), hc]
    rfl
theorem mesh_orders (R : MeshN bs n i j) : wayC bs n j (2 ^ i) = fct (n - 2) := by
  have hi := R.hi; have hj := R.hj; have hne := R.ne
  refine mesh_way R _ _ ?_ (betw_start hi hne)
  unfold cnt
  have := size_rest (n := n) (2 ^ i)
  rw [bits_two n i hi, List.length_singleton] at this
  omega
theorem mesh_one (R : MeshN bs n i j) {m : Nat} (hm : m < 2 ^ n) : One bs m := fun a b ha hb => by
  by_cases c : a = b
  · subst c
    exact .refl ha
  · exact Mk.Conn.one ha hb ((R.r a b (Mk.lt_of_bit hm ha) (Mk.lt_of_bit hm hb)).mpr c)
theorem mesh_part (R : MeshN bs n i j) {m : Nat} : m ∈ partsOf n bs i j ↔ m < 2 ^ n ∧ m.testBit i = true ∧ m.testBit j = false := by
  rw [mem_partsOf]
  constructor
  · rintro ⟨h, P⟩
    exact ⟨by omega, P.one, P.two⟩
  · rintro ⟨h, h1, h2⟩
    exact ⟨lt_whole h R.hj h2, pos_bit h1, h1, h2, mesh_one R h, mesh_one R (rest_lt h)⟩
/-! how many parts of a size: by the last place -/
def pas : Nat → Nat → Nat
  | _, 0 => 1
  | 0, _ + 1 => 0
  | n + 1, s + 1 => pas n s + pas n (s + 1)
def sizL (n s : Nat) : List Nat := (List.range (2 ^ n)).filter fun m => decide ((Mk.bits n m).length = s)
theorem mem_sizL {n s m : Nat} : m ∈ sizL n s ↔ m < 2 ^ n ∧ (Mk.bits n m).length = s := by
  unfold sizL
  rw [List.mem_filter, List.mem_range, decide_eq_true_eq]
theorem bits_succ_lt {n m : Nat} (h : m < 2 ^ n) : Mk.bits (n + 1) m = Mk.bits n m :=
  Mk.bits_any (Nat.lt_of_lt_of_le h (Nat.pow_le_pow_right (by decide) (Nat.le_succ n))) h
theorem bit_top {n m : Nat} (h : m < 2 ^ n) : m.testBit n = false := Nat.testBit_lt_two_pow h
theorem add_or {n m : Nat} (h : m < 2 ^ n) : 2 ^ n + m = m ||| 2 ^ n := by
  have := Nat.two_pow_add_eq_or_of_lt h 1
  rw [Nat.mul_one] at this
  rw [this, Nat.or_comm]
theorem sizL_len : ∀ n s, (sizL n s).length = pas n s
  | 0, 0 => by decide
  | 0, s + 1 => by
    refine List.length_eq_zero_iff.mpr (List.eq_nil_iff_forall_not_mem.mpr fun m hm => ?_)
    have h := (mem_sizL.mp hm).2
    have := Mk.bits_len 0 m
    omega
  | n + 1, s => by
    have e : 2 ^ (n + 1) = 2 ^ n + 2 ^ n := by rw [Nat.pow_succ]; omega
    have key : (sizL (n + 1) s).length = (sizL n s).length + (((List.range (2 ^ n)).filter fun m => decide ((Mk.bits n m).length + 1 = s))).length := by
      unfold sizL
      rw [e, List.range_add, List.filter_append, List.length_append, List.filter_map, List.length_map]
      congr 1
      · congr 1
        exact List.filter_congr fun m hm => by rw [bits_succ_lt (List.mem_range.mp hm)]
      · congr 1
        refine List.filter_congr fun m hm => ?_
        have hm := List.mem_range.mp hm
        show decide ((Mk.bits (n + 1) (2 ^ n + m)).length = s) = _
        rw [add_or hm, size_or (Nat.lt_of_lt_of_le hm (Nat.pow_le_pow_right (by decide) (Nat.le_succ n))) (Nat.lt_succ_self n) (bit_top hm), bits_succ_lt hm]
    rw [key, sizL_len n s]
    cases s with
    | zero =>
      have : ((List.range (2 ^ n)).filter fun m => decide ((Mk.bits n m).length + 1 = 0)) = [] := List.filter_eq_nil_iff.mpr fun m _ => by simp
      rw [this]
      cases n <;> simp [pas]
    | succ s =>
      have : ((List.range (2 ^ n)).filter fun m => decide ((Mk.bits n m).length + 1 = s + 1)) = sizL n s := by
        unfold sizL
        exact List.filter_congr fun m _ => by rw [decide_eq_decide]; omega
      rw [this, sizL_len n s, pas]
      omega
def swF (x y t : Nat) : Nat := if t = x then y else if t = y then x else t
theorem sw_lt {x y t : Nat} (hx : x < n) (hy : y < n) (ht : t < n) : swF x y t < n := by
  unfold swF
  split
  · exact hy
  · split
    · exact hx
    · exact ht
theorem sw_sw (x y t : Nat) : swF x y (swF x y t) = t := by
  unfold swF
  by_cases h1 : t = x
  · subst h1
    by_cases h2 : y = t
    · subst h2; simp
    · simp [h2]
  · by_cases h2 : t = y
    · subst h2
      simp [h1]
    · simp [h1, h2]
theorem sw_tw {x y : Nat} (hx : x < n) (hy : y < n) : Is.Tw n (swF x y) (swF x y) := ⟨fun _ h => sw_lt hx hy h, fun _ h => sw_lt hx hy h, fun t _ => sw_sw x y t, fun t _ => sw_sw x y t⟩
abbrev meshL (n : Nat) : List (Nat × Nat) := bsC n fun _ _ => true
theorem sw_iso {x y : Nat} (hx : x < n) (hy : y < n) : Is.Iso n (swF x y) (swF x y) (meshL n) (meshL n) :=
  iso_bsC (ps := meshL n) (e := fun _ _ => true) (sw_tw hx hy) (fun p => mem_bsC) asc_bsC fun p => by
    rw [List.mem_map]
    constructor
    · intro h
      have h2 := mem_bsC.mp h
      refine ⟨Is.prM (swF x y) p, mem_bsC.mpr ?_, Is.prM_back (sw_tw hx hy) h2.1 h2.2.1⟩
      have := Is.prM_lt (sw_tw hx hy) h2.1 h2.2.1
      exact ⟨this.1, this.2, rfl⟩
    · rintro ⟨b, hb, rfl⟩
      have h2 := mem_bsC.mp hb
      have := Is.prM_lt (sw_tw hx hy) h2.1 h2.2.1
      exact mem_bsC.mpr ⟨this.1, this.2, rfl⟩
theorem meshN (hi : i < n) (hj : j < n) (h : i ≠ j) : MeshN (meshL n) n i j := ⟨bs_bsC, fun x y hx hy => by
  rw [adj_bsC hx hy]
  simp only [and_true]
  omega, h, hi, hj⟩
theorem mesh_top {k s : Nat} : sizeC (k + 2) (meshL (k + 2)) k (k + 1) (s + 1) = pas k s := by
  have R : MeshN (meshL (k + 2)) (k + 2) k (k + 1) := meshN (by omega) (by omega) (by omega)
  have p1 : 2 ^ k < 2 ^ (k + 2) := Nat.pow_lt_pow_right (by decide) (by omega)
  have p3 : 2 ^ (k + 1) = 2 ^ k + 2 ^ k := by rw [Nat.pow_succ]; omega
  have p2 : 2 ^ (k + 2) = 2 ^ (k + 1) + 2 ^ (k + 1) := by rw [Nat.pow_succ]; omega
  rw [← sizL_len]
  unfold sizeC
  have up : ∀ m, m < 2 ^ k → Mk.bits (k + 2) m = Mk.bits k m := fun m hm => Mk.bits_any (by omega) hm
  refine Nat.le_antisymm ?_ ?_
  · have := Tu.len_sub ((partsOf_nd (k + 2) (meshL (k + 2)) k (k + 1)).filter fun m => decide ((Mk.bits (k + 2) m).length = s + 1)) (D := (sizL k s).map (2 ^ k + ·)) fun m hm => by
      obtain ⟨g1, g2⟩ := List.mem_filter.mp hm
      obtain ⟨g3, g4, g5⟩ := (mesh_part R).mp g1
      have g2 := of_decide_eq_true g2
      have l1 : m < 2 ^ (k + 1) := by
        rcases Nat.lt_or_ge m (2 ^ (k + 1)) with h | h
        · exact h
        · exfalso
          have : m.testBit (k + 1) = true := by
            have e : m = 2 ^ (k + 1) + (m - 2 ^ (k + 1)) := by omega
            rw [e, add_or (by omega), or_bit, decide_eq_true rfl, Bool.or_true]
          rw [g5] at this
          cases this
      have l2 : 2 ^ k ≤ m := by
        rcases Nat.lt_or_ge m (2 ^ k) with h | h
        · rw [bit_top h] at g4
          cases g4
        · exact h
      have lm : m - 2 ^ k < 2 ^ k := by omega
      refine List.mem_map.mpr ⟨m - 2 ^ k, mem_sizL.mpr ⟨lm, ?_⟩, by omega⟩
      have e : m = (m - 2 ^ k) ||| 2 ^ k := by rw [← add_or lm]; omega
      rw [e, size_or (by omega) (by omega) (bit_top lm), up _ lm] at g2
      omega
    rwa [List.length_map] at this
  · have nd : ((sizL k s).map (2 ^ k + ·)).Nodup := by
      rw [List.nodup_iff_pairwise_ne, List.pairwise_map]
      exact ((List.nodup_iff_pairwise_ne.mp List.nodup_range).filter _).imp fun h e => h (by omega)
    have := Tu.len_sub nd (D := (partsOf (k + 2) (meshL (k + 2)) k (k + 1)).filter fun m => decide ((Mk.bits (k + 2) m).length = s + 1)) fun m hm => by
      obtain ⟨x, hx, rfl⟩ := List.mem_map.mp hm
      obtain ⟨g1, g2⟩ := mem_sizL.mp hx
      have l : 2 ^ k + x < 2 ^ (k + 1) := by omega
      refine List.mem_filter.mpr ⟨(mesh_part R).mpr ⟨by omega, ?_, bit_top l⟩, decide_eq_true ?_⟩
      · rw [add_or g1, or_bit, decide_eq_true rfl, Bool.or_true]
      · rw [add_or g1, size_or (by omega) (by omega) (bit_top g1), up _ g1, g2]
    rwa [List.length_map] at this
theorem mesh_sizes (hi : i < n) (hj : j < n) (h : i ≠ j) {s : Nat} (hs : 1 ≤ s) : sizeC n (meshL n) i j s = pas (n - 2) (s - 1) := by
  obtain ⟨k, rfl⟩ : ∃ k, n = k + 2 := ⟨n - 2, by omega⟩
  obtain ⟨s, rfl⟩ : ∃ s', s = s' + 1 := ⟨s - 1, by omega⟩
  rw [show k + 2 - 2 = k by omega, show s + 1 - 1 = s by omega, ← mesh_top]
  have I1 := sw_iso (n := k + 2) (x := i) (y := k) hi (by omega)
  rw [← sizeC_led I1 hi hj]
  have e1 : swF i k i = k := by simp [swF]
  rw [e1]
  generalize hj' : swF i k j = j'
  have l' : j' < k + 2 := by rw [← hj']; exact sw_lt hi (by omega) hj
  have ne : j' ≠ k := fun e => by
    have := I1.t.inj hi hj (by rw [e1, hj', e])
    exact h this
  have I2 := sw_iso (n := k + 2) (x := j') (y := k + 1) l' (by omega)
  rw [← sizeC_led I2 (show k < k + 2 by omega) l']
  have e2 : swF j' (k + 1) j' = k + 1 := by simp [swF]
  have e3 : swF j' (k + 1) k = k := by
    unfold swF
    rw [if_neg (Ne.symm ne), if_neg (by omega)]
  rw [e2, e3]
end
end Wd

set_option Elab.async false
set_option linter.all false
set_option maxRecDepth 100000
set_option maxHeartbeats 4000000
namespace Wd
open PySem PySem.Spec PyProof.Rows L2 Bx Gx











































section
variable {P : Program} {w : World} {K : PySem.W.Frag} {mg : Str → Option Value} {base : Heap}
/-! ### the law's counts: choices, what is due -/
theorem dec_int (x y : Int) : decide (V.int x = V.int y) = decide (x = y) := decide_eq_decide.mpr ⟨fun z => by injection z, fun z => by rw [z]⟩
def chK (m : Nat) : Nat → Nat
  | 0 => 1
  | k + 1 => chK m k * (m - k) / (k + 1)
theorem ch_pas : ∀ m, m ≤ 10 → ∀ s, s ≤ m → chK m s = pas m s := by decide +kernel
theorem ch_few : ∀ m, m ≤ 10 → ∀ s, s ≤ m → chK m s < 1000 := by decide +kernel
theorem pas_gt : ∀ n s, n < s → pas n s = 0
  | _, 0, h => absurd h (Nat.not_lt_zero _)
  | 0, s + 1, _ => rfl
  | n + 1, s + 1, h => by rw [pas, pas_gt n s (by omega), pas_gt n (s + 1) (by omega)]
theorem pas_self : ∀ n, pas n n = 1
  | 0 => rfl
  | n + 1 => by rw [pas, pas_self n, pas_gt n (n + 1) (Nat.lt_succ_self n)]
theorem mix_pas : ∀ a b, mix a b = pas (a + b) a
  | 0, b => by
    rw [mix]
    cases 0 + b <;> rfl
  | a + 1, 0 => by rw [mix, Nat.add_zero, pas_self]
  | a + 1, b + 1 => by
    rw [mix, mix_pas a (b + 1), mix_pas (a + 1) b, show a + 1 + (b + 1) = (a + b + 1) + 1 by omega, pas, show a + (b + 1) = a + b + 1 by omega, show a + 1 + b = a + b + 1 by omega]
def spChoices (K : PySem.W.Frag) : Sp := fun vs H Q _ => ∃ (m s : Nat), vs = [.int (m : Int), .int (s : Int)] ∧ m ≤ 10 ∧ s ≤ m ∧ Q (.int ((pas m s : Nat) : Int)) H
abbrev chN : List Str := ["many", "some", "found", "k"]
theorem sc_choices : FnScope chN ["many", "some"] (defScope st__law_choices) := ⟨rfl, rfl, rfl, by decide +kernel, rfl, by decide +kernel, by decide +kernel⟩
theorem ok_choices {f : Addr} {fd : FuncData} (F : Fun K "_law_choices" "_law_choices" st__law_choices f fd) (B : Bl mg) : FnOk P w K mg base CX0 1 f fd ["many", "some"] (spChoices K) := by
  refine F.ok sc_choices (fun vs H Q E h => ?_) (fun cdv A outer s H vs Q E hr h => ?_)
  · obtain ⟨m, sm, rfl, _⟩ := h
    rfl
  · obtain ⟨m, sm, rfl, hm, hs, k⟩ := h
    have nd := sc_choices.nd
    refine ⟨_, pss_cons (ps_set (i := 2) nd rfl (Or.inl rfl) pe_int)
      (pss_cons (ps_for PassesOwn.never rfl (pi_range1 rfl B.range (pa_cons (pv 1) pa_nil)) (pg_name (i := 3) nd rfl (Or.inl rfl))
        (pss_one (ps_set (i := 2) nd rfl (Or.inl rfl) (pe_op op_fdiv (pe_op op_mul (pv 2) (pe_op op_sub (pv 0) (pv 3))) (pe_op op_add (pv 3) pe_int)))))
      (pss_one (ps_ret (pv 2)))), ?_⟩
    dsimp only [gName, tSeq, List.set]
    refine ⟨_, rfl, _, rfl, by omega, by omega, for_range (lo := 0) (n := ((sm : Nat) : Int).toNat) (fun i σ H2 => ∃ o3 : Option V, σ = [some (.int (m : Int)), some (.int (sm : Int)), some (.int ((chK m i : Nat) : Int)), o3] ∧ H2 = H) ⟨_, rfl, rfl⟩ ?_ ?_⟩
    · rintro i σ H2 hi ⟨o3, rfl, rfl⟩
      rw [Int.toNat_natCast] at hi
      have h1 := ch_few m hm i (by omega)
      refine ⟨_, rfl, _, rfl, _, rfl, _, _, rfl, rfl, _, _, rfl, rfl, .inl ⟨by omega, by omega⟩, _, rfl, _, _, rfl, rfl, _, _, rfl, rfl, ⟨by omega, by omega⟩, ?_⟩
      refine ⟨some (.int (0 + (i : Int))), ?_, rfl⟩
      dsimp only [gName, List.set]
      have e : ((chK m i : Nat) : Int) * ((m : Int) - (0 + (i : Int))) / (0 + (i : Int) + 1) = ((chK m (i + 1) : Nat) : Int) := ?_
      · rw [e]
      show ((chK m i : Nat) : Int) * ((m : Int) - (0 + (i : Int))) / (0 + (i : Int) + 1) = ((chK m i * (m - i) / (i + 1) : Nat) : Int)
      rw [show (m : Int) - (0 + (i : Int)) = ((m - i : Nat) : Int) by omega, show (0 : Int) + (i : Int) + 1 = ((i + 1 : Nat) : Int) by omega, Int.natCast_ediv, Int.natCast_mul]
    · rintro σ H2 ⟨o3, rfl, rfl⟩
      rw [Int.toNat_natCast, ch_pas m hm sm hs]
      exact ⟨_, rfl, k⟩
/-- how many orders are due, and partings of a size -/
def dueC (sort n i j : Nat) : Nat := if sort = 0 then pas (j - i - 1 + (n - 2 - (j - i - 1))) (j - i - 1) else if sort = 1 then (if i = 0 ∧ j + 1 = n then 1 else 0) else fct (n - 2)
def dueS (sort n i j s : Nat) : Nat := if sort = 0 then ringC (j - i - 1) (n - 2 - (j - i - 1)) s else if sort = 1 then (if i < s ∧ s ≤ j then 1 else 0) else pas (n - 2) (s - 1)
def dueL (sort n i j : Nat) : List Int := (List.range (n - 1)).map fun k => ((dueS sort n i j (k + 1) : Nat) : Int)
def spDue (K : PySem.W.Frag) : Sp := fun vs H Q _ => ∃ (sort n i j : Nat), vs = [.int (sort : Int), .int (n : Int), .int (i : Int), .int (j : Int)] ∧ sort < 3 ∧ 2 ≤ n ∧ n ≤ 12 ∧ i < j ∧ j < n ∧
  ∀ (q t : Addr) (H' : Hp), Ext H H' → H' q = some (.tup [.int ((dueC sort n i j : Nat) : Int), .ref t]) → SqT K H' t ((dueL sort n i j).map V.int) → Q (.ref q) H'
abbrev duN : List Str := ["sort", "many", "i", "j", "ahead", "behind", "counts", "size", "x", "found", "k"]
theorem sc_due : FnScope duN ["sort", "many", "i", "j"] (defScope st__law_due) := ⟨rfl, rfl, rfl, by decide +kernel, rfl, by decide +kernel, by decide +kernel⟩
theorem ok_due {f : Addr} {fd : FuncData} (F : Fun K "_law_due" "_law_due" st__law_due f fd) (B : Bl mg) (c1 : Cal P w K mg base 1 "_law_choices" ["many", "some"] (spChoices K)) : FnOk P w K mg base CX0 2 f fd ["sort", "many", "i", "j"] (spDue K) := by
  refine F.ok sc_due (fun vs H Q E h => ?_) (fun cdv A outer s H vs Q E hr h => ?_)
  · obtain ⟨sort, n, i, j, rfl, _⟩ := h
    rfl
  · obtain ⟨sort, n, i, j, rfl, hso, hn2, hn, hij, hj, k⟩ := h
    have nd := sc_due.nd
    refine ⟨_, pss_cons (ps_if (pt_cmpR op_eq (pv 0) pe_int (nomark _)) (pss_cons (ps_asg (pe_tup (pa_cons (pe_op op_sub (pe_op op_sub (pv 3) (pv 2)) pe_int) (pa_cons (pe_op op_sub (pe_op op_sub (pv 1) pe_int) (pe_op op_sub (pe_op op_sub (pv 3) (pv 2)) pe_int)) pa_nil))) (pg_tup (by rfl) (pgs_cons (pg_name (i := 4) nd rfl (Or.inl rfl)) (pgs_cons (pg_name (i := 5) nd rfl (Or.inr rfl)) pgs_nil))))
        (pss_cons (ps_set (i := 6) nd rfl (Or.inl rfl) (pe_lst pa_nil))
        (pss_cons (ps_for PassesOwn.never rfl (pi_range2 rfl B.range (pa_cons pe_int (pa_cons (pv 1) pa_nil))) (pg_name (i := 7) nd rfl (Or.inr rfl))
          (pss_one (ps_expr (pe_bm PySem.F.plainAttrs_list PySem.F.slot_list_append PySem.F.type_list_append mt_append (pv 6) (pa_cons (pe_callB call_len (by rfl) B.len PySem.boot_len (pa_cons (pe_lc (own := [("x", 8)]) (g := gName 8) (by rfl) nd (pi_range1 rfl B.range (pa_cons (pe_op op_add (pv 4) pe_int) pa_nil)) (blkOk_by (own := [("x", 8)]) (N := duN) (sc := defScope st__law_due) (by decide +kernel)) (fun _ _ _ _ _ => pg_name (i := 8) nd rfl (Or.inl rfl)) (fun _ _ _ _ _ => pts_one (pt_chain op_le op_le pe_int (pe_op op_sub (pe_op op_sub (pv 7) pe_int) (pv 8)) (pv 5))) (fun _ _ _ _ _ => pv 8)) pa_nil)) pa_nil)))))
        (pss_one (ps_ret (pe_tup (pa_cons (pe_cal c1 (hr.mono (by decide)) rfl (pa_cons (pe_op op_add (pv 4) (pv 5)) (pa_cons (pv 4) pa_nil))) (pa_cons (pe_tupleOf rfl B.tuple (pv 6)) pa_nil)))))))) pss_nil)
      (pss_cons (ps_if (pt_cmpR op_eq (pv 0) pe_int (nomark _)) (pss_cons (ps_setLc (i := 6) (own := [("size", 7)]) (g := gName 7) (by rfl) nd rfl rfl (sw_true rfl rfl rfl (by decide +kernel)) (pi_range2 rfl B.range (pa_cons pe_int (pa_cons (pv 1) pa_nil))) (blkOk_by (own := [("size", 7)]) (N := duN) (sc := defScope st__law_due) (by decide +kernel)) (fun _ _ _ _ _ => pg_name (i := 7) nd rfl (Or.inl rfl)) (fun _ _ _ _ _ => pts_nil) (fun _ _ _ _ _ => pe_callTy call_int1 rfl B.int (by decide +kernel) (pa_cons (pe_chain op_lt op_le (pv 2) (pv 7) (pv 3)) pa_nil)))
        (pss_one (ps_ret (pe_tup (pa_cons (pe_callTy call_int1 rfl B.int (by decide +kernel) (pa_cons (pe_and (pe_cmpR op_eq (pv 2) pe_int (nomark _)) (pe_one (pe_cmpR op_eq (pv 3) (pe_op op_sub (pv 1) pe_int) (nomark _)))) pa_nil)) (pa_cons (pe_tupleOf rfl B.tuple (pv 6)) pa_nil)))))) pss_nil)
      (pss_cons (ps_set (i := 9) nd rfl (Or.inl rfl) pe_int)
      (pss_cons (ps_for PassesOwn.never rfl (pi_range2 rfl B.range (pa_cons pe_int (pa_cons (pe_op op_sub (pv 1) pe_int) pa_nil))) (pg_name (i := 10) nd rfl (Or.inl rfl))
        (pss_one (ps_set (i := 9) nd rfl (Or.inl rfl) (pe_op op_mul (pv 9) (pv 10)))))
      (pss_one (ps_ret (pe_tup (pa_cons (pv 9) (pa_cons (pe_tupleOf rfl B.tuple (pe_lc (own := [("size", 7)]) (g := gName 7) (by rfl) nd (pi_range2 rfl B.range (pa_cons pe_int (pa_cons (pv 1) pa_nil))) (blkOk_by (own := [("size", 7)]) (N := duN) (sc := defScope st__law_due) (by decide +kernel)) (fun _ _ _ _ _ => pg_name (i := 7) nd rfl (Or.inl rfl)) (fun _ _ _ _ _ => pts_nil) (fun _ _ _ _ _ => pe_cal c1 (hr.mono (by decide)) rfl (pa_cons (pe_op op_sub (pv 1) pe_int) (pa_cons (pe_op op_sub (pv 7) pe_int) pa_nil))))) pa_nil)))))))), ?_⟩
    refine ⟨_, rfl, rfl, _, rfl, ?_⟩
    by_cases hs0 : sort = 0
    · subst hs0
      rw [dec_int, decide_eq_true (show (((0 : Nat) : Int)) = 0 from rfl)]
      refine iteT ?_
      dsimp only [gName, tSeq, List.set]
      refine ⟨_, rfl, _, rfl, _, _, rfl, rfl, _, _, rfl, rfl, _, rfl, _, _, rfl, rfl, _, rfl, _, rfl, _, _, rfl, rfl, _, _, rfl, rfl, _, _, rfl, rfl, by show 2 ≤ sizeLine; decide, fun t0 ht0 => ⟨t0, _, rfl, SqT.of upd_same, rfl, ?_⟩⟩
      obtain ⟨p, hp⟩ : ∃ p, p = j - i - 1 := ⟨_, rfl⟩
      obtain ⟨q, hq⟩ : ∃ q, q = n - 2 - (j - i - 1) := ⟨_, rfl⟩
      have ep : (j : Int) - (i : Int) - 1 = (p : Int) := by omega
      have eq : (n : Int) - 2 - (p : Int) = (q : Int) := by omega
      have hpq : p + q + 2 = n := by omega
      have edC : dueC 0 n i j = pas (p + q) p := by rw [hp, hq]; rfl
      have edL : dueL 0 n i j = (List.range (n - 1)).map fun k => ((ringC p q (k + 1) : Nat) : Int) := by rw [hp, hq]; rfl
      dsimp only [L2.start]
      rw [ep, eq]
      rw [edC, edL] at k
      refine ⟨_, _, rfl, _, _, rfl, rfl, ?_⟩
      have x1 : Ext H (upd H t0 (.tup [.int (p : Int), .int (q : Int)])) := .new ht0
      generalize upd H t0 (.tup [.int (p : Int), .int (q : Int)]) = H1 at x1 ⊢
      dsimp only [gName, tSeq, List.set]
      refine ⟨Nat.zero_le _, fun D hD => ?_⟩
      have x2 : Ext H (upd H1 D (.lst [])) := x1.trans (.new hD)
      dsimp only [gName, tSeq, List.set]
      refine ⟨_, rfl, 1, (n : Int), rfl, ⟨by omega, by omega, by omega, by omega⟩, for_range (lo := 1) (n := ((n : Int) - 1).toNat) (fun u σ H2 => ∃ o7 : Option V, σ = [some (.int ((0 : Nat) : Int)), some (.int (n : Int)), some (.int (i : Int)), some (.int (j : Int)), some (.int (p : Int)), some (.int (q : Int)), some (.ref D), o7, none, none, none] ∧ H2 D = some (.lst (((List.range u).map fun k => ((ringC p q (k + 1) : Nat) : Int)).map V.int)) ∧ Ext H1 H2) ⟨_, rfl, upd_same, .new hD⟩ ?_ ?_⟩
      · rintro u σ H2 hu ⟨o7, rfl, e2, x3⟩
        have hu : u < n - 1 := by omega
        refine ⟨_, rfl, .inl ⟨rfl, _, SqL.of e2⟩, _, rfl, _, _, rfl, rfl, _, rfl, by omega, by omega, fun D2 hD2 => ?_⟩
        refine lc_range (lo := 0) (n := ((p : Int) + 1).toNat) (fun v H3 => ∃ xs : List V, H3 D2 = some (.lst xs) ∧ xs.length = ((List.range v).filter fun x => decide (x + 1 ≤ u + 1 ∧ u + 1 ≤ x + 1 + q)).length ∧ Ext H2 H3) ⟨[], upd_same, rfl, .new hD2⟩ (fun v H3 hv ⟨xs, e3, el, x4⟩ => ?_) (fun H3 ⟨xs, e3, el, x4⟩ => ?_)
        · have hfl : ((List.range v).filter fun x => decide (x + 1 ≤ u + 1 ∧ u + 1 ≤ x + 1 + q)).length ≤ v := by
            refine Nat.le_trans (List.length_filter_le _ _) ?_
            rw [List.length_range]
            exact Nat.le_refl _
          refine ⟨rfl, ?_⟩
          refine ⟨_, rfl, _, _, rfl, rfl, _, rfl, _, _, rfl, rfl, _, _, rfl, rfl, _, rfl, ?_⟩
          have step : ∀ b : Bool, b = decide (v + 1 ≤ u + 1 ∧ u + 1 ≤ v + 1 + q) → ((List.range (v + 1)).filter fun x => decide (x + 1 ≤ u + 1 ∧ u + 1 ≤ x + 1 + q)).length = ((List.range v).filter fun x => decide (x + 1 ≤ u + 1 ∧ u + 1 ≤ x + 1 + q)).length + (if b = true then 1 else 0) := fun b hb => by
            rw [List.range_succ, List.filter_append, List.length_append]
            congr 1
            rw [List.filter_cons, ← hb]
            cases b <;> rfl
          by_cases hA : (0 : Int) ≤ 1 + (u : Int) - 1 - (0 + (v : Int))
          · rw [decide_eq_true hA]
            refine iteT ⟨_, rfl, _, _, rfl, rfl, _, rfl, ?_⟩
            dsimp only
            by_cases hB : 1 + (u : Int) - 1 - (0 + (v : Int)) ≤ (q : Int)
            · rw [if_pos (decide_eq_true hB)]
              exact ⟨_, rfl, xs, e3, small1000 (by omega), xs ++ [_], upd_same, by rw [step true (decide_eq_true (by omega)).symm, List.length_append, el]; rfl, x4.write hD2⟩
            · rw [if_neg (fun z => hB (of_decide_eq_true z))]
              exact ⟨xs, e3, by rw [step false (decide_eq_false (by omega)).symm, el]; rfl, x4⟩
          · rw [decide_eq_false hA]
            exact iteF ⟨_, rfl, iteF ⟨xs, e3, by rw [step false (decide_eq_false (by omega)).symm, el]; rfl, x4⟩⟩
        · have eu : ((p : Int) + 1).toNat = p + 1 := by omega
          rw [eu] at el
          refine ⟨_, _, rfl, .inl ⟨xs, SqL.of e3, rfl⟩, D, _, _, rfl, rfl, x4.lst e2, small1000 (by rw [List.length_map, List.length_map, List.length_range]; omega), some (.int (1 + (u : Int))), rfl, ?_, (x3.trans x4).write hD⟩
          rw [upd_same, List.range_succ, List.map_append, List.map_append, el]
          rfl
      · rintro σ H2 ⟨o7, rfl, e2, x3⟩
        have en : ((n : Int) - 1).toNat = n - 1 := by omega
        rw [en] at e2
        refine ⟨_, rfl, _, rfl, _, _, rfl, rfl, _, rfl, p + q, p, rfl, by omega, by omega, _, rfl, .inl ⟨D, _, rfl, SqL.of e2, fun t ht => ⟨by show 2 ≤ sizeLine; decide, fun z hz => ?_⟩⟩⟩
        exact k z t _ (((x1.trans x3).trans (.new ht)).trans (.new hz)) upd_same ((Ext.new hz).sqT (SqT.of upd_same))
    · rw [dec_int, decide_eq_false (show ¬ (sort : Int) = 0 by omega)]
      refine iteF ?_
      dsimp only [tNext, tSeq, gName, List.set]
      refine ⟨_, rfl, rfl, _, rfl, ?_⟩
      by_cases hs1 : sort = 1
      · subst hs1
        rw [dec_int, decide_eq_true (show (((1 : Nat) : Int)) = 1 from rfl)]
        refine iteT ?_
        dsimp only [gName, tSeq, List.set]
        have edC : dueC 1 n i j = if i = 0 ∧ j + 1 = n then 1 else 0 := rfl
        have edL : dueL 1 n i j = (List.range (n - 1)).map fun k => (((if i < k + 1 ∧ k + 1 ≤ j then 1 else 0 : Nat)) : Int) := rfl
        rw [edC, edL] at k
        refine ⟨_, rfl, 1, (n : Int), rfl, ⟨by omega, by omega, by omega, by omega⟩, fun D hD => ?_⟩
        refine lc_range (lo := 1) (n := ((n : Int) - 1).toNat) (fun u H2 => H2 D = some (.lst (((List.range u).map fun k => (((if i < k + 1 ∧ k + 1 ≤ j then 1 else 0 : Nat)) : Int)).map V.int)) ∧ Ext H H2) ⟨upd_same, .new hD⟩ (fun u H2 hu ⟨e2, x2⟩ => ?_) (fun H2 ⟨e2, x2⟩ => ?_)
        · have hu : u < n - 1 := by omega
          refine ⟨rfl, ?_⟩
          dsimp only [tYes]
          rw [if_pos rfl]
          have fin : ∀ b : Bool, b = decide (i < u + 1 ∧ u + 1 ≤ j) → ∃ acc, H2 D = some (.lst acc) ∧ acc.length < sizeLine ∧ upd H2 D (.lst (acc ++ [V.int (if b = true then 1 else 0)])) D = some (.lst (((List.range (u + 1)).map fun k => (((if i < k + 1 ∧ k + 1 ≤ j then 1 else 0 : Nat)) : Int)).map V.int)) ∧ Ext H (upd H2 D (.lst (acc ++ [V.int (if b = true then 1 else 0)]))) := fun b hb => by
            refine ⟨_, e2, small1000 (by rw [List.length_map, List.length_map, List.length_range]; omega), ?_, x2.write hD⟩
            rw [upd_same, List.range_succ, List.map_append, List.map_append]
            by_cases c : i < u + 1 ∧ u + 1 ≤ j
            · rw [hb, decide_eq_true c]
              simp [c]
            · rw [hb, decide_eq_false c]
              simp [c]
          refine ⟨_, rfl, _, rfl, _, _, rfl, rfl, _, rfl, ?_⟩
          by_cases hA : (i : Int) < 1 + (u : Int)
          · rw [decide_eq_true hA]
            exact iteT ⟨_, rfl, _, _, rfl, rfl, .inr ⟨_, rfl, fin _ (decide_eq_decide.mpr (by omega))⟩⟩
          · rw [decide_eq_false hA]
            exact iteF (.inr ⟨false, rfl, fin false (decide_eq_false (by omega)).symm⟩)
        · have en : ((n : Int) - 1).toNat = n - 1 := by omega
          rw [en] at e2
          dsimp only [gName, List.set, L2.start]
          refine ⟨_, rfl, rfl, _, rfl, ?_⟩
          by_cases hi0 : i = 0
          · rw [dec_int, decide_eq_true (show (i : Int) = 0 by omega)]
            refine iteT ⟨_, rfl, _, rfl, _, _, rfl, rfl, rfl, .inr ⟨_, rfl, _, rfl, .inl ⟨D, _, rfl, SqL.of e2, fun t ht => ⟨by show 2 ≤ sizeLine; decide, fun z hz => ?_⟩⟩⟩⟩
            have ev : (if decide (V.int (j : Int) = V.int ((n : Int) - 1)) = true then (1 : Int) else 0) = ((if i = 0 ∧ j + 1 = n then 1 else 0 : Nat) : Int) := by
              rw [dec_int]
              by_cases c : j + 1 = n
              · have e1 : (if i = 0 ∧ j + 1 = n then 1 else 0 : Nat) = 1 := if_pos ⟨hi0, c⟩
                rw [decide_eq_true (show (j : Int) = (n : Int) - 1 by omega), e1]
                rfl
              · have e1 : (if i = 0 ∧ j + 1 = n then 1 else 0 : Nat) = 0 := if_neg fun z => c z.2
                rw [decide_eq_false (show ¬ (j : Int) = (n : Int) - 1 by omega), e1]
                rfl
            refine k z t _ ((x2.trans (.new ht)).trans (.new hz)) ?_ ((Ext.new hz).sqT (SqT.of upd_same))
            rw [upd_same, ← ev]
          · rw [dec_int, decide_eq_false (show ¬ (i : Int) = 0 by omega)]
            refine iteF (.inr ⟨_, rfl, _, rfl, .inl ⟨D, _, rfl, SqL.of e2, fun t ht => ⟨by show 2 ≤ sizeLine; decide, fun z hz => ?_⟩⟩⟩)
            refine k z t _ ((x2.trans (.new ht)).trans (.new hz)) ?_ ((Ext.new hz).sqT (SqT.of upd_same))
            have e1 : (if i = 0 ∧ j + 1 = n then 1 else 0 : Nat) = 0 := if_neg fun z => hi0 z.1
            rw [upd_same, e1]
            rfl
      · rw [dec_int, decide_eq_false (show ¬ (sort : Int) = 1 by omega)]
        refine iteF ?_
        obtain rfl : sort = 2 := by omega
        have edC : dueC 2 n i j = fct (n - 2) := rfl
        have edL : dueL 2 n i j = (List.range (n - 1)).map fun k => ((pas (n - 2) (k + 1 - 1) : Nat) : Int) := rfl
        rw [edC, edL] at k
        dsimp only [tNext, tSeq, gName, List.set]
        have fl : ∀ u, u ≤ 11 → fct u ≤ 39916800 := by decide +kernel
        refine ⟨_, rfl, _, _, rfl, rfl, 2, (n : Int) - 1, rfl, ⟨by omega, by omega, by omega, by omega⟩, for_range (lo := 2) (n := ((n : Int) - 1 - 2).toNat) (fun u σ H2 => ∃ o10 : Option V, σ = [some (.int ((2 : Nat) : Int)), some (.int (n : Int)), some (.int (i : Int)), some (.int (j : Int)), none, none, none, none, none, some (.int ((fct (u + 1) : Nat) : Int)), o10] ∧ H2 = H) ⟨_, rfl, rfl⟩ ?_ ?_⟩
        · rintro u σ H2 hu ⟨o10, rfl, rfl⟩
          have h1 := fl (u + 1) (by omega)
          refine ⟨_, rfl, _, rfl, _, _, rfl, rfl, .inl ⟨by omega, by omega⟩, some (.int (2 + (u : Int))), ?_, rfl⟩
          dsimp only [gName, List.set]
          have e : ((fct (u + 1) : Nat) : Int) * (2 + (u : Int)) = ((fct (u + 1 + 1) : Nat) : Int) := by
            show _ = (((u + 1 + 1) * fct (u + 1) : Nat) : Int)
            rw [Int.natCast_mul, Int.mul_comm]
            congr 1
            omega
          rw [e]
        · rintro σ H2 ⟨o10, rfl, rfl⟩
          have ef : fct (((n : Int) - 1 - 2).toNat + 1) = fct (n - 2) := by
            by_cases c : n = 2
            · subst c; rfl
            · congr 1
              omega
          rw [ef]
          refine ⟨_, rfl, _, rfl, 1, (n : Int), rfl, ⟨by omega, by omega, by omega, by omega⟩, fun D hD => ?_⟩
          refine lc_range (lo := 1) (n := ((n : Int) - 1).toNat) (fun u H3 => H3 D = some (.lst (((List.range u).map fun k => ((pas (n - 2) (k + 1 - 1) : Nat) : Int)).map V.int)) ∧ Ext H2 H3) ⟨upd_same, .new hD⟩ (fun u H3 hu ⟨e3, x3⟩ => ?_) (fun H3 ⟨e3, x3⟩ => ?_)
          · refine ⟨rfl, ?_⟩
            dsimp only [tYes]
            rw [if_pos rfl]
            refine ⟨_, rfl, _, _, rfl, rfl, _, rfl, _, _, rfl, rfl, n - 2, u, (by
              have e1 : ((n - 2 : Nat) : Int) = (n : Int) - 2 := by omega
              have e2 : 1 + (u : Int) - 1 = (u : Int) := by omega
              rw [e1]
              show [V.int ((n : Int) - 2), V.int (1 + (u : Int) - 1)] = _
              rw [e2]), by omega, by omega, _, e3, small1000 (by rw [List.length_map, List.length_map, List.length_range]; omega), ?_, x3.write hD⟩
            rw [upd_same, List.range_succ, List.map_append, List.map_append]
            rfl
          · have en : ((n : Int) - 1).toNat = n - 1 := by omega
            rw [en] at e3
            refine .inl ⟨D, _, rfl, SqL.of e3, fun t ht => ⟨by show 2 ≤ sizeLine; decide, fun z hz => ?_⟩⟩
            exact k z t _ ((x3.trans (.new ht)).trans (.new hz)) upd_same ((Ext.new hz).sqT (SqT.of upd_same))
end
end Wd

set_option Elab.async false
set_option linter.all false
set_option maxRecDepth 100000
set_option maxHeartbeats 4000000
/-! Xt: tuples known exactly from where they are made; a method of such a tuple. -/
namespace Bx
open PySem PySem.Spec PyProof.Rows L2
/-- a tuple whose object is known: no dict of its own -/
structure XTup (H : Hp) (p : Addr) (xs : List V) : Prop where
  ex : ∃ o : Obj, H p = some (.frz o (.tup xs)) ∧ o.cls = .type "tuple" ∧ o.dict = none
theorem XTup.sqT {K : PySem.W.Frag} {H : Hp} {p : Addr} {xs : List V} (h : XTup H p xs) : SqT K H p xs := by
  obtain ⟨o, e, _⟩ := h.ex
  exact .inl (.inr ⟨o, e⟩)
theorem XTup.ext {H H' : Hp} {p : Addr} {xs : List V} (h : XTup H p xs) (x : Ext H H') : XTup H' p xs := by
  obtain ⟨o, e, e2, e3⟩ := h.ex
  exact ⟨o, x.keep _ _ e (fun z => z), e2, e3⟩
theorem XTup.new {H : Hp} {p : Addr} {xs : List V} {o : Obj} (h1 : o.cls = .type "tuple") (h2 : o.dict = none) : XTup (upd H p (.frz o (.tup xs))) p xs := ⟨o, upd_same, h1, h2⟩
section
variable {X : Cx}
/-- tuple(x) of a list, known exactly -/
def kTupX (K : PySem.W.Frag) (x : V) (H : Hp) (Q : VK) : Prop :=
  ∃ p xs, x = V.ref p ∧ SqL K H p xs ∧ ∀ q (o : Obj), H q = none → o.cls = .type "tuple" → o.dict = none → Q (.ref q) (upd H q (.frz o (.tup xs)))
theorem rl_tupleX (pins : List (Addr × Obj)) (s : Shared) (σ : L2.St) (H : Hp) (x : V) (v : Value) (Q : VK) (I : Inv X pins σ H s) (r : RelV x v) (h : kTupX X.K x H Q) :
    wpAny (model X.prog X.w) X.A (call (.type "tuple") [v]) (EP X pins σ Q) X.xe s := by
  obtain ⟨p, xs, rfl, hs, q⟩ := h
  obtain rfl : v = .ref p := r
  obtain ⟨its, rv, pl, hz⟩ := I.list hs
  refine call_tuple_list pl.isList (fun h' hk => ?_) (by rw [List.size_toArray, ← rv.length]; exact hz)
  have I1 : Inv X pins σ H { s with heap := h' } := I.kept (t' := s.toks) hk
  have I2 : Inv X pins σ (upd H h'.objs.size (.frz { cls := .type "tuple", data := .seq its.toArray } (.tup xs))) { s with heap := h'.push { cls := .type "tuple", data := .seq its.toArray } } :=
    I1.laid (t' := s.toks) (fun b o e => Heap.get?_push_of_some _ e) (Nat.le_refl _) (show ObjOk X.prog X.w _ _ _ (.frz _ (.tup xs)) from ⟨by simp [Heap.get?, Heap.push], hz, its, rv, IsTup.new _ _⟩)
  exact ⟨.ref h'.objs.size, _, I2, rfl, q _ _ (I1.hok.fresh (Nat.le_refl _)) rfl rfl⟩
theorem pe_tupleOfX {a : Expr} {ta : TE} {p pos : Pos} (hg : Gl X "tuple") (hm : X.mg "tuple" = none) (ha : PE X a ta) (na : starEach [a] X.env = (false, eval a X.env) :: starEach [] X.env := by rfl) :
    PE X (.Call (.Name "tuple" p) [a] [] pos) (tThen ta (kTupX X.K)) := by
  refine ⟨fun pins s σ H Q I h => ?_⟩
  exact Call_ (ld_blt I hg hm boot_tuple (PyProof.Rows.callWith_type1 (one_arg ha I h (fun v s2 x H2 I2 r q => rl_tupleX pins s2 σ H2 x v Q I2 r q) na) na))
/-- a method of a tuple known exactly -/
def tBMX (r : V → List V → Hp → VK → Prop) (to : TE) (t : TA) : TE := fun σ H Q => to σ H fun x H1 => (∃ p ys, x = V.ref p ∧ XTup H1 p ys) ∧ t σ H1 fun xs H2 => r x xs H2 Q
theorem pe_bmX {o e : Expr} {es : List Expr} {to : TE} {t : TA} {name : Str} {id : String} {apos cpos : Pos} {r : V → List V → Hp → VK → Prop} (slot : Slot "tuple" name id) (hty : typeOf (.builtin id) = pure (.type "method_descriptor")) (hm : MtR X id r) (ho : PE X o to) (ha : PA X (e :: es) t)
    (hbase : attributeBase o name X.env (eval o X.env) = eval o X.env := by rfl)
    (hfew : ((backTo cpos (starEach (e :: es) X.env)).all (fun x => !x.1) && (backToKw cpos (keywordEach [] X.env)).all (fun x => x.1.isSome)
      && decide ((e :: es).length + ([] : List Keyword).length + (if ([] : List Keyword).isEmpty then 0 else 1) < 30)) = true := by rfl)
    (hline : (apos.endLine == cpos.line) = true := by rfl) (hs : starEach (e :: es) X.env = (false, eval e X.env) :: starEach es X.env := by rfl) (hplain : (backTo cpos (starEach es X.env)).any (·.1) = false := by rfl) :
    PE X (.Call (.Attribute o name apos) (e :: es) [] cpos) (tBMX r to t) := by
  refine ⟨fun pins s σ H Q I h => ?_⟩
  refine wpAny_Call_method_late hbase hfew hline rfl (thn (ho.run pins s σ H _ I h) fun v s1 ⟨x, H1, I1, r1, ty, q1⟩ => ?_)
  obtain ⟨p, ys, ex, hx⟩ := ty
  subst ex
  obtain rfl : v = Value.ref p := r1
  obtain ⟨o1, e1, e2, e3⟩ := hx.ex
  have hobj : s1.heap.get? p = some o1 := (I1.hok p _ e1).1
  refine ⟨"tuple", id, PySem.F.plainAttrs_tuple, slot, hty, ⟨o1, hobj, e2⟩, (fun a ea => by cases ea; exact ⟨o1, hobj, e3⟩), ?_⟩
  have hA := ha.run cpos pins s1 σ H1 _ I1 q1
  rw [hs] at hA ⊢
  refine Calls.callWith_builtin (by show (false || (backTo cpos (starEach es X.env)).any (·.1)) = false; rw [hplain] <;> rfl) (Calls.evalArgs_plain ?_)
  exact thn hA fun us s2 ⟨vs, H2, I2, r2, q2⟩ => hm pins s2 σ H2 (.ref p) vs (.ref p) us Q I2 rfl r2 q2
end
end Bx

set_option Elab.async false
set_option linter.all false
set_option maxRecDepth 100000
set_option maxHeartbeats 4000000
/-! Rs: t[::-1] of a tuple, sorted(set(t)) of ints, >= of tuples of ints, a chain of three. -/
namespace Bx
open PySem PySem.Spec PyProof.Rows L2

/-! ### t[::-1] -/
theorem pick_back {α : Type} (xs : Array α) : ∀ n : Nat, n ≤ xs.size → (List.range n).filterMap (fun (m : Nat) => xs[n - 1 - m]?) = (xs.toList.take n).reverse
  | 0, _ => by simp
  | n + 1, h => by
    have ih := pick_back xs n (by omega)
    have e1 : (fun (m : Nat) => xs[n + 1 - 1 - (m + 1)]?) = fun m => xs[n - 1 - m]? := by
      funext m
      have : n + 1 - 1 - (m + 1) = n - 1 - m := by omega
      rw [this]
    have hx : xs[n]? = some xs[n] := Array.getElem?_eq_getElem (by omega)
    have hx2 : xs.toList[n]? = some xs[n] := by rw [Array.getElem?_toList]; exact hx
    rw [List.range_succ_eq_map, List.filterMap_cons, List.filterMap_map]
    show (match xs[n + 1 - 1 - 0]? with
      | none => _
      | some b => _) = _
    have e2 : n + 1 - 1 - 0 = n := by omega
    rw [e2, hx]
    show xs[n] :: List.filterMap (fun (m : Nat) => xs[n + 1 - 1 - (m + 1)]?) (List.range n) = _
    rw [e1, ih, List.take_add_one, hx2]
    simp
theorem fm_congr {α β : Type} (f g : α → Option β) : ∀ l : List α, (∀ x ∈ l, f x = g x) → l.filterMap f = l.filterMap g
  | [], _ => rfl
  | x :: l, h => by
    rw [List.filterMap_cons, List.filterMap_cons, h x List.mem_cons_self, fm_congr f g l fun y hy => h y (List.mem_cons_of_mem _ hy)]
theorem pick_rev (xs : Array Value) : ((List.range xs.size).filterMap fun (m : Nat) => xs[(((xs.size : Nat) : Int) - 1 + (m : Int) * (-1)).toNat]?).toArray = xs.toList.reverse.toArray := by
  have h := pick_back xs xs.size (Nat.le_refl _)
  have e2 : (List.range xs.size).filterMap (fun (m : Nat) => xs[(((xs.size : Nat) : Int) - 1 + (m : Int) * (-1)).toNat]?) = (List.range xs.size).filterMap (fun (m : Nat) => xs[xs.size - 1 - m]?) := by
    exact fm_congr _ _ _ fun m hm => by
      have z := List.mem_range.mp hm
      have : (((xs.size : Nat) : Int) - 1 + (m : Int) * (-1)).toNat = xs.size - 1 - m := by omega
      rw [this]
  rw [e2, h]
  have : xs.toList.take xs.size = xs.toList := List.take_of_length_le (by rw [Array.length_toList]; exact Nat.le_refl _)
  rw [this]
section
variable {prog : Program} {w : World} {A : Around} {E : Value → Shared → Prop} {s : Shared}
theorem part_is {v : Value} {o : Option Int} {Q : Option Int → Shared → Prop} (p : IsPart v o) (h : Q o s) : wpAny (model prog w) A (Builtin.Slice.slicePartIndex v) Q E s := by
  cases p with
  | none => exact PyProof.Rows.slicePart_none h
  | int i t => exact PyProof.Rows.slicePart_int h
theorem applied_back {sl : Addr} {vl vu vs : Value} {n : Nat} {Q : Int × Int × Nat → Shared → Prop} (hs : s.heap.IsSliceOf sl vl vu vs) (pl : IsPart vl none) (pu : IsPart vu none) (ps : IsPart vs (some (-1)))
    (h : Q ((n : Int) - 1, -1, n) s) : wpAny (model prog w) A (Builtin.Slice.sliceApplied (.ref sl) (pure (n : Int))) Q E s := by
  obtain ⟨os, a1, a2, a3⟩ := id hs
  unfold Builtin.Slice.sliceApplied Builtin.Slice.sliceFields
  refine wpAny_bind (wpAny_bind (wpAny_field a1 a3 (x := vl) rfl (wpAny_bind (wpAny_field a1 a3 (x := vu) rfl (wpAny_bind (wpAny_field a1 a3 (x := vs) rfl (wpAny_pure ?_)))))))
  refine wpAny_bind (part_is ps ?_)
  show wpAny _ _ (if ((-1 : Int) == 0) = true then _ else _) _ _ s
  rw [if_neg (by decide)]
  refine wpAny_bind (part_is pl (wpAny_bind (part_is pu (wpAny_bind (wpAny_pure ?_)))))
  show wpAny _ _ (pure ((n : Int) - 1, (-1 : Int), Builtin.Slice.slicePlaces ((n : Int) - 1) (-1) (-1))) _ _ s
  have e : Builtin.Slice.slicePlaces ((n : Int) - 1) (-1) (-1) = n := by
    unfold Builtin.Slice.slicePlaces
    rw [if_neg (by decide)]
    by_cases z : (n : Int) - 1 > -1
    · rw [if_pos z]
      have : -(-1 : Int) = 1 := by decide
      rw [this, Int.ediv_one]
      omega
    · rw [if_neg z]
      omega
  rw [e]
  exact wpAny_pure h
theorem getItem_back {t sl : Addr} {items : Array Value} {vl vu vs : Value} {Q : Value → Shared → Prop} (ht : PyProof.Rows.IsTup s.heap t items) (hs : s.heap.IsSliceOf sl vl vu vs) (pl : IsPart vl none) (pu : IsPart vu none) (ps : IsPart vs (some (-1)))
    (hsz : items.size ≤ sizeLine) (h : Q (.ref s.heap.objs.size) { s with heap := s.heap.push { cls := .type "tuple", data := .seq items.toList.reverse.toArray } }) : wpAny (model prog w) A (getItem (.ref t) (.ref sl)) Q E s := by
  have room : sizeOk (.seq items.toList.reverse.toArray) := by
    show items.toList.reverse.toArray.size ≤ sizeLine
    rw [List.size_toArray, List.length_reverse, Array.length_toList]
    exact hsz
  obtain ⟨os, a1, a2, a3⟩ := id hs
  have isS : s.TypeIs (.ref sl) "slice" := ⟨os, a1, a2⟩
  unfold getItem
  try with_reducible refine wpAny_holding ?_
  first | refine wpAny_bind (wpAny_pure ?_) | skip
  refine wpAny_bind (wpAny_sequenceKey ht.typeIs (by decide) (wpAny_bind (wpAny_callSpecial?_slot (name := Str.ofString "__getitem__") ht.typeIs PyProof.Rows.slot_tuple_getitem (wpAny_call_entry PyProof.Rows.slot_tuple_getitem ht.typeIs entry_tuple_getitem ?_ (args_tuple_getitem _ _)))))
  show wpAny _ _ (Builtin.Tuple.tupleItemsOf (.ref t) >>= _) _ _ s
  refine wpAny_bind (PyProof.Rows.tupleItemsOf_ ht (wpAny_bind (wpAny_typeOf isS ?_)))
  rw [if_pos (by decide)]
  refine wpAny_bind (applied_back hs pl pu ps ?_)
  have no : ¬ ((((items.size : Nat) : Int) - 1 == 0 && (-1 : Int) == 1 && items.size == items.size) = true) := by
    intro q
    rw [Bool.and_eq_true, Bool.and_eq_true] at q
    exact absurd q.1.2 (by decide)
  show wpAny _ _ (if (((items.size : Nat) : Int) - 1 == 0 && (-1 : Int) == 1 && items.size == items.size) = true then _ else _) _ _ s
  rw [if_neg no, pick_rev]
  first
    | exact wpAny_bind (m := Builtin.Tuple.tupleExact _) (wpAny_newObj_type (wpAny_pure ⟨_, rfl, wpAny_pure h⟩) room)
    | exact wpAny_bind (wpAny_bind (m := Builtin.Tuple.tupleExact _) (wpAny_newObj_type (wpAny_pure ⟨_, rfl, wpAny_pure h⟩) room))
end
section
variable {X : Cx}
def tRevT (K : PySem.W.Frag) (te : TE) : TE := fun σ H Q => te σ H fun x H1 => ∃ a xs, x = .ref a ∧ SqT K H1 a xs ∧ ∀ p, H1 p = none → Q (.ref p) (upd H1 p (.tup xs.reverse))
theorem pe_revT {e : Expr} {te : TE} {k : Nat} {p1 p2 p3 pos : Pos} (he : PE X e te) : PE X (.Subscript e (.Slice none none (some (.UnaryOp .USub (.Constant (.int 1) k p1) p2)) p3) pos) (tRevT X.K te) := by
  refine ⟨fun pins s σ H Q I h => Subscript_ (thn (he.run pins s σ H _ I h) fun v s1 ⟨x, H1, I1, r1, q1⟩ => ?_)⟩
  obtain ⟨a, xs, ex, hx, q⟩ := q1
  subst ex
  cases r1
  have back : PO X (some (.UnaryOp .USub (.Constant (.int 1) k p1) p2)) (tPart (tUn (rU fun i => .int (-i)) (tC (.int 1)))) := po_some (pe_un un_neg pe_int)
  refine wpAny_Slice (thn (po_none.run pins s1 σ H1 (fun o H2 => o = none ∧ H2 = H1) I1 ⟨rfl, rfl⟩) fun vl s2 ⟨l, H2, I2, pl, el, e2⟩ => ?_)
  subst el e2
  refine thn (po_none.run pins s2 σ H2 (fun o H3 => o = none ∧ H3 = H2) I2 ⟨rfl, rfl⟩) fun vu s3 ⟨u, H3, I3, pu, eu, e3⟩ => ?_
  subst eu e3
  refine thn (back.run pins s3 σ H3 (fun o H4 => o = some (-1) ∧ H4 = H3) I3 ⟨1, rfl, -1, rfl, rfl, rfl⟩) fun vs s4 ⟨o, H4, I4, ps, eo, e4⟩ => ?_
  subst eo e4
  have I5 : Inv X pins σ H4 { s4 with heap := s4.heap.push { cls := .type "slice", data := .fields #[vl, vu, vs] } } := I4.kept (t' := s4.toks) fun b ob z => Heap.get?_push_of_some _ z
  obtain ⟨its, r, ht, hz⟩ := I5.tuple hx
  have hlen := r.length
  show wpAny (model X.prog X.w) X.A (subscriptTail e (.Slice none none (some (.UnaryOp .USub (.Constant (.int 1) k p1) p2)) p3) (.ref a) (.ref s4.heap.objs.size)) (EP X pins σ Q) X.xe { s4 with heap := s4.heap.push { cls := .type "slice", data := .fields #[vl, vu, vs] } }
  refine tail_any (ops := [.ref a, .ref s4.heap.objs.size]) ht.typeIs (PyProof.Rows.slot_tuple_getitem.lookup) ?_ (by with_unfolding_all rfl)
  refine getItem_back (items := its.toArray) ht (Heap.IsSliceOf.new _ vl vu vs) pl pu ps (by rw [List.size_toArray]; omega) ?_
  refine ⟨.ref _, _, I5.laid (t' := s4.toks) (o := .tup xs.reverse) (fun b ob z => Heap.get?_push_of_some _ z) (Nat.le_refl _) ?_, rfl, q _ (I5.hok.fresh (Nat.le_refl _))⟩
  exact ⟨by rw [List.length_reverse]; exact hz, _, r.reverse, IsTup.new _ _⟩

/-! ### >= of tuples of ints -/
def rGeT (K : PySem.W.Frag) : R2 := fun x y H Q => ∃ (a b : Addr) (ns ms : List Int), x = .ref a ∧ y = .ref b ∧ SqT K H a (ns.map V.int) ∧ SqT K H b (ms.map V.int) ∧
  Q (.bl (Ob.lexAt (fun j => decide (ns.getD j 0 = ms.getD j 0)) (fun j => decide (ms.getD j 0 ≤ ns.getD j 0)) (decide (ns.length ≥ ms.length)) 0 (min ns.length ms.length))) H
theorem op_geT (hu : X.A.units < cLine) : OpR X (compareOp .GtE) (rGeT X.K) := by
  intro pins s σ H x y v u Q I rx ry h
  obtain ⟨a, b, ns, ms, rfl, rfl, ha, hb, q⟩ := h
  cases rx
  cases ry
  obtain ⟨its, r1, p1, _⟩ := I.tuple ha
  obtain ⟨its2, r2, p2, _⟩ := I.tuple hb
  have i1 : IntsAre its ns := Vals.ints r1
  have i2 : IntsAre its2 ms := Vals.ints r2
  have n1 : its.toArray.size = ns.length := by rw [List.size_toArray]; exact i1.length
  have n2 : its2.toArray.size = ms.length := by rw [List.size_toArray]; exact i2.length
  have g1 : ∀ j (z : j < its.toArray.size), ∃ t, its.toArray[j] = .int (ns.getD j 0) t := fun j z => PyProof.Rows.IntsAre.int_at i1 _ _ (by simp at z; simp [z])
  have g2 : ∀ j (z : j < its2.toArray.size), ∃ t, its2.toArray[j] = .int (ms.getD j 0) t := fun j z => PyProof.Rows.IntsAre.int_at i2 _ _ (by simp at z; simp [z])
  have main := Ob.RcOp.tuples_ge (A := X.A) (s := s) (e := fun j => decide (ns.getD j 0 = ms.getD j 0)) (r := fun j => decide (ms.getD j 0 ≤ ns.getD j 0)) p1 p2 hu (fun j z1 z2 => by
    obtain ⟨t, et⟩ := g1 j z1
    obtain ⟨t', et'⟩ := g2 j z2
    rw [et, et']
    have z : decide (ns.getD j 0 = ms.getD j 0) = (ns.getD j 0 == ms.getD j 0) := by
      by_cases c : ns.getD j 0 = ms.getD j 0
      · rw [decide_eq_true c]; exact (beq_iff_eq.mpr c).symm
      · rw [decide_eq_false c]; exact (beq_eq_false_iff_ne.mpr c).symm
    rw [z]
    exact SeqAt.EqAt.int_int _ _ _ _) (fun j z1 z2 _ => by
    obtain ⟨t, et⟩ := g1 j z1
    obtain ⟨t', et'⟩ := g2 j z2
    rw [et, et']
    exact Ob.RcOp.ge_int _ _ _ _)
  rw [n1, n2] at main
  show wpAny _ X.A (richCompare .GtE _ _) _ _ s
  exact main _ _ _ _ ⟨.bl _, H, I, rfl, q⟩

/-! ### sorted(set(t)) -/
end
section
variable {P : Program} {w : World} {A : Around} {E : Value → Shared → Prop} {s : Shared}
theorem sort_setI {a : Addr} {S : Int → Bool} {n : Nat} {Q : Value → Shared → Prop} (R : SetR w s.heap a S n) (hh : A.handled = none)
    (hQ : ∀ s' b (out : Array Value) (c : Nat) (ms : List Int), (∀ d o, s.heap.get? d = some o → s'.heap.get? d = some o) → s'.gens = s.gens → s'.os = s.os → s.heap.objs.size ≤ b → s'.heap.get? b = some (seqObj "list" out c) →
      IntsAre out.toList ms → ms.length = n → ms.Pairwise (· < ·) → (∀ k, k ∈ ms ↔ S k = true) → Q (.ref b) s') : wpAny (model P w) A (call (.builtin "sorted") [.ref a]) Q E s := by
  obtain ⟨o, es, ep, t, ho, hex, hd, gd, nd, mem, bd, fit, num, ris, led⟩ := R
  apply Calls.call_function_entry kind_sorted plain_sorted entry_sorted (args_sorted1 _)
  unfold Builtin.«sorted»
  apply wpAny_bind (m := checkCount "sorted" 1 1 _)
  apply wpAny_pure
  refine wpAny_bind (collect_set (A := A.in1) hh ⟨o, ho, hex.1, hd⟩ fit bd ris led fun s1 vs kp hz hg hos pm => ?_)
  have small : vs.length ≤ sizeLine := by
    rw [pm.length_eq, List.length_map, Array.length_toList, sizeLine_eq]
    unfold scanBound at bd
    omega
  have allI : ∀ v ∈ vs, ∃ i t, v = Value.int i t := fun v hv => by
    obtain ⟨e, he, rfl⟩ := List.mem_map.mp (pm.mem_iff.mp hv)
    obtain ⟨k, tk, e1⟩ := gd e he
    exact ⟨k, tk, e1.1⟩
  have isI := SrtO.ints_iv allI
  have ivs : (vs.map SrtO.iv).Perm (es.toList.map keyOf) := by
    have q := pm.map SrtO.iv
    rw [List.map_map] at q
    have e : (es.toList.map (SrtO.iv ∘ Prod.snd)) = es.toList.map keyOf := List.map_congr_left fun e he => by
      obtain ⟨k, tk, e1⟩ := gd e he
      show SrtO.iv e.2 = keyOf e
      unfold keyOf
      rw [e1.1]
      rfl
    rw [← e]
    exact q
  refine wpAny_bind (wpAny_newList ?_ small)
  have oL : (s1.heap.push (seqObj "list" vs.toArray 0)).get? s1.heap.objs.size = some (seqObj "list" vs.toArray 0) := Heap.get?_push_size _ rfl
  refine wpAny_bind (wpAny_holding (wpAny_call_entry (s := { s1 with heap := s1.heap.push (seqObj "list" vs.toArray 0) }) slot_list_sort ⟨_, oL, rfl⟩ entry_list_sort
    (SrtO.list_sort_ord SrtO.swo_int oL small (fun h2 => SrtO.ints_sortable isI h2) fun out sr sb => ⟨_, rfl, ?_⟩) (args_list_sort _)))
  obtain ⟨c, hc⟩ := sortedHeap_at (vs := vs) (out := out.toArray) oL
  obtain ⟨k1, k2, k3⟩ := SrtO.ints_out isI sr sb
  have k4 := k2.trans ivs
  have nd2 : (out.map SrtO.iv).Nodup := k4.nodup_iff.mpr nd
  refine wpAny_pure ⟨_, rfl, hQ _ s1.heap.objs.size out.toArray c (out.map SrtO.iv) (fun d u e => ?_) hg hos hz hc (by simpa using k1) ?_ ?_ fun k => ?_⟩
  · have q := kp d u e
    have lt := Heap.lt_size q
    exact (sortedHeap_old (Nat.ne_of_lt lt) (by rw [size_push']; exact Nat.lt_succ_of_lt lt)).trans (Heap.get?_push_of_some _ q)
  · rw [k4.length_eq, List.length_map, Array.length_toList]
    exact num
  · exact (k3.and nd2).imp fun {x y} z => by omega
  · rw [k4.mem_iff]
    exact (mem k).symm
end
section
variable {X : Cx}
def tSortSetT (K : PySem.W.Frag) (ta : TE) : TE := fun σ H Q => ta σ H fun x H1 => ∃ (l : Addr) (ns : List Int), x = V.ref l ∧ SqT K H1 l (ns.map V.int) ∧ ns.length ≤ 1000 ∧
  ∀ (ms : List Int) (p : Addr), ms.Pairwise (· < ·) → (∀ k, k ∈ ms ↔ k ∈ ns) → H1 p = none → Q (.ref p) (upd H1 p (.lst (ms.map V.int)))
theorem pe_sortSetT {a : Expr} {ta : TE} {p p2 q pos : Pos} (hc : X.calm = true) (hg : Gl X "sorted") (hm : X.mg "sorted" = none) (hg2 : Gl X "set") (hm2 : X.mg "set" = none) (hb : bootBuiltins ("sorted" : Str) = some (.builtin "sorted")) (ha : PE X a ta)
    (na : starEach [a] X.env = (false, eval a X.env) :: starEach [] X.env := by rfl) : PE X (.Call (.Name "sorted" p) [.Call (.Name "set" p2) [a] [] q] [] pos) (tSortSetT X.K ta) := by
  refine ⟨fun pins s σ H Q I h => ?_⟩
  refine Call_ (ld_blt I hg hm hb ?_)
  refine PyProof.Rows.callWith_builtin1 (PyProof.Rows.args_cons ?_ rfl) rfl rfl
  refine Call_ (ld_blt I hg2 hm2 PyProof.Rows.boot_set ?_)
  refine PyProof.Rows.callWith_type1 (PyProof.Rows.args_cons (thn (ha.run pins s σ H _ I h) fun v s1 ⟨x, H1, I1, r1, q1⟩ => PyProof.Rows.args_nil ?_) na) na rfl
  obtain ⟨l, ns, rfl, hq, h1, q1⟩ := q1
  cases r1
  obtain ⟨its, r, pt, hz⟩ := I1.tuple hq
  have hi : IntsAre its.toArray.toList ns := ints_of_vals r
  refine call_set_tupI ns (I1.ok.hd hc) (show s1.heap.IsTuple l its.toArray from pt) hi (by unfold scanBound; omega) fun h' tk c R1 hcn k => ?_
  refine PyProof.Rows.args_nil ?_
  have I2 : Inv X pins σ H1 { s1 with heap := h', toks := tk } := I1.kept fun b o e => k b o e
  refine sort_setI R1 (I2.ok.hd hc) fun s' b out c2 ms kp g o hb2 hgt hout hlen pw hmem => ?_
  have len : (ms.map V.int).length ≤ sizeLine := by
    rw [List.length_map, sizeLine_eq]
    omega
  have hn : H1 b = none := I2.hok.fresh hb2
  have J := I2.call (ch := []) (h' := s'.heap) (g' := s'.gens) (d' := s'.drawn) (t' := s'.toks) (H' := upd H1 b (.lst (ms.map V.int))) (Un.laid kp hb2 hn) (I2.hok.laid kp hb2 ⟨len, out.toList, c2, vals_of_ints hout, hgt⟩) (by rw [g]; exact I2.bare) (fun _ z => nomatch z)
  have e : s' = { ({ s1 with heap := h', toks := tk } : Shared) with heap := s'.heap, gens := s'.gens, drawn := s'.drawn, toks := s'.toks } := by
    cases s'; cases s1; cases o; rfl
  rw [e]
  exact ⟨.ref b, _, J, rfl, q1 ms b pw (fun k => by rw [hmem, decide_eq_true_eq]) hn⟩

/-! ### a chain of three -/
def tChain3 (r r' r2 : R2) (ta tb tc td : TE) : TE := fun σ H Q => ta σ H fun x H1 => tb σ H1 fun y H2 => r x y H2 fun z H3 => ∃ k, z = .bl k ∧ (if k = true then
    tc σ H3 fun z1 H4 => r' y z1 H4 fun z2 H5 => ∃ k2, z2 = .bl k2 ∧ (if k2 = true then td σ H5 fun z3 H6 => r2 z1 z3 H6 Q else Q (.bl false) H5) else Q (.bl false) H3)
theorem pe_chain3 {a b c d : Expr} {ta tb tc td : TE} {pos : Pos} {op op' op2 : CmpOp} {r r' r2 : R2} (ho : OpR X (compareOp op) r) (ho' : OpR X (compareOp op') r') (ho2 : OpR X (compareOp op2) r2) (ha : PE X a ta) (hb : PE X b tb) (hc : PE X c tc) (hd : PE X d td)
    (hm : lastMarks [op, op', op2] [b, c, d] = false := by with_unfolding_all rfl) : PE X (.Compare a [op, op', op2] [b, c, d] pos) (tChain3 r r' r2 ta tb tc td) := by
  refine ⟨fun pins s σ H Q I h => ?_⟩
  refine Compare_chain (thn (ha.run pins s σ H _ I h) fun v s1 ⟨x, H1, I1, r1, q1⟩ => chain_link (thn (hb.run pins s1 σ H1 _ I1 q1) fun u s2 ⟨y, H2, I2, r2', q2⟩ =>
    thn (ho pins s2 σ H2 x y v u _ I2 r1 r2' q2) fun d1 s3 ⟨z, H3, I3, r3, k, e, q3⟩ => ?_)) hm
  subst e
  cases r3
  refine wpAny_truthy_bool ?_
  cases k with
  | false => exact ite_ff ⟨.bl false, H3, I3, rfl, q3⟩
  | true =>
    refine ite_tt (chain_link (thn (hc.run pins s3 σ H3 _ I3 q3) fun w1 s4 ⟨z1, H4, I4, r4, q4⟩ => thn (ho' pins s4 σ H4 y z1 u w1 _ I4 r2' r4 q4) fun d2 s5 ⟨z2, H5, I5, r5, k2, e2, q5⟩ => ?_))
    subst e2
    cases r5
    refine wpAny_truthy_bool ?_
    cases k2 with
    | false => exact ite_ff ⟨.bl false, H5, I5, rfl, q5⟩
    | true => exact ite_tt (chain_last (thn (hd.run pins s5 σ H5 _ I5 q5) fun w2 s6 ⟨z3, H6, I6, r6, q6⟩ => ho2 pins s6 σ H6 z1 z3 w1 w2 Q I6 r4 r6 q6))
end
end Bx

set_option Elab.async false
set_option linter.all false
set_option maxRecDepth 100000
set_option maxHeartbeats 4000000
namespace Wd
open PySem PySem.Spec PyProof.Rows L2 Bx Gx











































section
/-! ### the laws of rings, rows, meshes, stars -/
def eK (sort n x y : Nat) : Bool := if sort = 0 then decide (y = x + 1 ∨ (x = 0 ∧ y + 1 = n)) else if sort = 1 then decide (y = x + 1) else if sort = 2 then true else decide (x = 0)
variable {n i j : Nat}
theorem ringN (h3 : 3 ≤ n) (hij : i < j) (hj : j < n) : RingN (bsC n (eK 0 n)) n i j (j - i - 1) (n - 2 - (j - i - 1)) := ⟨bs_bsC, fun x y hx hy => by
  rw [adj_bsC hx hy]
  show (x < y ∧ decide (y = x + 1 ∨ (x = 0 ∧ y + 1 = n)) = true) ∨ (y < x ∧ decide (x = y + 1 ∨ (y = 0 ∧ x + 1 = n)) = true) ↔ _
  rw [decide_eq_true_eq, decide_eq_true_eq]
  unfold Rg
  omega, by omega, by omega, hj, h3⟩
theorem rowN (hij : i < j) (hj : j < n) : RowN (bsC n (eK 1 n)) n i j := ⟨bs_bsC, fun x y hx hy => by
  rw [adj_bsC hx hy]
  show (x < y ∧ decide (y = x + 1) = true) ∨ (y < x ∧ decide (x = y + 1) = true) ↔ _
  rw [decide_eq_true_eq, decide_eq_true_eq]
  omega, hij, hj⟩
theorem starN (h4 : 4 ≤ n) (hij : i < j) (hj : j < n) : StarN (bsC n (eK 3 n)) n i j := ⟨bs_bsC, fun x y hx hy => by
  rw [adj_bsC hx hy]
  show (x < y ∧ decide (x = 0) = true) ∨ (y < x ∧ decide (y = 0) = true) ↔ _
  rw [decide_eq_true_eq, decide_eq_true_eq]
  omega, hij, hj, h4⟩
theorem mesh_eq : bsC n (eK 2 n) = meshL n := rfl
theorem due_orders {sort : Nat} (hs : sort < 3) (h3 : sort = 0 → 3 ≤ n) (hij : i < j) (hj : j < n) : wayC (bsC n (eK sort n)) n j (2 ^ i) = dueC sort n i j := by
  match sort, hs with
  | 0, _ =>
    rw [ring_orders (ringN (h3 rfl) hij hj), mix_pas]
    rfl
  | 1, _ =>
    rw [row_orders (rowN hij hj)]
    rfl
  | 2, _ =>
    rw [mesh_eq, mesh_orders (meshN (by omega) hj (by omega))]
    rfl
theorem due_sizes {sort : Nat} (hs : sort < 3) (h3 : sort = 0 → 3 ≤ n) (hij : i < j) (hj : j < n) {s : Nat} (hs1 : 1 ≤ s) : sizeC n (bsC n (eK sort n)) i j s = dueS sort n i j s := by
  match sort, hs with
  | 0, _ =>
    rw [ring_sizes (ringN (h3 rfl) hij hj)]
    rfl
  | 1, _ =>
    rw [row_sizes (rowN hij hj)]
    rfl
  | 2, _ =>
    rw [mesh_eq, mesh_sizes (by omega) hj (by omega) hs1]
    rfl
theorem due_counts {sort : Nat} {π ρ : Nat → Nat} {cs : List (Nat × Nat)} (I : Is.Iso n π ρ (bsC n (eK sort n)) cs) (hs : sort < 3) (h3 : sort = 0 → 3 ≤ n) (hij : i < j) (hj : j < n) : cntsOf n cs (π i) (π j) = dueL sort n i j := by
  unfold cntsOf dueL
  exact List.map_congr_left fun k _ => by rw [sizeC_led I (by omega) hj, due_sizes hs h3 hij hj (by omega)]
/-- the borders as a list, whatever their sequence -/
structure PairsK (sort n : Nat) (ps : List (Nat × Nat)) : Prop where
  nd : ps.Nodup
  m : ∀ p, p ∈ ps ↔ p.1 < p.2 ∧ p.2 < n ∧ eK sort n p.1 p.2 = true
theorem PairsK.len {sort : Nat} {ps : List (Nat × Nat)} (h : PairsK sort n ps) (hn : n ≤ 12) : ps.length ≤ 144 := by
  have := Tu.len_sub h.nd (D := pairsTo n) fun p hp => by
    have := (h.m p).mp hp
    unfold pairsTo
    exact List.mem_flatMap.mpr ⟨p.2, List.mem_range.mpr this.2.1, List.mem_map.mpr ⟨p.1, List.mem_range.mpr this.1, rfl⟩⟩
  exact Nat.le_trans this (Nat.le_trans (pairsTo_len n) (Nat.mul_le_mul hn hn))
end
end Wd

set_option Elab.async false
set_option linter.all false
set_option maxRecDepth 100000
set_option maxHeartbeats 4000000
namespace Wd
open PySem PySem.Spec PyProof.Rows L2 Bx Gx











































section
variable {K : PySem.W.Frag} {n : Nat}
/-! ### pairs in a list, known one by one -/
structure PrX (K : PySem.W.Frag) (H : Hp) (D : Addr) (ps : List (Nat × Nat)) : Prop where
  ex : ∃ xs : List V, H D = some (.lst xs) ∧ DpAll K H xs (ps.map pairD)
theorem PrX.ext {H H' : Hp} {D : Addr} {ps : List (Nat × Nat)} (h : PrX K H D ps) (x : Ext H H') : PrX K H' D ps := by
  obtain ⟨xs, h1, h2⟩ := h.ex
  exact ⟨xs, x.lst h1, dpAll_ext x h2⟩
theorem PrX.nil {H : Hp} {D : Addr} (h : H D = some (.lst [])) : PrX K H D [] := ⟨[], h, .nil⟩
theorem PrX.push {H : Hp} {D : Addr} {ps : List (Nat × Nat)} {y : V} {b : Nat × Nat} (h : PrX K H D ps) (hy : Dp K H y (pairD b)) : ∃ as, H D = some (.lst as) ∧ as.length = ps.length ∧ PrX K (upd H D (.lst (as ++ [y]))) D (ps ++ [b]) := by
  obtain ⟨xs, h1, h2⟩ := h.ex
  have hl := dpAll_len h2
  rw [List.length_map] at hl
  have xd : ExtS [D] H (upd H D (.lst (xs ++ [y]))) := (ExtS.refl _ _).write (.inr ⟨by simp, _, h1⟩)
  refine ⟨xs, h1, hl, xs ++ [y], upd_same, ?_⟩
  rw [List.map_append]
  exact dpAll_app (dpAll_extS xd (noL_pairs ps) h2) (.cons (dp_extS xd rfl hy) .nil)
def rowP (n : Nat) : List (Nat × Nat) := (List.range (n - 1)).map fun k => (k, k + 1)
def starP (n : Nat) : List (Nat × Nat) := (List.range (n - 1)).map fun k => (0, k + 1)
theorem map_nd {α : Type} (f : Nat → α) (hf : ∀ a b, f a = f b → a = b) (n : Nat) : ((List.range n).map f).Nodup := by
  rw [List.nodup_iff_pairwise_ne, List.pairwise_map]
  exact List.pairwise_lt_range.imp fun {a b} h e => by have := hf a b e; omega
theorem row_pairs : PairsK 1 n (rowP n) := ⟨map_nd _ (fun a b e => (Prod.mk.inj e).1) _, fun p => by
  unfold rowP
  rw [List.mem_map]
  show _ ↔ p.1 < p.2 ∧ p.2 < n ∧ decide (p.2 = p.1 + 1) = true
  rw [decide_eq_true_eq]
  constructor
  · rintro ⟨k, hk, rfl⟩
    have := List.mem_range.mp hk
    exact ⟨Nat.lt_succ_self k, by show k + 1 < n; omega, rfl⟩
  · rintro ⟨h1, h2, h3⟩
    exact ⟨p.1, List.mem_range.mpr (by omega), Prod.ext rfl h3.symm⟩⟩
theorem ring_pairs (h3 : 3 ≤ n) : PairsK 0 n (rowP n ++ [(0, n - 1)]) := ⟨by
  rw [List.nodup_append]
  refine ⟨row_pairs.nd, by simp, fun a ha b hb e => ?_⟩
  rw [List.mem_singleton] at hb
  have := (row_pairs.m a).mp ha
  have h4 := of_decide_eq_true (show decide (a.2 = a.1 + 1) = true from this.2.2)
  rw [e, hb] at h4
  simp only at h4
  omega, fun p => by
  rw [List.mem_append, List.mem_singleton, row_pairs.m]
  show p.1 < p.2 ∧ p.2 < n ∧ decide (p.2 = p.1 + 1) = true ∨ p = (0, n - 1) ↔ p.1 < p.2 ∧ p.2 < n ∧ decide (p.2 = p.1 + 1 ∨ (p.1 = 0 ∧ p.2 + 1 = n)) = true
  rw [decide_eq_true_eq, decide_eq_true_eq]
  obtain ⟨x, y⟩ := p
  rw [Prod.mk.injEq]
  simp only
  omega⟩
theorem star_pairs : PairsK 3 n (starP n) := ⟨map_nd _ (fun a b e => by have := (Prod.mk.inj e).2; omega) _, fun p => by
  unfold starP
  rw [List.mem_map]
  show _ ↔ p.1 < p.2 ∧ p.2 < n ∧ decide (p.1 = 0) = true
  rw [decide_eq_true_eq]
  constructor
  · rintro ⟨k, hk, rfl⟩
    have := List.mem_range.mp hk
    exact ⟨Nat.succ_pos k, by show k + 1 < n; omega, rfl⟩
  · rintro ⟨h1, h2, h3⟩
    exact ⟨p.2 - 1, List.mem_range.mpr (by omega), Prod.ext h3.symm (by show p.2 - 1 + 1 = p.2; omega)⟩⟩
theorem mesh_pairs : PairsK 2 n (pairsTo n) := ⟨by
  unfold pairsTo
  rw [List.nodup_iff_pairwise_ne, List.pairwise_flatMap]
  refine ⟨fun j _ => ?_, List.pairwise_lt_range.imp fun {i j} hij x hx y hy e => ?_⟩
  · rw [List.pairwise_map]
    exact List.pairwise_lt_range.imp fun {a b} h e => by have := (Prod.mk.inj e).1; omega
  · obtain ⟨_, _, rfl⟩ := List.mem_map.mp hx
    obtain ⟨_, _, rfl⟩ := List.mem_map.mp hy
    have := (Prod.mk.inj e).2
    omega, fun p => by
  constructor
  · intro h
    have := pairsTo_mem h
    exact ⟨this.1, this.2, rfl⟩
  · rintro ⟨h1, h2, _⟩
    unfold pairsTo
    exact List.mem_flatMap.mpr ⟨p.2, List.mem_range.mpr h2, List.mem_map.mpr ⟨p.1, List.mem_range.mpr h1, rfl⟩⟩⟩
theorem flat_one {α : Type} (n : Nat) (x : α) : (List.replicate n [x]).flatten = List.replicate n x := by
  induction n with
  | zero => rfl
  | succ n ih => rw [List.replicate_succ, List.flatten_cons, ih]; rfl
theorem tIfS_sort {T : TT} {A B : TS} {D : L2.Ends} {σ : L2.St} {H : Hp} {s : Nat} {t : Nat} (h : ∀ Q' : Bool → Hp → Prop, Q' (decide ((s : Int) = (t : Int))) H → T σ H Q') (ka : s = t → A D σ H) (kb : s ≠ t → B D σ H) : tIfS T A B D σ H := h _ (by
  by_cases e : s = t
  · rw [decide_eq_true (show (s : Int) = (t : Int) by omega)]
    exact iteT (ka e)
  · rw [decide_eq_false (show ¬ (s : Int) = (t : Int) by omega)]
    exact iteF (kb e))
theorem sm_intsY (l : List Int) (h : l.length ≤ 500) : smD (.tuple (l.map .int)) = true := by
  have hs : ∀ l : List Int, smDs (l.map PyData.int) = true := fun l => by
    induction l with
    | nil => rfl
    | cons i l ih =>
      rw [List.map_cons]
      show (smD (.int i) && smDs (l.map PyData.int)) = true
      rw [ih]
      rfl
  show (decide ((l.map PyData.int).length ≤ 500) && smDs (l.map PyData.int)) = true
  rw [hs, List.length_map, decide_eq_true h]
  rfl
end
end Wd

set_option Elab.async false
set_option linter.all false
set_option maxRecDepth 100000
set_option maxHeartbeats 4000000
namespace Wd
open PySem PySem.Spec PyProof.Rows L2 Bx Gx











































section
variable {P : Program} {w : World} {K : PySem.W.Frag} {mg : Str → Option Value} {base : Heap}
def spLaw (K : PySem.W.Frag) (ts : List Addr) : Sp := fun vs H Q _ => ∃ (a : Addr) (ns : List Int), vs = [.ref a] ∧ SqL K H a (ns.map V.int) ∧ ns.length ≤ 63 ∧ Tabs ts H ∧ ∀ H', Q (.bl true) H'
abbrev lwN : List Str := ["script", "sack", "turn", "sort", "many", "i", "j", "left", "names", "k", "pairs", "a", "b", "told", "one", "other", "due", "size", "barred", "count", "counts", "answer"]
theorem sc_law : FnScope lwN ["script"] (defScope st_law) := ⟨rfl, rfl, rfl, by decide +kernel, rfl, by decide +kernel, by decide +kernel⟩
theorem ok_law {f T1 T2 T3 T4 T6 : Addr} {tsO tz : List Addr} {fd : FuncData} (F : Fun K "law" "law" st_law f fd) (B : Bl mg) (m1 : T1 ∈ tz) (m2 : T2 ∈ tz) (m3 : T3 ∈ tz) (m4 : T4 ∈ tz) (m6 : T6 ∈ tz) (mO : ∀ T ∈ tsO, T ∈ tz) (c1 : Cal P w K mg base 1 "_law_sack" ["script"] (spSack K)) (cg : Cal P w K mg base 1 "_law_grab" ["sack", "many"] (spGrab K))
    (cps : Cal P w K mg base 1 "_law_pairs" ["many"] (spPairs K)) (cdu : Cal P w K mg base 2 "_law_due" ["sort", "many", "i", "j"] (spDue K)) (cs : Cal P w K mg base 5 "_law_same" ["found", "due"] (spAlike K 4))
    (coc : Cal P w K mg base 9 "order_count" ["land", "head", "other_head"] (spCount K T1 T2)) (cwc : Cal P w K mg base 10 "ward_counts" ["land", "head", "other_head"] (spWardCE K T1 T3)) (cor : Cal P w K mg base 10 "ordered" ["land", "head", "other_head"] (spOrdD K tsO))
    (cio : Cal P w K mg base 8 "is_order" ["land", "head", "other_head", "value"] (spIsOrderA K T4)) (cba : Cal P w K mg base 11 "barred_sizes" ["land", "head", "other_head"] (spBarredE K T1 T3 T6)) : FnOk P w K mg base CX0 12 f fd ["script"] (spLaw K tz) := by
  refine F.ok sc_law (fun vs H Q E h => ?_) (fun cdv A outer s H vs Q E hr h => ?_)
  · obtain ⟨a, ns, rfl, _⟩ := h
    rfl
  · obtain ⟨a, ns, rfl, hS, hlen, hT, k⟩ := h
    have nd := sc_law.nd
    refine ⟨_, pss_cons (ps_set (i := 1) nd rfl (Or.inl rfl) (pe_cal c1 (hr.mono (by decide)) rfl (pa_cons (pv 0) pa_nil)))
      (pss_cons (ps_for PassesOwn.never rfl (pi_range1 rfl B.range (pa_cons (pe_op op_add pe_int (pe_callB (call_min2 rfl) (by rfl) B.min (by decide +kernel) (pa_cons pe_int (pa_cons (pe_callB call_len (by rfl) B.len PySem.boot_len (pa_cons (pv 0) pa_nil)) pa_nil)))) pa_nil)) (pg_name (i := 2) nd rfl (Or.inl rfl))
        (pss_cons (ps_set (i := 3) nd rfl (Or.inl rfl) (pe_cal cg (hr.mono (by decide)) rfl (pa_cons (pv 1) (pa_cons pe_int pa_nil))))
        (pss_cons (ps_set (i := 4) nd rfl (Or.inl rfl) (pe_op op_add (pe_ix ix_list (pe_lst (pa_cons pe_int (pa_cons pe_int (pa_cons pe_int (pa_cons pe_int pa_nil))))) (pv 3) (fun _ _ => rfl)) (pe_cal cg (hr.mono (by decide)) rfl (pa_cons (pv 1) (pa_cons (pe_ix ix_list (pe_lst (pa_cons pe_int (pa_cons pe_int (pa_cons pe_int (pa_cons pe_int pa_nil))))) (pv 3) (fun _ _ => rfl)) pa_nil)))))
        (pss_cons (ps_set (i := 5) nd rfl (Or.inl rfl) (pe_cal cg (hr.mono (by decide)) rfl (pa_cons (pv 1) (pa_cons (pe_op op_sub (pv 4) pe_int) pa_nil))))
        (pss_cons (ps_set (i := 6) nd rfl (Or.inl rfl) (pe_op op_add (pe_op op_add (pv 5) pe_int) (pe_cal cg (hr.mono (by decide)) rfl (pa_cons (pv 1) (pa_cons (pe_op op_sub (pe_op op_sub (pv 4) pe_int) (pv 5)) pa_nil)))))
        (pss_cons (ps_if (pt_cmpR op_eq (pe_cal cg (hr.mono (by decide)) rfl (pa_cons (pv 1) (pa_cons pe_int pa_nil))) pe_int (nomark _)) (pss_one (ps_par (i := 5) (j := 6) (by rfl) nd rfl rfl (by decide) rfl rfl (pa_cons pe_int (pa_cons (pe_op op_sub (pv 4) pe_int) pa_nil)) (by rfl))) pss_nil)
        (pss_cons (ps_asg (pe_tup (pa_cons (pe_listRg rfl rfl B.list (prg_1 rfl B.range (pv 4))) (pa_cons (pe_lst pa_nil) pa_nil))) (pg_tup (by rfl) (pgs_cons (pg_name (i := 7) nd rfl (Or.inl rfl)) (pgs_cons (pg_name (i := 8) nd rfl (Or.inr rfl)) pgs_nil))))
        (pss_cons (ps_for PassesOwn.never rfl (pi_range1 rfl B.range (pa_cons (pv 4) pa_nil)) (pg_name (i := 9) nd rfl (Or.inl rfl))
          (pss_one (ps_expr (pe_bm PySem.F.plainAttrs_list PySem.F.slot_list_append PySem.F.type_list_append mt_append (pv 8) (pa_cons (pe_bm PySem.F.plainAttrs_list PySem.F.slot_list_pop PySem.F.type_list_pop mt_popAt (pv 7) (pa_cons (pe_cal cg (hr.mono (by decide)) rfl (pa_cons (pv 1) (pa_cons (pe_callB call_len (by rfl) B.len PySem.boot_len (pa_cons (pv 7) pa_nil)) pa_nil))) pa_nil)) pa_nil)))))
        (pss_cons (ps_setLc (i := 10) (own := [("k", 9)]) (g := gName 9) (by rfl) nd rfl rfl (sw_true rfl rfl rfl (by decide +kernel)) (pi_range1 rfl B.range (pa_cons (pe_op op_sub (pv 4) pe_int) pa_nil)) (blkOk_by (own := [("k", 9)]) (N := lwN) (sc := defScope st_law) (by decide +kernel)) (fun _ _ _ _ _ => pg_name (i := 9) nd rfl (Or.inl rfl)) (fun _ _ _ _ _ => pts_nil) (fun _ _ _ _ _ => pe_tup (pa_cons (pv 9) (pa_cons (pe_op op_add (pv 9) pe_int) pa_nil))))
        (pss_cons (ps_if (pt_cmpR op_eq (pv 3) pe_int (nomark _)) (pss_one (ps_expr (pe_bm PySem.F.plainAttrs_list PySem.F.slot_list_append PySem.F.type_list_append mt_append (pv 10) (pa_cons (pe_tup (pa_cons pe_int (pa_cons (pe_op op_sub (pv 4) pe_int) pa_nil))) pa_nil)))) pss_nil)
        (pss_cons (ps_if (pt_cmpR op_eq (pv 3) pe_int (nomark _)) (pss_one (ps_set (i := 10) nd rfl (Or.inl rfl) (pe_cal cps (hr.mono (by decide)) rfl (pa_cons (pv 4) pa_nil)))) pss_nil)
        (pss_cons (ps_if (pt_cmpR op_eq (pv 3) pe_int (nomark _)) (pss_one (ps_setLc (i := 10) (own := [("k", 9)]) (g := gName 9) (by rfl) nd rfl rfl (sw_true rfl rfl rfl (by decide +kernel)) (pi_range2 rfl B.range (pa_cons pe_int (pa_cons (pv 4) pa_nil))) (blkOk_by (own := [("k", 9)]) (N := lwN) (sc := defScope st_law) (by decide +kernel)) (fun _ _ _ _ _ => pg_name (i := 9) nd rfl (Or.inl rfl)) (fun _ _ _ _ _ => pts_nil) (fun _ _ _ _ _ => pe_tup (pa_cons pe_int (pa_cons (pv 9) pa_nil))))) pss_nil)
        (pss_cons (ps_set (i := 13) nd rfl (Or.inl rfl) (pe_tup (pa_cons (pe_op op_repT (pe_tup (pa_cons pe_int pa_nil)) (pv 4)) (pa_cons (pe_tupleOf rfl B.tuple (pe_callB (cr_sortDt hr.units) (by rfl) B.sorted (by decide +kernel) (pa_cons (pe_lc (own := [("a", 11), ("b", 12)]) (g := L2.gTup K 2 (gCons (gName 11) (gCons (gName 12) gNil))) (by rfl) nd (pi_list (pv 10)) (blkOk_by (own := [("a", 11), ("b", 12)]) (N := lwN) (sc := defScope st_law) (by decide +kernel)) (fun _ _ _ _ _ => pg_tupK (K := K) rfl (by rfl) (pgs_cons (pg_name (i := 11) nd rfl (Or.inl rfl)) (pgs_cons (pg_name (i := 12) nd rfl (Or.inl rfl)) pgs_nil))) (fun _ _ _ _ _ => pts_nil) (fun _ _ _ _ _ => pe_tup (pa_cons (pe_callB (call_min2 rfl) (by rfl) B.min (by decide +kernel) (pa_cons (pe_ix (ix_lstK (K := K) rfl) (pv 8) (pv 11) (fun _ _ => rfl)) (pa_cons (pe_ix (ix_lstK (K := K) rfl) (pv 8) (pv 12) (fun _ _ => rfl)) pa_nil))) (pa_cons (pe_callB (call_max2 rfl) (by rfl) B.max (by decide +kernel) (pa_cons (pe_ix (ix_lstK (K := K) rfl) (pv 8) (pv 11) (fun _ _ => rfl)) (pa_cons (pe_ix (ix_lstK (K := K) rfl) (pv 8) (pv 12) (fun _ _ => rfl)) pa_nil))) pa_nil)))) pa_nil))) pa_nil))))
        (pss_cons (ps_par (i := 14) (j := 15) (by rfl) nd rfl rfl (by decide) rfl rfl (pa_cons (pe_ix ix_list (pv 8) (pv 5) (fun _ _ => rfl)) (pa_cons (pe_ix ix_list (pv 8) (pv 6) (fun _ _ => rfl)) pa_nil)) (by rfl))
        (pss_cons (ps_if (pt_cmpR op_eq (pv 3) pe_int (nomark _)) (pss_cons (ps_set (i := 16) nd rfl (Or.inr rfl) (pe_ifExp (pt_cmpR op_gt (pv 5) pe_int (nomark _)) (pe_tup (pa_cons pe_int (pa_cons (pe_op op_sub (pv 4) pe_int) pa_nil))) (pe_tup (pa_cons (pe_op op_sub (pv 4) pe_int) pa_nil))))
          (pss_cons (ps_set (i := 18) nd rfl (Or.inl rfl) (pe_tupleOf rfl B.tuple (pe_lc (own := [("size", 17)]) (g := gName 17) (by rfl) nd (pi_range2 rfl B.range (pa_cons pe_int (pa_cons (pv 4) pa_nil))) (blkOk_by (own := [("size", 17)]) (N := lwN) (sc := defScope st_law) (by decide +kernel)) (fun _ _ _ _ _ => pg_name (i := 17) nd rfl (Or.inl rfl)) (fun _ _ _ _ _ => pts_one (pt_cmpR (op_notInK (K := K) rfl) (pv 17) (pv 16) (by rfl))) (fun _ _ _ _ _ => pv 17))))
          (pss_cons (ps_if (pt_not (pt_val (pe_cal cs (hr.mono (by decide)) rfl (pa_cons (pe_lst (pa_cons (pe_cal coc (hr.mono (by decide)) rfl (pa_cons (pv 13) (pa_cons (pv 14) (pa_cons (pv 15) pa_nil)))) (pa_cons (pe_ix ix_tup (pe_cal cor (hr.mono (by decide)) rfl (pa_cons (pv 13) (pa_cons (pv 14) (pa_cons (pv 15) pa_nil)))) pe_int (fun _ _ => rfl)) (pa_cons (pe_cal cba (hr.mono (by decide)) rfl (pa_cons (pv 13) (pa_cons (pv 14) (pa_cons (pv 15) pa_nil)))) pa_nil)))) (pa_cons (pe_lst (pa_cons pe_int (pa_cons pe_str (pa_cons (pv 18) pa_nil)))) pa_nil))) (by intro _; rfl))) pss_never pss_nil)
          (pss_one (ps_continue))))) pss_nil)
        (pss_cons (ps_asg (pe_cal cdu (hr.mono (by decide)) rfl (pa_cons (pv 3) (pa_cons (pv 4) (pa_cons (pv 5) (pa_cons (pv 6) pa_nil))))) (pg_tup (by rfl) (pgs_cons (pg_name (i := 19) nd rfl (Or.inl rfl)) (pgs_cons (pg_name (i := 20) nd rfl (Or.inl rfl)) pgs_nil))))
        (pss_cons (ps_if (pt_not (pt_val (pe_cal cs (hr.mono (by decide)) rfl (pa_cons (pe_lst (pa_cons (pe_cal coc (hr.mono (by decide)) rfl (pa_cons (pv 13) (pa_cons (pv 14) (pa_cons (pv 15) pa_nil)))) (pa_cons (pe_cal coc (hr.mono (by decide)) rfl (pa_cons (pv 13) (pa_cons (pv 15) (pa_cons (pv 14) pa_nil)))) pa_nil))) (pa_cons (pe_lst (pa_cons (pv 19) (pa_cons (pv 19) pa_nil))) pa_nil))) (by intro _; rfl))) pss_never pss_nil)
        (pss_cons (ps_if (pt_not (pt_val (pe_cal cs (hr.mono (by decide)) rfl (pa_cons (pe_lst (pa_cons (pe_cal cwc (hr.mono (by decide)) rfl (pa_cons (pv 13) (pa_cons (pv 14) (pa_cons (pv 15) pa_nil)))) (pa_cons (pe_cal cwc (hr.mono (by decide)) rfl (pa_cons (pv 13) (pa_cons (pv 15) (pa_cons (pv 14) pa_nil)))) pa_nil))) (pa_cons (pe_lst (pa_cons (pv 20) (pa_cons (pe_revT (pv 20)) pa_nil))) pa_nil))) (by intro _; rfl))) pss_never pss_nil)
        (pss_cons (ps_set (i := 21) nd rfl (Or.inl rfl) (pe_cal cor (hr.mono (by decide)) rfl (pa_cons (pv 13) (pa_cons (pv 14) (pa_cons (pv 15) pa_nil)))))
        (pss_one (ps_if (PW.pt (pw_or (pt_cmpR op_ne (pe_ix ix_tup (pv 21) pe_int (fun _ _ => rfl)) (pe_ix ix_list (pe_lst (pa_cons pe_str (pa_cons pe_str pa_nil))) (pe_callTy call_int1 rfl B.int (by decide +kernel) (pa_cons (pe_cmpR op_gt (pv 19) pe_int (nomark _)) pa_nil)) (fun _ _ => rfl)) (nomark _)) (pw_or1 (PW.pt (pw_and (pt_cmpR op_gt (pv 19) pe_int (nomark _)) (pw_and1 (pt_not (pt_val (pe_cal cio (hr.mono (by decide)) rfl (pa_cons (pv 13) (pa_cons (pv 14) (pa_cons (pv 15) (pa_cons (pe_ix ix_tup (pv 21) pe_int (fun _ _ => rfl)) pa_nil))))) (by intro _; rfl))))))))) pss_never pss_nil)))))))))))))))))))))
      (pss_one (ps_ret pe_bl))), ?_⟩
    refine ⟨_, rfl, a, ns, rfl, hS, hlen, fun sp gr H1 x1 S1 hsp0 hgr0 => ?_⟩
    have T1' : Tabs tz H1 := hT.ext x1
    have hS1 := x1.sqL hS
    have hl2 : (ns.map V.int).length = ns.length := List.length_map _
    have hm5 : 0 ≤ (if (ns.length : Int) < 5 then (ns.length : Int) else 5) ∧ (if (ns.length : Int) < 5 then (ns.length : Int) else 5) ≤ 5 := by split <;> omega
    refine ⟨_, rfl, _, _, rfl, .inl ⟨_, hS1, rfl⟩, _, _, rfl, _, _, rfl, rfl, _, rfl, by rw [hl2]; omega, by rw [hl2]; omega, for_range (lo := 0) (fun z σ H2 => ∃ o2 o3 o4 o5 o6 o7 o8 o9 o10 o11 o12 o13 o14 o15 o16 o17 o18 o19 o20 o21 : Option V, σ = [some (.ref a), some (.ref sp), o2, o3, o4, o5, o6, o7, o8, o9, o10, o11, o12, o13, o14, o15, o16, o17, o18, o19, o20, o21] ∧ SpAt H2 sp gr ∧ Tabs tz H2)
      ⟨_, _, _, _, _, _, _, _, _, _, _, _, _, _, _, _, _, _, _, _, rfl, S1, T1'⟩ ?_ ?_⟩
    · clear S1 T1' hS1 hS hT x1 hsp0 hgr0
      rintro z σ H2 hz ⟨o2, o3, o4, o5, o6, o7, o8, o9, o10, o11, o12, o13, o14, o15, o16, o17, o18, o19, o20, o21, rfl, S2, T2'⟩
      clear hz
      refine ⟨_, rfl, sp, gr, 4, rfl, S2, by decide, by decide, fun sort H3 hsort x3 S3 => ?_⟩
      have T3 : Tabs tz H3 := fun Pt hPt => x3.tabs Pt (T2' Pt hPt)
      clear x3 S2 T2'
      obtain ⟨lo, mx, hlo, hmx, hl1, hl2', hmx0, hmx1, hs0, hs3⟩ : ∃ lo mx : Nat, ([V.int 3, .int 2, .int 2, .int 4])[sort]? = some (.int (lo : Int)) ∧ ([V.int 10, .int 11, .int 11, .int 9])[sort]? = some (.int (mx : Int)) ∧ 2 ≤ lo ∧ lo + mx ≤ 13 ∧ 0 < mx ∧ mx ≤ 11 ∧ (sort = 0 → 3 ≤ lo) ∧ (sort = 3 → 4 ≤ lo) :=
        match sort, hsort with
        | 0, _ => ⟨3, 10, rfl, rfl, by decide, by decide, by decide, by decide, by decide, by decide⟩
        | 1, _ => ⟨2, 11, rfl, rfl, by decide, by decide, by decide, by decide, by decide, by decide⟩
        | 2, _ => ⟨2, 11, rfl, rfl, by decide, by decide, by decide, by decide, by decide, by decide⟩
        | 3, _ => ⟨4, 9, rfl, rfl, by decide, by decide, by decide, by decide, by decide, by decide⟩
      dsimp only [gName, tSeq, List.set]
      refine ⟨by show 4 ≤ sizeLine; decide, fun l1 hl1' => ⟨_, rfl, l1, _, sort, _, rfl, rfl, SqL.of upd_same, atI_nat hlo, _, rfl, by show 4 ≤ sizeLine; decide, fun l2 hl2' => ⟨_, rfl, l2, _, sort, _, rfl, rfl, SqL.of upd_same, atI_nat hmx, ?_⟩⟩⟩
      have x4 : Ext H3 (upd (upd H3 l1 (.lst [.int 3, .int 2, .int 2, .int 4])) l2 (.lst [.int 10, .int 11, .int 11, .int 9])) := (Ext.new hl1').trans (.new hl2')
      have S4 := S3.ext x4
      have T4 := T3.ext x4
      generalize upd (upd H3 l1 (.lst [.int 3, .int 2, .int 2, .int 4])) l2 (.lst [.int 10, .int 11, .int 11, .int 9]) = H4 at S4 T4 ⊢
      clear x4 S3 T3 hl1' hl2'
      refine ⟨sp, gr, mx, rfl, S4, hmx0, by omega, fun g0 H5 hg0 x5 S5 => ⟨_, _, rfl, rfl, ?_⟩⟩
      have T5 : Tabs tz H5 := fun Pt hPt => x5.tabs Pt (T4 Pt hPt)
      clear x5 S4 T4
      obtain ⟨n, hn⟩ : ∃ n, n = lo + g0 := ⟨_, rfl⟩
      have en : (lo : Int) + (g0 : Int) = (n : Int) := by omega
      have hn2 : 2 ≤ n := by omega
      have hn12 : n ≤ 12 := by omega
      have hn3 : sort = 0 → 3 ≤ n := fun e => by have := hs0 e; omega
      have hn4 : sort = 3 → 4 ≤ n := fun e => by have := hs3 e; omega
      dsimp only [gName, tSeq, List.set]
      simp only [en]
      clear en hn hg0 hs0 hs3 hlo hmx hl1 hmx0 hmx1
      refine ⟨_, rfl, _, rfl, _, _, rfl, rfl, sp, gr, n - 1, (by rw [show ((n - 1 : Nat) : Int) = (n : Int) - 1 by omega]; rfl), S5, by omega, by omega, fun i H6 hi x6 S6 => ?_⟩
      have T6' : Tabs tz H6 := fun Pt hPt => x6.tabs Pt (T5 Pt hPt)
      clear x6 S5 T5
      dsimp only [gName, tSeq, List.set]
      refine ⟨_, rfl, _, _, rfl, rfl, _, rfl, _, rfl, _, _, rfl, rfl, _, rfl, _, _, rfl, rfl, sp, gr, n - 1 - i, (by rw [show ((n - 1 - i : Nat) : Int) = (n : Int) - 1 - (i : Int) by omega]; rfl), S6, by omega, by omega, fun g1 H7 hg1 x7 S7 => ⟨_, _, rfl, rfl, ?_⟩⟩
      have T7 : Tabs tz H7 := fun Pt hPt => x7.tabs Pt (T6' Pt hPt)
      clear x7 S6 T6'
      obtain ⟨j, hj⟩ : ∃ j, j = i + 1 + g1 := ⟨_, rfl⟩
      have ej : (i : Int) + 1 + (g1 : Int) = (j : Int) := by omega
      have hij : i < j := by omega
      have hjn : j < n := by omega
      dsimp only [gName, tSeq, List.set]
      simp only [ej]
      clear ej hj hg1 hi
      refine via (fun σ H8 => ∃ i j : Nat, σ = [some (.ref a), some (.ref sp), some (.int (0 + (z : Int))), some (.int (sort : Int)), some (.int (n : Int)), some (.int (i : Int)), some (.int (j : Int)), o7, o8, o9, o10, o11, o12, o13, o14, o15, o16, o17, o18, o19, o20, o21] ∧ i < j ∧ j < n ∧ SpAt H8 sp gr ∧ Tabs tz H8) ?_ (fun nx hnx => ?_)
      rotate_left
      · refine ⟨_, rfl, sp, gr, 3, rfl, S7, by decide, by decide, fun g2 H8 hg2 x8 S8 => ⟨rfl, _, rfl, ite2 (fun _ => ?_) (fun _ => ?_)⟩⟩
        · refine ⟨_, rfl, _, _, rfl, rfl, ?_⟩
          refine ⟨_, _, rfl, ?_⟩
          have e : (n : Int) - 1 = ((n - 1 : Nat) : Int) := by omega
          dsimp only [List.set]
          rw [e]
          exact hnx _ _ ⟨0, n - 1, rfl, by omega, by omega, S8, fun Pt hPt => x8.tabs Pt (T7 Pt hPt)⟩
        · exact hnx _ _ ⟨i, j, rfl, hij, hjn, S8, fun Pt hPt => x8.tabs Pt (T7 Pt hPt)⟩
      clear S7 T7 hij hjn
      rintro σ H8 ⟨i, j, rfl, hij, hjn, S8, T8⟩
      dsimp only [gName, tSeq, List.set]
      refine ⟨_, rfl, _, rfl, ⟨by omega, by omega⟩, fun ql hql => ⟨Nat.zero_le _, fun qn hqn => ⟨by show 2 ≤ sizeLine; decide, fun t ht => ⟨t, _, rfl, SqT.of upd_same, rfl, ?_⟩⟩⟩⟩
      rw [rgV_nat] at hqn ht ⊢
      have y1 : Ext H8 (upd H8 ql (.lst (vsN (List.range n)))) := .new hql
      have y2 : Ext (upd H8 ql (.lst (vsN (List.range n)))) (upd (upd H8 ql (.lst (vsN (List.range n)))) qn (.lst [])) := .new hqn
      have y3 := (y1.trans y2).trans (.new (o := .tup [.ref ql, .ref qn]) ht)
      have nql := S8.notin hql
      have nqn : qn ∉ [sp, gr] := (S8.ext y1).notin hqn
      have hne : ql ≠ qn := ne_of_none upd_same hqn
      have hql1 : (upd (upd (upd H8 ql (.lst (vsN (List.range n)))) qn (.lst [])) t (.tup [.ref ql, .ref qn])) ql = some (.lst (vsN (List.range n))) := (y2.trans (.new ht)).lst upd_same
      have hqn1 : (upd (upd (upd H8 ql (.lst (vsN (List.range n)))) qn (.lst [])) t (.tup [.ref ql, .ref qn])) qn = some (.lst (vsN [])) := (Ext.new ht).lst upd_same
      have hqlH := hql
      have hqnH := y1.free hqn
      have S9 := S8.ext y3
      have T9 := T8.ext y3
      have x9 : ExtS [sp, gr] H8 (upd (upd (upd H8 ql (.lst (vsN (List.range n)))) qn (.lst [])) t (.tup [.ref ql, .ref qn])) := .of y3
      clear y3 y2 y1 hql hqn ht S8
      generalize upd (upd (upd H8 ql (.lst (vsN (List.range n)))) qn (.lst [])) t (.tup [.ref ql, .ref qn]) = H9 at hql1 hqn1 S9 T9 x9 ⊢
      refine ⟨_, _, rfl, _, _, rfl, rfl, ?_⟩
      dsimp only [gName, tSeq, List.set]
      refine ⟨_, rfl, _, rfl, by omega, by omega, for_range (lo := 0) (n := ((n : Nat) : Int).toNat) (fun u σ H6 => ∃ (v : Option V) (ls gs : List Nat), σ = [some (.ref a), some (.ref sp), some (.int (0 + (z : Int))), some (.int (sort : Int)), some (.int (n : Int)), some (.int (i : Int)), some (.int (j : Int)), some (.ref ql), some (.ref qn), v, o10, o11, o12, o13, o14, o15, o16, o17, o18, o19, o20, o21] ∧ H6 ql = some (.lst (vsN ls)) ∧ H6 qn = some (.lst (vsN gs)) ∧ (gs ++ ls).Perm (List.range n) ∧ gs.length = u ∧ SpAt H6 sp gr ∧ ExtS [sp, gr] H8 H6)
        ⟨_, List.range n, [], rfl, hql1, hqn1, List.Perm.refl _, rfl, S9, x9⟩ ?_ ?_⟩
      · rintro u σ H6 hu ⟨v, ls, gs, rfl, h1, h2, hp, hf, S7, x2⟩
        have hlen2 := hp.length_eq
        rw [List.length_append, List.length_range, hf] at hlen2
        rw [Int.toNat_natCast] at hu
        refine ⟨_, rfl, .inl ⟨rfl, _, SqL.of h2⟩, _, rfl, .inl ⟨rfl, _, SqL.of h1⟩, _, rfl, _, rfl, _, ls.length, rfl, .inl ⟨_, SqL.of h1, (vsN_len ls).symm⟩, sp, gr, ls.length, rfl, S7, by omega, by omega, fun m H7 hm x3 S8 => ?_⟩
        have h1' := x3.lst nql h1
        have h2' := x3.lst nqn h2
        refine ⟨ql, _, _, m, _, rfl, rfl, h1', by omega, by omega, ?_, vsN_at hm, qn, _, _, rfl, rfl, by rw [upd_ne hne.symm]; exact h2', ?_, ?_⟩
        · rw [vsN_len]
          have e1 : ¬ ((m : Int) < 0) := by omega
          have e2 : decide (0 ≤ (m : Int)) = true := decide_eq_true (by omega)
          have e3 : decide ((m : Int) < (ls.length : Int)) = true := decide_eq_true (by omega)
          simp only [seqIndex?, if_neg e1, e2, e3, Bool.and_self, if_true, Int.toNat_natCast]
        · rw [vsN_len]
          exact small1000 (by omega)
        · refine ⟨_, ls.eraseIdx m, gs ++ [ls[m]], rfl, ?_, ?_, ?_, by rw [List.length_append, hf]; rfl, ?_, ?_⟩
          · rw [upd_ne hne, upd_same]
            rw [erase_map]
          · rw [upd_same]
            show _ = some (HO.lst (List.map _ (gs ++ [ls[m]])))
            rw [List.map_append]
            rfl
          · rw [List.append_assoc]
            exact ((erase_perm hm).append_left gs).trans hp
          · exact (S8.upd (fun e => nql (by simp [e])) (fun e => nql (by simp [e]))).upd (fun e => nqn (by simp [e])) (fun e => nqn (by simp [e]))
          · exact ((x2.trans x3).write (.inl hqlH)).write (.inl hqnH)
      · rintro σ H6 ⟨v, ls, os, rfl, h1, h2, hp, hf, S7, x2⟩
        have hlen2 := hp.length_eq
        rw [List.length_append, List.length_range, hf] at hlen2
        rw [Int.toNat_natCast] at hlen2
        have el : ls = [] := List.length_eq_zero_iff.mp (by omega)
        subst el
        rw [List.append_nil] at hp
        have oo : OrdOk n os := ⟨hp⟩
        have T6 : Tabs tz H6 := fun Pt hPt => x2.tabs Pt (T8 Pt hPt)
        clear x2 x9 S9 T9 T8 hql1 hqn1 hqlH hqnH h1 hlen2 hf nql nqn hne
        dsimp only [gName, tSeq, List.set]
        refine ⟨_, rfl, _, _, rfl, rfl, _, rfl, by omega, by omega, fun D hD => ?_⟩
        refine lc_range (lo := 0) (n := ((n : Int) - 1).toNat) (fun u H7 => PrX K H7 D ((List.range u).map fun k => (k, k + 1)) ∧ Ext H6 H7) ⟨.nil upd_same, .new hD⟩ (fun u H7 hu ⟨e7, x7⟩ => ?_) (fun H7 ⟨e7, x7⟩ => ?_)
        · refine ⟨rfl, ?_⟩
          dsimp only [tYes]
          rw [if_pos rfl]
          refine ⟨_, rfl, _, rfl, _, _, rfl, rfl, by show 2 ≤ sizeLine; decide, fun t0 ht0 => ?_⟩
          have e1 : (0 : Int) + (u : Int) = (u : Int) := by omega
          have e2 : (u : Int) + 1 = ((u + 1 : Nat) : Int) := by omega
          dsimp only
          rw [e1, e2]
          obtain ⟨as, g1, g2, g3⟩ := (e7.ext (.new (o := .tup [.int (u : Int), .int ((u + 1 : Nat) : Int)]) ht0)).push (y := .ref t0) (b := (u, u + 1)) (.tup (SqT.of upd_same) (.cons (.int _) (.cons (.int _) .nil)))
          rw [List.length_map, List.length_range] at g2
          exact ⟨as, g1, small1000 (by omega), by rw [List.range_succ, List.map_append]; exact g3, (x7.trans (.new ht0)).write hD⟩
        have eN : ((n : Int) - 1).toNat = n - 1 := by omega
        rw [eN] at e7
        dsimp only [gName, tSeq, List.set]
        have nD : H6 D = none := hD
        refine via (fun σ H8 => σ = [some (.ref a), some (.ref sp), some (.int (0 + (z : Int))), some (.int (sort : Int)), some (.int (n : Int)), some (.int (i : Int)), some (.int (j : Int)), some (.ref ql), some (.ref qn), v, some (.ref D), o11, o12, o13, o14, o15, o16, o17, o18, o19, o20, o21] ∧ Ext H6 H8 ∧ ∃ ps, PrX K H8 D ps ∧ (sort = 0 → PairsK 0 n ps) ∧ (sort = 1 → PairsK 1 n ps)) ?_ (fun nx hnx => ?_)
        rotate_left
        · refine ⟨_, rfl, rfl, _, rfl, ?_⟩
          by_cases hs0 : sort = 0
          · rw [dec_int, decide_eq_true (show (sort : Int) = 0 by omega)]
            obtain ⟨xs0, hxs0, _⟩ := e7.ex
            refine iteT ⟨_, rfl, .inl ⟨rfl, _, SqL.of hxs0⟩, _, rfl, _, _, rfl, rfl, by show 2 ≤ sizeLine; decide, fun t0 ht0 => ?_⟩
            have e2 : (n : Int) - 1 = ((n - 1 : Nat) : Int) := by omega
            dsimp only
            rw [e2]
            obtain ⟨as, g1, g2, g3⟩ := (e7.ext (.new (o := .tup [.int 0, .int ((n - 1 : Nat) : Int)]) ht0)).push (y := .ref t0) (b := (0, n - 1)) (.tup (SqT.of upd_same) (.cons (.int _) (.cons (.int _) .nil)))
            rw [List.length_map, List.length_range] at g2
            exact ⟨D, _, _, rfl, rfl, g1, small1000 (by omega), hnx _ _ ⟨rfl, (x7.trans (.new ht0)).write hD, _, g3, fun _ => ring_pairs (hn3 hs0), fun z => by omega⟩⟩
          · rw [dec_int, decide_eq_false (show ¬ (sort : Int) = 0 by omega)]
            exact iteF (hnx _ _ ⟨rfl, x7, _, e7, fun z => absurd z hs0, fun _ => row_pairs⟩)
        clear e7 x7 hD
        rintro σ H7 ⟨rfl, x7, ps0, e7, c0, c1'⟩
        dsimp only [gName, tSeq, List.set]
        refine via (fun σ H8 => ∃ p : Addr, σ = [some (.ref a), some (.ref sp), some (.int (0 + (z : Int))), some (.int (sort : Int)), some (.int (n : Int)), some (.int (i : Int)), some (.int (j : Int)), some (.ref ql), some (.ref qn), v, some (.ref p), o11, o12, o13, o14, o15, o16, o17, o18, o19, o20, o21] ∧ Ext H6 H8 ∧ ∃ ps, PrX K H8 p ps ∧ (sort = 0 → PairsK 0 n ps) ∧ (sort = 1 → PairsK 1 n ps) ∧ (sort = 2 → PairsK 2 n ps)) ?_ (fun nx hnx => ?_)
        rotate_left
        · refine ⟨_, rfl, rfl, _, rfl, ?_⟩
          by_cases hs0 : sort = 2
          · rw [dec_int, decide_eq_true (show (sort : Int) = 2 by omega)]
            refine iteT ⟨_, rfl, n, rfl, hn12, fun p xs H8 x8 hp0 hp hpd => ?_⟩
            exact hnx _ _ ⟨p, rfl, x7.trans x8, _, ⟨xs, hp, hpd⟩, fun z => by omega, fun z => by omega, fun _ => mesh_pairs⟩
          · rw [dec_int, decide_eq_false (show ¬ (sort : Int) = 2 by omega)]
            exact iteF (hnx _ _ ⟨D, rfl, x7, _, e7, c0, c1', fun z => absurd z hs0⟩)
        clear e7 x7 c0 c1'
        rintro σ H7 ⟨p, rfl, x7, ps0, e7, c0, c1', c2'⟩
        dsimp only [gName, tSeq, List.set]
        refine via (fun σ H8 => ∃ p : Addr, σ = [some (.ref a), some (.ref sp), some (.int (0 + (z : Int))), some (.int (sort : Int)), some (.int (n : Int)), some (.int (i : Int)), some (.int (j : Int)), some (.ref ql), some (.ref qn), v, some (.ref p), o11, o12, o13, o14, o15, o16, o17, o18, o19, o20, o21] ∧ Ext H6 H8 ∧ ∃ ps, PrX K H8 p ps ∧ PairsK sort n ps) ?_ (fun nx hnx => ?_)
        rotate_left
        · refine ⟨_, rfl, rfl, _, rfl, ?_⟩
          by_cases hs0 : sort = 3
          · rw [dec_int, decide_eq_true (show (sort : Int) = 3 by omega)]
            refine iteT ⟨_, rfl, 1, (n : Int), rfl, ⟨by omega, by omega, by omega, by omega⟩, fun D hD => ?_⟩
            refine lc_range (lo := 1) (n := ((n : Int) - 1).toNat) (fun u H8 => PrX K H8 D ((List.range u).map fun k => (0, k + 1)) ∧ Ext H7 H8) ⟨.nil upd_same, .new hD⟩ (fun u H8 hu ⟨e8, x8⟩ => ?_) (fun H8 ⟨e8, x8⟩ => ?_)
            · refine ⟨rfl, ?_⟩
              dsimp only [tYes]
              rw [if_pos rfl]
              refine ⟨_, rfl, by show 2 ≤ sizeLine; decide, fun t0 ht0 => ?_⟩
              have e2 : (1 : Int) + (u : Int) = ((u + 1 : Nat) : Int) := by omega
              rw [e2]
              obtain ⟨as, g1, g2, g3⟩ := (e8.ext (.new (o := .tup [.int 0, .int ((u + 1 : Nat) : Int)]) ht0)).push (y := .ref t0) (b := (0, u + 1)) (.tup (SqT.of upd_same) (.cons (.int _) (.cons (.int _) .nil)))
              rw [List.length_map, List.length_range] at g2
              exact ⟨as, g1, small1000 (by omega), by rw [List.range_succ, List.map_append]; exact g3, (x8.trans (.new ht0)).write hD⟩
            · rw [show ((n : Int) - 1).toNat = n - 1 by omega] at e8
              refine hnx _ _ ⟨D, rfl, x7.trans x8, _, e8, ?_⟩
              rw [hs0]
              exact star_pairs
          · rw [dec_int, decide_eq_false (show ¬ (sort : Int) = 3 by omega)]
            refine iteF (hnx _ _ ⟨p, rfl, x7, _, e7, ?_⟩)
            rcases (by omega : sort = 0 ∨ sort = 1 ∨ sort = 2) with z1 | z1 | z1
            · rw [z1]; exact c0 z1
            · rw [z1]; exact c1' z1
            · rw [z1]; exact c2' z1
        clear e7 x7 c0 c1' c2'
        rintro σ H7 ⟨p, rfl, x7, ps, e7, hK⟩
        have h27 := x7.lst h2
        have T7 := T6.ext x7
        have S7b := S7.ext x7
        clear x7 S7 T6 h2
        obtain ⟨xs, hxs, hxd⟩ := e7.ex
        have hpl := hK.len hn12
        have hxl := dpAll_len hxd
        rw [List.length_map] at hxl
        have tw : Is.Tw n (atO os) (ixO os) := oo.tw.symm
        have bat : ∀ k, k < n → (vsN os)[k]? = some (.int ((atO os k : Nat) : Int)) := fun k hk => by
          rw [vsN, List.getElem?_map, oo.at_ hk]
          rfl
        dsimp only [gName, tSeq, List.set]
        refine ⟨by show 1 ≤ sizeLine; decide, fun t1 ht1 => ⟨_, rfl, t1, _, [.int 1], rfl, rfl, SqT.of upd_same, by simp, by omega, by omega, by show 1 ≤ 1000; decide, fun t2 ht2 => ?_⟩⟩
        have x8 : Ext H7 (upd (upd H7 t1 (.tup [.int 1])) t2 (.tup (List.replicate (n : Int).toNat [V.int 1]).flatten)) := (Ext.new ht1).trans (.new ht2)
        have hone : SqT K (upd (upd H7 t1 (.tup [.int 1])) t2 (.tup (List.replicate (n : Int).toNat [V.int 1]).flatten)) t2 ((List.replicate n (1 : Int)).map V.int) := by
          have e : (List.replicate (n : Int).toNat [V.int 1]).flatten = (List.replicate n (1 : Int)).map V.int := by
            rw [Int.toNat_natCast, List.map_replicate]
            exact flat_one n (V.int 1)
          rw [← e]
          exact SqT.of upd_same
        generalize upd (upd H7 t1 (.tup [.int 1])) t2 (.tup (List.replicate (n : Int).toNat [V.int 1]).flatten) = H8 at x8 hone ⊢
        have hxs8 := x8.lst hxs
        have hxd8 := dpAll_ext x8 hxd
        have h28 := x8.lst h27
        have T8' := T7.ext x8
        have S8' := S7b.ext x8
        clear x8 hxs hxd h27 T7 S7b e7 ht1 ht2
        refine ⟨_, rfl, p, rfl, ⟨_, SqL.of hxs8⟩, fun D2 hD2 => ?_⟩
        refine lc_list (K := K) (a := p) (xs := xs) (fun u H9 => ∃ as : List V, H9 D2 = some (.lst as) ∧ DpAll K H9 as (((ps.take u).map (Is.prM (atO os))).map prD) ∧ Ext H8 H9) ⟨[], upd_same, by rw [List.take_zero]; exact .nil, .new hD2⟩ (fun u H9 _ ⟨_, _, _, x9⟩ => SqL.of (x9.lst hxs8)) (fun u y H9 hy ⟨as, e9, hda, x9⟩ => ?_) (fun H9 ⟨as, e9, hda, x9⟩ => ?_)
        · have hu : u < ps.length := by
            have := (List.getElem?_eq_some_iff.mp hy).1
            omega
          obtain ⟨dy, hdy, hpy⟩ := dpAll_get' hxd8 hy
          rw [List.getElem?_map, List.getElem?_eq_getElem hu] at hdy
          have hdy := (Option.some.inj hdy).symm
          subst hdy
          obtain ⟨uu, ts, et, ht1, ht2⟩ := dp_tup hpy
          subst et
          have hBi := (hK.m _).mp (List.getElem_mem hu)
          have etk : ((ps.take (u + 1)).map (Is.prM (atO os))).map prD = ((ps.take u).map (Is.prM (atO os))).map prD ++ [prD (Is.prM (atO os) ps[u])] := by
            rw [List.take_add_one, List.getElem?_eq_getElem hu, List.map_append, List.map_append]
            rfl
          generalize ps[u] = b at *
          have ets : ts = [.int ((b.1 : Nat) : Int), .int ((b.2 : Nat) : Int)] := dpAll_ints (ns := [((b.1 : Nat) : Int), ((b.2 : Nat) : Int)]) ht2
          subst ets
          have hal := dpAll_len hda
          rw [List.length_map, List.length_map, List.length_take] at hal
          have hbk3 := x9.lst h28
          refine ⟨uu, _, rfl, x9.sqT ht1, rfl, _, _, rfl, _, _, rfl, rfl, rfl, ?_⟩
          dsimp only [tYes]
          rw [if_pos rfl]
          refine ⟨_, rfl, _, rfl, qn, _, b.1, _, rfl, rfl, SqL.of hbk3, atI_nat (bat b.1 (by omega)), _, rfl, _, rfl, qn, _, b.2, _, rfl, rfl, SqL.of hbk3, atI_nat (bat b.2 (by omega)), _, _, rfl, ?_⟩
          refine ⟨_, rfl, _, rfl, qn, _, b.1, _, rfl, rfl, SqL.of hbk3, atI_nat (bat b.1 (by omega)), _, rfl, _, rfl, qn, _, b.2, _, rfl, rfl, SqL.of hbk3, atI_nat (bat b.2 (by omega)), _, _, rfl, (by show 2 ≤ sizeLine; decide), fun q hq => ?_⟩
          have q1 : ∀ u1 u2 : Nat, (if (u2 : Int) < (u1 : Int) then (u2 : Int) else (u1 : Int)) = ((min u1 u2 : Nat) : Int) := fun u1 u2 => by split <;> omega
          have q2 : ∀ u1 u2 : Nat, (if (u2 : Int) > (u1 : Int) then (u2 : Int) else (u1 : Int)) = ((max u1 u2 : Nat) : Int) := fun u1 u2 => by split <;> omega
          rw [q1, q2]
          have x5 : Ext H9 (upd H9 q (.tup [.int ((min (atO os b.1) (atO os b.2) : Nat) : Int), .int ((max (atO os b.1) (atO os b.2) : Nat) : Int)])) := .new hq
          have e5 := x5.lst e9
          refine ⟨as, e5, small1000 (by omega), as ++ [.ref q], upd_same, ?_, (x9.trans x5).write hD2⟩
          rw [etk]
          have nl : ∀ b : Nat × Nat, noL (prD b) = true := fun b => rfl
          have x6 := (ExtS.refl [D2] (upd H9 q (.tup [.int ((min (atO os b.1) (atO os b.2) : Nat) : Int), .int ((max (atO os b.1) (atO os b.2) : Nat) : Int)]))).write (p := D2) (o := .lst (as ++ [.ref q])) (.inr ⟨by simp, _, e5⟩)
          exact dpAll_app (dpAll_extS x6 (noLs_map _ nl _) (dpAll_ext x5 hda)) (.cons (dp_extS x6 rfl (.tup (SqT.of upd_same) (.cons (.int _) (.cons (.int _) .nil)))) .nil)
        rw [hxl, List.take_length] at hda
        refine ⟨D2, as, _, rfl, SqL.of e9, hda, allAlike_prs _, sortable_prs _, by rw [List.length_map, List.length_map]; omega, depth_prs _, fun zs' es p2 hz hpe hpw hp2 => ?_⟩
        have nd3 : (ps.map (Is.prM (atO os))).Nodup := by
          have := hK.nd
          rw [List.nodup_iff_pairwise_ne] at this ⊢
          rw [List.pairwise_map]
          refine this.imp_of_mem fun {a b} ha hb hne e => hne ?_
          have ha := (hK.m a).mp ha
          have hb := (hK.m b).mp hb
          rw [← Is.prM_back tw ha.1 ha.2.1, e, Is.prM_back tw hb.1 hb.2.1]
        obtain ⟨cs', ec, hasc, hmem⟩ := sorted_prs nd3 hpe hpw
        subst ec
        have I : Is.Iso n (atO os) (ixO os) (bsC n (eK sort n)) cs' := iso_bsC tw hK.m hasc hmem
        refine .inl ⟨p2, _, rfl, SqL.of upd_same, fun q hq => ⟨(by show 2 ≤ sizeLine; decide), fun r hr0 => ?_⟩⟩
        have y1 : Ext H9 (upd (upd H9 p2 (.lst zs')) q (.tup zs')) := (Ext.new hp2).trans (.new hq)
        have hqd : Dp K (upd (upd H9 p2 (.lst zs')) q (.tup zs')) (.ref q) (bordD cs') := dp_new hq (dpAll_ext (.new hp2) hz)
        generalize upd (upd H9 p2 (.lst zs')) q (.tup zs') = H10 at y1 hqd hr0 ⊢
        have y2 : Ext H10 (upd H10 r (.tup [.ref t2, .ref q])) := .new hr0
        have x810 := x9.trans y1
        have hrd : Dp K (upd H10 r (.tup [.ref t2, .ref q])) (.ref r) (landD (List.replicate n (1 : Int)) cs') := dp_new hr0 (.cons (.tup (x810.sqT hone) (dpAll_of_ints _)) (.cons hqd .nil))
        have x811 := x810.trans y2
        generalize upd H10 r (.tup [.ref t2, .ref q]) = H11 at x811 hrd ⊢
        have h2b := x811.lst h28
        have T11 := T8'.ext x811
        have S11 := S8'.ext x811
        clear x811 y2 hqd y1 x810 x9 hone h28 T8' S8' hz hpe hpw hda e9 hxd8 hxs8 hD2 hq hr0 hp2
        have hfl : (List.replicate n (1 : Int)).length = n := List.length_replicate
        have okw : LandOk (List.replicate n (1 : Int)) cs' := ⟨by omega, by omega, fun z hz => by rw [(List.mem_replicate.mp hz).2]; decide, by rw [hfl]; exact I.b2, hasc⟩
        generalize List.replicate n (1 : Int) = fs at hfl okw hrd
        subst hfl
        dsimp only [gName, tSeq, List.set]
        refine ⟨_, rfl, _, rfl, qn, _, i, _, rfl, rfl, SqL.of h2b, atI_nat (bat i (by omega)), _, rfl, _, rfl, qn, _, j, _, rfl, rfl, SqL.of h2b, atI_nat (bat j hjn), _, _, rfl, ?_⟩
        have hin : i < fs.length := by omega
        have ha := I.t.f i hin
        have hb := I.t.f j hjn
        have hab : atO os i ≠ atO os j := fun e => by have := I.t.inj hin hjn e; omega
        clear h2b bat
        dsimp only [gName, tSeq, List.set]
        clear oo hp hK tw hpl hxl hmem
        refine tIfS_sort (s := sort) (t := 3) ?_ (fun hs3 => ?_) (fun hs3 => ?_)
        · exact fun Q' hQ' => ⟨_, rfl, rfl, _, rfl, by rw [dec_int]; exact hQ'⟩
        · subst hs3
          have hz : wayC cs' fs.length (atO os j) (2 ^ (atO os i)) = 0 := by rw [wayC_led I hin hjn (by omega)]; exact star_orders (starN (hn4 rfl) hij hjn)
          have hsz : ∀ s, sizeC fs.length cs' (atO os i) (atO os j) s = 0 ↔ ¬ (s + 1 = fs.length ∨ (0 < i ∧ s = 1)) := fun s => by rw [sizeC_led I hin hjn]; exact star_sizes (starN (hn4 rfl) hij hjn)
          dsimp only [gName, tSeq, List.set]
          refine via (fun σ H12 => ∃ qd : Addr, σ = [some (.ref a), some (.ref sp), some (.int (0 + (z : Int))), some (.int ((3 : Nat) : Int)), some (.int (fs.length : Int)), some (.int (i : Int)), some (.int (j : Int)), some (.ref ql), some (.ref qn), v, some (.ref p), o11, o12, some (.ref r), some (.int (atO os i : Int)), some (.int (atO os j : Int)), some (.ref qd), o17, o18, o19, o20, o21] ∧ Ext H11 H12 ∧ SqT K H12 qd (if 0 < i then [.int 1, .int ((fs.length : Int) - 1)] else [.int ((fs.length : Int) - 1)])) ?_ (fun nx hnx => ?_)
          rotate_left
          · refine ⟨_, rfl, _, _, rfl, rfl, _, rfl, ?_⟩
            by_cases hi0 : 0 < i
            · rw [decide_eq_true (show (0 : Int) < (i : Int) by omega)]
              refine iteT ⟨_, rfl, _, _, rfl, rfl, by show 2 ≤ sizeLine; decide, fun qd hqd => hnx _ _ ⟨qd, rfl, .new hqd, ?_⟩⟩
              rw [if_pos hi0]
              exact SqT.of upd_same
            · rw [decide_eq_false (show ¬ (0 : Int) < (i : Int) by omega)]
              refine iteF ⟨_, rfl, _, _, rfl, rfl, by show 1 ≤ sizeLine; decide, fun qd hqd => hnx _ _ ⟨qd, rfl, .new hqd, ?_⟩⟩
              rw [if_neg hi0]
              exact SqT.of upd_same
          rintro σ H12 ⟨qd, rfl, x12, hqd⟩
          dsimp only [gName, tSeq, List.set]
          refine ⟨_, rfl, 1, (fs.length : Int), rfl, ⟨by omega, by omega, by omega, by omega⟩, fun D3 hD3 => ?_⟩
          refine lc_range (lo := 1) (n := ((fs.length : Int) - 1).toNat) (fun u H13 => H13 D3 = some (.lst (vsN (((List.range u).filter fun k => decide (sizeC fs.length cs' (atO os i) (atO os j) (k + 1) = 0)).map (· + 1)))) ∧ Ext H12 H13) ⟨upd_same, .new hD3⟩ (fun u H13 hu ⟨e13, x13⟩ => ?_) (fun H13 ⟨e13, x13⟩ => ?_)
          · refine ⟨rfl, ?_⟩
            have hin2 : (!inV (.int (1 + (u : Int))) (if 0 < i then [.int 1, .int ((fs.length : Int) - 1)] else [.int ((fs.length : Int) - 1)])) = decide (sizeC fs.length cs' (atO os i) (atO os j) (u + 1) = 0) := ?_
            · refine ⟨_, rfl, _, rfl, qd, _, rfl, .inr (x13.sqT hqd), rfl, by split <;> rfl, _, rfl, ?_⟩
              show (if (!inV (.int (1 + (u : Int))) (if 0 < i then [.int 1, .int ((fs.length : Int) - 1)] else [.int ((fs.length : Int) - 1)])) = true then _ else _)
              rw [hin2]
              by_cases hf : decide (sizeC fs.length cs' (atO os i) (atO os j) (u + 1) = 0) = true
              · rw [if_pos hf]
                refine ⟨_, rfl, _, e13, small1000 (by
                  rw [vsN, List.length_map, List.length_map]
                  refine Nat.le_trans (List.length_filter_le _ _) ?_
                  rw [List.length_range]
                  omega), ?_, x13.write hD3⟩
                rw [upd_same, List.range_succ, List.filter_append, List.filter_cons_of_pos (p := fun k => decide (sizeC fs.length cs' (atO os i) (atO os j) (k + 1) = 0)) hf, List.map_append, vsN, vsN, List.map_append]
                have e1 : (1 : Int) + (u : Int) = ((u + 1 : Nat) : Int) := by omega
                rw [e1]
                rfl
              · rw [if_neg hf]
                refine ⟨?_, x13⟩
                rw [List.range_succ, List.filter_append, List.filter_cons_of_neg (p := fun k => decide (sizeC fs.length cs' (atO os i) (atO os j) (k + 1) = 0)) hf, List.filter_nil, List.append_nil]
                exact e13
            · by_cases hi0 : 0 < i
              · rw [if_pos hi0, Bool.eq_iff_iff, decide_eq_true_eq, hsz]
                simp [inV, eqV, hi0]
                omega
              · rw [if_neg hi0, Bool.eq_iff_iff, decide_eq_true_eq, hsz]
                simp [inV, eqV, hi0]
                omega
          · rw [show ((fs.length : Int) - 1).toNat = fs.length - 1 by omega] at e13
            have hbd : (((List.range (fs.length - 1)).filter fun k => decide (sizeC fs.length cs' (atO os i) (atO os j) (k + 1) = 0)).map (· + 1)) = barsOf fs.length cs' (atO os i) (atO os j) := rfl
            rw [hbd] at e13
            refine .inl ⟨D3, _, rfl, SqL.of e13, fun qb hqb => ?_⟩
            have x14 : Ext H12 (upd H13 qb (.tup (vsN (barsOf fs.length cs' (atO os i) (atO os j))))) := x13.trans (.new hqb)
            have hb14 : SqT K (upd H13 qb (.tup (vsN (barsOf fs.length cs' (atO os i) (atO os j))))) qb (vsN (barsOf fs.length cs' (atO os i) (atO os j))) := SqT.of upd_same
            generalize upd H13 qb (.tup (vsN (barsOf fs.length cs' (atO os i) (atO os j)))) = H14 at x14 hb14 ⊢
            have x1114 := x12.trans x14
            have hrd14 := dp_ext x1114 hrd
            have T14 := T11.ext x1114
            have S14 := S11.ext x1114
            clear x1114 x14 x13 x12 e13 hqd hqb hD3 hrd T11 S11
            dsimp only [gName, tSeq, List.set]
            refine ⟨_, rfl, _, rfl, _, rfl, .ref r, fs, cs', atO os i, atO os j, rfl, hrd14, okw, ha, hb, hab, T14 _ m1, T14 _ m2, fun H15 x15 => ?_⟩
            rw [hz]
            refine ⟨_, rfl, _, rfl, _, rfl, .ref r, fs, cs', atO os i, atO os j, rfl, dp_ext x15 hrd14, okw, ha, hb, hab, fun T hT => x15.tabs _ (T14 T (mO T hT)), fun q3 d3 H16 x16 hA hd => ?_⟩
            rcases ans_read hA hd with ⟨h1, _⟩ | ⟨_, cut1, _, t3, _, hy, _⟩
            · omega
            refine ⟨q3, _, _, _, rfl, rfl, hy, atI_nat (j := 0) rfl, ?_⟩
            refine ⟨_, rfl, _, rfl, _, rfl, .ref r, fs, cs', atO os i, atO os j, rfl, dp_ext (x15.trans x16) hrd14, okw, ha, hb, hab, (x15.trans x16).tabs _ (T14 _ m1), (x15.trans x16).tabs _ (T14 _ m3), (x15.trans x16).tabs _ (T14 _ m6), fun q7 H17 x17 hq7 => ⟨by show 3 ≤ sizeLine; decide, fun la hla => ?_⟩⟩
            have x18 : Ext H17 (upd H17 la (.lst [.int ((0 : Nat) : Int), .str (Str.ofString "no"), .ref q7])) := .new hla
            have hLa : Dp K (upd H17 la (.lst [.int ((0 : Nat) : Int), .str (Str.ofString "no"), .ref q7])) (.ref la) (.list [.int 0, .str (Str.ofString "no"), lotD (barsOf fs.length cs' (atO os i) (atO os j))]) := .lst (SqL.of upd_same) (.cons (.int 0) (.cons (.str _) (.cons (.tup (x18.sqT hq7) (dpAll_lot _)) .nil)))
            have x1418 := ((x15.trans x16).trans x17).trans x18
            generalize upd H17 la (.lst [.int ((0 : Nat) : Int), .str (Str.ofString "no"), .ref q7]) = H18 at x1418 hLa ⊢
            clear x18 x17 x16 x15 hq7 hla hy hd hA
            refine ⟨_, rfl, by show 3 ≤ sizeLine; decide, fun lb hlb => ?_⟩
            have x19 : Ext H18 (upd H18 lb (.lst [.int 0, .str (Str.ofString "no"), .ref qb])) := .new hlb
            have hLb : Dp K (upd H18 lb (.lst [.int 0, .str (Str.ofString "no"), .ref qb])) (.ref lb) (.list [.int 0, .str (Str.ofString "no"), lotD (barsOf fs.length cs' (atO os i) (atO os j))]) := .lst (SqL.of upd_same) (.cons (.int 0) (.cons (.str _) (.cons (.tup ((x1418.trans x19).sqT hb14) (dpAll_lot _)) .nil)))
            have hbar : (barsOf fs.length cs' (atO os i) (atO os j)).length ≤ 500 := by
              unfold barsOf
              rw [List.length_map]
              refine Nat.le_trans (List.length_filter_le _ _) ?_
              rw [List.length_range]
              omega
            have hfine := fine3 (d := .int 0) (e := .str (Str.ofString "no")) ⟨shUp (sh_int0 0) (Nat.zero_le 2), rfl⟩ ⟨⟨by simp [PyData.canLay0]; decide +kernel, by simp [PyData.depth]⟩, rfl⟩ ⟨shUp (sh_lot1 (barsOf fs.length cs' (atO os i) (atO os j))) (by decide), sm_lotY hbar⟩
            refine ⟨.ref la, .ref lb, _, rfl, dp_ext x19 hLa, hLb, hfine.1.lay, hfine.2, Nat.lt_succ_of_le hfine.1.dep, fun H20 x20 => ⟨_, rfl, iteF ?_⟩⟩
            have x1420 := (x1418.trans x19).trans x20
            exact ⟨_, _, _, _, _, _, _, _, _, _, _, _, _, _, _, _, _, _, _, _, rfl, S14.ext x1420, T14.ext x1420⟩
        · have hs' : sort < 3 := by omega
          have hw : wayC cs' fs.length (atO os j) (2 ^ (atO os i)) = dueC sort fs.length i j := by rw [wayC_led I hin hjn (by omega)]; exact due_orders hs' hn3 hij hjn
          have hwr : wayC cs' fs.length (atO os i) (2 ^ (atO os j)) = dueC sort fs.length i j := by rw [wayC_rev I.b2 ha hb hab, hw]
          have hc : cntsOf fs.length cs' (atO os i) (atO os j) = dueL sort fs.length i j := due_counts I hs' hn3 hij hjn
          have hcr : cntsOf fs.length cs' (atO os j) (atO os i) = (dueL sort fs.length i j).reverse := by rw [cnts_rev ha hb, hc]
          have hba : atO os j ≠ atO os i := Ne.symm hab
          have hdl : (dueL sort fs.length i j).length ≤ 500 := by
            unfold dueL
            rw [List.length_map, List.length_range]
            omega
          dsimp only [tNext, tSeq, gName, List.set]
          refine ⟨_, rfl, _, rfl, _, rfl, _, rfl, sort, fs.length, i, j, rfl, hs', hn2, hn12, hij, hjn, fun qd qt H12 x12 hqd hqt => ⟨qd, _, rfl, SqT.of hqd, rfl, _, _, rfl, _, _, rfl, rfl, ?_⟩⟩
          generalize dueC sort fs.length i j = dc at hw hwr hqd
          generalize dueL sort fs.length i j = dl at hc hcr hqt hdl
          have hrd12 := dp_ext x12 hrd
          have T12 := T11.ext x12
          have S12 := S11.ext x12
          clear x12 hrd T11 S11 hqd
          dsimp only [gName, tSeq, List.set]
          refine ⟨_, rfl, _, rfl, _, rfl, .ref r, fs, cs', atO os i, atO os j, rfl, hrd12, okw, ha, hb, hab, T12 _ m1, T12 _ m2, fun H13 x13 => ?_⟩
          refine ⟨_, rfl, _, rfl, _, rfl, .ref r, fs, cs', atO os j, atO os i, rfl, dp_ext x13 hrd12, okw, hb, ha, hba, x13.tabs _ (T12 _ m1), x13.tabs _ (T12 _ m2), fun H14 x14 => ⟨by show 2 ≤ sizeLine; decide, fun la hla => ?_⟩⟩
          rw [hw, hwr]
          have x15 : Ext H14 (upd H14 la (.lst [.int (dc : Int), .int (dc : Int)])) := .new hla
          have hLa : Dp K (upd H14 la (.lst [.int (dc : Int), .int (dc : Int)])) (.ref la) (.list [.int (dc : Int), .int (dc : Int)]) := .lst (SqL.of upd_same) (.cons (.int _) (.cons (.int _) .nil))
          have x1215 := (x13.trans x14).trans x15
          generalize upd H14 la (.lst [.int (dc : Int), .int (dc : Int)]) = H15 at x1215 hLa ⊢
          clear x15 x14 x13 hla
          refine ⟨_, rfl, _, rfl, by show 2 ≤ sizeLine; decide, fun lb hlb => ?_⟩
          have x16 : Ext H15 (upd H15 lb (.lst [.int (dc : Int), .int (dc : Int)])) := .new hlb
          have hLb : Dp K (upd H15 lb (.lst [.int (dc : Int), .int (dc : Int)])) (.ref lb) (.list [.int (dc : Int), .int (dc : Int)]) := .lst (SqL.of upd_same) (.cons (.int _) (.cons (.int _) .nil))
          have hfine := fine2 (d := .int (dc : Int)) (e := .int (dc : Int)) ⟨shUp (sh_int0 _) (Nat.zero_le 2), rfl⟩ ⟨shUp (sh_int0 _) (Nat.zero_le 2), rfl⟩
          refine ⟨.ref la, .ref lb, _, rfl, dp_ext x16 hLa, hLb, hfine.1.lay, hfine.2, Nat.lt_succ_of_le hfine.1.dep, fun H17 x17 => ⟨_, rfl, iteF ?_⟩⟩
          have x1217 := (x1215.trans x16).trans x17
          have hrd17 := dp_ext x1217 hrd12
          have T17 := T12.ext x1217
          have S17 := S12.ext x1217
          have hqt17 := x1217.sqT hqt
          clear x1217 x17 x16 x1215 hLa hLb hlb hrd12 T12 S12 hqt hfine
          dsimp only [tNext, tSeq]
          refine ⟨_, rfl, _, rfl, _, rfl, .ref r, fs, cs', atO os i, atO os j, rfl, hrd17, okw, ha, hb, hab, T17 _ m1, T17 _ m3, fun q1 H18 x18 hq1 => ?_⟩
          refine ⟨_, rfl, _, rfl, _, rfl, .ref r, fs, cs', atO os j, atO os i, rfl, dp_ext x18 hrd17, okw, hb, ha, hba, x18.tabs _ (T17 _ m1), x18.tabs _ (T17 _ m3), fun q2 H19 x19 hq2 => ⟨by show 2 ≤ sizeLine; decide, fun la hla => ?_⟩⟩
          rw [hc] at hq1
          rw [hcr] at hq2
          have x20 : Ext H19 (upd H19 la (.lst [.ref q1, .ref q2])) := .new hla
          have hLa : Dp K (upd H19 la (.lst [.ref q1, .ref q2])) (.ref la) (.list [.tuple (dl.map .int), .tuple (dl.reverse.map .int)]) := .lst (SqL.of upd_same) (.cons (.tup ((x19.trans x20).sqT hq1) (dpAll_of_ints _)) (.cons (.tup (x20.sqT hq2) (dpAll_of_ints _)) .nil))
          have x1720 := (x18.trans x19).trans x20
          generalize upd H19 la (.lst [.ref q1, .ref q2]) = H20 at x1720 hLa ⊢
          clear x20 x19 x18 hla hq1 hq2
          refine ⟨_, rfl, _, rfl, qt, _, rfl, x1720.sqT hqt17, fun qr hqr => ⟨by show 2 ≤ sizeLine; decide, fun lb hlb => ?_⟩⟩
          have hrev : (dl.map V.int).reverse = dl.reverse.map V.int := (List.map_reverse ..).symm
          rw [hrev] at hlb
          rw [hrev]
          have x21 : Ext H20 (upd (upd H20 qr (.tup (dl.reverse.map V.int))) lb (.lst [.ref qt, .ref qr])) := (Ext.new hqr).trans (.new hlb)
          have hLb : Dp K (upd (upd H20 qr (.tup (dl.reverse.map V.int))) lb (.lst [.ref qt, .ref qr])) (.ref lb) (.list [.tuple (dl.map .int), .tuple (dl.reverse.map .int)]) := .lst (SqL.of upd_same) (.cons (.tup ((x1720.trans x21).sqT hqt17) (dpAll_of_ints _)) (.cons (.tup ((Ext.new hlb).sqT (SqT.of upd_same)) (dpAll_of_ints _)) .nil))
          have hfine := fine2 (d := .tuple (dl.map .int)) (e := .tuple (dl.reverse.map .int)) ⟨Sh.intsT (n := 0) _, sm_intsY _ hdl⟩ ⟨Sh.intsT (n := 0) _, sm_intsY _ (by rw [List.length_reverse]; exact hdl)⟩
          refine ⟨.ref la, .ref lb, _, rfl, dp_ext x21 hLa, hLb, hfine.1.lay, hfine.2, Nat.lt_succ_of_le hfine.1.dep, fun H22 x22 => ⟨_, rfl, iteF ?_⟩⟩
          have x1722 := (x1720.trans x21).trans x22
          have hrd22 := dp_ext x1722 hrd17
          have T22 := T17.ext x1722
          have S22 := S17.ext x1722
          clear x1722 x22 x21 x1720 hLa hLb hlb hqr hrd17 T17 S17 hqt17 hfine
          dsimp only [tNext, tSeq]
          refine ⟨_, rfl, _, rfl, _, rfl, .ref r, fs, cs', atO os i, atO os j, rfl, hrd22, okw, ha, hb, hab, fun T hT => T22 T (mO T hT), fun q3 d3 H23 x23 hA hd => ?_⟩
          have hrd23 := dp_ext x23 hrd22
          have T23 := T22.ext x23
          have S23 := S22.ext x23
          clear x23 hrd22 T22 S22
          dsimp only [gName, tSeq, List.set]
          cases hA with
          | @yes rr h1 h2 =>
            have hpos : 0 < dc := by rw [← hw]; exact yes_way h2
            obtain ⟨mid, _, hO⟩ := compl_ord I.b2 ha hb hab (List.mem_of_getElem? h2)
            obtain ⟨q3', ys, e3, hy, hyd⟩ := dp_tup hd
            injection e3 with e3
            subst e3
            cases hyd with
            | cons k1 hyd =>
            cases hyd with
            | cons k2 hyd =>
            cases hyd
            cases k1
            refine ⟨_, rfl, q3, _, _, _, rfl, rfl, hy, atI_nat (j := 0) rfl, by show 2 ≤ sizeLine; decide, fun l3 hl3 => ⟨_, rfl, _, _, rfl, rfl, .inr ⟨_, rfl, ?_⟩⟩⟩
            have x24 : Ext H23 (upd H23 l3 (.lst [.str (Str.ofString "no"), .str (Str.ofString "yes")])) := .new hl3
            rw [decide_eq_true (show (0 : Int) < (dc : Int) by omega)]
            refine ⟨l3, _, 1, _, rfl, rfl, SqL.of upd_same, atI_nat (j := 1) rfl, rfl, _, rfl, ?_⟩
            rw [neB_same]
            refine iteF ⟨_, rfl, _, _, rfl, rfl, _, rfl, ?_⟩
            rw [decide_eq_true (show (0 : Int) < (dc : Int) by omega)]
            refine iteT ⟨_, rfl, _, rfl, _, rfl, _, rfl, q3, _, _, _, rfl, rfl, x24.sqT hy, atI_nat (j := 1) rfl, .ref r, _, fs, cs', atO os i, atO os j, _, rfl, dp_ext x24 hrd23, okw, ha, hb, hab, dp_ext x24 k2, x24.tabs _ (T23 _ m4), fun r2 H25 x25 hr2 => ⟨r2, rfl, ?_⟩⟩
            obtain rfl := hr2.mpr (ordD_lot hO hab)
            have x2325 := x24.trans x25
            exact iteF ⟨_, _, _, _, _, _, _, _, _, _, _, _, _, _, _, _, _, _, _, _, rfl, S23.ext x2325, T23.ext x2325⟩
          | @no ii cut mm h1 =>
            have hz0 : dc = 0 := by rw [← hw]; exact IsAns.noOrd I.b2 ha hb hab h1
            obtain ⟨q3', ys, e3, hy, hyd⟩ := dp_tup hd
            injection e3 with e3
            subst e3
            cases hyd with
            | cons k1 hyd =>
            cases k1
            refine ⟨_, rfl, q3, _, _, _, rfl, rfl, hy, atI_nat (j := 0) rfl, by show 2 ≤ sizeLine; decide, fun l3 hl3 => ⟨_, rfl, _, _, rfl, rfl, .inr ⟨_, rfl, ?_⟩⟩⟩
            have x24 : Ext H23 (upd H23 l3 (.lst [.str (Str.ofString "no"), .str (Str.ofString "yes")])) := .new hl3
            rw [decide_eq_false (show ¬ (0 : Int) < (dc : Int) by omega)]
            refine ⟨l3, _, 0, _, rfl, rfl, SqL.of upd_same, atI_nat (j := 0) rfl, rfl, _, rfl, ?_⟩
            rw [neB_same]
            refine iteF ⟨_, rfl, _, _, rfl, rfl, _, rfl, ?_⟩
            rw [decide_eq_false (show ¬ (0 : Int) < (dc : Int) by omega)]
            exact iteF (iteF ⟨_, _, _, _, _, _, _, _, _, _, _, _, _, _, _, _, _, _, _, _, rfl, S23.ext x24, T23.ext x24⟩)
    · rintro σ H2 _
      exact k H2
end
end Wd

set_option Elab.async false
set_option linter.all false
set_option maxRecDepth 100000
set_option maxHeartbeats 4000000
namespace Wd
open PySem PySem.Spec PyProof.Rows L2 Bx Gx











































/-! ### the head -/
theorem funC_of {K : PySem.W.Frag} {x qual : Str} {st : Stmt} {p : Str × Option Str} {fd : FuncData} (F : FunD K x qual (defArgs st) (defBody st) (defScope st) [] [] (He.fAd K p) fd) : FunC K x qual st (He.fAd K p) fd (He.codeOf K p) := by
  obtain ⟨oc, od, dV, kV, doc, pm, an, cdv, ct, osl, e, l, c, hd, _⟩ := F.ex
  rcases hd with ⟨_, e2⟩ | ⟨e2, _⟩
  · subst e2
    obtain ⟨c0, rfl⟩ := He.codeIn_ref c
    have ec : He.codeOf K p = c0 := He.codeOf_eq l (by rw [e])
    rw [ec]
    exact ⟨⟨oc, od, kV, doc, pm, an, ct, osl, e, l, c⟩, F.kp⟩
  · exact absurd rfl e2
theorem kb_swp {K : PySem.W.Frag} {x qual : Str} {st : Stmt} {f : Addr} {fd : FuncData} {a b : Str} (F : Fun K x qual st f fd)
    (h : ∀ (kV doc pm : Value) (an : Option Addr) (cdv ct : Value) (u v : Value), bindArgs (PySem.W.fnOf x qual (defArgs st) (defBody st) (defScope st) .none kV doc pm an cdv ct) ⟨[], [(b, v), (a, u)]⟩ = pure [(a, u), (b, v)]) : KBinds K fd [a, b] [b, a] swp swp := by
  obtain ⟨oc, od, kV, doc, pm, an, cdv, ct, osl, rfl, lk, hc⟩ := F.ex
  refine ⟨fun s us ws _ hl => ?_, swp_rel⟩
  match us, ws, hl with
  | [], [v, u], _ => exact .of_eq (h kV doc pm an cdv ct u v)
  | [], [], hl => cases hl
  | [], [_], hl => cases hl
  | [], _ :: _ :: _ :: _, hl => cases hl
  | _ :: _, _, hl => cases hl

def d_is_integer : He.DefD := ⟨("is_integer", none), "is_integer", "is_integer", defArgs st_is_integer, defBody st_is_integer, defScope st_is_integer, [], []⟩
def d_is_place : He.DefD := ⟨("is_place", none), "is_place", "is_place", defArgs st_is_place, defBody st_is_place, defScope st_is_place, [], []⟩
def d_mask_of : He.DefD := ⟨("mask_of", none), "mask_of", "mask_of", defArgs st_mask_of, defBody st_mask_of, defScope st_mask_of, [], []⟩
def d_lot_of : He.DefD := ⟨("lot_of", none), "lot_of", "lot_of", defArgs st_lot_of, defBody st_lot_of, defScope st_lot_of, [], []⟩
def d_whole_mask : He.DefD := ⟨("whole_mask", none), "whole_mask", "whole_mask", defArgs st_whole_mask, defBody st_whole_mask, defScope st_whole_mask, [], []⟩
def d_links_of : He.DefD := ⟨("links_of", none), "links_of", "links_of", defArgs st_links_of, defBody st_links_of, defScope st_links_of, [], []⟩
def d_reached : He.DefD := ⟨("reached", none), "reached", "reached", defArgs st_reached, defBody st_reached, defScope st_reached, [], []⟩
def d_hangs_together : He.DefD := ⟨("hangs_together", none), "hangs_together", "hangs_together", defArgs st_hangs_together, defBody st_hangs_together, defScope st_hangs_together, [], []⟩
def d_is_border : He.DefD := ⟨("is_border", none), "is_border", "is_border", defArgs st_is_border, defBody st_is_border, defScope st_is_border, [], []⟩
def d_fault_of_folk : He.DefD := ⟨("fault_of_folk", none), "fault_of_folk", "fault_of_folk", defArgs st_fault_of_folk, defBody st_fault_of_folk, defScope st_fault_of_folk, [], []⟩
def d_fault_of_borders : He.DefD := ⟨("fault_of_borders", none), "fault_of_borders", "fault_of_borders", defArgs st_fault_of_borders, defBody st_fault_of_borders, defScope st_fault_of_borders, [], []⟩
def d_fault_of_land : He.DefD := ⟨("fault_of_land", none), "fault_of_land", "fault_of_land", defArgs st_fault_of_land, defBody st_fault_of_land, defScope st_fault_of_land, [], []⟩
def d_check_land : He.DefD := ⟨("check_land", none), "check_land", "check_land", defArgs st_check_land, defBody st_check_land, defScope st_check_land, [], []⟩
def d_check_head : He.DefD := ⟨("check_head", none), "check_head", "check_head", defArgs st_check_head, defBody st_check_head, defScope st_check_head, [], []⟩
def d_check_heads : He.DefD := ⟨("check_heads", none), "check_heads", "check_heads", defArgs st_check_heads, defBody st_check_heads, defScope st_check_heads, [], []⟩
def d_piece_masks : He.DefD := ⟨("piece_masks", none), "piece_masks", "piece_masks", defArgs st_piece_masks, defBody st_piece_masks, defScope st_piece_masks, [], []⟩
def d_is_between : He.DefD := ⟨("is_between", none), "is_between", "is_between", defArgs st_is_between, defBody st_is_between, defScope st_is_between, [], []⟩
def d_has_both_ways : He.DefD := ⟨("has_both_ways", none), "has_both_ways", "has_both_ways", defArgs st_has_both_ways, defBody st_has_both_ways, defScope st_has_both_ways, [], []⟩
def d_next_places : He.DefD := ⟨("next_places", none), "next_places", "next_places", defArgs st_next_places, defBody st_next_places, defScope st_next_places, [], []⟩
def d_ways_on : He.DefD := ⟨("ways_on", none), "ways_on", "ways_on", defArgs st_ways_on, defBody st_ways_on, defScope st_ways_on, [], []⟩
def d_next_step : He.DefD := ⟨("next_step", none), "next_step", "next_step", defArgs st_next_step, defBody st_next_step, defScope st_next_step, [], []⟩
def d_order_at : He.DefD := ⟨("order_at", none), "order_at", "order_at", defArgs st_order_at, defBody st_order_at, defScope st_order_at, [], []⟩
def d_first_shut : He.DefD := ⟨("first_shut", none), "first_shut", "first_shut", defArgs st_first_shut, defBody st_first_shut, defScope st_first_shut, [], []⟩
def d_ordered : He.DefD := ⟨("ordered", none), "ordered", "ordered", defArgs st_ordered, defBody st_ordered, defScope st_ordered, [], []⟩
def d_is_sequence : He.DefD := ⟨("is_sequence", none), "is_sequence", "is_sequence", defArgs st_is_sequence, defBody st_is_sequence, defScope st_is_sequence, [], []⟩
def d_is_order_between : He.DefD := ⟨("is_order_between", none), "is_order_between", "is_order_between", defArgs st_is_order_between, defBody st_is_order_between, defScope st_is_order_between, [], []⟩
def d_is_order : He.DefD := ⟨("is_order", none), "is_order", "is_order", defArgs st_is_order, defBody st_is_order, defScope st_is_order, [], []⟩
def d_partings : He.DefD := ⟨("partings", none), "partings", "partings", defArgs st_partings, defBody st_partings, defScope st_partings, [], []⟩
def d_order_count : He.DefD := ⟨("order_count", none), "order_count", "order_count", defArgs st_order_count, defBody st_order_count, defScope st_order_count, [], []⟩
def d_ward_counts : He.DefD := ⟨("ward_counts", none), "ward_counts", "ward_counts", defArgs st_ward_counts, defBody st_ward_counts, defScope st_ward_counts, [], []⟩
def d_barred_sizes : He.DefD := ⟨("barred_sizes", none), "barred_sizes", "barred_sizes", defArgs st_barred_sizes, defBody st_barred_sizes, defScope st_barred_sizes, [], []⟩
def d__law_sack : He.DefD := ⟨("_law_sack", none), "_law_sack", "_law_sack", defArgs st__law_sack, defBody st__law_sack, defScope st__law_sack, [], []⟩
def d__law_grab : He.DefD := ⟨("_law_grab", none), "_law_grab", "_law_grab", defArgs st__law_grab, defBody st__law_grab, defScope st__law_grab, [], []⟩
def d__law_pairs : He.DefD := ⟨("_law_pairs", none), "_law_pairs", "_law_pairs", defArgs st__law_pairs, defBody st__law_pairs, defScope st__law_pairs, [], []⟩
def d__law_choices : He.DefD := ⟨("_law_choices", none), "_law_choices", "_law_choices", defArgs st__law_choices, defBody st__law_choices, defScope st__law_choices, [], []⟩
def d__law_due : He.DefD := ⟨("_law_due", none), "_law_due", "_law_due", defArgs st__law_due, defBody st__law_due, defScope st__law_due, [], []⟩
def d__law_same : He.DefD := ⟨("_law_same", none), "_law_same", "_law_same", defArgs st__law_same, defBody st__law_same, defScope st__law_same, [], []⟩
def d_law : He.DefD := ⟨("law", none), "law", "law", defArgs st_law, defBody st_law, defScope st_law, [], []⟩
def fnl : List He.DefD := [d_is_integer, d_is_place, d_mask_of, d_lot_of, d_whole_mask, d_links_of, d_reached, d_hangs_together, d_is_border, d_fault_of_folk, d_fault_of_borders, d_fault_of_land, d_check_land, d_check_head, d_check_heads, d_piece_masks, d_is_between, d_has_both_ways, d_next_places, d_ways_on, d_next_step, d_order_at, d_first_shut, d_ordered, d_is_sequence, d_is_order_between, d_is_order, d_partings, d_order_count, d_ward_counts, d_barred_sizes, d__law_sack, d__law_grab, d__law_pairs, d__law_choices, d__law_due, d__law_same, d_law]
def fal : List He.Fa := [.glo "is_integer", .glo "is_place", .glo "mask_of", .glo "lot_of", .glo "whole_mask", .glo "links_of", .glo "reached", .glo "hangs_together", .glo "is_border", .glo "fault_of_folk", .glo "fault_of_borders", .glo "fault_of_land", .glo "check_land", .glo "check_head", .glo "check_heads", .glo "piece_masks", .glo "is_between", .glo "has_both_ways", .glo "next_places", .glo "ways_on", .glo "next_step", .glo "order_at", .glo "first_shut", .glo "ordered", .glo "is_sequence", .glo "is_order_between", .glo "is_order", .glo "partings", .glo "order_count", .glo "ward_counts", .glo "barred_sizes", .glo "_law_sack", .glo "_law_grab", .glo "_law_pairs", .glo "_law_choices", .glo "_law_due", .glo "_law_same", .glo "law", .free "type", .free "len", .free "all", .free "sum", .free "tuple", .free "list", .free "range", .free "int", .free "bool", .free "str", .free "min", .free "max", .free "sorted", .free "isinstance", .free "set", .int "FEWEST_PLACES" 2, .int "MOST_PLACES" 12, .int "MOST_FOLK" 1000000]
def tfl : List He.Defn := [("mask_of", none), ("lot_of", none), ("ways_on", none), ("is_sequence", none), ("ward_counts", none), ("barred_sizes", none)]
theorem facts {l : PySem.W.OpenLaw} {w : World} {K : PySem.W.Frag} {h : Heap} {mg : Str → Option Value} {f : Addr} (X : K.In h) (G : h.Ns mainGlobals mg) (hfa : mg ("law" : Str) = some (.ref f)) (c : He.SaysX fal fnl [] tfl (fun _ => true) w h K) :
    LamX.LawAtS l w K CX0 12 63 "script" mg f h := by
  obtain ⟨e0, D0'⟩ := c.t.d.def_ 0 (d := d_is_integer) rfl
  have D0 : FunD K "is_integer" "is_integer" (defArgs st_is_integer) (defBody st_is_integer) (defScope st_is_integer) [] [] (He.fAd K ("is_integer", none)) e0 := D0'
  have g0 := He.glo_ok X G (c.t.d.fact 0 (f := .glo "is_integer") rfl)
  have b0 := D0.bindsN (ps := ["value", "low", "high"]) fun _ _ _ _ _ _ us hl => match us, hl with | [_, _, _], _ => rfl
  have F0 := He5.fun_of D0
  obtain ⟨e1, D1'⟩ := c.t.d.def_ 1 (d := d_is_place) rfl
  have D1 : FunD K "is_place" "is_place" (defArgs st_is_place) (defBody st_is_place) (defScope st_is_place) [] [] (He.fAd K ("is_place", none)) e1 := D1'
  have g1 := He.glo_ok X G (c.t.d.fact 1 (f := .glo "is_place") rfl)
  have b1 := D1.bindsN (ps := ["land", "value"]) fun _ _ _ _ _ _ us hl => match us, hl with | [_, _], _ => rfl
  have F1 := He5.fun_of D1
  obtain ⟨e2, D2'⟩ := c.t.d.def_ 2 (d := d_mask_of) rfl
  have D2 : FunD K "mask_of" "mask_of" (defArgs st_mask_of) (defBody st_mask_of) (defScope st_mask_of) [] [] (He.fAd K ("mask_of", none)) e2 := D2'
  have g2 := He.glo_ok X G (c.t.d.fact 2 (f := .glo "mask_of") rfl)
  have b2 := D2.bindsN (ps := ["lot"]) fun _ _ _ _ _ _ us hl => match us, hl with | [_], _ => rfl
  have F2 := He5.fun_of D2
  obtain ⟨e3, D3'⟩ := c.t.d.def_ 3 (d := d_lot_of) rfl
  have D3 : FunD K "lot_of" "lot_of" (defArgs st_lot_of) (defBody st_lot_of) (defScope st_lot_of) [] [] (He.fAd K ("lot_of", none)) e3 := D3'
  have g3 := He.glo_ok X G (c.t.d.fact 3 (f := .glo "lot_of") rfl)
  have b3 := D3.bindsN (ps := ["mask"]) fun _ _ _ _ _ _ us hl => match us, hl with | [_], _ => rfl
  have F3 := He5.fun_of D3
  obtain ⟨e4, D4'⟩ := c.t.d.def_ 4 (d := d_whole_mask) rfl
  have D4 : FunD K "whole_mask" "whole_mask" (defArgs st_whole_mask) (defBody st_whole_mask) (defScope st_whole_mask) [] [] (He.fAd K ("whole_mask", none)) e4 := D4'
  have g4 := He.glo_ok X G (c.t.d.fact 4 (f := .glo "whole_mask") rfl)
  have b4 := D4.bindsN (ps := ["land"]) fun _ _ _ _ _ _ us hl => match us, hl with | [_], _ => rfl
  have F4 := He5.fun_of D4
  obtain ⟨e5, D5'⟩ := c.t.d.def_ 5 (d := d_links_of) rfl
  have D5 : FunD K "links_of" "links_of" (defArgs st_links_of) (defBody st_links_of) (defScope st_links_of) [] [] (He.fAd K ("links_of", none)) e5 := D5'
  have g5 := He.glo_ok X G (c.t.d.fact 5 (f := .glo "links_of") rfl)
  have b5 := D5.bindsN (ps := ["land"]) fun _ _ _ _ _ _ us hl => match us, hl with | [_], _ => rfl
  have F5 := He5.fun_of D5
  obtain ⟨e6, D6'⟩ := c.t.d.def_ 6 (d := d_reached) rfl
  have D6 : FunD K "reached" "reached" (defArgs st_reached) (defBody st_reached) (defScope st_reached) [] [] (He.fAd K ("reached", none)) e6 := D6'
  have g6 := He.glo_ok X G (c.t.d.fact 6 (f := .glo "reached") rfl)
  have b6 := D6.bindsN (ps := ["links", "start", "mask"]) fun _ _ _ _ _ _ us hl => match us, hl with | [_, _, _], _ => rfl
  have F6 := He5.fun_of D6
  obtain ⟨e7, D7'⟩ := c.t.d.def_ 7 (d := d_hangs_together) rfl
  have D7 : FunD K "hangs_together" "hangs_together" (defArgs st_hangs_together) (defBody st_hangs_together) (defScope st_hangs_together) [] [] (He.fAd K ("hangs_together", none)) e7 := D7'
  have g7 := He.glo_ok X G (c.t.d.fact 7 (f := .glo "hangs_together") rfl)
  have b7 := D7.bindsN (ps := ["links", "mask"]) fun _ _ _ _ _ _ us hl => match us, hl with | [_, _], _ => rfl
  have F7 := He5.fun_of D7
  obtain ⟨e8, D8'⟩ := c.t.d.def_ 8 (d := d_is_border) rfl
  have D8 : FunD K "is_border" "is_border" (defArgs st_is_border) (defBody st_is_border) (defScope st_is_border) [] [] (He.fAd K ("is_border", none)) e8 := D8'
  have g8 := He.glo_ok X G (c.t.d.fact 8 (f := .glo "is_border") rfl)
  have b8 := D8.bindsN (ps := ["value", "many"]) fun _ _ _ _ _ _ us hl => match us, hl with | [_, _], _ => rfl
  have F8 := He5.fun_of D8
  obtain ⟨e9, D9'⟩ := c.t.d.def_ 9 (d := d_fault_of_folk) rfl
  have D9 : FunD K "fault_of_folk" "fault_of_folk" (defArgs st_fault_of_folk) (defBody st_fault_of_folk) (defScope st_fault_of_folk) [] [] (He.fAd K ("fault_of_folk", none)) e9 := D9'
  have g9 := He.glo_ok X G (c.t.d.fact 9 (f := .glo "fault_of_folk") rfl)
  have b9 := D9.bindsN (ps := ["folk"]) fun _ _ _ _ _ _ us hl => match us, hl with | [_], _ => rfl
  have F9 := He5.fun_of D9
  obtain ⟨e10, D10'⟩ := c.t.d.def_ 10 (d := d_fault_of_borders) rfl
  have D10 : FunD K "fault_of_borders" "fault_of_borders" (defArgs st_fault_of_borders) (defBody st_fault_of_borders) (defScope st_fault_of_borders) [] [] (He.fAd K ("fault_of_borders", none)) e10 := D10'
  have g10 := He.glo_ok X G (c.t.d.fact 10 (f := .glo "fault_of_borders") rfl)
  have b10 := D10.bindsN (ps := ["borders", "many"]) fun _ _ _ _ _ _ us hl => match us, hl with | [_, _], _ => rfl
  have F10 := He5.fun_of D10
  obtain ⟨e11, D11'⟩ := c.t.d.def_ 11 (d := d_fault_of_land) rfl
  have D11 : FunD K "fault_of_land" "fault_of_land" (defArgs st_fault_of_land) (defBody st_fault_of_land) (defScope st_fault_of_land) [] [] (He.fAd K ("fault_of_land", none)) e11 := D11'
  have g11 := He.glo_ok X G (c.t.d.fact 11 (f := .glo "fault_of_land") rfl)
  have b11 := D11.bindsN (ps := ["value"]) fun _ _ _ _ _ _ us hl => match us, hl with | [_], _ => rfl
  have F11 := He5.fun_of D11
  obtain ⟨e12, D12'⟩ := c.t.d.def_ 12 (d := d_check_land) rfl
  have D12 : FunD K "check_land" "check_land" (defArgs st_check_land) (defBody st_check_land) (defScope st_check_land) [] [] (He.fAd K ("check_land", none)) e12 := D12'
  have g12 := He.glo_ok X G (c.t.d.fact 12 (f := .glo "check_land") rfl)
  have b12 := D12.bindsN (ps := ["land"]) fun _ _ _ _ _ _ us hl => match us, hl with | [_], _ => rfl
  have F12 := He5.fun_of D12
  obtain ⟨e13, D13'⟩ := c.t.d.def_ 13 (d := d_check_head) rfl
  have D13 : FunD K "check_head" "check_head" (defArgs st_check_head) (defBody st_check_head) (defScope st_check_head) [] [] (He.fAd K ("check_head", none)) e13 := D13'
  have g13 := He.glo_ok X G (c.t.d.fact 13 (f := .glo "check_head") rfl)
  have b13 := D13.bindsN (ps := ["land", "head"]) fun _ _ _ _ _ _ us hl => match us, hl with | [_, _], _ => rfl
  have F13 := He5.fun_of D13
  obtain ⟨e14, D14'⟩ := c.t.d.def_ 14 (d := d_check_heads) rfl
  have D14 : FunD K "check_heads" "check_heads" (defArgs st_check_heads) (defBody st_check_heads) (defScope st_check_heads) [] [] (He.fAd K ("check_heads", none)) e14 := D14'
  have g14 := He.glo_ok X G (c.t.d.fact 14 (f := .glo "check_heads") rfl)
  have b14 := D14.bindsN (ps := ["land", "head", "other_head"]) fun _ _ _ _ _ _ us hl => match us, hl with | [_, _, _], _ => rfl
  have F14 := He5.fun_of D14
  obtain ⟨e15, D15'⟩ := c.t.d.def_ 15 (d := d_piece_masks) rfl
  have D15 : FunD K "piece_masks" "piece_masks" (defArgs st_piece_masks) (defBody st_piece_masks) (defScope st_piece_masks) [] [] (He.fAd K ("piece_masks", none)) e15 := D15'
  have g15 := He.glo_ok X G (c.t.d.fact 15 (f := .glo "piece_masks") rfl)
  have b15 := D15.bindsN (ps := ["links", "mask"]) fun _ _ _ _ _ _ us hl => match us, hl with | [_, _], _ => rfl
  have F15 := He5.fun_of D15
  obtain ⟨e16, D16'⟩ := c.t.d.def_ 16 (d := d_is_between) rfl
  have D16 : FunD K "is_between" "is_between" (defArgs st_is_between) (defBody st_is_between) (defScope st_is_between) [] [] (He.fAd K ("is_between", none)) e16 := D16'
  have g16 := He.glo_ok X G (c.t.d.fact 16 (f := .glo "is_between") rfl)
  have b16 := D16.bindsN (ps := ["mask", "head", "other_head"]) fun _ _ _ _ _ _ us hl => match us, hl with | [_, _, _], _ => rfl
  have F16 := He5.fun_of D16
  obtain ⟨e17, D17'⟩ := c.t.d.def_ 17 (d := d_has_both_ways) rfl
  have D17 : FunD K "has_both_ways" "has_both_ways" (defArgs st_has_both_ways) (defBody st_has_both_ways) (defScope st_has_both_ways) [] [] (He.fAd K ("has_both_ways", none)) e17 := D17'
  have g17 := He.glo_ok X G (c.t.d.fact 17 (f := .glo "has_both_ways") rfl)
  have b17 := D17.bindsN (ps := ["link", "ahead", "behind"]) fun _ _ _ _ _ _ us hl => match us, hl with | [_, _, _], _ => rfl
  have F17 := He5.fun_of D17
  obtain ⟨e18, D18'⟩ := c.t.d.def_ 18 (d := d_next_places) rfl
  have D18 : FunD K "next_places" "next_places" (defArgs st_next_places) (defBody st_next_places) (defScope st_next_places) [] [] (He.fAd K ("next_places", none)) e18 := D18'
  have g18 := He.glo_ok X G (c.t.d.fact 18 (f := .glo "next_places") rfl)
  have b18 := D18.bindsN (ps := ["links", "mask", "other_head"]) fun _ _ _ _ _ _ us hl => match us, hl with | [_, _, _], _ => rfl
  have F18 := He5.fun_of D18
  obtain ⟨e19, D19'⟩ := c.t.d.def_ 19 (d := d_ways_on) rfl
  have D19 : FunD K "ways_on" "ways_on" (defArgs st_ways_on) (defBody st_ways_on) (defScope st_ways_on) [] [] (He.fAd K ("ways_on", none)) e19 := D19'
  have g19 := He.glo_ok X G (c.t.d.fact 19 (f := .glo "ways_on") rfl)
  have b19 := D19.bindsN (ps := ["links", "head", "other_head"]) fun _ _ _ _ _ _ us hl => match us, hl with | [_, _, _], _ => rfl
  have F19 := He5.fun_of D19
  obtain ⟨e20, D20'⟩ := c.t.d.def_ 20 (d := d_next_step) rfl
  have D20 : FunD K "next_step" "next_step" (defArgs st_next_step) (defBody st_next_step) (defScope st_next_step) [] [] (He.fAd K ("next_step", none)) e20 := D20'
  have g20 := He.glo_ok X G (c.t.d.fact 20 (f := .glo "next_step") rfl)
  have b20 := D20.bindsN (ps := ["links", "ways", "mask", "other_head", "number"]) fun _ _ _ _ _ _ us hl => match us, hl with | [_, _, _, _, _], _ => rfl
  have F20 := He5.fun_of D20
  obtain ⟨e21, D21'⟩ := c.t.d.def_ 21 (d := d_order_at) rfl
  have D21 : FunD K "order_at" "order_at" (defArgs st_order_at) (defBody st_order_at) (defScope st_order_at) [] [] (He.fAd K ("order_at", none)) e21 := D21'
  have g21 := He.glo_ok X G (c.t.d.fact 21 (f := .glo "order_at") rfl)
  have b21 := D21.bindsN (ps := ["links", "ways", "head", "other_head", "number"]) fun _ _ _ _ _ _ us hl => match us, hl with | [_, _, _, _, _], _ => rfl
  have F21 := He5.fun_of D21
  obtain ⟨e22, D22'⟩ := c.t.d.def_ 22 (d := d_first_shut) rfl
  have D22 : FunD K "first_shut" "first_shut" (defArgs st_first_shut) (defBody st_first_shut) (defScope st_first_shut) [] [] (He.fAd K ("first_shut", none)) e22 := D22'
  have g22 := He.glo_ok X G (c.t.d.fact 22 (f := .glo "first_shut") rfl)
  have b22 := D22.bindsN (ps := ["land", "head", "other_head"]) fun _ _ _ _ _ _ us hl => match us, hl with | [_, _, _], _ => rfl
  have F22 := He5.fun_of D22
  obtain ⟨e23, D23'⟩ := c.t.d.def_ 23 (d := d_ordered) rfl
  have D23 : FunD K "ordered" "ordered" (defArgs st_ordered) (defBody st_ordered) (defScope st_ordered) [] [] (He.fAd K ("ordered", none)) e23 := D23'
  have g23 := He.glo_ok X G (c.t.d.fact 23 (f := .glo "ordered") rfl)
  have b23 := D23.bindsN (ps := ["land", "head", "other_head"]) fun _ _ _ _ _ _ us hl => match us, hl with | [_, _, _], _ => rfl
  have F23 := He5.fun_of D23
  obtain ⟨e24, D24'⟩ := c.t.d.def_ 24 (d := d_is_sequence) rfl
  have D24 : FunD K "is_sequence" "is_sequence" (defArgs st_is_sequence) (defBody st_is_sequence) (defScope st_is_sequence) [] [] (He.fAd K ("is_sequence", none)) e24 := D24'
  have g24 := He.glo_ok X G (c.t.d.fact 24 (f := .glo "is_sequence") rfl)
  have b24 := D24.bindsN (ps := ["land", "value"]) fun _ _ _ _ _ _ us hl => match us, hl with | [_, _], _ => rfl
  have F24 := He5.fun_of D24
  obtain ⟨e25, D25'⟩ := c.t.d.def_ 25 (d := d_is_order_between) rfl
  have D25 : FunD K "is_order_between" "is_order_between" (defArgs st_is_order_between) (defBody st_is_order_between) (defScope st_is_order_between) [] [] (He.fAd K ("is_order_between", none)) e25 := D25'
  have g25 := He.glo_ok X G (c.t.d.fact 25 (f := .glo "is_order_between") rfl)
  have b25 := D25.bindsN (ps := ["land", "head", "other_head", "value"]) fun _ _ _ _ _ _ us hl => match us, hl with | [_, _, _, _], _ => rfl
  have F25 := He5.fun_of D25
  obtain ⟨e26, D26'⟩ := c.t.d.def_ 26 (d := d_is_order) rfl
  have D26 : FunD K "is_order" "is_order" (defArgs st_is_order) (defBody st_is_order) (defScope st_is_order) [] [] (He.fAd K ("is_order", none)) e26 := D26'
  have g26 := He.glo_ok X G (c.t.d.fact 26 (f := .glo "is_order") rfl)
  have b26 := D26.bindsN (ps := ["land", "head", "other_head", "value"]) fun _ _ _ _ _ _ us hl => match us, hl with | [_, _, _, _], _ => rfl
  have F26 := He5.fun_of D26
  obtain ⟨e27, D27'⟩ := c.t.d.def_ 27 (d := d_partings) rfl
  have D27 : FunD K "partings" "partings" (defArgs st_partings) (defBody st_partings) (defScope st_partings) [] [] (He.fAd K ("partings", none)) e27 := D27'
  have g27 := He.glo_ok X G (c.t.d.fact 27 (f := .glo "partings") rfl)
  have b27 := D27.bindsN (ps := ["land", "head", "other_head"]) fun _ _ _ _ _ _ us hl => match us, hl with | [_, _, _], _ => rfl
  have F27 := He5.fun_of D27
  obtain ⟨e28, D28'⟩ := c.t.d.def_ 28 (d := d_order_count) rfl
  have D28 : FunD K "order_count" "order_count" (defArgs st_order_count) (defBody st_order_count) (defScope st_order_count) [] [] (He.fAd K ("order_count", none)) e28 := D28'
  have g28 := He.glo_ok X G (c.t.d.fact 28 (f := .glo "order_count") rfl)
  have b28 := D28.bindsN (ps := ["land", "head", "other_head"]) fun _ _ _ _ _ _ us hl => match us, hl with | [_, _, _], _ => rfl
  have F28 := He5.fun_of D28
  obtain ⟨e29, D29'⟩ := c.t.d.def_ 29 (d := d_ward_counts) rfl
  have D29 : FunD K "ward_counts" "ward_counts" (defArgs st_ward_counts) (defBody st_ward_counts) (defScope st_ward_counts) [] [] (He.fAd K ("ward_counts", none)) e29 := D29'
  have g29 := He.glo_ok X G (c.t.d.fact 29 (f := .glo "ward_counts") rfl)
  have b29 := D29.bindsN (ps := ["land", "head", "other_head"]) fun _ _ _ _ _ _ us hl => match us, hl with | [_, _, _], _ => rfl
  have F29 := He5.fun_of D29
  obtain ⟨e30, D30'⟩ := c.t.d.def_ 30 (d := d_barred_sizes) rfl
  have D30 : FunD K "barred_sizes" "barred_sizes" (defArgs st_barred_sizes) (defBody st_barred_sizes) (defScope st_barred_sizes) [] [] (He.fAd K ("barred_sizes", none)) e30 := D30'
  have g30 := He.glo_ok X G (c.t.d.fact 30 (f := .glo "barred_sizes") rfl)
  have b30 := D30.bindsN (ps := ["land", "head", "other_head"]) fun _ _ _ _ _ _ us hl => match us, hl with | [_, _, _], _ => rfl
  have F30 := He5.fun_of D30
  obtain ⟨e31, D31'⟩ := c.t.d.def_ 31 (d := d__law_sack) rfl
  have D31 : FunD K "_law_sack" "_law_sack" (defArgs st__law_sack) (defBody st__law_sack) (defScope st__law_sack) [] [] (He.fAd K ("_law_sack", none)) e31 := D31'
  have g31 := He.glo_ok X G (c.t.d.fact 31 (f := .glo "_law_sack") rfl)
  have b31 := D31.bindsN (ps := ["script"]) fun _ _ _ _ _ _ us hl => match us, hl with | [_], _ => rfl
  have F31 := He5.fun_of D31
  obtain ⟨e32, D32'⟩ := c.t.d.def_ 32 (d := d__law_grab) rfl
  have D32 : FunD K "_law_grab" "_law_grab" (defArgs st__law_grab) (defBody st__law_grab) (defScope st__law_grab) [] [] (He.fAd K ("_law_grab", none)) e32 := D32'
  have g32 := He.glo_ok X G (c.t.d.fact 32 (f := .glo "_law_grab") rfl)
  have b32 := D32.bindsN (ps := ["sack", "many"]) fun _ _ _ _ _ _ us hl => match us, hl with | [_, _], _ => rfl
  have F32 := He5.fun_of D32
  obtain ⟨e33, D33'⟩ := c.t.d.def_ 33 (d := d__law_pairs) rfl
  have D33 : FunD K "_law_pairs" "_law_pairs" (defArgs st__law_pairs) (defBody st__law_pairs) (defScope st__law_pairs) [] [] (He.fAd K ("_law_pairs", none)) e33 := D33'
  have g33 := He.glo_ok X G (c.t.d.fact 33 (f := .glo "_law_pairs") rfl)
  have b33 := D33.bindsN (ps := ["many"]) fun _ _ _ _ _ _ us hl => match us, hl with | [_], _ => rfl
  have F33 := He5.fun_of D33
  obtain ⟨e34, D34'⟩ := c.t.d.def_ 34 (d := d__law_choices) rfl
  have D34 : FunD K "_law_choices" "_law_choices" (defArgs st__law_choices) (defBody st__law_choices) (defScope st__law_choices) [] [] (He.fAd K ("_law_choices", none)) e34 := D34'
  have g34 := He.glo_ok X G (c.t.d.fact 34 (f := .glo "_law_choices") rfl)
  have b34 := D34.bindsN (ps := ["many", "some"]) fun _ _ _ _ _ _ us hl => match us, hl with | [_, _], _ => rfl
  have F34 := He5.fun_of D34
  obtain ⟨e35, D35'⟩ := c.t.d.def_ 35 (d := d__law_due) rfl
  have D35 : FunD K "_law_due" "_law_due" (defArgs st__law_due) (defBody st__law_due) (defScope st__law_due) [] [] (He.fAd K ("_law_due", none)) e35 := D35'
  have g35 := He.glo_ok X G (c.t.d.fact 35 (f := .glo "_law_due") rfl)
  have b35 := D35.bindsN (ps := ["sort", "many", "i", "j"]) fun _ _ _ _ _ _ us hl => match us, hl with | [_, _, _, _], _ => rfl
  have F35 := He5.fun_of D35
  obtain ⟨e36, D36'⟩ := c.t.d.def_ 36 (d := d__law_same) rfl
  have D36 : FunD K "_law_same" "_law_same" (defArgs st__law_same) (defBody st__law_same) (defScope st__law_same) [] [] (He.fAd K ("_law_same", none)) e36 := D36'
  have g36 := He.glo_ok X G (c.t.d.fact 36 (f := .glo "_law_same") rfl)
  have b36 := D36.bindsN (ps := ["found", "due"]) fun _ _ _ _ _ _ us hl => match us, hl with | [_, _], _ => rfl
  have F36 := He5.fun_of D36
  obtain ⟨e37, D37'⟩ := c.t.d.def_ 37 (d := d_law) rfl
  have D37 : FunD K "law" "law" (defArgs st_law) (defBody st_law) (defScope st_law) [] [] (He.fAd K ("law", none)) e37 := D37'
  have g37 := He.glo_ok X G (c.t.d.fact 37 (f := .glo "law") rfl)
  have b37 := D37.bindsN (ps := ["script"]) fun _ _ _ _ _ _ us hl => match us, hl with | [_], _ => rfl
  have F37 := He5.fun_of D37
  have B : Bl mg := ⟨He.free_ok X G (c.t.d.fact 38 (f := .free "type") rfl), He.free_ok X G (c.t.d.fact 39 (f := .free "len") rfl), He.free_ok X G (c.t.d.fact 40 (f := .free "all") rfl), He.free_ok X G (c.t.d.fact 41 (f := .free "sum") rfl), He.free_ok X G (c.t.d.fact 42 (f := .free "tuple") rfl), He.free_ok X G (c.t.d.fact 43 (f := .free "list") rfl), He.free_ok X G (c.t.d.fact 44 (f := .free "range") rfl), He.free_ok X G (c.t.d.fact 45 (f := .free "int") rfl), He.free_ok X G (c.t.d.fact 46 (f := .free "bool") rfl), He.free_ok X G (c.t.d.fact 47 (f := .free "str") rfl), He.free_ok X G (c.t.d.fact 48 (f := .free "min") rfl), He.free_ok X G (c.t.d.fact 49 (f := .free "max") rfl), He.free_ok X G (c.t.d.fact 50 (f := .free "sorted") rfl), He.free_ok X G (c.t.d.fact 51 (f := .free "isinstance") rfl), He.free_ok X G (c.t.d.fact 52 (f := .free "set") rfl)⟩
  have N : Nums mg := ⟨He.int_ok X G (c.t.d.fact 53 (f := .int "FEWEST_PLACES" 2) rfl), He.int_ok X G (c.t.d.fact 54 (f := .int "MOST_PLACES" 12) rfl), He.int_ok X G (c.t.d.fact 55 (f := .int "MOST_FOLK" 1000000) rfl)⟩
  cases hfa.symm.trans g37
  have CF0 := funC_of D2
  have CF1 := funC_of D3
  have CF2 := funC_of D19
  have CF3 := funC_of D24
  have CF4 := funC_of D29
  have CF5 := funC_of D30
  have mem : ∀ i (p : He.Defn), tfl[i]? = some p → p ∈ tfl := fun i p e => List.mem_of_getElem? e
  refine ⟨_, tfl.map (He.cT K), spLaw K [(He.cT K ("mask_of", none)).2, (He.cT K ("lot_of", none)).2, (He.cT K ("ways_on", none)).2, (He.cT K ("is_sequence", none)).2, (He.cT K ("ward_counts", none)).2, (He.cT K ("barred_sizes", none)).2], fun p hp => ?_, fun p hp => ?_, fun p hp => ?_, fun s u => FunD.bindsA D37 (ps := ["script"]) (fun _ _ _ _ _ _ us hl => match us, hl with | [_], _ => rfl) s [u] rfl, fun H a ns hl _ hH hS => ?_, fun base hb hg hTB => ?_⟩
  · obtain ⟨q, hq, rfl⟩ := List.mem_map.mp hp
    exact c.empty q hq
  · obtain ⟨q, hq, rfl⟩ := List.mem_map.mp hp
    exact c.out q hq
  · obtain ⟨q, hq, rfl⟩ := List.mem_map.mp hp
    exact PySem.W.codeHd_of_K X (c.hd q hq)
  · have hz : ∀ q, q ∈ tfl → Gx.TabG H (He.cT K q).2 := fun q hq => ⟨#[], hH _ (List.mem_map.mpr ⟨q, hq, rfl⟩), by first | exact trivial | simp [GxR.TriplesOk] | simp⟩
    refine ⟨a, ns, rfl, hS, hl, fun Pt hPt => ?_, fun _ => rfl⟩
    simp only [List.mem_cons, List.mem_nil_iff, or_false] at hPt
    rcases hPt with e | e | e | e | e | e <;> rw [e] <;> exact hz _ (by simp [tfl])
  · have tb : ∀ q, q ∈ tfl → TabB base mg (He.cT K q).1 (He.cT K q).2 := fun q hq => hTB _ (List.mem_map.mpr ⟨q, hq, rfl⟩)
    have TB0 := tb ("mask_of", none) (by simp [tfl])
    have TB1 := tb ("lot_of", none) (by simp [tfl])
    have TB2 := tb ("ways_on", none) (by simp [tfl])
    have TB3 := tb ("is_sequence", none) (by simp [tfl])
    have TB4 := tb ("ward_counts", none) (by simp [tfl])
    have TB5 := tb ("barred_sizes", none) (by simp [tfl])
    have ci : Cal l.prog w K mg base 1 "is_integer" _ _ := ⟨_, _, ok_is_integer F0 B, g0, D0.kp, b0⟩
    have cpl : Cal l.prog w K mg base 2 "is_place" _ _ := ⟨_, _, ok_is_place F1 B ci, g1, D1.kp, b1⟩
    have cm : Cal l.prog w K mg base 4 "mask_of" _ _ := ⟨_, _, ok_mask_of CF0 TB0 B, g2, D2.kp, b2⟩
    have clo : Cal l.prog w K mg base 6 "lot_of" _ _ := ⟨_, _, ok_lot_of CF1 TB1 B, g3, D3.kp, b3⟩
    have cw : Cal l.prog w K mg base 1 "whole_mask" _ _ := ⟨_, _, ok_whole_mask F4 B, g4, D4.kp, b4⟩
    have clk : Cal l.prog w K mg base 1 "links_of" _ _ := ⟨_, _, ok_links_of F5 B, g5, D5.kp, b5⟩
    have cre : Cal l.prog w K mg base 7 "reached" _ _ := ⟨_, _, ok_reached F6 B clo, g6, D6.kp, b6⟩
    have cht : Cal l.prog w K mg base 8 "hangs_together" _ _ := ⟨_, _, ok_hangs_one F7 cre, g7, D7.kp, b7⟩
    have cib : Cal l.prog w K mg base 2 "is_border" _ _ := ⟨_, _, ok_is_border F8 B ci, g8, D8.kp, b8⟩
    have cff : Cal l.prog w K mg base 2 "fault_of_folk" _ _ := ⟨_, _, ok_fault_of_folk F9 B N ci, g9, D9.kp, b9⟩
    have cfb : Cal l.prog w K mg base 3 "fault_of_borders" _ _ := ⟨_, _, ok_fault_of_borders F10 B cib, g10, D10.kp, b10⟩
    have cfl : Cal l.prog w K mg base 4 "fault_of_land" _ _ := ⟨_, _, ok_fault_of_land F11 B cff cfb, g11, D11.kp, b11⟩
    have ckl : Cal l.prog w K mg base 5 "check_land" _ _ := ⟨_, _, ok_check_land F12 cfl, g12, D12.kp, b12⟩
    have ckh : Cal l.prog w K mg base 3 "check_head" _ _ := ⟨_, _, ok_check_head F13 cpl, g13, D13.kp, b13⟩
    have chs : Cal l.prog w K mg base 4 "check_heads" _ _ := ⟨_, _, ok_check_heads F14 ckh, g14, D14.kp, b14⟩
    have cpm : Cal l.prog w K mg base 8 "piece_masks" _ _ := ⟨_, _, ok_piece_masks F15 B cre, g15, D15.kp, b15⟩
    have cbe : Cal l.prog w K mg base 1 "is_between" _ _ := ⟨_, _, ok_is_between F16, g16, D16.kp, b16⟩
    have cbo : Cal l.prog w K mg base 1 "has_both_ways" _ _ := ⟨_, _, ok_both F17, g17, D17.kp, b17⟩
    have cnx : Cal l.prog w K mg base 7 "next_places" _ _ := ⟨_, _, ok_next F18 B clo cbo, g18, D18.kp, b18⟩
    have cwy : Cal l.prog w K mg base 8 "ways_on" _ _ := ⟨_, _, ok_ways CF2 TB2 B cnx cbe, g19, D19.kp, b19⟩
    have cst : Cal l.prog w K mg base 8 "next_step" _ _ := ⟨_, _, ok_step F20 cnx, g20, D20.kp, b20⟩
    have coa : Cal l.prog w K mg base 9 "order_at" _ _ := ⟨_, _, ok_ordAt F21 B cst, g21, D21.kp, b21⟩
    have cs1 : Cal l.prog w K mg base 9 "first_shut" _ _ := ⟨_, _, ok_shut1 F22 B clk cm cw cpm clo, g22, D22.kp, b22⟩
    have cor : Cal l.prog w K mg base 10 "ordered" _ _ := ⟨_, _, ord_d (ok_ordered F23 ckl chs cs1 clk cwy coa), g23, D23.kp, b23⟩
    have csq : Cal l.prog w K mg base 6 "is_sequence" _ _ := ⟨_, _, ok_is_sequenceA CF3 TB3 B cpl, g24, D24.kp, b24⟩
    have cob : Cal l.prog w K mg base 7 "is_order_between" _ _ := ⟨_, _, ok_ordBtA F25 csq clk cw cbo, g25, D25.kp, b25⟩
    have cio : Cal l.prog w K mg base 8 "is_order" _ _ := ⟨_, _, ok_isOrderA F26 ckl chs cob, g26, D26.kp, b26⟩
    have cpt : Cal l.prog w K mg base 9 "partings" _ _ := ⟨_, _, ok_partings F27 B clk cw cbe cht clo, g27, D27.kp, b27⟩
    have coc : Cal l.prog w K mg base 9 "order_count" _ _ := ⟨_, _, ok_count F28 ckl chs clk cwy, g28, D28.kp, b28⟩
    have cwc : Cal l.prog w K mg base 10 "ward_counts" _ _ := ⟨_, _, ok_wardCE CF4 TB4 B ckl chs cpt, g29, D29.kp, b29⟩
    have cba : Cal l.prog w K mg base 11 "barred_sizes" _ _ := ⟨_, _, ok_barredE CF5 TB5 B cwc, g30, D30.kp, b30⟩
    have csk : Cal l.prog w K mg base 1 "_law_sack" _ _ := ⟨_, _, ok_law_sack F31 B, g31, D31.kp, b31⟩
    have cgr : Cal l.prog w K mg base 1 "_law_grab" _ _ := ⟨_, _, ok_law_grab F32 B, g32, D32.kp, b32⟩
    have cps : Cal l.prog w K mg base 1 "_law_pairs" _ _ := ⟨_, _, ok_law_pairs F33 B, g33, D33.kp, b33⟩
    have cch : Cal l.prog w K mg base 1 "_law_choices" _ _ := ⟨_, _, ok_choices F34 B, g34, D34.kp, b34⟩
    have cdu : Cal l.prog w K mg base 2 "_law_due" _ _ := ⟨_, _, ok_due F35 B cch, g35, D35.kp, b35⟩
    have csa : Cal l.prog w K mg base 5 "_law_same" _ _ := ⟨_, _, ok_law_same F36 B g36 b36 4, g36, D36.kp, b36⟩
    exact ok_law F37 B (by simp) (by simp) (by simp) (by simp) (by simp) (by intro T hT; simp only [List.mem_cons, List.not_mem_nil, or_false] at hT ⊢; rcases hT with h | h | h <;> simp [h]) csk cgr cps cdu csa coc cwc cor cio cba
end Wd

set_option Elab.async false
set_option linter.all false
set_option maxRecDepth 100000
set_option maxHeartbeats 4000000
namespace Wd
open PySem PySem.Spec PyProof.Rows L2 Bx Gx











































/-! ### the run of the top -/
abbrev R : PySem.W.OpenRow := PySem.W.OpenLaw.row PySem.Challenge.rw_wardsdrawn_k22_whole_rings_rows_and_mesh
abbrev hk : PySem.W.Hook := He.hookX 6 fal fnl [] tfl (fun _ => true)
def ob (s : PySem.W.SharedT) : He.AlX := He.obsX 6 fal fnl [] tfl (fun _ => true) (HandSHeadRun.getT s)
theorem ob_eq (s : PySem.W.SharedT) : ob s = hk.obs s.abs := He.obsX_eq (HandSHeadRun.getT_eq s)
def names : List PySem.Str := ([("WardError" : PySem.Str), ("InvalidPlace" : PySem.Str), ("InvalidLand" : PySem.Str), ("FEWEST_PLACES" : PySem.Str), ("MOST_PLACES" : PySem.Str), ("MOST_FOLK" : PySem.Str), ("is_integer" : PySem.Str), ("is_place" : PySem.Str)] : List PySem.Str) ++ ([("is_sequence" : PySem.Str), ("mask_of" : PySem.Str), ("lot_of" : PySem.Str), ("whole_mask" : PySem.Str), ("links_of" : PySem.Str), ("reached" : PySem.Str), ("piece_masks" : PySem.Str), ("hangs_together" : PySem.Str)] : List PySem.Str) ++ ([("fault_of_land" : PySem.Str), ("fault_of_folk" : PySem.Str), ("fault_of_borders" : PySem.Str), ("is_border" : PySem.Str), ("check_land" : PySem.Str), ("check_head" : PySem.Str), ("check_heads" : PySem.Str), ("is_order" : PySem.Str)] : List PySem.Str) ++ ([("ordered" : PySem.Str), ("order_count" : PySem.Str), ("barred_sizes" : PySem.Str), ("ward_counts" : PySem.Str), ("is_order_between" : PySem.Str), ("has_both_ways" : PySem.Str), ("next_places" : PySem.Str), ("ways_on" : PySem.Str)] : List PySem.Str) ++ ([("is_between" : PySem.Str), ("order_at" : PySem.Str), ("next_step" : PySem.Str), ("first_shut" : PySem.Str), ("partings" : PySem.Str), ("_law_sack" : PySem.Str), ("_law_grab" : PySem.Str), ("_law_pick" : PySem.Str)] : List PySem.Str) ++ ([("_law_same" : PySem.Str), ("_law_choices" : PySem.Str), ("_law_pairs" : PySem.Str), ("_law_due" : PySem.Str)] : List PySem.Str)
theorem run (w : World) : HandSHeadRun.RunEq R (PySem.W.view R.prog [48]) hk ob 6000 names w := by
  intro os
  kernel_rfl
end Wd
open PySem PySem.W PySem.Calls PyProof.Rows
set_option maxHeartbeats 0
theorem PySem.Challenge.cw_wardsdrawn_k22_whole_rings_rows_and_mesh_holds : PySem.Challenge.rw_wardsdrawn_k22_whole_rings_rows_and_mesh.Holds := by
  w_on; o_law
  refine HandSHeadRun.head_any (r := OpenLaw.row PySem.Challenge.rw_wardsdrawn_k22_whole_rings_rows_and_mesh) (q := view (OpenLaw.row PySem.Challenge.rw_wardsdrawn_k22_whole_rings_rows_and_mesh).prog [48]) (H := Wd.hk) (ob := Wd.ob) (M := 6000) (loose := Wd.names) (d := HandSHeadRun.topDef (OpenLaw.row PySem.Challenge.rw_wardsdrawn_k22_whole_rings_rows_and_mesh).prog 48) (kwd := []) Wd.ob_eq
    (by kernel_rfl) (fun s => by kernel_rfl) Wd.run (by kernel_rfl) (by kernel_rfl) (by kernel_rfl) (by rfl) (by first | assumption | decide +kernel) (by decide +kernel) ⟨rfl, rfl, rfl, rfl, rfl, by decide +kernel⟩ ?hw ?hc
  case hw => w_witness2
  case hc =>
    refine LamX.walk_ofTsE (l := PySem.Challenge.rw_wardsdrawn_k22_whole_rings_rows_and_mesh) (n := 63) (k := 12) (x := "script") (CX := fun _ => L2.CX0) rfl (by decide) (by kernel_rfl) ⟨rfl, by decide, by decide⟩ ?F (fun _ _ _ _ _ z => z)
    intro w mg fa h Y G hmg0
    obtain ⟨K, KX, c⟩ := Y
    have hmg : mg ("law" : PySem.Str) = some (.ref fa) := by
      have e : (HandSHeadRun.topDef (OpenLaw.row PySem.Challenge.rw_wardsdrawn_k22_whole_rings_rows_and_mesh).prog 48).name = ("law" : PySem.Str) := by kernel_rfl
      rw [← e]
      exact hmg0
    exact ⟨K, KX, Wd.facts KX G hmg c⟩
namespace Wd
end Wd
