import PyProof.Rows.All
import Wide.All
import OpenK.AllK
import Wide.FinOn
import HandS.ForMost
import HandS.ForExc
import HandS.GenList
import HandS.AnyAll
import HandS.EndOwn
import PyProof.SumAny
import HandS.IsInst
import HandS.More
import HandS.WideBits
import HandS.Zip
import PyProof.TypeEq
import HandS.Text
import HandS.TupLe
import HandS.Comp
import HandS.Deep
import HandS.Sort
import HandS.SortRule
import HandS.Conv
import HandS.Iter
import HandS.Style
import HandS.TupSets
import PyProof.WalksMore
import HandS.SetKeys
import HandS.ListItems
import KE.SortData
import KE.KDictList
import HandS.SortKw
import KE.DataMinMax
import PyProof.ReprRoads
import PyProof.ReprLen
import PyProof.Rows.ReprShort
import HandS.EndTab
import HandS.HeadWalk
import HandS.Head2
import HandS.HeadHook4
import HandS.HeadNt
import PySem.Challenge.RW_wardsdrawn_k17_fairest_partings
set_option Elab.async false
set_option linter.all false
set_option maxRecDepth 100000
set_option maxHeartbeats 4000000
/-! Gx: a generator expression over anything that PI serves, drained by all, any, sum, tuple; its element may be any expression of the layer. -/
namespace Gx
open PySem PySem.Spec PyProof.Rows L2 GenW

/-! ### the context in which the generator's code runs -/
abbrev genv (X : Cx) (scope : Scope) (code : Value) (C : Addr) : Env := genEnv scope (cloFrom X.env.cells scope.names []) C code builtinsNs X.env
def gcx (X : Cx) (N : List Str) (scope : Scope) (code : Value) (A : Around) (s : Shared) (H : Hp) (fp : List Addr) : Cx :=
  { X with
    A := A.deeper (genv X scope code s.heap.objs.size)
    N := N
    s_0 := s
    H_0 := H
    env := genv X scope code s.heap.objs.size
    outer := X.stack
    stack := genv X scope code s.heap.objs.size :: X.stack
    ex := fp
    fn := fun _ => false
    calm := true
    pn := []
    xe := fun _ _ => False }
/-- the names of the generator expression: N, its own ones and captured ones; src tells where a captured one stands in the def -/
structure GOk (ND : List Str) (sc scope : Scope) (N : List Str) (src : List (Option Nat)) : Prop where
  kind : scope.kind = .function
  co : scope.isCoroutine = false
  cell : ∀ y ∈ scope.names, y.2 ≠ .cell
  dot : scope.names.lookup (".0" : Str) = some NameKind.local
  free : ∀ y ∈ scope.names, y.2 = .free → sc.names.lookup y.1 = some .cell ∨ sc.names.lookup y.1 = some .free
  len : src.length = N.length
  src : ∀ (i j : Nat), src[i]? = some (some j) → ∃ x, N[i]? = some x ∧ ND[j]? = some x ∧ scope.names.lookup x = some .free
def gsl (σ : L2.St) (src : List (Option Nat)) : L2.St := src.map fun o => match o with
  | some j => σ.getD j none
  | none => none
theorem gsl_some {σ : L2.St} {src : List (Option Nat)} {i : Nat} {v : V} (h : (gsl σ src)[i]? = some (some v)) : ∃ j, src[i]? = some (some j) ∧ σ[j]? = some (some v) := by
  unfold gsl at h
  rw [List.getElem?_map] at h
  cases e : src[i]? with
  | none => rw [e] at h; cases h
  | some o =>
    rw [e] at h
    cases o with
    | none => cases h
    | some j =>
      refine ⟨j, rfl, ?_⟩
      have h2 : σ.getD j none = some v := Option.some.inj h
      rw [List.getD_eq_getElem?_getD] at h2
      cases e2 : σ[j]? with
      | none => rw [e2] at h2; cases h2
      | some w => rw [e2] at h2; exact congrArg some h2
theorem over_gl {A : Around} {elt iter tg : Expr} {ifs : List Expr} {scope : Scope} {pos : Pos} {it acc : Value} {env : Env} :
    A.over (.compLoop (.GeneratorExp elt [⟨tg, iter, ifs, 0⟩] scope pos) 0 it acc env) [] = A.deeper env := by
  first
    | rfl
    | (obtain ⟨hd, d, fr, gs, u⟩ := A; simp [Around.over, Around.deeper, marksOver, frameCount, unitsOf, envsOf, guardsOf, pushEnvs, pushGuards, Code.envs, Code.env?, Code.isFrame, Code.guards, Code.isGuard, Code.weight, Code.frames, Code.isCreation, Code.isCaller, Code.cUnits])
theorem over_gs {A : Around} {elt iter tg : Expr} {ifs : List Expr} {scope : Scope} {pos : Pos} {it acc : Value} {env : Env} :
    A.over (.compStart (.GeneratorExp elt [⟨tg, iter, ifs, 0⟩] scope pos) 0 it acc env) [] = A.deeper env := by
  first
    | rfl
    | (obtain ⟨hd, d, fr, gs, u⟩ := A; simp [Around.over, Around.deeper, marksOver, frameCount, unitsOf, envsOf, guardsOf, pushEnvs, pushGuards, Code.envs, Code.env?, Code.isFrame, Code.guards, Code.isGuard, Code.weight, Code.frames, Code.isCreation, Code.isCaller, Code.cUnits])
section
variable {X : Cx} {pins : List (Addr × Obj)} {σ : L2.St} {H : Hp} {s s' : Shared} {scope : Scope} {N : List Str} {src : List (Option Nat)} {fp : List Addr} {code : Value} {A : Around} {m0 : Str → Option Value}
theorem g_start (I : Inv X pins σ H s) (ok : GOk X.N X.env.scope scope N src) (hfp : ∀ b ∈ fp, FpOk X pins H b ∧ b < s.heap.objs.size) (hA : A.frames = some X.stack) (hh : A.handled = none)
    (os : s'.os = s.os) (bare : AllBare s'.gens) (kp : ∀ b o, s.heap.get? b = some o → s'.heap.get? b = some o) (hn : s'.heap.Ns s.heap.objs.size m0) :
    Inv (gcx X N scope code A s H fp) [] (gsl σ src) H s' := by
  have hfree : ∀ y ∈ scope.names, y.2 = .free → ∃ c, X.env.cells.lookup y.1 = some c := fun y hy e => by
    rcases ok.free y hy e with k | k
    · exact I.ok.has _ (.inl k)
    · exact I.ok.has _ (.inr k)
  have cm : ∀ {y c}, (y, c) ∈ cloFrom X.env.cells scope.names [] → X.env.cells.lookup y = some c ∧ c < s.heap.objs.size := fun {y c} hm => by
    rcases cloFrom_mem hm with hm | ⟨h1, rfl⟩
    · cases hm
    · obtain ⟨c, hc⟩ := hfree _ h1 rfl
      rw [hc]
      obtain ⟨w, z⟩ := I.cell _ _ hc
      exact ⟨rfl, z.lt⟩
  have look : ∀ {y}, scope.names.lookup y = some .free → ∃ c, (cloFrom X.env.cells scope.names []).lookup y = some c ∧ X.env.cells.lookup y = some c := fun {y} hl => by
    have hy : (y, NameKind.free) ∈ scope.names := PySem.mem_of_lookup hl
    obtain ⟨c', e'⟩ := mem_lookup (cloFrom_has (cells := X.env.cells) (acc := []) hy)
    exact ⟨c', e', (cm (PySem.mem_of_lookup e')).1⟩
  refine ⟨⟨I.ok.mod, ok.kind, I.ok.glob, rfl, Nat.le_refl _, fun y z c e1 e2 => ?_, fun y hy => ?_, fun y c z _ => ?_, fun _ => hh, Around.frames_deeper hA, .inr ⟨rfl, rfl⟩, fun b hb => ⟨?_, fun y c e z => ?_⟩, I.bs, Nat.le_trans I.ok.bsz I.sz, fun b o e hb => ?_, fun b hb z => ?_, I.stack, I.stkFree⟩,
    os, bare, Un.kept kp, ⟨m0, hn, fun i y v e1 e2 e3 => ?_⟩, fun y c e => ?_, I.hok.fresh (Nat.le_refl _), fun y c e => ?_, fun p hp => absurd (show p ∈ ([] : List (Addr × Obj)) ++ [] from hp) (by simp), I.hok.kept kp, ?_⟩
  · exact I.ok.inj y z c (cm (PySem.mem_of_lookup e1)).1 (cm (PySem.mem_of_lookup e2)).1
  · have hy : scope.names.lookup y = some .cell ∨ scope.names.lookup y = some .free := hy
    rcases hy with hy | hy
    · exact absurd rfl (ok.cell _ (PySem.mem_of_lookup hy))
    · obtain ⟨c, h1, _⟩ := look hy
      exact ⟨c, h1⟩
  · cases z
  · exact Nat.ne_of_lt (hfp b hb).2
  · exact (hfp b hb).1.2.2.2.2.1 y c (cm (PySem.mem_of_lookup e)).1 z
  · rcases (hfp b hb).1.2.2.2.1 with z | z
    · exact I.ok.noex b o e z
    · exact absurd (Nat.lt_of_lt_of_le (Heap.lt_size e) (Nat.le_trans I.ok.bsz z)) (Nat.lt_irrefl _)
  · rcases List.mem_cons.mp (I.stkSub b z) with z | z
    · exact (hfp b hb).1.2.1 z
    · exact (hfp b hb).1.2.2.1 z
  · obtain ⟨j, h1, h2⟩ := gsl_some e2
    obtain ⟨x, hx1, hx2, hx3⟩ := ok.src i j h1
    have e1 : N[i]? = some y := e1
    rw [hx1] at e1
    cases e1
    obtain ⟨m, _, hl⟩ := I.loc
    have hf := ok.free _ (PySem.mem_of_lookup hx3) rfl
    obtain ⟨w, r, q⟩ := hl j y v hx2 h2 (hf.elim (fun k => .inr (.inl k)) fun k => .inr (.inr k))
    refine ⟨w, r, .inr ⟨.inr hx3, ?_⟩⟩
    obtain ⟨c, h1, h2⟩ := look hx3
    rcases q with ⟨k, _⟩ | ⟨_, c', e', z⟩
    · have k : X.env.scope.names.lookup y = some .local := k
      rcases hf with k' | k' <;> rw [show X.env.scope.names.lookup y = _ from k'] at k <;> cases k
    · rw [h2] at e'; cases e'
      exact ⟨c, h1, z.keeps kp⟩
  · obtain ⟨w, z⟩ := I.cell y c (cm (PySem.mem_of_lookup e)).1
    exact ⟨w, z.keeps kp⟩
  · exact I.freeC y c (cm (PySem.mem_of_lookup e)).1
  · show (gsl σ src).length = N.length
    unfold gsl
    rw [List.length_map, ok.len]
end

/-! ### the loop of the generator's code -/
/-- what is pinned while the generator runs: its own object and what its consumer keeps -/
structure PinsOk (G : Cx) (fp : List Addr) (pins : List (Addr × Obj)) : Prop where
  young : ∀ p ∈ pins, G.s_0.heap.objs.size ≤ p.1
  ne : ∀ p ∈ pins, p.1 ≠ G.env.locals
  nfp : ∀ p ∈ pins, p.1 ∉ fp
  ncell : ∀ p ∈ pins, ∀ x c, G.env.cells.lookup x = some c → c ≠ p.1
abbrev TPost := V → List V → Hp → Prop → Prop
/-- the consumer has taken its item: what it keeps may have changed, all else stands -/
structure Woke (pins pins' : List (Addr × Obj)) (s s' : Shared) : Prop where
  os : s'.os = s.os
  bare : AllBare s'.gens
  keep : ∀ b o, b ∉ pins.map (·.1) → s.heap.get? b = some o → s'.heap.get? b = some o
  same : pins'.map (·.1) = pins.map (·.1)
  at_ : ∀ p ∈ pins', s'.heap.get? p.1 = some p.2
  data : ∀ p ∈ pins', ∀ v, p.2.data ≠ .cell v
def GYx (G : Cx) (fp : List Addr) (Pn : List V → List (Addr × Obj) → Prop) (post : TPost) : Protocol := fun n s₀ v s kap =>
  ∃ x ys σ H pins C, RelV x v ∧ Inv G pins σ H s ∧ PinsOk G fp pins ∧ Pn ys pins ∧ (∀ p ∈ pins, s₀.heap.get? p.1 = some p.2) ∧ post x ys H C ∧
    (C → ∀ s' pins', Woke pins pins' s s' → Pn (ys ++ [x]) pins' → kap (.send .none) s')
def GEx (G : Cx) (fp : List Addr) (Pn : List V → List (Addr × Obj) → Prop) (Fin : List V → Hp → Prop) : Shared → Shared → Prop := fun s₀ s =>
  ∃ ys σ H pins, Inv G pins σ H s ∧ PinsOk G fp pins ∧ Pn ys pins ∧ (∀ p ∈ pins, s₀.heap.get? p.1 = some p.2) ∧ Fin ys H
/-- the reading of a turn -/
def GTurn (J : It) (g : TG) (tt : TT) (te : TE) (vs : List Nat) (σg : L2.St) (post : TPost) (Fin : List V → Hp → Prop) (W : Nat → Nat → List V → Hp → Prop) : Prop :=
  ∀ i m ys H, W i m ys H → (J.stop i H ∧ Fin ys H) ∨ (J.go i H ∧ ∀ x H', J.yld i H x H' → g x σg H' fun σ2 H2 => wipe σ2 vs = σg ∧ tt σ2 H2 fun b H3 =>
    if b = true then te σ2 H3 fun v H4 => post v ys H4 (∃ m', m' < m ∧ W (i + 1) m' (ys ++ [v]) H4) else ∃ m', m' < m ∧ W (i + 1) m' ys H3)
theorem Inv.woke {G : Cx} {fp : List Addr} {pins pins' : List (Addr × Obj)} {σ : L2.St} {H : Hp} {s s' : Shared} (I : Inv G pins σ H s) (hpn : G.pn = []) (hp : PinsOk G fp pins) (z : Woke pins pins' s s') : Inv G pins' σ H s' ∧ PinsOk G fp pins' := by
  have hm : ∀ b, b ∈ pins.map (·.1) → ∃ p ∈ pins, p.1 = b := fun b hb => by
    obtain ⟨p, h1, h2⟩ := List.mem_map.mp hb
    exact ⟨p, h1, h2⟩
  have h0 : ∀ b ∈ pins.map (·.1), H b = none ∧ b ∉ G.fs := fun b hb => by
    obtain ⟨p, h1, rfl⟩ := hm b hb
    have q := I.pin p (List.mem_append_right _ h1)
    exact ⟨q.2.1, q.2.2.2.1⟩
  have h1 : ∀ b ∈ pins.map (·.1), G.s_0.heap.objs.size ≤ b ∧ b ≠ G.env.locals ∧ b ∉ fp ∧ ∀ x c, G.env.cells.lookup x = some c → c ≠ b := fun b hb => by
    obtain ⟨p, h1, rfl⟩ := hm b hb
    exact ⟨hp.young p h1, hp.ne p h1, hp.nfp p h1, hp.ncell p h1⟩
  have I0 : Inv G [] σ H s := I.pins_of fun p hp => by simp at hp
  have nt : ∀ b u, H b = some u → b ∉ pins.map (·.1) := fun b u q hb => by rw [(h0 b hb).1] at q; cases q
  obtain ⟨hh, g, d, t, o⟩ := s'
  have ho : o = s.os := z.os
  subst ho
  have J : Inv G [] σ H { s with heap := hh, gens := g, drawn := d, toks := t } := by
    refine I0.step (g' := g) (t' := t) (d' := d) (ch := pins.map (·.1)) (fun b hb => ?_)
      (fun b ob _ _ hc q _ => z.keep b ob hc q) (fun b ob _ _ hc q _ => ⟨ob.slots, z.keep b ob hc q⟩) (fun _ _ _ _ n => n) (fun b ob hc q => ⟨ob, z.keep b ob hc q⟩)
      (fun _ _ q => q) (fun _ _ _ q => q) (fun b ps q => ⟨#[], by rw [q]; simp⟩) (fun m hm => ?_) (fun b u q => ?_) z.bare
    · obtain ⟨q1, q2, _, q4⟩ := h1 b hb
      refine ⟨.inr q1, q2, q4, fun p hp => ?_⟩
      rw [hpn] at hp
      simp at hp
    · obtain ⟨ob, es, ep, ho, r⟩ := hm
      exact ⟨ob, es, ep, z.keep _ ob (fun hb => (h1 _ hb).2.1 rfl) ho, r⟩
    · refine (I0.hok b u q).stay (fun c v hc y => z.keep c v ?_ y) (fun _ y => y) fun _ _ y => y
      rcases hc with y | y
      · rw [y]; exact nt b u q
      · exact nt c _ y
  have hsub : ∀ p ∈ pins', p.1 ∈ pins.map (·.1) := fun p hp => by rw [← z.same]; exact List.mem_map.mpr ⟨p, hp, rfl⟩
  refine ⟨J.pins_of fun p hp => ⟨z.at_ p hp, (h0 _ (hsub p hp)).1, (h1 _ (hsub p hp)).2.1, (h0 _ (hsub p hp)).2, z.data p hp⟩,
    ⟨fun p hp => (h1 _ (hsub p hp)).1, fun p hp => (h1 _ (hsub p hp)).2.1, fun p hp => (h1 _ (hsub p hp)).2.2.1, fun p hp => (h1 _ (hsub p hp)).2.2.2⟩⟩

section
variable {X : Cx} {H4 : Hp} {s4 : Shared} {scope : Scope} {N : List Str} {fp : List Addr} {code : Value} {A : Around}
variable {elt tg iter : Expr} {ifs : List Expr} {pos : Pos} {it : Addr} {J : It} {tn : Nat → Heap → Prop} {g : TG} {tt : TT} {te : TE} {vs : List Nat} {σg : L2.St} {post : TPost} {Fin : List V → Hp → Prop}
  {W : Nat → Nat → List V → Hp → Prop} {Pn : List V → List (Addr × Obj) → Prop}
theorem g_loop (hco : scope.isCoroutine = false) (hh : A.handled = none) (T : Turn X.prog X.w X.K tg J fp it tn)
    (pg : PG (gcx X N scope code A s4 H4 fp) tg g) (pt : PTs (gcx X N scope code A s4 H4 fp) ifs tt) (pe : PE (gcx X N scope code A s4 H4 fp) elt te)
    (turn : GTurn J g tt te vs σg post Fin W) :
    ∀ (m n i : Nat) (ys : List V) (H : Hp) (s₀ s : Shared) (pins : List (Addr × Obj)), m < n → W i m ys H → Inv (gcx X N scope code A s4 H4 fp) pins σg H s → PinsOk (gcx X N scope code A s4 H4 fp) fp pins → Pn ys pins → (∀ p ∈ pins, s₀.heap.get? p.1 = some p.2) →
      tn i s.heap → (∀ b ∈ fp, H b = none) →
      Seg (model X.prog X.w) A (fun n s₀ r s₁ => r = .ok .next ∧ GEx (gcx X N scope code A s4 H4 fp) fp Pn Fin s₀ s₁) (GYx (gcx X N scope code A s4 H4 fp) fp Pn post) n s₀
        (.compLoop (.GeneratorExp elt [⟨tg, iter, ifs, 0⟩] scope pos) 0 (.ref it) .none (genv X scope code s4.heap.objs.size))
        ((model X.prog X.w).den (.compLoop (.GeneratorExp elt [⟨tg, iter, ifs, 0⟩] scope pos) 0 (.ref it) .none (genv X scope code s4.heap.objs.size))) [] s := by
  intro m
  induction m using Nat.strongRecOn with
  | ind m ih =>
  intro n i ys H s₀ s pins hmn w I P hPn hs0 st nf
  have stat : ∀ {pins' : List (Addr × Obj)} {σ' : L2.St} {H' : Hp} {s' : Shared}, Inv (gcx X N scope code A s4 H4 fp) pins' σ' H' s' → PinsOk (gcx X N scope code A s4 H4 fp) fp pins' → (∀ b ∈ fp, H' b = none) → ∀ b ∈ fp, FpOk (gcx X N scope code A s4 H4 fp) pins' H' b := fun {pins' σ' H' s'} I' P' hn b hb =>
    ⟨hn b hb, (I'.ok.exf b hb).1, I'.ok.exfs b hb, .inl hb, fun x c e => (I'.ok.exf b hb).2 x c e, fun p hp => by
      have hp : p ∈ ([] : List (Addr × Obj)) ++ pins' := hp
      rw [List.nil_append] at hp
      intro e
      exact P'.nfp p hp (by rw [e]; exact hb)⟩
  show Seg _ A _ _ _ s₀ _ ((compTurn (.GeneratorExp elt [⟨tg, iter, ifs, 0⟩] scope pos) 0 (.ref it) .none (genv X scope code s4.heap.objs.size)).onRaise (leaving (genv X scope code s4.heap.objs.size))) [] s
  rw [compTurn_gen, Sem.onRaise_eq_wrap]
  refine seg_bind_wrap (wpAny_standAt ?_)
  rcases turn i m ys H w with ⟨stop, fin⟩ | ⟨go, step⟩
  · refine seg_bind_wrap ?_
    rw [over_gl]
    refine thnF (T.done (gcx X N scope code A s4 H4 fp) rfl rfl rfl rfl i pins s _ H (fun _ _ => False) I (stat I P nf) st stop) fun r s6 ⟨hr, I6⟩ => ?_
    subst hr
    exact seg_end (.ok .next) ⟨rfl, ys, _, H, pins, I6, P, hPn, hs0, fin⟩
  · refine seg_bind_wrap ?_
    rw [over_gl]
    refine thnF (T.item (gcx X N scope code A s4 H4 fp) rfl rfl rfl rfl i pins s _ H (fun _ _ => False) I (stat I P nf) st go) fun r s6 ⟨u, hr, h6⟩ => ?_
    subst hr
    refine seg_bind_wrap ?_
    rw [over_gl]
    refine thnF h6 fun _ s7 ⟨x, H7, I7, r7, y7, st7, n7⟩ => ?_
    have I7' := I7.pinned (stat I7 P n7) (T.obj _ _ st7)
    refine seg_bind_wrap ?_
    rw [over_gl]
    refine thnF (pg.run _ s7 _ H7 x u _ I7' r7 (step x H7 y7)) fun _ s8 ⟨σ8, H8, I8, hw8, q8⟩ => ?_
    refine seg_bind_wrap ?_
    rw [over_gl]
    refine thnF (pt.run _ s8 σ8 H8 _ I8 q8) fun b s9 ⟨H9, I9, q9⟩ => ?_
    -- the turn's end
    have fin : ∀ {s' : Shared} {H' : Hp}, Inv (gcx X N scope code A s4 H4 fp) (pins ++ pinsAt fp s7.heap) σ8 H' s' → Inv (gcx X N scope code A s4 H4 fp) pins σg H' s' ∧ tn (i + 1) s'.heap ∧ ∀ b ∈ fp, H' b = none := fun {s' H'} I' => by
      have pin' : ∀ b ∈ fp, ∀ o, s7.heap.get? b = some o → s'.heap.get? b = some o ∧ H' b = none := fun b hb o e =>
        let z := I'.pin (b, o) (List.mem_append_right _ (List.mem_append_right _ (mem_pinsAt hb e)))
        ⟨z.1, z.2.1⟩
      have hl : σg.length = σ8.length := by rw [← hw8, wipe_length]
      refine ⟨(I'.unpinned (pins := pins)).weak hl (fun j v e => ?_), T.keep _ _ _ st7 fun b hb o e => (pin' b hb o e).1, fun b hb => ?_⟩
      · rw [← hw8] at e
        exact (wipe_some e).1
      · obtain ⟨o, e, _⟩ := T.obj _ _ st7 b hb
        exact (pin' b hb o e).2
    cases b with
    | false =>
      simp only [Bool.false_eq_true, if_false] at q9 ⊢
      obtain ⟨m', hm, w'⟩ := q9
      obtain ⟨J1, J2, J3⟩ := fin I9
      exact seg_again rfl (ih m' hm n (i + 1) ys H9 s₀ s9 pins (by omega) w' J1 P hPn hs0 J2 J3)
    | true =>
      simp only [if_true] at q9 ⊢
      obtain ⟨n', rfl⟩ : ∃ n', n = n' + 1 := ⟨n - 1, by omega⟩
      have hy : ∀ v, yieldOut (genv X scope code s4.heap.objs.size) v = yieldValue v := fun v => by
        have hco' : (genv X scope code s4.heap.objs.size).scope.isCoroutine = false := hco
        simp only [yieldOut, hco', Bool.false_eq_true, if_false]
      simp only [hy]
      rw [Sem.bind_eq_wrap', Sem.bind_eq_wrap', Sem.wrap_wrap, Sem.wrap_wrap]
      refine seg_wrap ?_
      rw [over_gl]
      refine thnF (pe.run _ s9 σ8 H9 _ I9 q9) fun v s10 ⟨yv, H10, I10, r10, q10⟩ => ?_
      obtain ⟨J1, J2, J3⟩ := fin I10
      refine seg_at (seg_yield rfl rfl rfl ⟨yv, ys, _, H10, pins, _, r10, J1, P, hPn, hs0, q10, fun hC s' pins' hw hP' => ?_⟩)
      obtain ⟨m', hm, w'⟩ := hC
      obtain ⟨K1, K2⟩ := Gx.Inv.woke J1 rfl P hw
      refine seg_again rfl (ih m' hm n' (i + 1) (ys ++ [yv]) H10 s' s' pins' (by omega) w' K1 K2 hP' hw.at_ (T.keep _ _ _ J2 fun b hb o e => hw.keep b o (fun hm => ?_) e) J3)
      obtain ⟨p, hp, e⟩ := List.mem_map.mp hm
      exact P.nfp p hp (by rw [e]; exact hb)

theorem g_begin (hco : scope.isCoroutine = false) (hh : A.handled = none) (T : Turn X.prog X.w X.K tg J fp it tn)
    (pg : PG (gcx X N scope code A s4 H4 fp) tg g) (pt : PTs (gcx X N scope code A s4 H4 fp) ifs tt) (pe : PE (gcx X N scope code A s4 H4 fp) elt te)
    (turn : GTurn J g tt te vs σg post Fin W) {m n : Nat} {ys : List V} {H : Hp} {s₀ s : Shared} {pins : List (Addr × Obj)} (hmn : m < n) (w : W 0 m ys H) (I : Inv (gcx X N scope code A s4 H4 fp) pins σg H s) (P : PinsOk (gcx X N scope code A s4 H4 fp) fp pins) (hPn : Pn ys pins)
    (hs0 : ∀ p ∈ pins, s₀.heap.get? p.1 = some p.2) (st : tn 0 s.heap) (nf : ∀ b ∈ fp, H b = none) :
      Seg (model X.prog X.w) A (fun n s₀ r s₁ => r = .ok .next ∧ GEx (gcx X N scope code A s4 H4 fp) fp Pn Fin s₀ s₁) (GYx (gcx X N scope code A s4 H4 fp) fp Pn post) n s₀
        (.compStart (.GeneratorExp elt [⟨tg, iter, ifs, 0⟩] scope pos) 0 (.ref it) .none (genv X scope code s4.heap.objs.size))
        ((model X.prog X.w).den (.compStart (.GeneratorExp elt [⟨tg, iter, ifs, 0⟩] scope pos) 0 (.ref it) .none (genv X scope code s4.heap.objs.size))) [] s := by
  have loop := g_loop (elt := elt) (iter := iter) (ifs := ifs) (pos := pos) hco hh T pg pt pe turn m n 0 ys H s₀ s pins hmn w I P hPn hs0 st nf
  show Seg _ A _ _ _ s₀ _ ((compStart (.GeneratorExp elt [⟨tg, iter, ifs, 0⟩] scope pos) 0 (.ref it) .none (genv X scope code s4.heap.objs.size)).onRaise (leaving (genv X scope code s4.heap.objs.size))) [] s
  unfold compStart
  rw [Sem.onRaise_eq_wrap]
  show Seg _ A _ _ _ s₀ _ ((ask >>= _).wrap _ _ _ _) [] s
  refine seg_bind_wrap (wpAny_askSetting ?_)
  split
  · exact seg_again rfl loop
  · first
      | exact seg_bind_wrap (wpAny_rule (seg_bind_wrap (wpAny_standAt (seg_bind_wrap (T.self _ 0 s _ _ st (seg_again rfl loop))))))
      | (refine seg_bind_wrap (wpAny_rule ?_); show Seg _ A _ _ _ s₀ _ ((standAt iter.pos >>= _).wrap _ _ _ _) [] s; exact seg_bind_wrap (wpAny_standAt (seg_bind_wrap (T.self _ 0 s _ _ st (seg_again rfl loop)))))

/-! ### one step of a consumer -/
/-- back with the def: what its frame asks -/
structure Back (X : Cx) (H4 : Hp) (s4 : Shared) (fp : List Addr) (H : Hp) (s' : Shared) : Prop where
  os : s'.os = s4.os
  un : Un (frs X.stack) fp H4 H s4.heap s'.heap
  hok : HOk X.prog X.w H s'.heap
  bare : AllBare s'.gens
theorem Back.of {N : List Str} {scope : Scope} {code : Value} {A : Around} {pins : List (Addr × Obj)} {σ : L2.St} {H : Hp} {s1 : Shared} (I : Inv (gcx X N scope code A s4 H4 fp) pins σ H s1) : Back X H4 s4 fp H s1 := ⟨I.os, I.base, I.hok, I.bare⟩
theorem Back.setGen {H : Hp} {s1 : Shared} (b : Back X H4 s4 fp H s1) {g : Nat} {x : GenState} (hx : x.bare = true) : Back X H4 s4 fp H (s1.setGen g x) := ⟨b.os, b.un, b.hok, allBare_setGen b.bare hx⟩
theorem Back.kept {H : Hp} {s1 : Shared} (b : Back X H4 s4 fp H s1) {h' : Heap} {tk : Nat} (k : ∀ b o, s1.heap.get? b = some o → h'.get? b = some o) : Back X H4 s4 fp H { s1 with heap := h', toks := tk } :=
  ⟨b.os, b.un.trans (Un.kept k), b.hok.kept k, b.bare⟩
theorem Back.inv {pins : List (Addr × Obj)} {σ : L2.St} {H : Hp} {s' : Shared} (b : Back X H4 s4 fp H s') (I : Inv X pins σ H4 s4) (hfp : ∀ b ∈ fp, FpOk X pins H4 b) : Inv X pins σ H s' :=
  I.call' (ch := fp) b.os b.un b.hok b.bare fun b hb => ⟨(hfp b hb).2.2.2.1, (hfp b hb).2.1, (hfp b hb).2.2.2.2.1, (hfp b hb).2.2.2.2.2⟩

abbrev GR (G : Cx) (fp : List Addr) (Pn : List V → List (Addr × Obj) → Prop) (Fin : List V → Hp → Prop) : GenEnd := fun n s₀ r s₁ => r = .ok .next ∧ GEx G fp Pn Fin s₀ s₁
/-- the generator at a, number gi, ready to be asked within A -/
structure Rdy (M : Model) (A : Around) (R : GenEnd) (Y : Protocol) (a : Addr) (go : Obj) (gi n : Nat) (s : Shared) : Prop where
  obj : s.heap.get? a = some go
  lim : s.heap.NoLimit
  go : ∃ gs, s.gens[gi]? = some gs ∧ gs.Goes M A R Y n (.send .none) (s.setGen gi .running)
theorem g_next {B : Around} {G : Cx} {a : Addr} {go : Obj} {gi n : Nat} {s : Shared} {Q : Option Value → Shared → Prop} {E : Value → Shared → Prop} (hh : B.handled = none) (hd : B.depth < recursionLimit)
    (hgen : ∀ h : Heap, h.get? a = some go → h.IsGen a gi)
    (hr : Rdy (model X.prog X.w) B.in1 (GR G fp Pn Fin) (GYx G fp Pn post) a go gi n s)
    (hY : ∀ x v ys σ H pins C s1 gs', gs'.bare = true → RelV x v → Inv G pins σ H s1 → PinsOk G fp pins → Pn ys pins → (∀ p ∈ pins, s.heap.get? p.1 = some p.2) → post x ys H C → gi < s1.gens.size →
      (C → ∀ s' pins', Woke pins pins' s1 s' → Pn (ys ++ [x]) pins' → ∃ n', n = n' + 1 ∧ gs'.Goes (model X.prog X.w) B.in1 (GR G fp Pn Fin) (GYx G fp Pn post) n' (.send .none) s') → Q (some v) (s1.setGen gi gs'))
    (hP : ∀ s1 ys σ H pins h', Inv G pins σ H s1 → PinsOk G fp pins → Pn ys pins → (∀ p ∈ pins, s.heap.get? p.1 = some p.2) → Fin ys H → (∀ b o, s1.heap.get? b = some o → h'.get? b = some o) → Q none { s1.setGen gi .finished with heap := h' }) :
    wpAny (model X.prog X.w) B (pyNext (.ref a)) Q E s := by
  obtain ⟨gs, hgs, hgo⟩ := hr.go
  have hgl : gi < s.gens.size := (Array.getElem?_eq_some_iff.mp hgs).1
  refine wpAny_gsz (n := gi + 1) hgl (wpAny_pyNext_genexpQ (P := fun _ s₀ s₁ => GEx G fp Pn Fin s₀ s₁) hh hr.lim hd (hgen _ hr.obj) hgs hgo (fun v s₁ gs' hb hv => ?_) fun s₁ hp h' hk => ?_)
  · intro hsz
    obtain ⟨x, ys, σ, H, pins, C, r, I, P, hPn, hs0, hpost, hkap⟩ := hv
    have hsz1 : gi < s₁.gens.size := by
      have q : (s₁.setGen gi gs').gens.size = s₁.gens.size := setGen_size _ _ _
      have hsz' : gi + 1 ≤ (s₁.setGen gi gs').gens.size := hsz
      omega
    refine hY x v ys σ H pins C s₁ gs' hb r I P hPn hs0 hpost hsz1 fun hC s' pins' hw hP' => ?_
    have q := hkap hC s' pins' hw hP'
    cases n with
    | zero => exact q.elim
    | succ n' => exact ⟨n', rfl, q⟩
  · intro _
    obtain ⟨ys, σ, H, pins, I, P, hPn, hs0, hfin⟩ := hp
    exact hP s₁ ys σ H pins h' I P hPn hs0 hfin hk
end
end Gx

set_option Elab.async false
set_option linter.all false
set_option maxRecDepth 100000
set_option maxHeartbeats 4000000
/-! Gy: the consumers all, any, sum, tuple. -/
namespace Gx
open PySem PySem.Spec PyProof.Rows L2 GenW

section
variable {X : Cx} {H4 : Hp} {s4 : Shared} {scope : Scope} {N : List Str} {fp : List Addr} {code : Value} {AG A : Around} {a S : Addr} {go : Obj} {gi : Nat} {Fin : List V → Hp → Prop} {Qf : Hp → Prop} {R' : Result → Shared → Prop}

def pAll (Qf : Hp → Prop) : TPost := fun v _ H C => ∃ b, v = .bl b ∧ if b = true then C else Qf H
def pAny (Qt : Hp → Prop) : TPost := fun v _ H C => ∃ b, v = .bl b ∧ if b = true then Qt H else C
def nAll (a : Addr) (go : Obj) : List V → List (Addr × Obj) → Prop := fun _ pins => pins = [(a, go)]

theorem woke_same {G : Cx} {fp : List Addr} {pins : List (Addr × Obj)} {σ : L2.St} {H : Hp} {s1 : Shared} {gs' : GenState} (I : Inv G pins σ H s1) (hb : gs'.bare = true) : Woke pins pins s1 ((s1.setGen gi gs').setGen gi .running) where
  os := rfl
  bare := allBare_setGen (s := s1.setGen gi gs') (allBare_setGen I.bare hb) rfl
  keep := fun _ _ _ e => e
  same := rfl
  at_ := fun p hp => (I.pin p (List.mem_append_right _ hp)).1
  data := fun p hp => (I.pin p (List.mem_append_right _ hp)).2.2.2.2

theorem drain_all (hh : A.handled = none) (hd : A.depth < recursionLimit) (hgen : ∀ h : Heap, h.get? a = some go → h.IsGen a gi)
    (hT : ∀ s' ys H, Back X H4 s4 fp H s' → Fin ys H → R' (.ok (.ret (.bool true))) s') (hF : ∀ s' H, Back X H4 s4 fp H s' → Qf H → R' (.ok (.ret (.bool false))) s') :
    ∀ (n : Nat) (s : Shared), Rdy (model X.prog X.w) A.in1.in1 (GR (gcx X N scope code AG s4 H4 fp) fp (nAll a go) Fin) (GYx (gcx X N scope code AG s4 H4 fp) fp (nAll a go) (pAll Qf)) a go gi n s →
      codeAny (model X.prog X.w) A (.builtin "all.loop" ⟨[.ref a], []⟩) R' s := by
  intro n
  induction n using Nat.strongRecOn with
  | ind n ih =>
  intro s hr
  refine codeAny_builtin F.entry_all_loop ?_
  rw [Around.under_plainId F.plain_all_loop _]
  show wpAny _ A.in1 (pyNext (.ref a) >>= _) _ _ s
  refine wpAny_bind (g_next (B := A.in1) hh hd hgen hr (fun x v ys σ H pins C s1 gs' hb rv I P hPn hs0 hpost hsz hk => ?_) fun s1 ys σ H pins h' I P hPn hs0 hfin hkh => ?_)
  · obtain ⟨b, rfl, hpost⟩ := hpost
    cases rv
    refine wpAny_bind (wpAny_holding (wpAny_truthy_bool ?_))
    refine wpAny_bind (wpAny_letGo ?_)
    have hPn' : pins = [(a, go)] := hPn
    subst hPn'
    cases b with
    | true =>
      simp only [if_true] at hpost ⊢
      obtain ⟨n', rfl, hgo⟩ := hk hpost _ _ (woke_same (fp := fp) (gi := gi) I hb) rfl
      refine wpAny_pure ⟨plainId_quiet F.plain_all_loop _, ih n' (Nat.lt_succ_self _) _ ⟨?_, I.nolimit, gs', setGen_at hsz, hgo⟩⟩
      exact (I.pin (a, go) (List.mem_append_right _ List.mem_cons_self)).1
    | false =>
      simp only [Bool.false_eq_true, if_false] at hpost ⊢
      exact wpAny_bind (wpAny_rule (wpAny_pure (hF _ H ((Back.of I).setGen hb) hpost)))
  · exact wpAny_bind (wpAny_rule (wpAny_pure (hT _ ys H (Back.kept (tk := s1.toks) ((Back.of I).setGen (g := gi) (x := .finished) rfl) hkh) hfin)))
theorem drain_any {Qt : Hp → Prop} (hh : A.handled = none) (hd : A.depth < recursionLimit) (hgen : ∀ h : Heap, h.get? a = some go → h.IsGen a gi)
    (hF : ∀ s' ys H, Back X H4 s4 fp H s' → Fin ys H → R' (.ok (.ret (.bool false))) s') (hT : ∀ s' H, Back X H4 s4 fp H s' → Qt H → R' (.ok (.ret (.bool true))) s') :
    ∀ (n : Nat) (s : Shared), Rdy (model X.prog X.w) A.in1.in1 (GR (gcx X N scope code AG s4 H4 fp) fp (nAll a go) Fin) (GYx (gcx X N scope code AG s4 H4 fp) fp (nAll a go) (pAny Qt)) a go gi n s →
      codeAny (model X.prog X.w) A (.builtin "any.loop" ⟨[.ref a], []⟩) R' s := by
  intro n
  induction n using Nat.strongRecOn with
  | ind n ih =>
  intro s hr
  refine codeAny_builtin F.entry_any_loop ?_
  rw [Around.under_plainId F.plain_any_loop _]
  show wpAny _ A.in1 (pyNext (.ref a) >>= _) _ _ s
  refine wpAny_bind (g_next (B := A.in1) hh hd hgen hr (fun x v ys σ H pins C s1 gs' hb rv I P hPn hs0 hpost hsz hk => ?_) fun s1 ys σ H pins h' I P hPn hs0 hfin hkh => ?_)
  · obtain ⟨b, rfl, hpost⟩ := hpost
    cases rv
    refine wpAny_bind (wpAny_holding (wpAny_truthy_bool ?_))
    refine wpAny_bind (wpAny_letGo ?_)
    have hPn' : pins = [(a, go)] := hPn
    subst hPn'
    cases b with
    | false =>
      simp only [Bool.false_eq_true, if_false] at hpost ⊢
      obtain ⟨n', rfl, hgo⟩ := hk hpost _ _ (woke_same (fp := fp) (gi := gi) I hb) rfl
      refine wpAny_pure ⟨plainId_quiet F.plain_any_loop _, ih n' (Nat.lt_succ_self _) _ ⟨?_, I.nolimit, gs', setGen_at hsz, hgo⟩⟩
      exact (I.pin (a, go) (List.mem_append_right _ List.mem_cons_self)).1
    | true =>
      simp only [if_true] at hpost ⊢
      exact wpAny_bind (wpAny_rule (wpAny_pure (hT _ H ((Back.of I).setGen hb) hpost)))
  · exact wpAny_bind (wpAny_rule (wpAny_pure (hF _ ys H (Back.kept (tk := s1.toks) ((Back.of I).setGen (g := gi) (x := .finished) rfl) hkh) hfin)))

/-! ### tuple -/
def pTup : TPost := fun _ ys _ C => ys.length < sizeLine ∧ C
def nTup (a : Addr) (go : Obj) (S : Addr) : List V → List (Addr × Obj) → Prop := fun ys pins => ∃ acc c, Vals ys acc.toList ∧ ys.length ≤ sizeLine ∧ pins = [(a, go), (S, lstObj acc c)]
theorem drain_tup {res : Value} (hh : A.handled = none) (hd : A.depth < recursionLimit) (hgen : ∀ h : Heap, h.get? a = some go → h.IsGen a gi) (hSa : S ≠ a) (hSc : S ≠ cStatics)
    (hEnd : ∀ s' ys H acc c, Back X H4 s4 fp H s' → Fin ys H → Vals ys acc.toList → ys.length ≤ sizeLine → s'.heap.get? S = some (lstObj acc c) → R' (.ok (.ret res)) s') :
    ∀ (n : Nat) (s : Shared), Rdy (model X.prog X.w) A.in1.in1 (GR (gcx X N scope code AG s4 H4 fp) fp (nTup a go S) Fin) (GYx (gcx X N scope code AG s4 H4 fp) fp (nTup a go S) pTup) a go gi n s →
      codeAny (model X.prog X.w) A (.builtin "list.extend.loop" ⟨[.ref S, .ref a, res], []⟩) R' s := by
  intro n
  induction n using Nat.strongRecOn with
  | ind n ih =>
  intro s hr
  refine codeAny_builtin F.entry_extend_loop ?_
  rw [Around.under_plainId F.plain_extend_loop _]
  show wpAny _ A.in1 (pyNext (.ref a) >>= _) _ _ s
  refine wpAny_bind (g_next (B := A.in1) hh hd hgen hr (fun x v ys σ H pins C s1 gs' hb rv I P hPn hs0 hpost hsz hk => ?_) fun s1 ys σ H pins h' I P hPn hs0 hfin hkh => ?_)
  · obtain ⟨hlt, hC⟩ := hpost
    obtain ⟨acc, c, hv, hle, rfl⟩ := hPn
    have pa := I.pin (a, go) (List.mem_append_right _ List.mem_cons_self)
    have pS := I.pin (S, lstObj acc c) (List.mem_append_right _ (List.mem_cons_of_mem _ List.mem_cons_self))
    have hS1 : s1.heap.get? S = some (lstObj acc c) := pS.1
    have hasz : acc.size = ys.length := by
      have e1 := hv.length
      have e2 : acc.toList.length = acc.size := by simp
      omega
    show wpAny _ A.in1 (updateSeq S (·.push v) >>= _) _ _ _
    refine wpAny_bind ?_
    refine wpAny_updateSeq (s := s1.setGen gi gs') hS1 rfl (wpAny_pure ⟨plainId_quiet F.plain_extend_loop _, ?_⟩) (by omega) (by show (acc.push v).size ≤ sizeLine + 1; rw [Array.size_push]; omega)
    have keep3 : ∀ b o, b ≠ S → s1.heap.get? b = some o → (s1.heap.update S (Obj.mapSeq (·.push v))).get? b = some o := fun b o hbS e => (Heap.get?_update_other _ _ (Ne.symm hbS)).trans e
    have at3 : (s1.heap.update S (Obj.mapSeq (·.push v))).get? S = some (lstObj (acc.push v) (c + 1)) ∨ ∃ c', (s1.heap.update S (Obj.mapSeq (·.push v))).get? S = some (lstObj (acc.push v) c') := .inr ⟨_, Heap.get?_update_self _ hS1 rfl⟩
    obtain ⟨c', at4⟩ : ∃ c', (s1.heap.update S (Obj.mapSeq (·.push v))).get? S = some (lstObj (acc.push v) c') := by
      rcases at3 with z | z
      · exact ⟨_, z⟩
      · exact z
    have hk2 := hk hC ({ (s1.setGen gi gs').setGen gi .running with heap := s1.heap.update S (Obj.mapSeq (·.push v)) }) [(a, go), (S, lstObj (acc.push v) c')]
      { os := rfl
        bare := allBare_setGen (s := s1.setGen gi gs') (allBare_setGen I.bare hb) rfl
        keep := fun b o hb e => keep3 b o (fun z => hb (by rw [z]; simp)) e
        same := rfl
        at_ := fun p hp => by
          rcases List.mem_cons.mp hp with z | z
          · rw [z]
            exact keep3 a go (Ne.symm hSa) pa.1
          · rw [List.mem_singleton.mp z]
            exact at4
        data := fun p hp => by
          rcases List.mem_cons.mp hp with z | z
          · rw [z]
            exact pa.2.2.2.2
          · rw [List.mem_singleton.mp z]
            intro v q
            cases q }
      ⟨acc.push v, c', by rw [Array.toList_push]; exact hv.append (.cons rv .nil), by rw [List.length_append]; exact hlt, rfl⟩
    obtain ⟨n', rfl, hgo⟩ := hk2
    refine ih n' (Nat.lt_succ_self _) { s1.setGen gi gs' with heap := s1.heap.update S (Obj.mapSeq (·.push v)) } ⟨keep3 a go (Ne.symm hSa) pa.1, ?_, gs', setGen_at hsz, hgo⟩
    obtain ⟨mc, hns, hnn⟩ := I.nolimit
    exact ⟨mc, hns.at' fun o e => keep3 _ o (Ne.symm hSc) e, hnn⟩
  · obtain ⟨acc, c, hv, hle, rfl⟩ := hPn
    have hS1 : s1.heap.get? S = some (lstObj acc c) := (I.pin (S, lstObj acc c) (List.mem_append_right _ (List.mem_cons_of_mem _ List.mem_cons_self))).1
    exact wpAny_pure (hEnd _ ys H acc c (Back.kept (tk := s1.toks) ((Back.of I).setGen (g := gi) (x := .finished) rfl) hkh) hfin hv hle (hkh _ _ hS1))

/-! ### sum -/
def pSum : TPost := fun v _ _ C => (∃ j, v = .int j) ∧ C
abbrev sumObj (z : Int) (t : Tok) (c : Nat) : Obj := { cls := .type "list", dict := none, data := .seq #[.int z t] c, slots := #[] }
def nSum (a : Addr) (go : Obj) (S : Addr) : List V → List (Addr × Obj) → Prop := fun ys pins => ∃ (ns : List Int) (t : Tok) (c : Nat), ys = ns.map V.int ∧ pins = [(a, go), (S, sumObj ns.sum t c)]
theorem drain_sum (hh : A.handled = none) (hd : A.depth < recursionLimit) (hgen : ∀ h : Heap, h.get? a = some go → h.IsGen a gi) (hSa : S ≠ a) (hSc : S ≠ cStatics)
    (hEnd : ∀ s' (ns : List Int) H t, Back X H4 s4 fp H s' → Fin (ns.map V.int) H → R' (.ok (.ret (.int ns.sum t))) s') :
    ∀ (n : Nat) (s : Shared) (st z : Int) (tA : Tok) (c : Nat), (st = 0 ∨ st = 2) → s.heap.get? S = some (sumObj z tA c) →
      Rdy (model X.prog X.w) A.in1.in1 (GR (gcx X N scope code AG s4 H4 fp) fp (nSum a go S) Fin) (GYx (gcx X N scope code AG s4 H4 fp) fp (nSum a go S) pSum) a go gi n s →
      codeAny (model X.prog X.w) A (.builtin "sum.loop" ⟨[.ref a, .ref S, rawInt st, rawInt 0], []⟩) R' s := by
  intro n
  induction n using Nat.strongRecOn with
  | ind n ih =>
  intro s st z tA c hst hS hr
  refine codeAny_builtin F.entry_sum_loop ?_
  rw [Around.under_plainId F.plain_sum_loop _]
  show wpAny _ A.in1 (seqItems? (.ref S) >>= _) _ _ s
  refine wpAny_bind (wpAny_seqItems hS rfl ?_)
  show wpAny _ A.in1 (tryCatch (pyNext (.ref a)) _ >>= _) _ _ s
  refine wpAny_bind (wpAny_tryCatch (g_next (B := A.in1) hh hd hgen hr (fun x v ys σ H pins C s1 gs' hb rv I P hPn hs0 hpost hsz hk => ?_) fun s1 ys σ H pins h' I P hPn hs0 hfin hkh => ?_))
  · obtain ⟨⟨j, rfl⟩, hC⟩ := hpost
    obtain ⟨t, rfl⟩ := rv
    obtain ⟨ns, tB, cB, rfl, rfl⟩ := hPn
    have pa := I.pin (a, go) (List.mem_append_right _ List.mem_cons_self)
    have pS := I.pin (S, sumObj ns.sum tB cB) (List.mem_append_right _ (List.mem_cons_of_mem _ List.mem_cons_self))
    have e0 := hs0 (S, sumObj ns.sum tB cB) (List.mem_cons_of_mem _ List.mem_cons_self)
    have e1 : s.heap.get? S = some (sumObj ns.sum tB cB) := e0
    rw [hS] at e1
    have ez : z = ns.sum ∧ tA = tB := by
      have e2 := congrArg Obj.data (Option.some.inj e1)
      have e3 : Data.seq #[Value.int z tA] c = Data.seq #[Value.int ns.sum tB] cB := e2
      injection e3 with e4 _
      have e5 := congrArg Array.toList e4
      simp at e5
      exact e5
    obtain ⟨rfl, rfl⟩ := ez
    have hS1 : s1.heap.get? S = some (sumObj ns.sum tA cB) := pS.1
    -- what follows the write
    have next : ∀ (h2 : Heap) (tk c' : Nat) (t' : Tok) (st' : Int), (st' = 0 ∨ st' = 2) → (∀ b o, b ≠ S → s1.heap.get? b = some o → h2.get? b = some o) → h2.get? S = some (sumObj (ns.sum + j) t' c') →
        codeAny (model X.prog X.w) A (.builtin "sum.loop" ⟨[.ref a, .ref S, rawInt st', rawInt 0], []⟩) R' { s1.setGen gi gs' with heap := h2, toks := tk } := fun h2 tk c' t' st' hst' keep3 at3 => by
      have es : (ns ++ [j]).sum = ns.sum + j := by simp
      have hk2 := hk hC ({ (s1.setGen gi gs').setGen gi .running with heap := h2, toks := tk }) [(a, go), (S, sumObj (ns ++ [j]).sum t' c')]
        { os := rfl
          bare := allBare_setGen (s := s1.setGen gi gs') (allBare_setGen I.bare hb) rfl
          keep := fun b o hb e => keep3 b o (fun z => hb (by rw [z]; simp)) e
          same := rfl
          at_ := fun p hp => by
            rcases List.mem_cons.mp hp with z | z
            · rw [z]
              exact keep3 a go (Ne.symm hSa) pa.1
            · rw [List.mem_singleton.mp z, es]
              exact at3
          data := fun p hp => by
            rcases List.mem_cons.mp hp with z | z
            · rw [z]
              exact pa.2.2.2.2
            · rw [List.mem_singleton.mp z]
              intro v q
              cases q }
        ⟨ns ++ [j], t', c', by simp, rfl⟩
      obtain ⟨n', rfl, hgo⟩ := hk2
      refine ih n' (Nat.lt_succ_self _) _ st' _ t' c' hst' at3 ⟨keep3 a go (Ne.symm hSa) pa.1, ?_, gs', setGen_at hsz, hgo⟩
      obtain ⟨mc, hns, hnn⟩ := I.nolimit
      exact ⟨mc, hns.at' fun o e => keep3 _ o (Ne.symm hSc) e, hnn⟩
    have up : ∀ (h : Heap) (f : Obj → Obj) b o, b ≠ S → h.get? b = some o → (h.update S f).get? b = some o := fun h f b o hbS e => (Heap.get?_update_other _ _ (Ne.symm hbS)).trans e
    rcases hst with rfl | rfl
    · show wpAny _ A.in1 (if (_ : Bool) = true then (mkInt (ns.sum + j) >>= _) else _) _ _ _
      split
      · refine wpAny_bind (wpAny_mkInt ?_)
        show wpAny _ A.in1 (updateSeq S (fun _ => #[.int (ns.sum + j) (s1.setGen gi gs').toks]) >>= _) _ _ _
        refine wpAny_bind ?_
        refine wpAny_updateSeq (s := { s1.setGen gi gs' with toks := (s1.setGen gi gs').toks + 1 }) hS1 rfl (wpAny_pure ⟨plainId_quiet F.plain_sum_loop _, ?_⟩)
        exact next _ _ _ _ 0 (.inl rfl) (up _ _) (Heap.get?_update_self _ hS1 rfl)
      · refine wpAny_bind (wpAny_rule ?_)
        refine wpAny_bind (wpAny_attempt (wpAny_holding (wpAny_add_int ?_)))
        show wpAny _ A.in1 (updateSeq S (fun _ => #[.int (ns.sum + j) (s1.setGen gi gs').toks]) >>= _) _ _ _
        refine wpAny_bind (wpAny_updateSeq (s := { s1.setGen gi gs' with toks := (s1.setGen gi gs').toks + 1 }) hS1 rfl ?_)
        have hS2 := Heap.get?_update_self (Obj.mapSeq fun _ => #[Value.int (ns.sum + j) (s1.setGen gi gs').toks]) hS1 rfl
        refine wpAny_bind (wpAny_letGo ?_)
        refine wpAny_bind (wpAny_updateSeq hS2 rfl (wpAny_pure ⟨plainId_quiet F.plain_sum_loop _, ?_⟩))
        exact next _ _ _ _ 2 (.inr rfl) (fun b o hb e => up _ _ b o hb (up _ _ b o hb e)) (Heap.get?_update_self _ hS2 rfl)
    · show wpAny _ A.in1 ((holding [Value.int j t] (binaryOp .Add (.int ns.sum tA) (.int j t))).attempt >>= _) _ _ _
      refine wpAny_bind (wpAny_attempt (wpAny_holding (wpAny_add_int ?_)))
      show wpAny _ A.in1 (updateSeq S (fun _ => #[.int (ns.sum + j) (s1.setGen gi gs').toks]) >>= _) _ _ _
      refine wpAny_bind (wpAny_updateSeq (s := { s1.setGen gi gs' with toks := (s1.setGen gi gs').toks + 1 }) hS1 rfl ?_)
      have hS2 := Heap.get?_update_self (Obj.mapSeq fun _ => #[Value.int (ns.sum + j) (s1.setGen gi gs').toks]) hS1 rfl
      refine wpAny_bind (wpAny_letGo ?_)
      refine wpAny_bind (wpAny_updateSeq hS2 rfl (wpAny_pure ⟨plainId_quiet F.plain_sum_loop _, ?_⟩))
      exact next _ _ _ _ 2 (.inr rfl) (fun b o hb e => up _ _ b o hb (up _ _ b o hb e)) (Heap.get?_update_self _ hS2 rfl)
  · obtain ⟨ns, tB, cB, rfl, rfl⟩ := hPn
    have e1 : s.heap.get? S = some (sumObj ns.sum tB cB) := hs0 (S, sumObj ns.sum tB cB) (List.mem_cons_of_mem _ List.mem_cons_self)
    rw [hS] at e1
    have ez : z = ns.sum ∧ tA = tB := by
      have e2 := congrArg Obj.data (Option.some.inj e1)
      have e3 : Data.seq #[Value.int z tA] c = Data.seq #[Value.int ns.sum tB] cB := e2
      injection e3 with e4 _
      have e5 := congrArg Array.toList e4
      simp at e5
      exact e5
    obtain ⟨rfl, rfl⟩ := ez
    exact wpAny_pure (hEnd _ ns H tA (Back.kept (tk := s1.toks) ((Back.of I).setGen (g := gi) (x := .finished) rfl) hkh) hfin)
end
end Gx

set_option Elab.async false
set_option linter.all false
set_option maxRecDepth 100000
set_option maxHeartbeats 4000000
/-! Gz: a generator expression is made; the rules. -/
namespace Gx
open PySem PySem.Spec PyProof.Rows L2 GenW
abbrev TabG := GxR.TabG
abbrev Tabbed := GxR.Tabbed
abbrev TabB := LamX.TabB
section
variable {X : Cx} {pins : List (Addr × Obj)} {σ : L2.St} {H : Hp} {s : Shared} {scope : Scope} {N : List Str} {src : List (Option Nat)} {c P : Addr}
variable {elt tg iter : Expr} {ifs : List Expr} {gpos : Pos} {wi : TI} {R : It → Hp → Prop}
/-- the generator at a, just made in the state s4, number gi; s5: now -/
structure Made (X : Cx) (scope : Scope) (elt tg iter : Expr) (ifs : List Expr) (gpos : Pos) (s4 : Shared) (code : Value) (it a : Addr) (go : Obj) (gi : Nat) (s5 : Shared) : Prop where
  os : s5.os = s4.os
  bare : AllBare s5.gens
  keep : ∀ b o, s4.heap.get? b = some o → s5.heap.get? b = some o
  ns : s5.heap.Ns s4.heap.objs.size (fun y => if y = ".0" then some (.ref it) else none)
  obj : s5.heap.get? a = some go
  gen : ∀ h : Heap, h.get? a = some go → h.IsGen a gi
  dat : ∀ v, go.data ≠ .cell v
  lt : s4.heap.objs.size < a
  top : a < s5.heap.objs.size
  fresh : s5.gens[gi]? = some (.fresh (.compStart (.GeneratorExp elt [⟨tg, iter, ifs, 0⟩] scope gpos) 0 (.ref it) .none (genv X scope code s4.heap.objs.size)))

theorem gen_make {k : Nat} {Q' : Value → Shared → Prop} (hr : Room k X.A) (TB : TabB X.base X.mg c P) (hcode : X.env.code = .ref c) (ok : GOk X.N X.env.scope scope N src) (hi : PI X tg iter wi)
    (hs : ∀ v, genFold iter X.env v = pure v) (I : Inv X pins σ H s) (h : wi σ H fun J H1 => TabG H1 P ∧ R J H1)
    (hQ : ∀ it fp tn J H1 H2 s4 code a go gi s5, R J H1 → Tabbed P H1 H2 → Inv X pins σ H2 s4 → Turn X.prog X.w X.K tg J fp it tn → tn 0 s5.heap → (∀ b ∈ fp, FpOk X pins H2 b ∧ b < s4.heap.objs.size) →
      Made X scope elt tg iter ifs gpos s4 code it a go gi s5 → Q' (.ref a) s5) :
    wpAny (model X.prog X.w) X.A (eval (.GeneratorExp elt [⟨tg, iter, ifs, 0⟩] scope gpos) X.env) Q' X.xe s := by
  have hfree : ∀ y ∈ scope.names, y.2 = .free → ∃ c, X.env.cells.lookup y.1 = some c := fun y hy e => by
    rcases ok.free y hy e with k | k
    · exact I.ok.has _ (.inl k)
    · exact I.ok.has _ (.inr k)
  refine wpAny_GeneratorExp_make ok.co (closure_ok hfree) ok.cell ok.dot ok.kind (by have := hr.dp; omega) ?_ hs
  refine thn (hi.run pins s σ H _ I h) fun xv s1 hx => thn hx fun itv s2 h2 => ?_
  obtain ⟨it, fp, tn, J, H1, rfl, I1, T, st2, f2, ⟨ps, hP, ht⟩, q⟩ := h2
  refine ⟨I1.nolimit, ?_⟩
  have hPs : s2.heap.get? P = some { cls := .none, data := .fields ps } := I1.hok P _ hP
  have cd : PySem.W.CodeHd s2.heap c P := TB.code.keeps fun b u e => I1.bk b u e
  have fpP : ∀ b ∈ fp, b ≠ P := fun b hb z => by
    have q := (f2 b hb).1
    rw [z, hP] at q
    cases q
  have fpl : ∀ b ∈ fp, b < s2.heap.objs.size := fun b hb => by
    obtain ⟨o, e, _⟩ := T.obj _ _ st2 b hb
    exact Heap.lt_size e
  have cont : ∀ (code : Value) (h3 : Heap) (tk : Nat) (ps' : Array Value), Heap.ExtBut P s2.heap h3 → s2.heap.objs.size ≤ h3.objs.size → h3.get? P = some { cls := .none, data := .fields ps' } → (∃ more, ps' = ps ++ more) → TriplesOk ps'.toList →
      wpAny (model X.prog X.w) X.A (builtinsFor X.env.globals X.env.builtins) (fun bi s₄ =>
        ∀ h', h'.Ns s₄.heap.objs.size (fun y => if y = ".0" then some (.ref it) else none) → Heap.SameBut s₄.heap.objs.size (s₄.heap.push { cls := .type "frame", data := .dict #[] }) h' →
          Q' (.ref h'.objs.size) { s₄ with
            gens := s₄.gens.push (.fresh (.compStart (.GeneratorExp elt [⟨tg, iter, ifs, 0⟩] scope gpos) 0 (.ref it) .none (genEnv scope (cloFrom X.env.cells scope.names []) s₄.heap.objs.size code bi X.env))),
            toks := s₄.toks + 1 + 1 + 1,
            heap := h'.push { cls := .type "generator", data := .fields #[.int s₄.gens.size 0, .str "<genexpr>" (s₄.toks + 1), .str (X.env.qual ++ "<genexpr>") (s₄.toks + 1 + 1)] } }) X.xe { s2 with heap := h3, toks := tk } := by
    intro code h3 tk ps' hx hsz hP3 hmore ht3
    obtain ⟨bm, ob, e1, e2, e3, e4, e5, e6, e7, e8⟩ := TB.bm
    have keep3 : ∀ b u, b ≠ P → s2.heap.get? b = some u → h3.get? b = some u := fun b u hb e => hx b u hb e
    refine wpAny_builtinsFor (m := X.mg) (by rw [I1.ok.glob]; exact (I1.mod.glob.keeps I1.bk).extBut hx TB.gP) e1 e2 (keep3 _ _ e4 (I1.bk _ _ e5)) e6 e7 e8 ?_
    intro h' hn' hs'
    obtain ⟨more, em⟩ := hmore
    have J2 := GxR.inv_tab (more := more) (h' := h3) (g' := s2.gens) (d' := s2.drawn) (t' := tk) I1 hP keep3 (by rw [← em]; exact hP3) I1.bare
    have keep4 : ∀ b o, h3.get? b = some o → h'.get? b = some o := fun b o e => hs'.extBut b o (Nat.ne_of_lt (Heap.lt_size e)) (Heap.get?_push_of_some _ e)
    have sz' : h'.objs.size = h3.objs.size + 1 := by rw [hs'.1, Heap.size_push]
    refine hQ it fp tn J H1 (upd H1 P (.tbl (ps ++ more))) { s2 with heap := h3, toks := tk } code h'.objs.size { cls := .type "generator", data := .fields #[.int s2.gens.size 0, .str "<genexpr>" (tk + 1), .str (X.env.qual ++ "<genexpr>") (tk + 1 + 1)] } s2.gens.size _ q
      ⟨⟨ps ++ more, upd_same, by rw [← em]; exact ht3⟩, fun b hb => upd_ne hb⟩ J2 T ?_ (fun b hb => ?_) ⟨rfl, ?_, fun b o e => Heap.get?_push_of_some _ (keep4 b o e), hn'.push _, Heap.get?_push_size _ rfl, fun h e => ⟨_, _, _, e, rfl, rfl, rfl⟩, fun v q => (by cases q), ?_, ?_, Array.getElem?_push_size ..⟩
    · refine T.keep _ _ _ st2 fun b hb o e => ?_
      exact Heap.get?_push_of_some _ (keep4 b o (keep3 b o (fpP b hb) e))
    · obtain ⟨f0, f1⟩ := f2 b hb
      exact ⟨⟨by rw [upd_ne (fpP b hb)]; exact f0, f1⟩, Nat.lt_of_lt_of_le (fpl b hb) hsz⟩
    · exact AllBare.push I1.bare rfl
    · show h3.objs.size < h'.objs.size
      omega
    · show h'.objs.size < (h'.push _).objs.size
      rw [Heap.size_push]
      exact Nat.lt_succ_self _
  cases hf : codeAmong gpos ps.toList with
  | none =>
    refine wpAny_genexprCodeX hcode (cd.code hPs ht) (cd.tab hPs) hf fun c' h' tk hx hge hlt hco' _ htab' _ => ?_
    obtain ⟨o1, vs, f1, tf, fl, tg, inF, tx, tt, op, _, _, _, _, _, _, _, _, _, htr, _⟩ := hco'
    exact cont _ h' tk _ hx (Nat.le_trans hge (Nat.le_of_lt hlt)) htab'.2 ⟨_, rfl⟩ htr
  | some cv =>
    refine wpAny_genexprCode_hit hcode (cd.code hPs ht) hf ?_
    exact cont cv s2.heap s2.toks ps (Heap.ExtBut.refl _ _) (Nat.le_refl _) hPs ⟨#[], by simp⟩ ht

/-- the generator, ready for a consumer that runs within B and keeps pins -/
theorem Made.ready {s4 s5 s6 : Shared} {H2 : Hp} {code : Value} {it a : Addr} {go : Obj} {gi : Nat} {fp : List Addr} {tn : Nat → Heap → Prop} {J : It} {B : Around} {g : TG} {tt : TT} {te : TE} {vs : List Nat} {post : TPost} {Fin : List V → Hp → Prop}
    {W : Nat → Nat → List V → Hp → Prop} {Pn : List V → List (Addr × Obj) → Prop} {m n : Nat} {pl : List (Addr × Obj)}
    (M : Made X scope elt tg iter ifs gpos s4 code it a go gi s5) (ok : GOk X.N X.env.scope scope N src) (I : Inv X pins σ H2 s4) (T : Turn X.prog X.w X.K tg J fp it tn) (st : tn 0 s5.heap) (hfp : ∀ b ∈ fp, FpOk X pins H2 b ∧ b < s4.heap.objs.size)
    (hB : B.frames = some X.stack) (hh : B.handled = none)
    (pg : PG (gcx X N scope code B s4 H2 fp) tg g) (pt : PTs (gcx X N scope code B s4 H2 fp) ifs tt) (pe : PE (gcx X N scope code B s4 H2 fp) elt te)
    (turn : GTurn J g tt te vs (gsl σ src) post Fin W) (hmn : m < n) (w : W 0 m [] H2)
    (os : s6.os = s5.os) (bare : AllBare s6.gens) (keep : ∀ b o, s5.heap.get? b = some o → s6.heap.get? b = some o) (hg : s6.gens[gi]? = s5.gens[gi]?)
    (hpl : ∀ p ∈ pl, s5.heap.objs.size ≤ p.1 ∧ s6.heap.get? p.1 = some p.2 ∧ ∀ v, p.2.data ≠ .cell v) (hPn : Pn [] ((a, go) :: pl)) :
    Rdy (model X.prog X.w) B (GR (gcx X N scope code B s4 H2 fp) fp Pn Fin) (GYx (gcx X N scope code B s4 H2 fp) fp Pn post) a go gi n s6 := by
  have kp : ∀ b o, s4.heap.get? b = some o → s6.heap.get? b = some o := fun b o e => keep b o (M.keep b o e)
  have I5 : ∀ (s' : Shared), s'.os = s4.os → AllBare s'.gens → s'.heap = s6.heap → Inv (gcx X N scope code B s4 H2 fp) [] (gsl σ src) H2 s' := fun s' h1 h2 h3 =>
    g_start (m0 := fun y => if y = ".0" then some (.ref it) else none) I ok hfp hB hh h1 h2 (by rw [h3]; exact kp) (by rw [h3]; exact M.ns.keeps keep)
  have lt4 : ∀ b, s4.heap.objs.size < b → H2 b = none ∧ b ∉ frs X.stack ∧ b ≠ s4.heap.objs.size ∧ b ∉ fp ∧ ∀ x c, (cloFrom X.env.cells scope.names []).lookup x = some c → c ≠ b := fun b hb => by
    refine ⟨I.hok.fresh (Nat.le_of_lt hb), fun z => ?_, Nat.ne_of_gt hb, fun z => ?_, fun x c e z => ?_⟩
    · rcases List.mem_cons.mp (I.stkSub b z) with y | y
      · have := I.lt
        rw [← y] at this
        exact absurd (Nat.lt_trans hb this) (Nat.lt_irrefl _)
      · exact I.nofs (Nat.le_of_lt hb) y
    · exact absurd (Nat.lt_trans hb (hfp b z).2) (Nat.lt_irrefl _)
    · rcases cloFrom_mem (PySem.mem_of_lookup e) with hm | ⟨h1, h2⟩
      · cases hm
      · rcases ok.free _ h1 rfl with k | k
        all_goals
          obtain ⟨c', hc'⟩ := I.ok.has x (by first | exact .inl k | exact .inr k)
          rw [hc'] at h2
          have h2' : c = c' := h2
          obtain ⟨w', z'⟩ := I.cell x c' hc'
          have := z'.lt
          rw [← h2', z] at this
          exact absurd (Nat.lt_trans hb this) (Nat.lt_irrefl _)
  have each : ∀ p ∈ (a, go) :: pl, s4.heap.objs.size < p.1 ∧ s6.heap.get? p.1 = some p.2 ∧ ∀ v, p.2.data ≠ .cell v := fun p hp => by
    rcases List.mem_cons.mp hp with z | z
    · rw [z]
      exact ⟨M.lt, keep _ _ M.obj, M.dat⟩
    · obtain ⟨h1, h2, h3⟩ := hpl p z
      exact ⟨Nat.lt_of_lt_of_le (Nat.lt_trans M.lt M.top) h1, h2, h3⟩
  have PO : PinsOk (gcx X N scope code B s4 H2 fp) fp ((a, go) :: pl) := ⟨fun p hp => Nat.le_of_lt (each p hp).1, fun p hp => (lt4 _ (each p hp).1).2.2.1, fun p hp => (lt4 _ (each p hp).1).2.2.2.1, fun p hp => (lt4 _ (each p hp).1).2.2.2.2⟩
  have I6 : ∀ (s' : Shared), s'.os = s4.os → AllBare s'.gens → s'.heap = s6.heap → Inv (gcx X N scope code B s4 H2 fp) ((a, go) :: pl) (gsl σ src) H2 s' := fun s' h1 h2 h3 =>
    (I5 s' h1 h2 h3).pins_of fun p hp => ⟨by rw [h3]; exact (each p hp).2.1, (lt4 _ (each p hp).1).1, (lt4 _ (each p hp).1).2.2.1, (lt4 _ (each p hp).1).2.1, (each p hp).2.2⟩
  have e6 := hg.trans M.fresh
  refine ⟨keep _ _ M.obj, I.nolimit.keeps kp, _, e6, rfl, ?_⟩
  exact g_begin (elt := elt) (iter := iter) (ifs := ifs) (pos := gpos) ok.co hh T pg pt pe turn hmn w (I6 _ (os.trans M.os) (allBare_setGen (s := s6) bare rfl) rfl) PO hPn (fun p hp => (each p hp).2.1) (T.keep _ _ _ st fun b _ o e => keep b o e) fun b hb => (hfp b hb).1.1
end
end Gx

set_option Elab.async false
set_option linter.all false
set_option maxRecDepth 100000
set_option maxHeartbeats 4000000
/-! Gr: the rules: all(..), any(..), sum(..), tuple(..) of a generator expression. -/
namespace Gx
open PySem PySem.Spec PyProof.Rows L2 GenW
section
variable {X : Cx} {scope : Scope} {N : List Str} {src : List (Option Nat)} {c P : Addr}
variable {elt tg iter : Expr} {ifs : List Expr} {p pos gpos : Pos} {wi : TI} {g : TG} {tt : TT} {te : TE} {vs : List Nat} {k : Nat}
/-- the reading: the walked thing, then the turns -/
def tGen (P : Addr) (wi : TI) (g : TG) (tt : TT) (te : TE) (vs : List Nat) (src : List (Option Nat)) (post : VK → TPost) (fin : VK → List V → Hp → Prop) : TE := fun σ H Q => wi σ H fun J H1 => TabG H1 P ∧ ∀ H2, Tabbed P H1 H2 →
  ∃ W : Nat → Nat → List V → Hp → Prop, (∃ m, W 0 m [] H2) ∧ GTurn J g tt te vs (gsl σ src) (post Q) (fin Q) W
abbrev tGAll (P : Addr) (wi : TI) (g : TG) (tt : TT) (te : TE) (vs : List Nat) (src : List (Option Nat)) : TE := tGen P wi g tt te vs src (fun Q => pAll fun H => Q (.bl false) H) fun Q _ H => Q (.bl true) H
abbrev tGAny (P : Addr) (wi : TI) (g : TG) (tt : TT) (te : TE) (vs : List Nat) (src : List (Option Nat)) : TE := tGen P wi g tt te vs src (fun Q => pAny fun H => Q (.bl true) H) fun Q _ H => Q (.bl false) H
abbrev tGSum (P : Addr) (wi : TI) (g : TG) (tt : TT) (te : TE) (vs : List Nat) (src : List (Option Nat)) : TE := tGen P wi g tt te vs src (fun _ => pSum) fun Q ys H => ∀ ns : List Int, ys = ns.map V.int → Q (.int ns.sum) H
abbrev tGTup (P : Addr) (wi : TI) (g : TG) (tt : TT) (te : TE) (vs : List Nat) (src : List (Option Nat)) : TE := tGen P wi g tt te vs src (fun _ => pTup) fun Q ys H => ∀ p, H p = none → Q (.ref p) (upd H p (.tup ys))

/-- all that a rule asks of the generator expression's parts -/
structure GParts (X : Cx) (k : Nat) (scope : Scope) (N : List Str) (tg : Expr) (ifs : List Expr) (elt : Expr) (g : TG) (tt : TT) (te : TE) : Prop where
  tg : ∀ (B : Around) (s : Shared) (H : Hp) (fp : List Addr) (code : Value), Room k B → PG (gcx X N scope code B s H fp) tg g
  ifs : ∀ (B : Around) (s : Shared) (H : Hp) (fp : List Addr) (code : Value), Room k B → PTs (gcx X N scope code B s H fp) ifs tt
  elt : ∀ (B : Around) (s : Shared) (H : Hp) (fp : List Addr) (code : Value), Room k B → PE (gcx X N scope code B s H fp) elt te

theorem pe_gall (G : GParts X k scope N tg ifs elt g tt te) (hr : Room (k + 2) X.A) (hg : Gl X "all") (hm : X.mg "all" = none) (TB : TabB X.base X.mg c P) (hcode : X.env.code = .ref c) (ok : GOk X.N X.env.scope scope N src) (hi : PI X tg iter wi)
    (hs : ∀ v, genFold iter X.env v = pure v := by intro _; rfl) (hb : bootBuiltins "all" = some (.builtin "all") := by decide +kernel)
    (he : starEach [.GeneratorExp elt [⟨tg, iter, ifs, 0⟩] scope gpos] X.env = (false, eval (.GeneratorExp elt [⟨tg, iter, ifs, 0⟩] scope gpos) X.env) :: starEach [] X.env := by rfl) :
    PE X (.Call (.Name "all" p) [.GeneratorExp elt [⟨tg, iter, ifs, 0⟩] scope gpos] [] pos) (tGAll P wi g tt te vs src) := by
  refine ⟨fun pins s σ H Q I h => ?_⟩
  refine wpAny_Call_Name_kw (ld_blt I hg hm hb ?_)
  refine PyProof.Rows.callWith_builtin1 ?_ he (by rfl)
  rw [he]
  show wpAny _ _ (spliced ((false, eval (.GeneratorExp elt [⟨tg, iter, ifs, 0⟩] scope gpos) X.env) :: backTo pos (starEach [] X.env))) _ _ s
  refine Calls.spliced_cons (gen_make (gpos := gpos) (elt := elt) (ifs := ifs) hr TB hcode ok hi hs I h fun it fp tn J H1 H2 s4 code a go gi s5 q hT I4 T st hfp M => ?_)
  obtain ⟨W, ⟨m, w0⟩, turn⟩ := q H2 hT
  refine Calls.spliced_nil ?_
  have hB : Room k X.A.in1.in1 := hr.in1.in1
  refine call_function_tree F.kind_all F.plain_all F.entry_all (F.args_all1 _) ?_
  unfold Builtin.«all»
  refine wpAny_bind (m := oneArg "all" _) (wpAny_pure ?_)
  refine wpAny_bind (wpAny_pyIter_gen (M.gen _ M.obj) ?_)
  refine wpAny_pure ⟨plainId_quiet F.plain_all_loop _, drain_all (Fin := fun _ H => Q (.bl true) H) (Qf := fun H => Q (.bl false) H) hr.hd hr.depth M.gen (fun s' ys H b q => ?_) (fun s' H b q => ?_) (m + 1) s5
    (M.ready ok I4 T st hfp (show X.A.in1.in1.frames = some X.stack from I4.ok.frames) hB.hd (G.tg _ _ _ _ _ hB) (G.ifs _ _ _ _ _ hB) (G.elt _ _ _ _ _ hB) turn (Nat.lt_succ_self _) w0 rfl M.bare (fun _ _ e => e) rfl (pl := []) (fun p hp => by simp at hp) rfl)⟩
  · exact ⟨.bl true, H, b.inv I4 fun b hb => (hfp b hb).1, rfl, q⟩
  · exact ⟨.bl false, H, b.inv I4 fun b hb => (hfp b hb).1, rfl, q⟩

theorem pe_gany (G : GParts X k scope N tg ifs elt g tt te) (hr : Room (k + 2) X.A) (hg : Gl X "any") (hm : X.mg "any" = none) (TB : TabB X.base X.mg c P) (hcode : X.env.code = .ref c) (ok : GOk X.N X.env.scope scope N src) (hi : PI X tg iter wi)
    (hs : ∀ v, genFold iter X.env v = pure v := by intro _; rfl) (hb : bootBuiltins "any" = some (.builtin "any") := by decide +kernel)
    (he : starEach [.GeneratorExp elt [⟨tg, iter, ifs, 0⟩] scope gpos] X.env = (false, eval (.GeneratorExp elt [⟨tg, iter, ifs, 0⟩] scope gpos) X.env) :: starEach [] X.env := by rfl) :
    PE X (.Call (.Name "any" p) [.GeneratorExp elt [⟨tg, iter, ifs, 0⟩] scope gpos] [] pos) (tGAny P wi g tt te vs src) := by
  refine ⟨fun pins s σ H Q I h => ?_⟩
  refine wpAny_Call_Name_kw (ld_blt I hg hm hb ?_)
  refine PyProof.Rows.callWith_builtin1 ?_ he (by rfl)
  rw [he]
  show wpAny _ _ (spliced ((false, eval (.GeneratorExp elt [⟨tg, iter, ifs, 0⟩] scope gpos) X.env) :: backTo pos (starEach [] X.env))) _ _ s
  refine Calls.spliced_cons (gen_make (gpos := gpos) (elt := elt) (ifs := ifs) hr TB hcode ok hi hs I h fun it fp tn J H1 H2 s4 code a go gi s5 q hT I4 T st hfp M => ?_)
  obtain ⟨W, ⟨m, w0⟩, turn⟩ := q H2 hT
  refine Calls.spliced_nil ?_
  have hB : Room k X.A.in1.in1 := hr.in1.in1
  refine call_function_tree F.kind_any F.plain_any F.entry_any (F.args_any1 _) ?_
  unfold Builtin.«any»
  refine wpAny_bind (m := oneArg "any" _) (wpAny_pure ?_)
  refine wpAny_bind (wpAny_pyIter_gen (M.gen _ M.obj) ?_)
  refine wpAny_pure ⟨plainId_quiet F.plain_any_loop _, drain_any (Fin := fun _ H => Q (.bl false) H) (Qt := fun H => Q (.bl true) H) hr.hd hr.depth M.gen (fun s' ys H b q => ?_) (fun s' H b q => ?_) (m + 1) s5
    (M.ready ok I4 T st hfp (show X.A.in1.in1.frames = some X.stack from I4.ok.frames) hB.hd (G.tg _ _ _ _ _ hB) (G.ifs _ _ _ _ _ hB) (G.elt _ _ _ _ _ hB) turn (Nat.lt_succ_self _) w0 rfl M.bare (fun _ _ e => e) rfl (pl := []) (fun p hp => by simp at hp) rfl)⟩
  · exact ⟨.bl false, H, b.inv I4 fun b hb => (hfp b hb).1, rfl, q⟩
  · exact ⟨.bl true, H, b.inv I4 fun b hb => (hfp b hb).1, rfl, q⟩

theorem pe_gsum (G : GParts X k scope N tg ifs elt g tt te) (hr : Room (k + 2) X.A) (hg : Gl X "sum") (hm : X.mg "sum" = none) (TB : TabB X.base X.mg c P) (hcode : X.env.code = .ref c) (ok : GOk X.N X.env.scope scope N src) (hi : PI X tg iter wi)
    (hs : ∀ v, genFold iter X.env v = pure v := by intro _; rfl) (hb : bootBuiltins "sum" = some (.builtin "sum") := by decide +kernel)
    (he : starEach [.GeneratorExp elt [⟨tg, iter, ifs, 0⟩] scope gpos] X.env = (false, eval (.GeneratorExp elt [⟨tg, iter, ifs, 0⟩] scope gpos) X.env) :: starEach [] X.env := by rfl) :
    PE X (.Call (.Name "sum" p) [.GeneratorExp elt [⟨tg, iter, ifs, 0⟩] scope gpos] [] pos) (tGSum P wi g tt te vs src) := by
  refine ⟨fun pins s σ H Q I h => ?_⟩
  refine wpAny_Call_Name_kw (ld_blt I hg hm hb ?_)
  refine PyProof.Rows.callWith_builtin1 ?_ he (by rfl)
  rw [he]
  show wpAny _ _ (spliced ((false, eval (.GeneratorExp elt [⟨tg, iter, ifs, 0⟩] scope gpos) X.env) :: backTo pos (starEach [] X.env))) _ _ s
  refine Calls.spliced_cons (gen_make (gpos := gpos) (elt := elt) (ifs := ifs) hr TB hcode ok hi hs I h fun it fp tn J H1 H2 s4 code a go gi s5 q hT I4 T st hfp M => ?_)
  obtain ⟨W, ⟨m, w0⟩, turn⟩ := q H2 hT
  refine Calls.spliced_nil ?_
  have hB : Room k X.A.in1.in1 := hr.in1.in1
  refine call_function_tree F.kind_sum F.plain_sum F.entry_sum (F.args_sum1 _) ?_
  unfold Builtin.«sum»
  simp only [List.length_cons, List.length_nil]
  rw [if_neg (by decide)]
  refine wpAny_bind (wpAny_of_eq (show Builtin.Builtins.bindParams "sum" ["start"] 0 { } = pure [none] from rfl) ?_)
  refine wpAny_bind (wpAny_pyIter_gen (M.gen _ M.obj) ?_)
  refine wpAny_bind (wpAny_mkInt ?_)
  refine wpAny_bind (wpAny_pure ?_)
  simp only [List.forIn_cons, List.forIn_nil]
  refine wpAny_bind (wpAny_bind (wpAny_bind (wpAny_isInstance (T := "int") (b := false) (typeIs_int _ _ _) PySem.sub_int_str ?_)))
  simp only [Bool.false_eq_true, if_false]
  refine wpAny_pure (wpAny_bind (wpAny_bind (wpAny_isInstance (T := "int") (b := false) (typeIs_int _ _ _) PySem.sub_int_bytes ?_)))
  simp only [Bool.false_eq_true, if_false]
  refine wpAny_pure (wpAny_bind (wpAny_bind (wpAny_isInstance (T := "int") (b := false) (typeIs_int _ _ _) PySem.sub_int_bytearray ?_)))
  simp only [Bool.false_eq_true, if_false]
  refine wpAny_pure (wpAny_pure ?_)
  refine wpAny_bind (wpAny_newObj_type ?_)
  have hcl : cStatics < s5.heap.objs.size := by
    obtain ⟨_, hn, _⟩ := I4.nolimit.keeps M.keep
    exact hn.lt
  have hSobj : (s5.heap.push { cls := .type "list", data := .seq [Value.int 0 s5.toks].toArray }).get? s5.heap.objs.size = some (sumObj 0 s5.toks 0) := Heap.get?_push_size _ rfl
  refine wpAny_pure ⟨plainId_quiet F.plain_sum_loop _, drain_sum (S := s5.heap.objs.size) (Fin := fun ys H => ∀ ns : List Int, ys = ns.map V.int → Q (.int ns.sum) H) hr.hd hr.depth M.gen (Nat.ne_of_gt M.top) (Nat.ne_of_gt hcl) (fun s' ns H t b q => ?_) (m + 1) _ 0 0 s5.toks 0 (.inl rfl) hSobj
    (M.ready ok I4 T st hfp (show X.A.in1.in1.frames = some X.stack from I4.ok.frames) hB.hd (G.tg _ _ _ _ _ hB) (G.ifs _ _ _ _ _ hB) (G.elt _ _ _ _ _ hB) turn (Nat.lt_succ_self _) w0 rfl M.bare (fun _ _ e => Heap.get?_push_of_some _ e) rfl (pl := [(s5.heap.objs.size, sumObj 0 s5.toks 0)]) (fun p hp => ?_) ⟨[], s5.toks, 0, rfl, rfl⟩)⟩
  · exact ⟨.int ns.sum, H, b.inv I4 fun b hb => (hfp b hb).1, ⟨t, rfl⟩, q ns rfl⟩
  · rw [List.mem_singleton.mp hp]
    exact ⟨Nat.le_refl _, hSobj, fun v q => by cases q⟩

theorem collect_gx {B : Around} {pins : List (Addr × Obj)} {σ : L2.St} {H2 : Hp} {s4 s5 : Shared} {code : Value} {it a : Addr} {go : Obj} {gi m : Nat} {fp : List Addr} {tn : Nat → Heap → Prop} {J : It} {Fin : List V → Hp → Prop} {W : Nat → Nat → List V → Hp → Prop}
    {Q : List Value → Shared → Prop} {E : Value → Shared → Prop}
    (G : GParts X k scope N tg ifs elt g tt te) (M : Made X scope elt tg iter ifs gpos s4 code it a go gi s5) (ok : GOk X.N X.env.scope scope N src) (I4 : Inv X pins σ H2 s4) (T : Turn X.prog X.w X.K tg J fp it tn) (st : tn 0 s5.heap)
    (hfp : ∀ b ∈ fp, FpOk X pins H2 b ∧ b < s4.heap.objs.size) (hB : B.frames = some X.stack) (hr : Room (k + 2) B) (turn : GTurn J g tt te vs (gsl σ src) pTup Fin W) (w0 : W 0 m [] H2)
    (hQ : ∀ s' ys H acc, Back X H2 s4 fp H s' → Fin ys H → Vals ys acc → ys.length ≤ sizeLine → Q acc s') : wpAny (model X.prog X.w) B (collect (.ref a)) Q E s5 := by
  have hBr : Room k B.in1.in1 := hr.in1.in1
  have hSI : s5.heap.objs.size ≠ a := Nat.ne_of_gt M.top
  unfold collect
  refine wpAny_bind (wpAny_runValue (codeAny_builtin F.entry_proto_collect ?_))
  rw [Around.under_plainId F.plain_proto_collect _]
  show wpAny _ B.in1 (newList [] >>= fun l => again (.builtin "list.__iadd__" ⟨[l, .ref a], []⟩)) _ _ s5
  refine wpAny_bind (wpAny_newObj_type ?_)
  refine wpAny_pure ⟨plainId_quiet F.plain_list_iadd _, codeAny_builtin F.entry_list_iadd ?_⟩
  rw [Around.under_plainId F.plain_list_iadd _]
  have k1 : ∀ b o, s5.heap.get? b = some o → (s5.heap.push { cls := .type "list", data := .seq ([] : List Value).toArray }).get? b = some o := fun b o e => Heap.get?_push_of_some _ e
  have gty : ∀ {h : Heap}, (∀ b o, s5.heap.get? b = some o → h.get? b = some o) → h.IsGen a gi := fun {h} q => M.gen _ (q _ _ M.obj)
  show wpAny _ B.in1 (Builtin.List.listExtendWith (.ref s5.heap.objs.size) (.ref a) (.ref s5.heap.objs.size)) _ _ _
  unfold Builtin.List.listExtendWith
  refine wpAny_bind (wpAny_typeOf (Heap.IsGen.typeIs (s := { s5 with heap := _ }) (gty k1)) ?_)
  have h1 : Builtin.List.listSameRef (.ref s5.heap.objs.size) (.ref a) = false := by simp [Builtin.List.listSameRef, hSI]
  have h2 : (Value.type "generator" == Value.type "list") = false := by decide
  have h3 : (Value.type "generator" == Value.type "tuple") = false := by decide
  simp only [h1, h2, h3, Bool.or_false, Bool.false_eq_true, if_false]
  refine wpAny_bind (wpAny_pyIter_gen (s := { s5 with heap := _ }) (gty k1) ?_)
  refine wpAny_bind (wpAny_holding ?_)
  unfold Builtin.List.listLengthHint
  refine wpAny_bind (wpAny_specialOf (Heap.IsGen.typeIs (s := { s5 with heap := _ }) (gty k1)) F.gen_no_len ?_)
  show wpAny _ B.in1 (specialOf (Value.ref a) (Str.ofString "__length_hint__") >>= _) _ _ _
  refine wpAny_bind (wpAny_specialOf (Heap.IsGen.typeIs (s := { s5 with heap := _ }) (gty k1)) F.gen_no_hint ?_)
  refine wpAny_pure ?_
  show wpAny _ B.in1 (rule "list.extend.makes-room" >>= fun _ => Builtin.List.listTouch (.ref s5.heap.objs.size) >>= fun _ =>
    again (.builtin "list.extend.loop" ⟨[.ref s5.heap.objs.size, .ref a, .ref s5.heap.objs.size], []⟩)) _ _ _
  refine wpAny_bind (wpAny_rule ?_)
  have hS₁ : (s5.heap.push { cls := .type "list", data := .seq ([] : List Value).toArray }).get? s5.heap.objs.size = some { cls := .type "list", data := .seq ([] : List Value).toArray } := Heap.get?_push_size _ rfl
  refine wpAny_bind ?_
  show wpAny _ B.in1 (updateSeq s5.heap.objs.size (·.push .none) >>= fun _ => updateSeq s5.heap.objs.size (·.pop)) _ _ _
  refine wpAny_bind (wpAny_updateSeq hS₁ rfl ?_)
  have hS₂ := Heap.get?_update_self (Obj.mapSeq (·.push Value.none)) hS₁ rfl
  refine wpAny_updateSeq hS₂ rfl ?_
  have hS₃ := Heap.get?_update_self (Obj.mapSeq (·.pop)) hS₂ rfl
  obtain ⟨c0, hS4⟩ : ∃ c0, (((s5.heap.push { cls := .type "list", data := .seq ([] : List Value).toArray }).update s5.heap.objs.size (Obj.mapSeq (·.push Value.none))).update s5.heap.objs.size (Obj.mapSeq (·.pop))).get? s5.heap.objs.size = some (lstObj #[] c0) := ⟨_, hS₃⟩
  have oth : ∀ b o, s5.heap.get? b = some o →
      (((s5.heap.push { cls := .type "list", data := .seq ([] : List Value).toArray }).update s5.heap.objs.size (Obj.mapSeq (·.push Value.none))).update s5.heap.objs.size (Obj.mapSeq (·.pop))).get? b = some o :=
    fun b o e => (Heap.get?_update_other _ _ (Ne.symm (Nat.ne_of_lt (Heap.lt_size e)))).trans ((Heap.get?_update_other _ _ (Ne.symm (Nat.ne_of_lt (Heap.lt_size e)))).trans (k1 b o e))
  have hcl : cStatics < s5.heap.objs.size := by
    obtain ⟨_, hn, _⟩ := I4.nolimit.keeps M.keep
    exact hn.lt
  refine wpAny_pure ⟨plainId_quiet F.plain_extend_loop _, drain_tup (S := s5.heap.objs.size) (Fin := Fin) hr.hd hr.depth M.gen hSI (Nat.ne_of_gt hcl) (fun s' ys H acc c b q hv hle hS' => ?_) (m + 1) _
    (M.ready ok I4 T st hfp hB hBr.hd (G.tg _ _ _ _ _ hBr) (G.ifs _ _ _ _ _ hBr) (G.elt _ _ _ _ _ hBr) turn (Nat.lt_succ_self _) w0 rfl M.bare oth rfl (pl := [(s5.heap.objs.size, lstObj #[] c0)]) (fun p hp => ?_) ⟨#[], c0, .nil, Nat.zero_le _, rfl⟩)⟩
  · show wpAny _ B (load s5.heap.objs.size >>= _) _ _ s'
    refine wpAny_bind (wpAny_load hS' ?_)
    exact wpAny_pure (hQ s' ys H acc.toList b q hv hle)
  · rw [List.mem_singleton.mp hp]
    exact ⟨Nat.le_refl _, hS4, fun v q => by cases q⟩

theorem code_tuple_gx {B : Around} {pins : List (Addr × Obj)} {σ : L2.St} {H2 : Hp} {s4 s5 : Shared} {code : Value} {it a : Addr} {go : Obj} {gi m : Nat} {fp : List Addr} {tn : Nat → Heap → Prop} {J : It} {Fin : List V → Hp → Prop} {W : Nat → Nat → List V → Hp → Prop}
    {Q₁ : Value → Shared → Prop} {E : Value → Shared → Prop}
    (G : GParts X k scope N tg ifs elt g tt te) (M : Made X scope elt tg iter ifs gpos s4 code it a go gi s5) (ok : GOk X.N X.env.scope scope N src) (I4 : Inv X pins σ H2 s4) (T : Turn X.prog X.w X.K tg J fp it tn) (st : tn 0 s5.heap)
    (hfp : ∀ b ∈ fp, FpOk X pins H2 b ∧ b < s4.heap.objs.size) (hB : B.frames = some X.stack) (hr : Room (k + 3) B) (turn : GTurn J g tt te vs (gsl σ src) pTup Fin W) (w0 : W 0 m [] H2)
    (hQ : ∀ s' ys H (acc : List Value), Back X H2 s4 fp H s' → Fin ys H → Vals ys acc → ys.length ≤ sizeLine → Q₁ (.ref s'.heap.objs.size) { s' with heap := s'.heap.push { cls := .type "tuple", data := .seq acc.toArray } }) :
    codeAny (model X.prog X.w) B (.call (.builtin "tuple.__new__") ⟨[.type "tuple", .ref a], []⟩) (wants Q₁ E) s5 := by
  refine codeAny_of_tree ?_
  show wpAny _ B.in1 (do checkBuiltinCall "tuple.__new__" ⟨[.type "tuple", .ref a], []⟩; again (.builtin "tuple.__new__" ⟨[.type "tuple", .ref a], []⟩)) _ _ s5
  refine wpAny_bind (wpAny_of_eq (F.newCall_tuple_1 _) (wpAny_pure ⟨plainId_quiet F.plain_tuple_new _, codeAny_builtin F.entry_tuple_new ?_⟩))
  rw [Around.under_plainId F.plain_tuple_new _]
  have hsub := sub_tuple_self
  have hinit := init_tuple_lookup
  have hmh := madeHere_tuple
  have hTI : s5.TypeIs (.ref a) "generator" := Heap.IsGen.typeIs (s := s5) (M.gen _ M.obj)
  wp_walk using wpAny_typeOf hTI, collect_gx (B := B.in1) (Fin := Fin) G M ok I4 T st hfp hB hr.in1 turn w0
  intro s' ys H acc hb hf hv hle
  show wpAny _ _ (Builtin.Tuple.tupleExact acc.toArray >>= fun v => ret v) _ _ _
  unfold Builtin.Tuple.tupleExact
  have hl := hv.length
  refine wpAny_bind (wpAny_newObj_type ?_ (by show acc.toArray.size ≤ sizeLine; simp only [List.size_toArray]; omega))
  exact wpAny_pure (hQ s' ys H acc hb hf hv hle)

theorem pe_gtup (G : GParts X k scope N tg ifs elt g tt te) (hr : Room (k + 4) X.A) (hg : Gl X "tuple") (hm : X.mg "tuple" = none) (TB : TabB X.base X.mg c P) (hcode : X.env.code = .ref c) (ok : GOk X.N X.env.scope scope N src) (hi : PI X tg iter wi)
    (hs : ∀ v, genFold iter X.env v = pure v := by intro _; rfl) (hb : bootBuiltins "tuple" = some (.type "tuple") := by decide +kernel)
    (he : starEach [.GeneratorExp elt [⟨tg, iter, ifs, 0⟩] scope gpos] X.env = (false, eval (.GeneratorExp elt [⟨tg, iter, ifs, 0⟩] scope gpos) X.env) :: starEach [] X.env := by rfl) :
    PE X (.Call (.Name "tuple" p) [.GeneratorExp elt [⟨tg, iter, ifs, 0⟩] scope gpos] [] pos) (tGTup P wi g tt te vs src) := by
  refine ⟨fun pins s σ H Q I h => ?_⟩
  refine wpAny_Call_Name_kw (ld_blt I hg hm hb ?_)
  refine PyProof.Rows.callWith_type1 ?_ he (by rfl)
  rw [he]
  show wpAny _ _ (spliced ((false, eval (.GeneratorExp elt [⟨tg, iter, ifs, 0⟩] scope gpos) X.env) :: backTo pos (starEach [] X.env))) _ _ s
  refine Calls.spliced_cons (gen_make (gpos := gpos) (elt := elt) (ifs := ifs) hr TB hcode ok hi hs I h fun it fp tn J H1 H2 s4 code a go gi s5 q hT I4 T st hfp M => ?_)
  obtain ⟨W, ⟨m, w0⟩, turn⟩ := q H2 hT
  refine Calls.spliced_nil ?_
  refine callType_codes (Q₁ := fun obj s₁ => s₁.TypeIs obj "tuple" ∧ EP X pins σ Q obj s₁) F.called_tuple (F.typeCall_tuple_1 _) F.entry_object_init
    (code_tuple_gx (Fin := fun ys H => ∀ p, H p = none → Q (.ref p) (upd H p (.tup ys))) G M ok I4 T st hfp (show X.A.in1.frames = some X.stack from I4.ok.frames) hr.in1 turn w0 fun s' ys H acc b q hv hle => ⟨⟨_, Heap.get?_push_size _ rfl, rfl⟩, ?_⟩) fun obj s₁ h₁ => ?_
  · have I5 := b.inv I4 fun b hb => (hfp b hb).1
    exact ⟨.ref s'.heap.objs.size, _, I5.laid (t' := s'.toks) (fun b o e => Heap.get?_push_of_some _ e) (Nat.le_refl _) (show ObjOk X.prog X.w _ _ _ (.tup ys) from ⟨hle, acc, hv, IsTup.new _ _⟩), rfl, q _ (I5.hok.fresh (Nat.le_refl _))⟩
  · exact ⟨h₁.1, F.args_object_init_2 obj _, object_init_meets F.called_tuple.init.lookup F.called_tuple.made (by decide) X.prog X.w X.A.in1 _ s₁ ⟨h₁.1, rfl, h₁.2⟩⟩
end
end Gx

set_option Elab.async false
set_option linter.all false
set_option maxRecDepth 100000
set_option maxHeartbeats 4000000
/-! Bx: further small rules over the layer: == and != of types, xs[i] op= e, the heap up to tables. -/
namespace Bx
open PySem PySem.Spec PyProof.Rows L2

/-! ### == and != of two built-in types -/
theorem slot_type_ne : Slot "type" (cmpInfo .NotEq).2.1 "object.__ne__" :=
  .of (owner := "object") (n := "__ne__") (by rw [typeLookup_type, builtinLookup_eq_fast]; kernel_rfl) (by decide +kernel) (by decide +kernel) (by decide +kernel)
    (by first | exact .inl (by decide +kernel) | exact .inr (by decide +kernel)) (by rw [isSubtype_type]; kernel_rfl)
theorem slot_type_ne_refl : Slot "type" (cmpInfo .NotEq).2.2 "object.__ne__" :=
  .of (owner := "object") (n := "__ne__") (by rw [typeLookup_type, builtinLookup_eq_fast]; kernel_rfl) (by decide +kernel) (by decide +kernel) (by decide +kernel)
    (by first | exact .inl (by decide +kernel) | exact .inr (by decide +kernel)) (by rw [isSubtype_type]; kernel_rfl)
theorem slot_type_eq' : Slot "type" (Str.ofString "__eq__") "object.__eq__" := TypeEq.slot_type_eq
section
variable {prog : Program} {w : World} {A : Around} {E : Value → Shared → Prop} {s : Shared}
theorem call_ne_types {Y Z : String} {Q : Value → Shared → Prop} (hX : ∀ s' : Shared, s'.TypeIs (.type Y) "type")
    (hc : wpAny (model prog w) A.in1 (call (.builtin "object.__eq__") [.type Y, .type Z]) (fun v s' => (v = .notImplemented ∧ Q .notImplemented s') ∨ ∃ b, v = .bool b ∧ Q (.bool (!b)) s') E s) :
    wpAny (model prog w) A (call (.builtin "object.__ne__") [.type Y, .type Z]) Q E s := by
  refine wpAny_call (codeAny_call_builtin slot_type_ne.plain F.cmpEntry_ne (slot_type_ne.check _ _ _ _ _ _ _ _ (hX s) (F.cmpArgs_ne _ _) ?_))
  unfold Builtin.«object.__ne__»
  refine wpAny_bind (wpAny_pure ?_)
  show wpAny _ _ (cRoomFor "comparison" [.type Y, .type Z] >>= _) _ _ _
  refine wpAny_bind (wpAny_cRoomFor_byValue rfl ?_)
  refine wpAny_bind (wpAny_callSpecialIfBound?_slot (name := Str.ofString "__eq__") (hX s) slot_type_eq' (wpAny_mono hc (fun v s' h => ?_) fun _ _ e => e))
  rcases h with ⟨rfl, q⟩ | ⟨b, rfl, q⟩
  · exact wpAny_pure q
  · show wpAny _ _ (truthy (.bool b) >>= _) _ _ _
    exact wpAny_bind (wpAny_truthy_bool (wpAny_pure q))
theorem ne_type_same {Y : String} {Q : Value → Shared → Prop} (hX : ∀ s' : Shared, s'.TypeIs (.type Y) "type") (h : Q (.bool false) s) : wpAny (model prog w) A (compareOp .NotEq (.type Y) (.type Y)) Q E s := by
  show wpAny _ A (richCompare .NotEq _ _) Q E s
  refine wpAny_richCompare_same (T := "type") (hX s) (hX s) slot_type_ne (call_ne_types hX ?_)
  exact call_gives TypeEq.slot_type_eq (hX s) F.entry_object_eq (F.args_object_eq_2 _ _) (TypeEq.object_eq_same rfl (by simp)) (.inr ⟨true, rfl, (by intro e; cases e), h⟩)
theorem richCompare_ne_decline {a b : Value} {T id : String} {k : Bool} {Q : Value → Shared → Prop} (ha : ∀ s' : Shared, s'.TypeIs a T) (hb : ∀ s' : Shared, s'.TypeIs b T)
    (h1 : Slot T (cmpInfo .NotEq).2.1 id) (h2 : Slot T (cmpInfo .NotEq).2.2 id) (hv : [a, b].any Value.onHeap = false) (hk : isSame a b = pure k)
    (hc : wpAny (model prog w) A (call (.builtin id) [a, b]) (fun v s1 => v = .notImplemented ∧ wpAny (model prog w) A (call (.builtin id) [b, a]) (fun v s2 => v = .notImplemented ∧ Q (.bool (!k)) s2) E s1) E s) :
    wpAny (model prog w) A (richCompare .NotEq a b) Q E s := by
  rcases hi : cmpInfo CmpOp.NotEq with ⟨sym, f, r⟩
  rw [hi] at h1 h2
  simp only [richCompare, hi, (ha s).oneThing_none]
  try with_reducible refine wpAny_holding ?_
  refine wpAny_bind (wpAny_cRoomFor_or (.inl hv) ?_)
  refine wpAny_bind (wpAny_typeOf (ha s) (wpAny_bind (wpAny_typeOf (hb s) ?_)))
  simp only [bne_self_eq_false, Bool.false_eq_true, if_false, pure_bind, Bool.not_false, if_true]
  refine wpAny_bind (m := tryCompare a _ b) (wpAny_tryCompare_declines (ha s) h1 (wpAny_mono hc (fun v s1 h1 => ⟨h1.1, ?_⟩) fun _ _ x => x))
  refine wpAny_bind (m := tryCompare b _ a) (wpAny_tryCompare_declines (hb s1) h2 (wpAny_mono h1.2 (fun v s2 h2 => ⟨h2.1, ?_⟩) fun _ _ x => x))
  refine wpAny_bind (wpAny_rule (wpAny_bind (wpAny_of_eq hk (wpAny_pure h2.2))))
theorem ne_type_other {Y Z : String} {Q : Value → Shared → Prop} (hX : ∀ s' : Shared, s'.TypeIs (.type Y) "type") (hY : ∀ s' : Shared, s'.TypeIs (.type Z) "type") (hne : (Value.type Y == Value.type Z) = false) (h : Q (.bool true) s) :
    wpAny (model prog w) A (compareOp .NotEq (.type Y) (.type Z)) Q E s := by
  have hne' : (Value.type Z == Value.type Y) = false := by
    rw [Bool.eq_false_iff] at hne ⊢
    intro e
    exact hne (by rw [beq_iff_eq] at e ⊢; exact e.symm)
  show wpAny _ A (richCompare .NotEq _ _) Q E s
  refine richCompare_ne_decline (T := "type") (k := false) hX hY slot_type_ne slot_type_ne_refl rfl (by rw [isSame_plain rfl, hne]) (call_ne_types hX ?_)
  refine call_gives TypeEq.slot_type_eq (hX s) F.entry_object_eq (F.args_object_eq_2 _ _) (TypeEq.object_eq_other rfl hne) (.inl ⟨rfl, rfl, call_ne_types hY ?_⟩)
  exact call_gives TypeEq.slot_type_eq (hY s) F.entry_object_eq (F.args_object_eq_2 _ _) (TypeEq.object_eq_other rfl hne') (.inl ⟨rfl, rfl, h⟩)
end
/-- the kinds of plain values -/
def tyNames : List String := ["NoneType", "bool", "int", "str", "tuple", "list"]
theorem meta_of {n : String} (h : n ∈ tyNames) (s : Shared) : s.TypeIs (.type n) "type" := by
  simp only [tyNames, List.mem_cons, List.not_mem_nil, or_false] at h
  rcases h with rfl | rfl | rfl | rfl | rfl | rfl
  · exact TypeEq.meta_NoneType s
  · exact TypeEq.meta_bool s
  · exact TypeEq.meta_int s
  · exact TypeEq.meta_str s
  · exact TypeEq.meta_tuple s
  · exact TypeEq.meta_list s
def rTyC (f : Bool → Bool) : R2 := fun x y H Q => ∃ m n, x = .ty m ∧ y = .ty n ∧ m ∈ tyNames ∧ n ∈ tyNames ∧ Q (.bl (f (decide (m = n)))) H
section
variable {X : Cx}
theorem op_eqTy : OpR X (compareOp .Eq) (rTyC id) := by
  intro pins s σ H x y v u Q I rx ry h
  obtain ⟨m, n, rfl, rfl, hm, hn, q⟩ := h
  cases (show v = Value.type m from rx)
  cases (show u = Value.type n from ry)
  by_cases e : m = n
  · subst e
    rw [decide_eq_true rfl] at q
    exact TypeEq.eq_type_same (meta_of hm) ⟨.bl true, H, I, rfl, q⟩
  · rw [decide_eq_false e] at q
    exact TypeEq.eq_type_other (meta_of hm) (meta_of hn) (by simp [e]) ⟨.bl false, H, I, rfl, q⟩
theorem op_neTy : OpR X (compareOp .NotEq) (rTyC not) := by
  intro pins s σ H x y v u Q I rx ry h
  obtain ⟨m, n, rfl, rfl, hm, hn, q⟩ := h
  cases (show v = Value.type m from rx)
  cases (show u = Value.type n from ry)
  by_cases e : m = n
  · subst e
    rw [decide_eq_true rfl] at q
    exact ne_type_same (meta_of hm) ⟨.bl false, H, I, rfl, q⟩
  · rw [decide_eq_false e] at q
    exact ne_type_other (meta_of hm) (meta_of hn) (by simp [e]) ⟨.bl true, H, I, rfl, q⟩

/-! ### the read of xs[i] op= e -/
def gtList : V → V → Hp → VK → Prop := fun o i H Q => ∃ (l : Addr) (xs : List V) (j : Nat) (x : V), o = .ref l ∧ i = .int j ∧ H l = some (.lst xs) ∧ xs[j]? = some x ∧ Q x H
theorem get_list : PGet X gtList := by
  intro pins s σ H o i ov iv Q I ro ri h
  obtain ⟨l, xs, j, x, rfl, rfl, hl, hx, q⟩ := h
  cases (show ov = Value.ref l from ro)
  obtain ⟨t, rfl⟩ := (show ∃ t, iv = Value.int (j : Int) t from ri)
  obtain ⟨its, rv, p, hz⟩ := I.list (SqL.of hl)
  obtain ⟨u, hu, ru⟩ := rv.get hx
  have hlt : j < xs.length := (List.getElem?_eq_some_iff.mp hx).1
  have hls := rv.length
  refine wpAny_getItem_list p.isList (by omega) (by have : sizeLine < 2 ^ 62 := by decide
                                                    omega) ?_ ⟨x, H, I, ru, q⟩
  simpa using hu
def ipB (f : Int → Int → Int) : TIp := fun x y H Q => ∃ i j, x = .int i ∧ y = .int j ∧ Q (.int (f i j)) H
end

/-! ### heaps: what was tracked stands, tables may have grown -/
def isTbl : HO → Prop
  | .tbl _ => True
  | _ => False
structure Ext (H H' : Hp) : Prop where
  keep : ∀ b o, H b = some o → ¬ isTbl o → H' b = some o
  tabs : ∀ P, Gx.TabG H P → Gx.TabG H' P
  live : ∀ b o, H b = some o → ∃ o', H' b = some o'
theorem Ext.refl (H : Hp) : Ext H H := ⟨fun _ _ e _ => e, fun _ t => t, fun _ o e => ⟨o, e⟩⟩
theorem Ext.trans {H H1 H2 : Hp} (a : Ext H H1) (b : Ext H1 H2) : Ext H H2 := ⟨fun c o e n => b.keep c o (a.keep c o e n) n, fun P t => b.tabs P (a.tabs P t), fun c o e => let ⟨o1, e1⟩ := a.live c o e; b.live c o1 e1⟩
theorem Ext.tabbed {P : Addr} {H H' : Hp} (h : Gx.TabG H P) (t : Gx.Tabbed P H H') : Ext H H' := by
  obtain ⟨t1, t2⟩ := t
  refine ⟨fun b o e n => ?_, fun Q hQ => ?_, fun b o e => ?_⟩
  · by_cases hb : b = P
    · obtain ⟨ps, e2, _⟩ := h
      rw [hb, e2] at e
      cases e
      exact (n trivial).elim
    · rw [t2 b hb]
      exact e
  · by_cases hb : Q = P
    · rw [hb]
      exact t1
    · obtain ⟨ps, e, k⟩ := hQ
      exact ⟨ps, by rw [t2 Q hb]; exact e, k⟩
  · by_cases hb : b = P
    · obtain ⟨ps, e, _⟩ := t1
      exact ⟨_, by rw [hb]; exact e⟩
    · exact ⟨o, by rw [t2 b hb]; exact e⟩
theorem Ext.new {H : Hp} {p : Addr} {o : HO} (h : H p = none) : Ext H (upd H p o) :=
  ⟨fun b u e _ => by rw [upd_ne (ne_of_none e h)]; exact e, fun Q ⟨ps, e, k⟩ => ⟨ps, by rw [upd_ne (ne_of_none e h)]; exact e, k⟩, fun b u e => ⟨u, by rw [upd_ne (ne_of_none e h)]; exact e⟩⟩
/-- a list of ours is written: from the state ahead of its making nothing is seen -/
theorem Ext.write {H H' : Hp} {p : Addr} {o : HO} (x : Ext H H') (h : H p = none) : Ext H (upd H' p o) :=
  ⟨fun b u e n => by rw [upd_ne (ne_of_none e h)]; exact x.keep b u e n, fun Q hQ => by
    obtain ⟨ps, e, k⟩ := x.tabs Q hQ
    obtain ⟨ps0, e0, _⟩ := hQ
    exact ⟨ps, by rw [upd_ne (ne_of_none e0 h)]; exact e, k⟩, fun b u e => by
    obtain ⟨u', e'⟩ := x.live b u e
    exact ⟨u', by rw [upd_ne (ne_of_none e h)]; exact e'⟩⟩
theorem Ext.free {H H' : Hp} (x : Ext H H') {p : Addr} (h : H' p = none) : H p = none := by
  cases e : H p with
  | none => rfl
  | some o =>
    obtain ⟨o', e'⟩ := x.live p o e
    rw [h] at e'
    cases e'
theorem Ext.rd {H H' : Hp} (x : Ext H H') {a : Addr} {u : HO} (n : ¬ isTbl u) (h : Rd H a u) : Rd H' a u := by
  rcases h with h | ⟨o, h⟩
  · exact .inl (x.keep a u h n)
  · exact .inr ⟨o, x.keep a _ h fun z => z⟩
theorem Ext.sqT {K : PySem.W.Frag} {H H' : Hp} (x : Ext H H') {a : Addr} {xs : List V} (h : SqT K H a xs) : SqT K H' a xs := h.elim (fun z => .inl (x.rd (fun z => z) z)) .inr
theorem Ext.sqL {K : PySem.W.Frag} {H H' : Hp} (x : Ext H H') {a : Addr} {xs : List V} (h : SqL K H a xs) : SqL K H' a xs := h.elim (fun z => .inl (x.rd (fun z => z) z)) .inr
theorem Ext.lst {H H' : Hp} (x : Ext H H') {a : Addr} {xs : List V} (h : H a = some (.lst xs)) : H' a = some (.lst xs) := x.keep a _ h fun z => z
theorem Ext.tup {H H' : Hp} (x : Ext H H') {a : Addr} {xs : List V} (h : H a = some (.tup xs)) : H' a = some (.tup xs) := x.keep a _ h fun z => z
mutual
theorem dp_ext {K : PySem.W.Frag} {H H' : Hp} (x : Ext H H') : ∀ {v : V} {d : PyData}, Dp K H v d → Dp K H' v d
  | _, _, .non => .non
  | _, _, .bl b => .bl b
  | _, _, .int i => .int i
  | _, _, .str z => .str z
  | _, _, .lst h hs => .lst (x.sqL h) (dpAll_ext x hs)
  | _, _, .tup h hs => .tup (x.sqT h) (dpAll_ext x hs)
theorem dpAll_ext {K : PySem.W.Frag} {H H' : Hp} (x : Ext H H') : ∀ {vs : List V} {ds : List PyData}, DpAll K H vs ds → DpAll K H' vs ds
  | _, _, .nil => .nil
  | _, _, .cons h hs => .cons (dp_ext x h) (dpAll_ext x hs)
end
theorem dp_tup {K : PySem.W.Frag} {H : Hp} {v : V} {ds : List PyData} (h : Dp K H v (.tuple ds)) : ∃ a xs, v = .ref a ∧ SqT K H a xs ∧ DpAll K H xs ds := by
  cases h with
  | tup h hs => exact ⟨_, _, rfl, h, hs⟩
theorem dp_lst {K : PySem.W.Frag} {H : Hp} {v : V} {ds : List PyData} (h : Dp K H v (.list ds)) : ∃ a xs, v = .ref a ∧ SqL K H a xs ∧ DpAll K H xs ds := by
  cases h with
  | lst h hs => exact ⟨_, _, rfl, h, hs⟩
theorem dp_int {K : PySem.W.Frag} {H : Hp} {v : V} {i : Int} (h : Dp K H v (.int i)) : v = .int i := by cases h; rfl
theorem dpAll_len {K : PySem.W.Frag} {H : Hp} : ∀ {vs : List V} {ds : List PyData}, DpAll K H vs ds → vs.length = ds.length
  | _, _, .nil => rfl
  | _, _, .cons _ hs => congrArg (· + 1) (dpAll_len hs)
theorem dpAll_get {K : PySem.W.Frag} {H : Hp} : ∀ {vs : List V} {ds : List PyData} {i : Nat} {d : PyData}, DpAll K H vs ds → ds[i]? = some d → ∃ v, vs[i]? = some v ∧ Dp K H v d
  | _, _, _, _, .nil, e => by simp at e
  | _, _, 0, _, .cons h _, e => by simp at e; subst e; exact ⟨_, rfl, h⟩
  | _, _, i + 1, d, .cons _ hs, e => by
    obtain ⟨v, h1, h2⟩ := dpAll_get (i := i) (d := d) hs (by simpa using e)
    exact ⟨v, by simpa using h1, h2⟩
theorem dpAll_get' {K : PySem.W.Frag} {H : Hp} : ∀ {vs : List V} {ds : List PyData} {i : Nat} {v : V}, DpAll K H vs ds → vs[i]? = some v → ∃ d, ds[i]? = some d ∧ Dp K H v d
  | _, _, _, _, .nil, e => by simp at e
  | _, _, 0, _, .cons h _, e => by simp at e; subst e; exact ⟨_, rfl, h⟩
  | _, _, i + 1, v, .cons _ hs, e => by
    obtain ⟨d, h1, h2⟩ := dpAll_get' (i := i) (v := v) hs (by simpa using e)
    exact ⟨d, by simpa using h1, h2⟩
theorem dpAll_app {K : PySem.W.Frag} {H : Hp} : ∀ {vs us : List V} {ds es : List PyData}, DpAll K H vs ds → DpAll K H us es → DpAll K H (vs ++ us) (ds ++ es)
  | _, _, _, _, .nil, h => h
  | _, _, _, _, .cons a hs, h => .cons a (dpAll_app hs h)
theorem dpAll_ints {K : PySem.W.Frag} {H : Hp} : ∀ {vs : List V} {ns : List Int}, DpAll K H vs (ns.map .int) → vs = ns.map V.int
  | [], [], _ => rfl
  | _, _ :: _, .cons h hs => by rw [List.map_cons, dp_int h, dpAll_ints hs]
theorem dpAll_of_ints {K : PySem.W.Frag} {H : Hp} : ∀ (ns : List Int), DpAll K H (ns.map V.int) (ns.map .int)
  | [] => .nil
  | n :: ns => .cons (.int n) (dpAll_of_ints ns)
theorem dp_ints {K : PySem.W.Frag} {H : Hp} {v : V} {ns : List Int} (h : Dp K H v (.tuple (ns.map .int))) : ∃ a, v = .ref a ∧ SqT K H a (ns.map V.int) := by
  obtain ⟨a, xs, rfl, h1, h2⟩ := dp_tup h
  exact ⟨a, rfl, by rw [← dpAll_ints h2]; exact h1⟩
/-- a tuple just laid -/
theorem dp_new {K : PySem.W.Frag} {H : Hp} {p : Addr} {vs : List V} {ds : List PyData} (hp : H p = none) (h : DpAll K H vs ds) : Dp K (upd H p (.tup vs)) (.ref p) (.tuple ds) := .tup (SqT.of upd_same) (dpAll_ext (Ext.new hp) h)

/-! ### a def whose code object is known; a callee -/
structure FunC (K : PySem.W.Frag) (x qual : Str) (st : Stmt) (f : Addr) (fd : FuncData) (c : Addr) : Prop where
  ex : ∃ (oc : Value) (od : Option Addr) (kV doc pm : Value) (an : Option Addr) (ct : Value) (osl : Array (Option Value)),
    fd = PySem.W.fnOf x qual (defArgs st) (defBody st) (defScope st) .none kV doc pm an (.ref c) ct ∧ K.lookup f = some ⟨oc, od, .func fd, osl⟩ ∧ PySem.W.codeIn K (.ref c) qual = true
  kp : PySem.W.keepIn K (.ref f) = true
theorem FunC.fun {K : PySem.W.Frag} {x qual : Str} {st : Stmt} {f : Addr} {fd : FuncData} {c : Addr} (F : FunC K x qual st f fd c) : Fun K x qual st f fd :=
  ⟨let ⟨oc, od, kV, doc, pm, an, ct, osl, h⟩ := F.ex; ⟨oc, od, kV, doc, pm, an, .ref c, ct, osl, h⟩, F.kp⟩
section
variable {P : Program} {w : World} {K : PySem.W.Frag} {mg : Str → Option Value} {base : Heap}
theorem FunC.ok {x qual : Str} {st : Stmt} {f : Addr} {fd : FuncData} {c : Addr} {N ps : List Str} {k : Nat} {sp : Sp} (F : FunC K x qual st f fd c) (S : FnScope N ps (defScope st)) (len : ∀ vs H Q E, sp vs H Q E → vs.length = ps.length)
    (hbody : ∀ (A : Around) (outer : List Env) (s : Shared) (H : Hp) (vs : List V) (Q : VK) (E : XK), Room k (A.deeper (envOfC qual (defScope st) s.heap.objs.size f (.ref c))) → sp vs H Q E →
      ∃ t, PSs (cxOf CX0 P w K mg base N qual (defScope st) f (.ref c) A outer s H E).nox (defBody st) t ∧ t { nx := fun _ H' => Q .non H', rt := Q } (start N vs) H) : FnOk P w K mg base CX0 (k + 1) f fd ps sp := by
  obtain ⟨oc, od, kV, doc, pm, an, ct, osl, rfl, lk, hcd⟩ := F.ex
  refine fn_of lk hcd S len fun A outer s H vs Q E hr hsp => ?_
  obtain ⟨t, h, q⟩ := hbody A outer s H vs Q E hr hsp
  exact ⟨t, h.nox, q⟩
/-- a callee by its name: its promise, how its arguments bind -/
structure Cal (P : Program) (w : World) (K : PySem.W.Frag) (mg : Str → Option Value) (base : Heap) (k : Nat) (x : Str) (ps : List Str) (sp : Sp) : Prop where
  ex : ∃ (f : Addr) (fd : FuncData), FnOk P w K mg base CX0 k f fd ps sp ∧ mg x = some (.ref f) ∧ PySem.W.keepIn K (.ref f) = true ∧ Binds K fd ps []
theorem Cal.mono {j k : Nat} {x : Str} {ps : List Str} {sp : Sp} (C : Cal P w K mg base j x ps sp) (h : j ≤ k) : Cal P w K mg base k x ps sp :=
  ⟨let ⟨f, fd, h1, h2⟩ := C.ex; ⟨f, fd, h1.mono h, h2⟩⟩
end
section
variable {X : Cx} {k : Nat} {x : Str} {ps : List Str} {sp : Sp} {p pos : Pos} {e : Expr} {es : List Expr} {t : TA}
theorem pe_cal (C : Cal X.prog X.w X.K X.mg X.base k x ps sp) (hr : Room k X.A) (hg : Gl X x) (ha : PA X (e :: es) t) (hdb : (x == ("__debug__" : Str)) = false := by decide)
    (he : starEach (e :: es) X.env = (false, eval e X.env) :: starEach es X.env := by rfl) (hpl : (backTo pos (starEach es X.env)).any (·.1) = false := by rfl) :
    PE X (.Call (.Name x p) (e :: es) [] pos) (tCall sp [] E0 t) := by
  obtain ⟨f, fd, h1, h2, h3, h4⟩ := C.ex
  exact pe_call h1 hr hg h2 h3 h4 .nil pass0 ha hdb he hpl
end
/-- the built-in names that the text leaves as they are -/
structure Bl (mg : Str → Option Value) : Prop where
  type : mg "type" = none
  len : mg "len" = none
  all : mg "all" = none
  sum : mg "sum" = none
  tuple : mg "tuple" = none
  list : mg "list" = none
  range : mg "range" = none
  int : mg "int" = none
  bool : mg "bool" = none
  str : mg "str" = none
  min : mg "min" = none
  max : mg "max" = none
  sorted : mg "sorted" = none
  isinstance : mg "isinstance" = none
  set : mg "set" = none
abbrev Tabs (ts : List Addr) (H : Hp) : Prop := ∀ P ∈ ts, Gx.TabG H P
theorem Tabs.ext {ts : List Addr} {H H' : Hp} (t : Tabs ts H) (x : Ext H H') : Tabs ts H' := fun P hP => x.tabs P (t P hP)
end Bx

set_option Elab.async false
set_option linter.all false
set_option maxRecDepth 100000
set_option maxHeartbeats 1000000
/-! Mx: masks, lots, and what hangs together: plain mathematics. -/
namespace Mk
/-! ### masks -/
def bits (n m : Nat) : List Nat := (List.range n).filter fun i => m.testBit i
def mask (ps : List Nat) : Nat := (ps.map fun p => 2 ^ p).sum
theorem mem_bits {n m q : Nat} : q ∈ bits n m ↔ q < n ∧ m.testBit q = true := by
  unfold bits
  rw [List.mem_filter, List.mem_range]
theorem lt_of_bit {m n q : Nat} (h : m < 2 ^ n) (hq : m.testBit q = true) : q < n := by
  apply Classical.byContradiction
  intro z
  have := Nat.testBit_lt_two_pow (x := m) (i := q) (Nat.lt_of_lt_of_le h (Nat.pow_le_pow_right (by decide) (by omega)))
  rw [this] at hq
  cases hq
theorem range_pair (n : Nat) : (List.range n).Pairwise (· < ·) := List.pairwise_lt_range
theorem bits_pair (n m : Nat) : (bits n m).Pairwise (· < ·) := (range_pair n).filter _
theorem bits_len (n m : Nat) : (bits n m).length ≤ n := by
  have := List.length_filter_le (fun i => m.testBit i) (List.range n)
  rw [List.length_range] at this
  exact this
/-- ascending lists with the same members are the same -/
theorem asc_ext : ∀ {a b : List Nat}, a.Pairwise (· < ·) → b.Pairwise (· < ·) → (∀ q, q ∈ a ↔ q ∈ b) → a = b
  | [], [], _, _, _ => rfl
  | [], y :: b, _, _, h => absurd ((h y).mpr List.mem_cons_self) (by simp)
  | x :: a, [], _, _, h => absurd ((h x).mp List.mem_cons_self) (by simp)
  | x :: a, y :: b, ha, hb, h => by
    rw [List.pairwise_cons] at ha hb
    have e : x = y := by
      have h1 := (h x).mp List.mem_cons_self
      have h2 := (h y).mpr List.mem_cons_self
      rcases List.mem_cons.mp h1 with z | z
      · exact z
      · rcases List.mem_cons.mp h2 with u | u
        · exact u.symm
        · have := hb.1 x z
          have := ha.1 y u
          omega
    subst e
    congr 1
    refine asc_ext ha.2 hb.2 fun q => ⟨fun hq => ?_, fun hq => ?_⟩
    · rcases List.mem_cons.mp ((h q).mp (List.mem_cons_of_mem _ hq)) with z | z
      · have := ha.1 q hq
        omega
      · exact z
    · rcases List.mem_cons.mp ((h q).mpr (List.mem_cons_of_mem _ hq)) with z | z
      · have := hb.1 q hq
        omega
      · exact z
theorem mask_lt : ∀ {ps : List Nat} {n : Nat}, ps.Pairwise (· < ·) → (∀ p ∈ ps, p < n) → mask ps < 2 ^ n := by
  intro ps
  -- from the greatest on
  have key : ∀ (ps : List Nat) (n : Nat), ps.Pairwise (fun a b => b < a) → (∀ p ∈ ps, p < n) → mask ps < 2 ^ n := by
    intro ps
    induction ps with
    | nil => intro n _ _; exact Nat.two_pow_pos n
    | cons p r ih =>
      intro n hp hn
      rw [List.pairwise_cons] at hp
      have h1 := ih p hp.2 hp.1
      have h2 : p < n := hn p List.mem_cons_self
      have h3 : 2 ^ (p + 1) ≤ 2 ^ n := Nat.pow_le_pow_right (by decide) h2
      have h4 : mask (p :: r) = 2 ^ p + mask r := rfl
      rw [h4]
      rw [Nat.pow_succ] at h3
      omega
  intro n hp hn
  have e : mask ps = mask ps.reverse := by
    unfold mask
    rw [← List.sum_reverse, List.map_reverse]
  rw [e]
  refine key _ n ?_ fun p hq => hn p (List.mem_reverse.mp hq)
  rw [List.pairwise_reverse]
  exact hp
theorem bit_mask : ∀ {ps : List Nat}, ps.Pairwise (· < ·) → ∀ q, (mask ps).testBit q = decide (q ∈ ps) := by
  -- from the greatest on: 2 ^ p + (less)
  have key : ∀ (ps : List Nat), ps.Pairwise (fun a b => b < a) → ∀ q, (mask ps).testBit q = decide (q ∈ ps) := by
    intro ps
    induction ps with
    | nil => intro _ q; simp [mask]
    | cons p r ih =>
      intro hp q
      rw [List.pairwise_cons] at hp
      have hlt : mask r < 2 ^ p := by
        have e : mask r = mask r.reverse := by
          unfold mask
          rw [← List.sum_reverse, List.map_reverse]
        rw [e]
        exact mask_lt (by rw [List.pairwise_reverse]; exact hp.2) fun x hx => hp.1 x (List.mem_reverse.mp hx)
      have h4 : mask (p :: r) = 2 ^ p + mask r := rfl
      rw [h4]
      rcases Nat.lt_trichotomy q p with h | h | h
      · rw [Nat.testBit_two_pow_add_gt h, ih hp.2]
        have : q ≠ p := by omega
        simp [this]
      · subst h
        rw [Nat.testBit_two_pow_add_eq, Nat.testBit_lt_two_pow hlt]
        simp
      · have hlt2 : 2 ^ p + mask r < 2 ^ q := by
          have h3 : 2 ^ (p + 1) ≤ 2 ^ q := Nat.pow_le_pow_right (by decide) h
          rw [Nat.pow_succ] at h3
          omega
        rw [Nat.testBit_lt_two_pow hlt2]
        have h1 : q ≠ p := by omega
        have h2 : q ∉ r := fun z => by
          have := hp.1 q z
          omega
        simp [h1, h2]
  intro ps hp q
  have e : mask ps = mask ps.reverse := by
    unfold mask
    rw [← List.sum_reverse, List.map_reverse]
  rw [e, key _ (by rw [List.pairwise_reverse]; exact hp)]
  simp
theorem bits_mask {n : Nat} {ps : List Nat} (hp : ps.Pairwise (· < ·)) (hn : ∀ p ∈ ps, p < n) : bits n (mask ps) = ps := by
  refine asc_ext (bits_pair _ _) hp fun q => ?_
  rw [mem_bits, bit_mask hp]
  simp only [decide_eq_true_eq]
  exact ⟨fun h => h.2, fun h => ⟨hn q h, h⟩⟩
theorem eq_of_bits {a b : Nat} (h : ∀ q, a.testBit q = true ↔ b.testBit q = true) : a = b := Nat.eq_of_testBit_eq fun q => by
  have := h q
  cases e1 : a.testBit q <;> cases e2 : b.testBit q <;> simp_all
theorem mask_bits {n m : Nat} (h : m < 2 ^ n) : mask (bits n m) = m := eq_of_bits fun q => by
  rw [bit_mask (bits_pair _ _)]
  simp only [decide_eq_true_eq]
  rw [mem_bits]
  exact ⟨fun z => z.2, fun z => ⟨lt_of_bit h z, z⟩⟩
theorem bits_any {n k m : Nat} (h1 : m < 2 ^ n) (h2 : m < 2 ^ k) : bits n m = bits k m := asc_ext (bits_pair _ _) (bits_pair _ _) fun q => by
  rw [mem_bits, mem_bits]
  exact ⟨fun z => ⟨lt_of_bit h2 z.2, z.2⟩, fun z => ⟨lt_of_bit h1 z.2, z.2⟩⟩
theorem lt_of_sub {n r m : Nat} (h : m < 2 ^ n) (s : ∀ q, r.testBit q = true → m.testBit q = true) : r < 2 ^ n := by
  apply Nat.lt_pow_two_of_testBit
  intro i hi
  cases e : r.testBit i with
  | false => rfl
  | true => exact absurd (lt_of_bit h (s i e)) (by omega)
/-! ### the lowest bit -/
theorem and_neg (m : Nat) (h : 0 < m) : ∃ q, m.testBit q = true ∧ (∀ p, p < q → m.testBit p = false) ∧ PySem.Builtin.bitAnd (m : Int) (-(m : Int)) = ((2 ^ q : Nat) : Int) := by
  have key : ∀ (m : Nat), 0 < m → ∃ q, m.testBit q = true ∧ (∀ p, p < q → m.testBit p = false) ∧ m - (m &&& (m - 1)) = 2 ^ q ∧ (m &&& (m - 1)) ≤ m := by
    intro m
    induction m using Nat.strongRecOn with
    | ind m ih =>
    intro h
    rcases Nat.mod_two_eq_zero_or_one m with e | e
    · obtain ⟨k, rfl⟩ : ∃ k, m = 2 * k := ⟨m / 2, by omega⟩
      obtain ⟨q, h1, h2, h3, h4⟩ := ih k (by omega) (by omega)
      have ea : (2 * k &&& (2 * k - 1)) = 2 * (k &&& (k - 1)) := by
        apply Nat.eq_of_testBit_eq
        intro i
        cases i with
        | zero => simp [Nat.testBit_and]
        | succ i =>
          rw [Nat.testBit_and, Nat.testBit_succ, Nat.testBit_succ, Nat.testBit_succ]
          have e1 : 2 * k / 2 = k := by omega
          have e2 : (2 * k - 1) / 2 = k - 1 := by omega
          have e3 : 2 * (k &&& (k - 1)) / 2 = (k &&& (k - 1)) := by omega
          rw [e1, e2, e3, Nat.testBit_and]
      refine ⟨q + 1, ?_, fun p hp => ?_, ?_, ?_⟩
      · rw [Nat.testBit_succ]
        have e1 : 2 * k / 2 = k := by omega
        rw [e1]
        exact h1
      · cases p with
        | zero => simp
        | succ p =>
          rw [Nat.testBit_succ]
          have e1 : 2 * k / 2 = k := by omega
          rw [e1]
          exact h2 p (by omega)
      · rw [ea, Nat.pow_succ]
        omega
      · rw [ea]
        omega
    · refine ⟨0, by simp [Nat.testBit_zero, e], fun p hp => by omega, ?_, ?_⟩
      · have ea : (m &&& (m - 1)) = m - 1 := by
          apply Nat.eq_of_testBit_eq
          intro i
          rw [Nat.testBit_and]
          cases i with
          | zero =>
            have : (m - 1) % 2 = 0 := by omega
            simp [Nat.testBit_zero, this]
          | succ i =>
            rw [Nat.testBit_succ, Nat.testBit_succ]
            have e1 : (m - 1) / 2 = m / 2 := by omega
            rw [e1, Bool.and_self]
        rw [ea]
        omega
      · exact Nat.and_le_left
  obtain ⟨q, h1, h2, h3, h4⟩ := key m h
  refine ⟨q, h1, h2, ?_⟩
  unfold PySem.Builtin.bitAnd PySem.Builtin.bitNot
  have e1 : decide ((0 : Int) ≤ (m : Int)) = true := by simp
  have e2 : decide ((0 : Int) ≤ -(m : Int)) = false := by
    apply decide_eq_false
    omega
  rw [e1, e2]
  show (m : Int) - (((m : Int).toNat &&& (-(-(m : Int)) - 1).toNat : Nat) : Int) = _
  have e3 : (m : Int).toNat = m := Int.toNat_natCast m
  have e4 : (-(-(m : Int)) - 1).toNat = m - 1 := by omega
  rw [e3, e4, ← h3]
  omega

/-! ### graphs -/
def adj (bs : List (Nat × Nat)) (i j : Nat) : Bool := bs.contains (min i j, max i j)
theorem adj_comm (bs : List (Nat × Nat)) (i j : Nat) : adj bs i j = adj bs j i := by
  unfold adj
  rw [Nat.min_comm, Nat.max_comm]
/-- from p to q by borders, within S -/
inductive Conn (bs : List (Nat × Nat)) (S : Nat → Prop) : Nat → Nat → Prop
  | refl {p : Nat} : S p → Conn bs S p p
  | step {p q r : Nat} : Conn bs S p q → adj bs q r = true → S r → Conn bs S p r
section
variable {bs : List (Nat × Nat)} {S T : Nat → Prop} {p q r : Nat}
theorem Conn.fst (h : Conn bs S p q) : S p := by
  induction h with
  | refl h => exact h
  | step _ _ _ ih => exact ih
theorem Conn.snd (h : Conn bs S p q) : S q := by
  cases h with
  | refl h => exact h
  | step _ _ h => exact h
theorem Conn.trans (h1 : Conn bs S p q) (h2 : Conn bs S q r) : Conn bs S p r := by
  induction h2 with
  | refl _ => exact h1
  | step _ a s ih => exact .step ih a s
theorem Conn.one (h1 : S p) (h2 : S q) (a : adj bs p q = true) : Conn bs S p q := .step (.refl h1) a h2
theorem Conn.symm (h : Conn bs S p q) : Conn bs S q p := by
  induction h with
  | refl h => exact .refl h
  | step c a s ih => exact (Conn.one s c.snd (by rw [adj_comm]; exact a)).trans ih
theorem Conn.mono (h : Conn bs S p q) (k : ∀ x, S x → T x) : Conn bs T p q := by
  induction h with
  | refl h => exact .refl (k _ h)
  | step _ a s ih => exact .step ih a (k _ s)
/-- within a part that is closed nothing else is come to -/
theorem Conn.closed (h : Conn bs S p q) (hp : T p) (k : ∀ x y, T x → S y → adj bs x y = true → T y) : Conn bs T p q ∧ T q := by
  induction h with
  | refl _ => exact ⟨.refl hp, hp⟩
  | step _ a s ih =>
    have t := k _ _ ih.2 s a
    exact ⟨.step ih.1 a t, t⟩
end
abbrev In (m : Nat) : Nat → Prop := fun x => m.testBit x = true
/-- r: what is come to from start within m -/
def Rch (bs : List (Nat × Nat)) (m start r : Nat) : Prop := ∀ q, r.testBit q = true ↔ ∃ p, start.testBit p = true ∧ Conn bs (In m) p q
theorem Rch.uniq {bs : List (Nat × Nat)} {m start r r' : Nat} (h : Rch bs m start r) (h' : Rch bs m start r') : r = r' := eq_of_bits fun q => (h q).trans (h' q).symm
/-- the loop of reached: what holds between two turns -/
structure Walk (bs : List (Nat × Nat)) (m start seen fresh : Nat) : Prop where
  st : ∀ q, start.testBit q = true → seen.testBit q = true
  sub : ∀ q, fresh.testBit q = true → seen.testBit q = true
  sound : ∀ q, seen.testBit q = true → ∃ p, start.testBit p = true ∧ Conn bs (In m) p q
  done : ∀ q r, seen.testBit q = true → fresh.testBit q = false → adj bs q r = true → m.testBit r = true → seen.testBit r = true
theorem Walk.begin {bs : List (Nat × Nat)} {m start : Nat} (h : ∀ q, start.testBit q = true → m.testBit q = true) : Walk bs m start start start :=
  ⟨fun _ h => h, fun _ h => h, fun q hq => ⟨q, hq, .refl (h q hq)⟩, fun q r h1 h2 => by rw [h1] at h2; cases h2⟩
theorem Walk.fin {bs : List (Nat × Nat)} {m start seen : Nat} (w : Walk bs m start seen 0) : Rch bs m start seen := fun q => by
  refine ⟨w.sound q, fun h => ?_⟩
  obtain ⟨p, hp, c⟩ := h
  induction c with
  | refl _ => exact w.st _ hp
  | step c a s ih => exact w.done _ _ ih (Nat.zero_testBit _) a s
theorem Walk.turn {bs : List (Nat × Nat)} {m start seen fresh around : Nat} (w : Walk bs m start seen fresh) (ha : ∀ r, around.testBit r = true ↔ ∃ q, fresh.testBit q = true ∧ adj bs q r = true) :
    Walk bs m start (seen ||| (around &&& (m ^^^ seen))) (around &&& (m ^^^ seen)) := by
  have sm : ∀ q, seen.testBit q = true → m.testBit q = true := fun q hq => by
    obtain ⟨p, _, c⟩ := w.sound q hq
    exact c.snd
  have hn : ∀ r, (around &&& (m ^^^ seen)).testBit r = true ↔ around.testBit r = true ∧ m.testBit r = true ∧ seen.testBit r = false := fun r => by
    rw [Nat.testBit_and, Nat.testBit_xor]
    have := sm r
    cases h1 : around.testBit r <;> cases h2 : m.testBit r <;> cases h3 : seen.testBit r <;> simp_all
  refine ⟨fun q hq => ?_, fun q hq => ?_, fun q hq => ?_, fun q r h1 h2 a hr => ?_⟩
  · rw [Nat.testBit_or, w.st q hq]; rfl
  · rw [Nat.testBit_or, hq, Bool.or_true]
  · rw [Nat.testBit_or, Bool.or_eq_true] at hq
    rcases hq with hq | hq
    · exact w.sound q hq
    · obtain ⟨h1, h2, _⟩ := (hn q).mp hq
      obtain ⟨x, h3, h4⟩ := (ha q).mp h1
      obtain ⟨p, hp, c⟩ := w.sound x (w.sub x h3)
      exact ⟨p, hp, .step c h4 h2⟩
  · rw [Nat.testBit_or, h2, Bool.or_false] at h1
    rw [Nat.testBit_or, Bool.or_eq_true]
    cases e : seen.testBit r with
    | true => exact .inl rfl
    | false =>
      right
      rw [hn]
      refine ⟨(ha r).mpr ⟨q, ?_, a⟩, hr, e⟩
      cases ef : fresh.testBit q with
      | true => rfl
      | false =>
        have := w.done q r h1 ef a hr
        rw [this] at e
        cases e
theorem Walk.le {bs : List (Nat × Nat)} {m start seen fresh : Nat} (w : Walk bs m start seen fresh) : seen ≤ m := by
  apply Nat.le_of_testBit
  intro i hi
  obtain ⟨p, _, c⟩ := w.sound i hi
  exact c.snd
theorem or_gt {a b : Nat} (h : a &&& b = 0) (hb : b ≠ 0) : a < a ||| b := by
  have h1 : a ≤ a ||| b := Nat.left_le_or
  rcases Nat.lt_or_eq_of_le h1 with z | z
  · exact z
  · exfalso
    apply hb
    apply eq_of_bits
    intro q
    rw [Nat.zero_testBit]
    refine ⟨fun hq => ?_, fun z => by cases z⟩
    have e1 : (a ||| b).testBit q = true := by rw [Nat.testBit_or, hq, Bool.or_true]
    rw [← z] at e1
    have e2 : (a &&& b).testBit q = true := by rw [Nat.testBit_and, e1, hq]; rfl
    rw [h, Nat.zero_testBit] at e2
    exact e2

/-! ### links -/
theorem bit_or_pow (x b j : Nat) : (x ||| 2 ^ b).testBit j = (x.testBit j || decide (b = j)) := by
  rw [Nat.testBit_or, Nat.testBit_two_pow]
/-- lk: for each of n places the mask of its neighbours -/
structure Lk (n : Nat) (bs : List (Nat × Nat)) (lk : List Nat) : Prop where
  len : lk.length = n
  bit : ∀ i j, i < n → (lk.getD i 0).testBit j = adj bs i j
theorem Lk.nil (n : Nat) : Lk n [] (List.replicate n 0) := ⟨by simp, fun i j hi => by
  rw [List.getD_eq_getElem?_getD, List.getElem?_replicate, if_pos hi]
  simp [adj]⟩
theorem getD_set {l : List Nat} {a i x : Nat} (ha : a < l.length) : (l.set a x).getD i 0 = if i = a then x else l.getD i 0 := by
  rw [List.getD_eq_getElem?_getD, List.getD_eq_getElem?_getD, List.getElem?_set]
  by_cases h : a = i
  · subst h
    rw [if_pos rfl, if_pos rfl, if_pos ha]
    rfl
  · rw [if_neg h, if_neg (fun z => h z.symm)]
theorem Lk.add {n : Nat} {bs : List (Nat × Nat)} {lk : List Nat} (h : Lk n bs lk) {a b : Nat} (hab : a < b) (hb : b < n) :
    Lk n (bs ++ [(a, b)]) ((lk.set a (lk.getD a 0 ||| 2 ^ b)).set b (lk.getD b 0 ||| 2 ^ a)) := by
  have hl := h.len
  refine ⟨by simp [h.len], fun i j hi => ?_⟩
  have e : adj (bs ++ [(a, b)]) i j = (adj bs i j || decide (min i j = a ∧ max i j = b)) := by
    unfold adj
    rw [List.contains_eq_mem, List.contains_eq_mem]
    simp only [List.mem_append, List.mem_singleton, Prod.mk.injEq]
    by_cases h1 : (min i j, max i j) ∈ bs <;> simp [h1]
  rw [e, getD_set (by simp; omega)]
  by_cases h1 : i = b
  · subst h1
    rw [if_pos rfl, bit_or_pow, h.bit _ _ hi]
    congr 1
    apply decide_eq_decide.mpr
    omega
  · rw [if_neg h1, getD_set (by omega)]
    by_cases h2 : i = a
    · subst h2
      rw [if_pos rfl, bit_or_pow, h.bit _ _ hi]
      congr 1
      apply decide_eq_decide.mpr
      omega
    · rw [if_neg h2, h.bit _ _ hi]
      have : decide (min i j = a ∧ max i j = b) = false := by
        apply decide_eq_false
        omega
      rw [this, Bool.or_false]
/-- the borders of a land of n places -/
def Bs (n : Nat) (bs : List (Nat × Nat)) : Prop := ∀ b ∈ bs, b.1 < b.2 ∧ b.2 < n
theorem adj_lt {n : Nat} {bs : List (Nat × Nat)} (h : Bs n bs) {i j : Nat} (a : adj bs i j = true) : i < n ∧ j < n ∧ i ≠ j := by
  unfold adj at a
  rw [List.contains_eq_mem, decide_eq_true_eq] at a
  have := h _ a
  simp only at this
  omega
/-- all that a mask has as neighbours, gathered by its bits -/
theorem around_bits {n : Nat} {bs : List (Nat × Nat)} {lk : List Nat} (h : Lk n bs lk) {m : Nat} (hm : m < 2 ^ n) (r : Nat) :
    ((bits n m).foldl (fun a p => a ||| lk.getD p 0) 0).testBit r = true ↔ ∃ q, m.testBit q = true ∧ adj bs q r = true := by
  have key : ∀ (l : List Nat) (a : Nat), (l.foldl (fun a p => a ||| lk.getD p 0) a).testBit r = true ↔ a.testBit r = true ∨ ∃ q ∈ l, (lk.getD q 0).testBit r = true := by
    intro l
    induction l with
    | nil => intro a; simp
    | cons p l ih =>
      intro a
      rw [List.foldl_cons, ih, Nat.testBit_or, Bool.or_eq_true]
      constructor
      · rintro ((z | z) | ⟨q, hq, z⟩)
        · exact .inl z
        · exact .inr ⟨p, List.mem_cons_self, z⟩
        · exact .inr ⟨q, List.mem_cons_of_mem _ hq, z⟩
      · rintro (z | ⟨q, hq, z⟩)
        · exact .inl (.inl z)
        · rcases List.mem_cons.mp hq with e | hq
          · rw [e] at z
            exact .inl (.inr z)
          · exact .inr ⟨q, hq, z⟩
  rw [key]
  constructor
  · rintro (z | ⟨q, hq, z⟩)
    · simp at z
    · obtain ⟨h1, h2⟩ := mem_bits.mp hq
      exact ⟨q, h2, by rw [← h.bit q r h1]; exact z⟩
  · rintro ⟨q, hq, a⟩
    have hqn := lt_of_bit hm hq
    exact .inr ⟨q, mem_bits.mpr ⟨hqn, hq⟩, by rw [h.bit q r hqn]; exact a⟩
theorem fold_lt {n : Nat} {bs : List (Nat × Nat)} {lk : List Nat} (h : Lk n bs lk) (hb : Bs n bs) {m : Nat} (hm : m < 2 ^ n) : (bits n m).foldl (fun a p => a ||| lk.getD p 0) 0 < 2 ^ n := by
  apply Nat.lt_pow_two_of_testBit
  intro i hi
  cases e : ((bits n m).foldl (fun a p => a ||| lk.getD p 0) 0).testBit i with
  | false => rfl
  | true =>
    obtain ⟨q, _, a⟩ := (around_bits h hm i).mp e
    have := (adj_lt hb a).2.1
    omega
/-- the pieces of a mask, from the lowest bit on -/
inductive Pcs (bs : List (Nat × Nat)) : Nat → List Nat → Prop
  | nil : Pcs bs 0 []
  | cons {m q p : Nat} {l : List Nat} : m.testBit q = true → (∀ x, x < q → m.testBit x = false) → Rch bs m (2 ^ q) p → Pcs bs (m ^^^ p) l → Pcs bs m (p :: l)
theorem Rch.sub {bs : List (Nat × Nat)} {m start p : Nat} (h : Rch bs m start p) : ∀ q, p.testBit q = true → m.testBit q = true := fun q hq => by
  obtain ⟨x, _, c⟩ := (h q).mp hq
  exact c.snd
theorem xor_sub {m p : Nat} (h : ∀ q, p.testBit q = true → m.testBit q = true) (q : Nat) : (m ^^^ p).testBit q = true ↔ m.testBit q = true ∧ p.testBit q = false := by
  rw [Nat.testBit_xor]
  have := h q
  cases h1 : m.testBit q <;> cases h2 : p.testBit q <;> simp_all
theorem xor_lt {m p q : Nat} (h : ∀ q, p.testBit q = true → m.testBit q = true) (hq : p.testBit q = true) : m ^^^ p < m := by
  have e : (m ^^^ p) ||| p = m := eq_of_bits fun x => by
    rw [Nat.testBit_or, Bool.or_eq_true, xor_sub h]
    have := h x
    cases h1 : m.testBit x <;> cases h2 : p.testBit x <;> simp_all
  have a : (m ^^^ p) &&& p = 0 := eq_of_bits fun x => by
    rw [Nat.testBit_and, Bool.and_eq_true, xor_sub h, Nat.zero_testBit]
    simp_all
  have hp : p ≠ 0 := fun z => by rw [z, Nat.zero_testBit] at hq; cases hq
  have := or_gt a hp
  rw [e] at this
  exact this

theorem low_uniq {m q q' : Nat} (h : m.testBit q = true) (l : ∀ x, x < q → m.testBit x = false) (h' : m.testBit q' = true) (l' : ∀ x, x < q' → m.testBit x = false) : q = q' := by
  rcases Nat.lt_trichotomy q q' with z | z | z
  · rw [l' q z] at h; cases h
  · exact z
  · rw [l q' z] at h'; cases h'
theorem Pcs.uniq {bs : List (Nat × Nat)} {m : Nat} {l : List Nat} (h : Pcs bs m l) : ∀ {l' : List Nat}, Pcs bs m l' → l = l' := by
  induction h with
  | nil =>
    intro l' h'
    cases h' with
    | nil => rfl
    | cons hq _ _ _ => simp at hq
  | @cons m q p l hq hl hR _ ih =>
    intro l' h'
    cases h' with
    | nil => simp at hq
    | @cons _ q' p' l2 hq' hl' hR' hP' =>
      have e := low_uniq hq hl hq' hl'
      subst e
      have e2 := hR.uniq hR'
      subst e2
      rw [ih hP']
open Classical in
/-- the pieces -/
noncomputable def pcs (bs : List (Nat × Nat)) (m : Nat) : List Nat := if h : ∃ l, Pcs bs m l then h.choose else []
theorem Pcs.eq {bs : List (Nat × Nat)} {m : Nat} {l : List Nat} (h : Pcs bs m l) : pcs bs m = l := by
  unfold pcs
  rw [dif_pos ⟨l, h⟩]
  exact (Exists.choose_spec (⟨l, h⟩ : ∃ l, Pcs bs m l)).uniq h
end Mk

set_option Elab.async false
set_option linter.all false
set_option maxRecDepth 100000
set_option maxHeartbeats 4000000
/-! Bs: the turns of a generator expression over a source of known length; scopes by a look. -/
namespace Gx
open PySem PySem.Spec PyProof.Rows L2 Bx

/-- the scopes of the names, by a look -/
def gChk (ND : List Str) (sc scope : Scope) (N : List Str) (src : List (Option Nat)) : Bool :=
  decide (scope.kind = .function) && !scope.isCoroutine && (scope.names.all fun y => decide (y.2 ≠ .cell)) && decide (scope.names.lookup (".0" : Str) = some NameKind.local) &&
  (scope.names.all fun y => decide (y.2 = .free → sc.names.lookup y.1 = some .cell ∨ sc.names.lookup y.1 = some .free)) && decide (src.length = N.length) &&
  (List.range src.length).all fun i => match src[i]? with
    | some (some j) => match N[i]?, ND[j]? with
      | some x, some z => decide (x = z) && decide (scope.names.lookup x = some .free)
      | _, _ => false
    | _ => true
theorem gOk {ND : List Str} {sc scope : Scope} {N : List Str} {src : List (Option Nat)} (h : gChk ND sc scope N src = true) : GOk ND sc scope N src := by
  unfold gChk at h
  simp only [Bool.and_eq_true, decide_eq_true_eq, Bool.not_eq_true', List.all_eq_true] at h
  obtain ⟨⟨⟨⟨⟨⟨h1, h2⟩, h3⟩, h4⟩, h5⟩, h6⟩, h7⟩ := h
  refine ⟨h1, h2, h3, h4, h5, h6, fun i j e => ?_⟩
  have hi : i < src.length := (List.getElem?_eq_some_iff.mp e).1
  have q := h7 i (List.mem_range.mpr hi)
  rw [e] at q
  cases e1 : N[i]? with
  | none => simp [e1] at q
  | some x =>
    cases e2 : ND[j]? with
    | none => simp [e1, e2] at q
    | some z =>
      simp only [e1, e2, Bool.and_eq_true, decide_eq_true_eq] at q
      exact ⟨x, rfl, by rw [q.1], q.2⟩

/-- a source: n items, it i the i-th one, while Ph stands -/
structure Src (J : It) (n : Nat) (it : Nat → V) (Ph : Hp → Prop) : Prop where
  go : ∀ i H, Ph H → i < n → J.go i H
  stop : ∀ H, Ph H → J.stop n H
  yld : ∀ i H x H', Ph H → i < n → J.yld i H x H' → H' = H ∧ x = it i
theorem src_range {lo : Int} {n : Nat} {Ph : Hp → Prop} : Src (Itr lo n) n (fun i => .int (lo + i)) Ph := ⟨fun _ _ _ h => h, fun _ _ => Nat.le_refl _, fun _ _ _ _ _ _ h => h⟩
theorem src_tup {K : PySem.W.Frag} {a : Addr} {xs : List V} {Ph : Hp → Prop} (h : ∀ H, Ph H → SqT K H a xs) : Src (Itt K a) xs.length (fun i => xs.getD i .non) Ph where
  go := fun i H p hi => ⟨xs, xs[i], h H p, List.getElem?_eq_getElem hi⟩
  stop := fun H p => ⟨xs, h H p, Nat.le_refl _⟩
  yld := fun i H x H' p hi y => ⟨y.1, by rw [List.getD_eq_getElem?_getD, y.2 xs (h H p)]; rfl⟩
theorem src_lst {K : PySem.W.Frag} {a : Addr} {xs : List V} {Ph : Hp → Prop} (h : ∀ H, Ph H → SqL K H a xs) : Src (Itl K a) xs.length (fun i => xs.getD i .non) Ph where
  go := fun i H p hi => ⟨xs, xs[i], h H p, List.getElem?_eq_getElem hi⟩
  stop := fun H p => ⟨xs, h H p, Nat.le_refl _⟩
  yld := fun i H x H' p hi y => ⟨y.1, by rw [List.getD_eq_getElem?_getD, y.2 xs (h H p)]; rfl⟩

section
variable {J : It} {n : Nat} {it : Nat → V} {Ph : Hp → Prop} {g : TG} {tt : TT} {te : TE} {vs : List Nat} {σg : L2.St} {H : Hp} {Q : VK}
theorem g_all {Qt Qf : Hp → Prop} (S : Src J n it Ph) (p : Nat → Bool) (h0 : Ph H)
    (step : ∀ i H (C : V → Hp → Prop), Ph H → i < n → (∀ H4, Ph H4 → C (.bl (p i)) H4) → g (it i) σg H fun σ2 H2 => wipe σ2 vs = σg ∧ te σ2 H2 C)
    (fin : ∀ H, Ph H → (List.range n).all p = true → Qt H) (finF : ∀ H, Ph H → (List.range n).all p = false → Qf H) :
    ∃ W : Nat → Nat → List V → Hp → Prop, (∃ m, W 0 m [] H) ∧ GTurn J g tYes te vs σg (pAll Qf) (fun _ H => Qt H) W := by
  refine ⟨fun i m _ H => Ph H ∧ i ≤ n ∧ m = n - i ∧ ∀ j, j < i → p j = true, ⟨n, h0, Nat.zero_le _, by omega, fun j hj => by omega⟩, fun i m ys H ⟨hp, hi, hm, ha⟩ => ?_⟩
  by_cases hn : i = n
  · subst hn
    exact .inl ⟨S.stop H hp, fin H hp (List.all_eq_true.mpr fun j hj => ha j (List.mem_range.mp hj))⟩
  · have hlt : i < n := by omega
    refine .inr ⟨S.go i H hp hlt, fun x H' y => ?_⟩
    obtain ⟨rfl, rfl⟩ := S.yld i H x H' hp hlt y
    refine step i H' _ hp hlt fun H4 hp4 => ⟨p i, rfl, ?_⟩
    cases e : p i with
    | true => exact iteT ⟨n - (i + 1), by omega, hp4, hlt, rfl, fun j hj => by
        by_cases z : j = i
        · rw [z]; exact e
        · exact ha j (by omega)⟩
    | false =>
      refine iteF (finF H4 hp4 ?_)
      rw [Bool.eq_false_iff]
      intro z
      rw [List.all_eq_true.mp z i (List.mem_range.mpr hlt)] at e
      cases e
theorem g_sum (S : Src J n it Ph) (f : Nat → Int) (h0 : Ph H)
    (step : ∀ i H (C : V → Hp → Prop), Ph H → i < n → (∀ H4, Ph H4 → C (.int (f i)) H4) → g (it i) σg H fun σ2 H2 => wipe σ2 vs = σg ∧ te σ2 H2 C)
    (fin : ∀ H, Ph H → Q (.int ((List.range n).map f).sum) H) :
    ∃ W : Nat → Nat → List V → Hp → Prop, (∃ m, W 0 m [] H) ∧ GTurn J g tYes te vs σg pSum (fun ys H => ∀ ns : List Int, ys = ns.map V.int → Q (.int ns.sum) H) W := by
  refine ⟨fun i m ys H => Ph H ∧ i ≤ n ∧ m = n - i ∧ ys = ((List.range i).map f).map V.int, ⟨n, h0, Nat.zero_le _, by omega, rfl⟩, fun i m ys H ⟨hp, hi, hm, hy⟩ => ?_⟩
  by_cases hn : i = n
  · subst hn
    refine .inl ⟨S.stop H hp, fun ns e => ?_⟩
    rw [hy] at e
    have e2 : (List.range i).map f = ns := by
      have inj : ∀ (a b : List Int), a.map V.int = b.map V.int → a = b := fun a => by
        induction a with
        | nil => intro b h; cases b with
          | nil => rfl
          | cons y b => cases h
        | cons x a ih => intro b h; cases b with
          | nil => cases h
          | cons y b =>
            injection h with h1 h2
            injection h1 with h1
            rw [h1, ih b h2]
      exact inj _ _ e
    rw [← e2]
    exact fin H hp
  · have hlt : i < n := by omega
    refine .inr ⟨S.go i H hp hlt, fun x H' y => ?_⟩
    obtain ⟨rfl, rfl⟩ := S.yld i H x H' hp hlt y
    refine step i H' _ hp hlt fun H4 hp4 => ⟨⟨f i, rfl⟩, n - (i + 1), by omega, hp4, hlt, rfl, ?_⟩
    rw [hy, List.range_succ, List.map_append, List.map_append]
    rfl
/-- tuple(.. if ..), the target a name; kp i: whether the i-th item is kept; Pw: by the turn and what is out -/
theorem g_tup {o : Nat} {Pw : Nat → List V → Hp → Prop} (S : ∀ i ys, Src J n it (Pw i ys)) (hn : n ≤ sizeLine) (kp : Nat → Bool) (hw : ∀ x, wipe (σg.set o (some x)) vs = σg) (h0 : Pw 0 [] H)
    (len : ∀ i ys H, Pw i ys H → ys.length ≤ i)
    (test : ∀ i ys H (C : Bool → Hp → Prop), Pw i ys H → i < n → (∀ H2, Pw i ys H2 → C (kp i) H2) → tt (σg.set o (some (it i))) H C)
    (skip : ∀ i ys H, Pw i ys H → i < n → kp i = false → Pw (i + 1) ys H)
    (elt : ∀ i ys H (C : V → Hp → Prop), Pw i ys H → i < n → kp i = true → (∀ v H4, Pw (i + 1) (ys ++ [v]) H4 → C v H4) → te (σg.set o (some (it i))) H C)
    (fin : ∀ ys H, Pw n ys H → ∀ p, H p = none → Q (.ref p) (upd H p (.tup ys))) :
    ∃ W : Nat → Nat → List V → Hp → Prop, (∃ m, W 0 m [] H) ∧ GTurn J (gName o) tt te vs σg pTup (fun ys H => ∀ p, H p = none → Q (.ref p) (upd H p (.tup ys))) W := by
  refine ⟨fun i m ys H => Pw i ys H ∧ i ≤ n ∧ m = n - i, ⟨n, h0, Nat.zero_le _, by omega⟩, fun i m ys H ⟨hp, hi, hm⟩ => ?_⟩
  by_cases e : i = n
  · subst e
    exact .inl ⟨(S i ys).stop H hp, fin ys H hp⟩
  · have hlt : i < n := by omega
    refine .inr ⟨(S i ys).go i H hp hlt, fun x H' y => ?_⟩
    obtain ⟨rfl, rfl⟩ := (S i ys).yld i H x H' hp hlt y
    refine ⟨hw _, test i ys H' _ hp hlt fun H2 h2 => ?_⟩
    cases hk : kp i with
    | true => exact iteT (elt i ys H2 _ h2 hlt hk fun v H4 h4 => ⟨by have := len i ys H2 h2; omega, n - (i + 1), by omega, h4, hlt, rfl⟩)
    | false => exact iteF ⟨n - (i + 1), by omega, skip i ys H2 h2 hlt hk, hlt, rfl⟩
end
end Gx
namespace Bx
open PySem PySem.Spec PyProof.Rows L2
theorem ix_tupK {X : Cx} {K : PySem.W.Frag} (h : X.K = K) : IxR X (rIxT K) := h ▸ ix_tup
theorem pt_truthK {X : Cx} {K : PySem.W.Frag} {a : Expr} {ta : TE} (h : X.K = K) (ha : PE X a ta) (he : ∀ whole, isTrue a X.env whole = (do let v ← whole; standAt a.pos; holding [v] (truthy v))) :
    PT X a (fun σ H Q => ta σ H fun x H' => ∃ k, TruV K x H' k ∧ Q k H') := h ▸ pt_truth ha he
theorem call_lenK {X : Cx} {K : PySem.W.Frag} (h : X.K = K) : CallR X (.builtin "len") (fun xs H Q => ∃ x n, xs = [x] ∧ LenV K x H n ∧ Q (.int n) H) := h ▸ call_len
theorem ix_lstK {X : Cx} {K : PySem.W.Frag} (h : X.K = K) : IxR X (rIxL K) := h ▸ ix_list
end Bx

set_option Elab.async false
set_option linter.all false
set_option maxRecDepth 100000
set_option maxHeartbeats 4000000
namespace Wd
open PySem PySem.Spec PyProof.Rows L2 Bx Gx
def topS (i : Nat) : Stmt := PySem.Challenge.pw_wardsdrawn_k17_fairest_partings.main.body.getD i (.Pass ⟨0, 0, 0, 0⟩)
abbrev st_WardError : Stmt := topS 1
abbrev st_InvalidPlace : Stmt := topS 2
abbrev st_InvalidLand : Stmt := topS 3
abbrev st_is_integer : Stmt := topS 8
abbrev st_is_place : Stmt := topS 9
abbrev st_lot_of : Stmt := topS 10
abbrev st_whole_mask : Stmt := topS 11
abbrev st_links_of : Stmt := topS 12
abbrev st_reached : Stmt := topS 13
abbrev st_hangs_together : Stmt := topS 14
abbrev st_fault_of_land : Stmt := topS 15
abbrev st_fault_of_folk : Stmt := topS 16
abbrev st_fault_of_borders : Stmt := topS 17
abbrev st_is_border : Stmt := topS 18
abbrev st_check_land : Stmt := topS 19
abbrev st_check_head : Stmt := topS 20
abbrev st_check_heads : Stmt := topS 21
abbrev st_fairest : Stmt := topS 23
abbrev st_is_between : Stmt := topS 24
abbrev st_partings : Stmt := topS 25
abbrev st_gap_of : Stmt := topS 26
abbrev st__law_sack : Stmt := topS 28
abbrev st__law_grab : Stmt := topS 29
abbrev st__law_pick : Stmt := topS 30
abbrev st__law_same : Stmt := topS 31
abbrev st__law_pairs : Stmt := topS 32
abbrev st__law_land : Stmt := topS 33
abbrev st__law_heads : Stmt := topS 34
abbrev st__law_beside : Stmt := topS 35
abbrev st__law_knots : Stmt := topS 36
abbrev st__law_is_one : Stmt := topS 37
abbrev st__law_rows : Stmt := topS 38
abbrev st__law_partings : Stmt := topS 39
abbrev st_law : Stmt := topS 40
/-! ### plain data -/
def isIntD (lo hi : Int) : PyData → Bool
  | .int i => decide (lo ≤ i ∧ i ≤ hi)
  | _ => false
theorem tyB_dp {K : PySem.W.Frag} {H : Hp} {v : V} {d : PyData} (h : Dp K H v d) : (∃ i, v = .int i ∧ d = .int i ∧ TyB K H v "int") ∨ ∃ T, T ∈ tyNames ∧ TyB K H v T ∧ T ≠ "int" ∧ ∀ lo hi, isIntD lo hi d = false := by
  cases h with
  | non => exact .inr ⟨"NoneType", by decide, .non, by decide, fun _ _ => rfl⟩
  | bl b => exact .inr ⟨"bool", by decide, .bl b, by decide, fun _ _ => rfl⟩
  | int i => exact .inl ⟨i, rfl, rfl, .int i⟩
  | str x => exact .inr ⟨"str", by decide, .str x, by decide, fun _ _ => rfl⟩
  | lst h _ => exact .inr ⟨"list", by decide, .lst h, by decide, fun _ _ => rfl⟩
  | tup h _ => exact .inr ⟨"tuple", by decide, .tup h, by decide, fun _ _ => rfl⟩
section
variable {P : Program} {w : World} {K : PySem.W.Frag} {mg : Str → Option Value} {base : Heap}
/-! ### is_integer -/
def spIsInteger (K : PySem.W.Frag) : Sp := fun vs H Q _ => ∃ (v : V) (d : PyData) (lo hi : Int), vs = [v, .int lo, .int hi] ∧ Dp K H v d ∧ Q (.bl (isIntD lo hi d)) H
theorem sc_is_integer : FnScope ["value", "low", "high"] ["value", "low", "high"] (defScope st_is_integer) := ⟨rfl, rfl, rfl, by decide +kernel, rfl, by decide +kernel, by decide +kernel⟩
theorem ok_is_integer {f : Addr} {fd : FuncData} (F : Fun K "is_integer" "is_integer" st_is_integer f fd) (B : Bl mg) : FnOk P w K mg base CX0 1 f fd ["value", "low", "high"] (spIsInteger K) := by
  refine F.ok sc_is_integer (fun vs H Q E h => ?_) (fun cdv A outer s H vs Q E hr h => ?_)
  · obtain ⟨v, d, lo, hi, rfl, _⟩ := h
    rfl
  · obtain ⟨v, d, lo, hi, rfl, hd, k⟩ := h
    refine ⟨_, pss_one (ps_ret (pe_and (pe_cmpR op_eqTy (pe_callTy call_type1 rfl B.type (by decide +kernel) (pa_cons (pv 0) pa_nil)) (pe_bltn rfl B.int (by decide +kernel) (v := .ty "int") rfl) (nomark _)) (pe_one (pe_chain op_le op_le (pv 1) (pv 0) (pv 2))))), ?_⟩
    rcases tyB_dp hd with ⟨i, rfl, rfl, ht⟩ | ⟨T, hT, ht, hne, hf⟩
    · refine ⟨_, rfl, _, "int", rfl, ht, "int", "int", rfl, rfl, by decide, by decide, true, rfl, ?_⟩
      simp only [tVar, tC, t2I, tAdd, tSub, tCmp, tIsN, tNotN, tB, tAnd, tOr, tNot, tAndV, tOrV, tNotV, tIf, tNext, tSeq, tDrop, tRet, tRetN, tIfS, tAsg, gName, gNil, gCons, gTup, gSub, tPar, tAug, tAugS, iList, iTup, iRng1, iRng2, tOp, tUn, rI, rI0, rU, rEq, rNe, tTest, tChain, tNil, tCons, tTup, tLst, tCall, tCB, rTyp, r1, kTyp, rTyC, tSl, tNoPart, tPart, tBM0, tBM, tYes, rIxL, rIxT, rIx, rSetL, gtList, L2.start, Ends.nx, Ends.rt, List.map, List.length, List.replicate, List.append, List.append_nil, List.cons_append, List.nil_append, List.set, List.getElem?_cons_zero, List.getElem?_cons_succ, Option.some.injEq, exists_and_left, exists_eq_left', exists_eq_left, V.int.injEq, V.ty.injEq, V.bl.injEq, V.ref.injEq, List.cons.injEq, and_true, true_and, decide_eq_true_eq, Bool.false_eq_true, if_false, if_true, id]
      by_cases h1 : lo ≤ i
      · rw [if_pos h1]
        by_cases h2 : i ≤ hi
        · have e : isIntD lo hi (.int i) = true := decide_eq_true ⟨h1, h2⟩
          rw [e] at k
          simpa [h2] using k
        · have e : isIntD lo hi (.int i) = false := decide_eq_false fun z => h2 z.2
          rw [e] at k
          simpa [h2] using k
      · have e : isIntD lo hi (.int i) = false := decide_eq_false fun z => h1 z.1
        rw [e] at k
        rw [if_neg h1]
        exact k
    · rw [hf] at k
      refine ⟨_, rfl, _, T, rfl, ht, T, "int", rfl, rfl, hT, by decide, false, ?_, k⟩
      rw [decide_eq_false hne]
      rfl
/-! ### is_place -/
def spIsPlace (K : PySem.W.Frag) : Sp := fun vs H Q _ => ∃ (l v : V) (fs : List Int) (bd d : PyData), vs = [l, v] ∧ Dp K H l (.tuple [.tuple (fs.map .int), bd]) ∧ fs.length ≤ 100 ∧ Dp K H v d ∧ Q (.bl (isIntD 0 ((fs.length : Int) - 1) d)) H
theorem sc_is_place : FnScope ["land", "value"] ["land", "value"] (defScope st_is_place) := ⟨rfl, rfl, rfl, by decide +kernel, rfl, by decide +kernel, by decide +kernel⟩
theorem ok_is_place {f : Addr} {fd : FuncData} (F : Fun K "is_place" "is_place" st_is_place f fd) (B : Bl mg) (c1 : Cal P w K mg base 1 "is_integer" ["value", "low", "high"] (spIsInteger K)) : FnOk P w K mg base CX0 2 f fd ["land", "value"] (spIsPlace K) := by
  refine F.ok sc_is_place (fun vs H Q E h => ?_) (fun cdv A outer s H vs Q E hr h => ?_)
  · obtain ⟨l, v, fs, bd, d, rfl, _⟩ := h
    rfl
  · obtain ⟨l, v, fs, bd, d, rfl, hl, hn, hd, k⟩ := h
    refine ⟨_, pss_one (ps_ret (pe_cal c1 hr rfl (pa_cons (pv 1) (pa_cons pe_int (pa_cons (pe_op op_sub (pe_callB call_len (by rfl) B.len PySem.boot_len (pa_cons (pe_ix ix_tup (pv 0) pe_int (fun _ _ => rfl)) pa_nil)) pe_int) pa_nil))))), ?_⟩
    obtain ⟨a, xs, rfl, h1, h2⟩ := dp_tup hl
    obtain ⟨v0, h3, h4⟩ := dpAll_get (i := 0) h2 rfl
    obtain ⟨b, rfl, h5⟩ := dp_ints h4
    refine ⟨_, rfl, _, rfl, _, _, _, _, rfl, rfl, h1, atI_nat h3, _, fs.length, rfl, .inr ⟨_, h5, by simp⟩, _, _, rfl, rfl, _, d, 0, _, rfl, hd, k⟩
end
section
variable {P : Program} {w : World} {K : PySem.W.Frag} {mg : Str → Option Value} {base : Heap}
/-! ### is_ascending: of a tuple of ints -/
def asc : List Int → Bool
  | a :: b :: r => decide (a < b) && asc (b :: r)
  | _ => true
theorem asc_range (ns : List Int) : (List.range (ns.length - 1)).all (fun i => decide (ns.getD i 0 < ns.getD (i + 1) 0)) = asc ns := by
  induction ns with
  | nil => rfl
  | cons a r ih =>
    cases r with
    | nil => rfl
    | cons b r =>
      have e : (a :: b :: r).length - 1 = (b :: r).length - 1 + 1 := by simp
      rw [e, List.range_succ_eq_map, List.all_cons, List.all_map]
      show _ = (decide (a < b) && asc (b :: r))
      rw [← ih]
      rfl
def spIsAscending (K : PySem.W.Frag) (Pt : Addr) : Sp := fun vs H Q _ => ∃ (v : V) (ns : List Int), vs = [v] ∧ Dp K H v (.tuple (ns.map .int)) ∧ ns.length ≤ 6000 ∧ TabG H Pt ∧ ∀ H', Ext H H' → Q (.bl (asc ns)) H'
end
section
variable {P : Program} {w : World} {K : PySem.W.Frag} {mg : Str → Option Value} {base : Heap}
def lotD (ps : List Nat) : PyData := .tuple (ps.map fun (p : Nat) => .int (p : Int))
theorem dp_lot {H : Hp} {v : V} {ps : List Nat} (h : Dp K H v (lotD ps)) : ∃ a, v = .ref a ∧ SqT K H a (ps.map fun (p : Nat) => V.int (p : Int)) := by
  have h2 : Dp K H v (.tuple ((ps.map fun (p : Nat) => (p : Int)).map .int)) := by
    rw [List.map_map]
    exact h
  obtain ⟨a, e, h3⟩ := dp_ints h2
  rw [List.map_map] at h3
  exact ⟨a, e, h3⟩
theorem dpAll_lot {H : Hp} (ps : List Nat) : DpAll K H (ps.map fun (p : Nat) => V.int (p : Int)) (ps.map fun (p : Nat) => .int (p : Int)) := by
  have h := dpAll_of_ints (K := K) (H := H) (ps.map fun (p : Nat) => (p : Int))
  rw [List.map_map, List.map_map] at h
  exact h
theorem getD_lot {ps : List Nat} {i : Nat} (hi : i < (ps.map fun (p : Nat) => V.int (p : Int)).length) : (ps.map fun (p : Nat) => V.int (p : Int)).getD i .non = V.int ((ps.getD i 0 : Nat) : Int) := by
  rw [List.length_map] at hi
  rw [List.getD_eq_getElem?_getD, List.getElem?_map, List.getElem?_eq_getElem hi, List.getD_eq_getElem?_getD, List.getElem?_eq_getElem hi]
  rfl
theorem all_range_getD (ps : List Nat) (f : Nat → Bool) : (List.range ps.length).all (fun i => f (ps.getD i 0)) = ps.all f := by
  induction ps with
  | nil => rfl
  | cons p r ih =>
    rw [List.length_cons, List.range_succ_eq_map, List.all_cons, List.all_map, List.all_cons, ← ih]
    rfl
theorem map_range_getD {α : Type} (ps : List Nat) (f : Nat → α) : (List.range ps.length).map (fun i => f (ps.getD i 0)) = ps.map f := by
  induction ps with
  | nil => rfl
  | cons p r ih =>
    rw [List.length_cons, List.range_succ_eq_map, List.map_cons, List.map_map, List.map_cons, ← ih]
    rfl
/-! ### is_lot: of a tuple of places -/
def isLot (n : Nat) (ps : List Nat) : Bool := !ps.isEmpty && (ps.all fun p => decide (p < n)) && asc (ps.map fun (p : Nat) => (p : Int))
def spIsLot (K : PySem.W.Frag) (T1 T2 : Addr) : Sp := fun vs H Q _ => ∃ (l v : V) (fs : List Int) (bd : PyData) (ps : List Nat), vs = [l, v] ∧ Dp K H l (.tuple [.tuple (fs.map .int), bd]) ∧ fs.length ≤ 100 ∧ Dp K H v (lotD ps) ∧ ps.length ≤ 6000 ∧
  TabG H T1 ∧ TabG H T2 ∧ ∀ H', Ext H H' → Q (.bl (isLot fs.length ps)) H'
/-! ### mask_of -/
def spMaskOf (K : PySem.W.Frag) (T1 : Addr) : Sp := fun vs H Q _ => ∃ (v : V) (ps : List Nat), vs = [v] ∧ Dp K H v (lotD ps) ∧ (∀ p ∈ ps, p ≤ 1000) ∧ TabG H T1 ∧ ∀ H', Ext H H' → Q (.int (Mk.mask ps : Nat)) H'
theorem sum_cast (ps : List Nat) : (ps.map fun (p : Nat) => ((2 ^ p : Nat) : Int)).sum = ((Mk.mask ps : Nat) : Int) := by
  induction ps with
  | nil => rfl
  | cons p r ih =>
    have e : Mk.mask (p :: r) = 2 ^ p + Mk.mask r := rfl
    rw [List.map_cons, List.sum_cons, ih, e]
    omega
/-! ### lot_of -/
def spLotOf (K : PySem.W.Frag) (T1 : Addr) : Sp := fun vs H Q _ => ∃ (m n : Nat), vs = [.int (m : Int)] ∧ m < 2 ^ n ∧ n ≤ 1000 ∧ TabG H T1 ∧ ∀ p H', Ext H H' → H p = none → Dp K H' (.ref p) (lotD (Mk.bits n m)) → H' p = some (.tup ((Mk.bits n m).map fun (p : Nat) => V.int (p : Int))) → Q (.ref p) H'
theorem sc_lot_of : FnScope ["mask"] ["mask"] (defScope st_lot_of) := ⟨rfl, rfl, rfl, by decide +kernel, rfl, by decide +kernel, by decide +kernel⟩
theorem intBits_lt (m : Nat) : m < 2 ^ Builtin.Int.intBits (m : Int) := by
  unfold Builtin.Int.intBits
  by_cases h : m = 0
  · subst h; decide
  · have e : ((m : Int) == 0) = false := by simp; omega
    rw [e]
    exact Nat.lt_log2_self
theorem intBits_le {m n : Nat} (h : m < 2 ^ n) : Builtin.Int.intBits (m : Int) ≤ n := by
  unfold Builtin.Int.intBits
  by_cases e0 : m = 0
  · subst e0; simp
  · have e : ((m : Int) == 0) = false := by simp; omega
    rw [e]
    have := (Nat.log2_lt e0).mpr h
    exact this
theorem shr_and (m i : Nat) : Builtin.bitAnd ((m : Int) / 2 ^ i) 1 = (if m.testBit i then 1 else 0 : Int) := by
  have e0 : ((m : Int) / 2 ^ i) = ((m / 2 ^ i : Nat) : Int) := by simp
  have e1 : Builtin.bitAnd ((m / 2 ^ i : Nat) : Int) 1 = (((m / 2 ^ i) &&& 1 : Nat) : Int) := rfl
  rw [e0, e1, Nat.and_one_is_mod]
  have e2 := Nat.testBit_eq_decide_div_mod_eq (x := m) (i := i)
  rw [e2]
  rcases Nat.mod_two_eq_zero_or_one (m / 2 ^ i) with z | z <;> simp [z]
theorem ok_lot_of {f c T1 : Addr} {fd : FuncData} (F : FunC K "lot_of" "lot_of" st_lot_of f fd c) (TB : TabB base mg c T1) (B : Bl mg) : FnOk P w K mg base CX0 6 f fd ["mask"] (spLotOf K T1) := by
  refine F.ok sc_lot_of (fun vs H Q E h => ?_) (fun A outer s H vs Q E hr h => ?_)
  · obtain ⟨m, n, rfl, _⟩ := h
    rfl
  · obtain ⟨m, n, rfl, hm, hn, hT, k⟩ := h
    refine ⟨_, pss_one (ps_ret (pe_gtup (k := 0) (N := ["place", "mask"]) (src := [none, some 0]) (vs := [0])
        ⟨fun B s H fp code hB => pg_name (i := 0) (by decide +kernel : (["place", "mask"] : List Str).Nodup) rfl (Or.inl rfl), fun B s H fp code hB => pts_one (pt_truthK (K := K) rfl (pe_op op_and (pe_op op_shr (pv 1) (pv 0)) pe_int) (by intro _; rfl)), fun B s H fp code hB => pv 0⟩
        (hr.mono (by decide)) rfl B.tuple TB rfl (gOk (ND := ["mask"]) (sc := defScope st_lot_of) (by decide +kernel)) (pi_range1 rfl B.range (pa_cons (pe_bits (pv 0)) pa_nil)))), ?_⟩
    have hb := intBits_lt m
    have hb2 := intBits_le hm
    generalize hN : Builtin.Int.intBits (m : Int) = N at hb hb2
    refine ⟨_, rfl, _, rfl, _, by rw [hN], by omega, by omega, hT, fun H2 hT2 => ?_⟩
    have x2 : Ext H H2 := Ext.tabbed hT hT2
    have eN : ((N : Nat) : Int).toNat = N := Int.toNat_natCast N
    rw [eN]
    refine g_tup (Pw := fun i ys H4 => H4 = H2 ∧ ys = ((List.range i).filter fun q => m.testBit q).map fun (p : Nat) => V.int (p : Int)) (fun _ _ => src_range) (Nat.le_trans (Nat.le_trans hb2 hn) (by decide)) (fun i => m.testBit i) (fun _ => rfl) ⟨rfl, rfl⟩
      (fun i ys H4 ⟨_, e⟩ => ?_) (fun i ys H4 C ⟨e1, e2⟩ hi k2 => ?_) (fun i ys H4 ⟨e1, e2⟩ hi hk => ⟨e1, ?_⟩) (fun i ys H4 C ⟨e1, e2⟩ hi hk k2 => ?_) fun ys H4 ⟨e1, e2⟩ p hp => ?_
    · rw [e, List.length_map]
      have := List.length_filter_le (fun q => m.testBit q) (List.range i)
      rw [List.length_range] at this
      exact this
    · refine ⟨_, rfl, _, rfl, _, _, rfl, rfl, (by show (0 : Int) ≤ 0 + (i : Int); omega), _, _, rfl, rfl, m.testBit i, ?_, k2 H4 ⟨e1, e2⟩⟩
      show m.testBit i = (Builtin.bitAnd ((m : Int) / 2 ^ ((0 : Int) + (i : Int)).toNat) 1 != 0)
      have e : ((0 : Int) + (i : Int)).toNat = i := by omega
      rw [e, shr_and]
      cases m.testBit i <;> rfl
    · rw [e2, List.range_succ, List.filter_append, List.filter_cons_of_neg (by simp [hk])]
      simp
    · refine ⟨_, rfl, k2 _ H4 ⟨e1, ?_⟩⟩
      rw [e2, List.range_succ, List.filter_append, List.filter_cons_of_pos (by simp [hk]), List.map_append, Int.zero_add]
      rfl
    · subst e1
      have eb : ((List.range N).filter fun q => m.testBit q) = Mk.bits n m := Mk.bits_any hb hm
      rw [eb] at e2
      subst e2
      exact k p _ (x2.trans (Ext.new hp)) (x2.free hp) (dp_new hp (dpAll_lot _)) upd_same
end
section
variable {P : Program} {w : World} {K : PySem.W.Frag} {mg : Str → Option Value} {base : Heap}
def bordD (bs : List (Nat × Nat)) : PyData := .tuple (bs.map fun (b : Nat × Nat) => .tuple [.int (b.1 : Int), .int (b.2 : Int)])
def landD (fs : List Int) (bs : List (Nat × Nat)) : PyData := .tuple [.tuple (fs.map .int), bordD bs]
abbrev vsN (l : List Nat) : List V := l.map fun (m : Nat) => V.int (m : Int)
theorem vsN_get {l : List Nat} {i : Nat} (h : i < l.length) : (vsN l)[i]? = some (V.int ((l.getD i 0 : Nat) : Int)) := by
  rw [List.getElem?_map, List.getElem?_eq_getElem h, List.getD_eq_getElem?_getD, List.getElem?_eq_getElem h]
  rfl
theorem vsN_set (l : List Nat) (i x : Nat) : (vsN l).set i (V.int (x : Int)) = vsN (l.set i x) := by
  rw [← List.map_set]
theorem ixN_nat {n j : Nat} (h : j < n) : ixN n (j : Int) = some j := by
  unfold ixN
  rw [if_pos (by omega), if_pos (by omega)]
  simp
theorem or_pp (a b : Nat) : Builtin.bitOr (a : Int) (b : Int) = ((a ||| b : Nat) : Int) := by
  rw [Bits.bitOr_pp (by omega) (by omega), Int.toNat_natCast, Int.toNat_natCast]
theorem xor_pp (a b : Nat) : Builtin.bitXor (a : Int) (b : Int) = ((a ^^^ b : Nat) : Int) := by
  rw [Bits.bitXor_pp (by omega) (by omega), Int.toNat_natCast, Int.toNat_natCast]
theorem and_pp (a b : Nat) : Builtin.bitAnd (a : Int) (b : Int) = ((a &&& b : Nat) : Int) := by
  rw [PyProof.Rows.bitAnd_pp (by omega) (by omega), Int.toNat_natCast, Int.toNat_natCast]
theorem shl_pp (b : Nat) : (1 : Int) * 2 ^ ((b : Nat) : Int).toNat = ((2 ^ b : Nat) : Int) := by
  rw [Int.toNat_natCast, Int.one_mul]
  simp
/-! ### links_of -/
def spLinksOf (K : PySem.W.Frag) : Sp := fun vs H Q _ => ∃ (l : V) (fs : List Int) (bs : List (Nat × Nat)), vs = [l] ∧ Dp K H l (landD fs bs) ∧ fs.length ≤ 12 ∧ Mk.Bs fs.length bs ∧
  ∀ p H' lk, Ext H H' → H p = none → H' p = some (.lst (vsN lk)) → Mk.Lk fs.length bs lk → Q (.ref p) H'
theorem sc_links_of : FnScope ["land", "links", "low", "high"] ["land"] (defScope st_links_of) := ⟨rfl, rfl, rfl, by decide +kernel, rfl, by decide +kernel, by decide +kernel⟩
theorem ok_links_of {f : Addr} {fd : FuncData} (F : Fun K "links_of" "links_of" st_links_of f fd) (B : Bl mg) : FnOk P w K mg base CX0 1 f fd ["land"] (spLinksOf K) := by
  refine F.ok sc_links_of (fun vs H Q E h => ?_) (fun cdv A outer s H vs Q E hr h => ?_)
  · obtain ⟨l, fs, bs, rfl, _⟩ := h
    rfl
  · obtain ⟨l, fs, bs, rfl, hd, hn, hb, k⟩ := h
    refine ⟨_, pss_cons (ps_set (i := 1) sc_links_of.nd rfl (Or.inl rfl) (pe_op op_rep (pe_lst (pa_cons pe_int pa_nil)) (pe_callB call_len (by rfl) B.len PySem.boot_len (pa_cons (pe_ix ix_tup (pv 0) pe_int (fun _ _ => rfl)) pa_nil))))
      (pss_cons (ps_for PassesOwn.never rfl (pi_tup (pe_ix ix_tup (pv 0) pe_int (fun _ _ => rfl))) (pg_tup rfl (pgs_cons (pg_name (i := 2) sc_links_of.nd rfl (Or.inl rfl)) (pgs_cons (pg_name (i := 3) sc_links_of.nd rfl (Or.inl rfl)) pgs_nil)))
        (pss_cons (ps_augS (pv 1) (pv 2) get_list (pe_op op_shl pe_int (pv 3)) iop_or set_list)
        (pss_one (ps_augS (pv 1) (pv 3) get_list (pe_op op_shl pe_int (pv 2)) iop_or set_list))))
      (pss_one (ps_ret (pv 1)))), ?_⟩
    obtain ⟨a, xs, rfl, h1, h2⟩ := dp_tup hd
    obtain ⟨v0, h3, h4⟩ := dpAll_get (i := 0) h2 rfl
    obtain ⟨b, rfl, h5⟩ := dp_ints h4
    obtain ⟨v1, h6, h7⟩ := dpAll_get (i := 1) h2 rfl
    obtain ⟨c, ys, rfl, h8, h9⟩ := dp_tup h7
    -- [0] * len(land[0])
    refine ⟨by decide, fun q hq => ?_⟩
    have x1 : Ext H (upd H q (.lst [.int 0])) := Ext.new hq
    refine ⟨_, rfl, _, _, _, _, rfl, rfl, x1.sqT h1, atI_nat h3, _, fs.length, rfl, .inr ⟨_, x1.sqT h5, by simp⟩, q, fs.length, _, rfl, rfl, upd_same, by omega, by omega, ?_, fun p hp => ?_⟩
    · have e : ((fs.length : Nat) : Int).toNat = fs.length := Int.toNat_natCast _
      rw [e]
      have : 12 ≤ sizeLine := by decide
      simp only [List.length_cons, List.length_nil]
      omega
    have x2 : Ext H (upd (upd H q (.lst [.int 0])) p (.lst (List.replicate ((fs.length : Nat) : Int).toNat [V.int 0]).flatten)) := x1.trans (Ext.new hp)
    have hp0 : H p = none := x1.free hp
    have e0 : (List.replicate ((fs.length : Nat) : Int).toNat [V.int 0]).flatten = vsN (List.replicate fs.length 0) := by
      rw [Int.toNat_natCast]
      generalize fs.length = n
      induction n with
      | zero => rfl
      | succ n ih => rw [List.replicate_succ, List.flatten_cons, ih]; rfl
    -- for low, high in land[1]
    refine ⟨_, rfl, _, _, _, _, rfl, rfl, x2.sqT h1, atI_nat h6, c, rfl, ⟨_, x2.sqT h8⟩, for_tup (K := K) (a := c) (xs := ys) (fun i σ H2 => ∃ (lk : List Nat) (o1 o2 : Option V), σ = [some (.ref a), some (.ref p), o1, o2] ∧ Ext H H2 ∧ H2 p = some (.lst (vsN lk)) ∧ Mk.Lk fs.length (bs.take i) lk)
      ⟨_, none, none, rfl, x2, by rw [upd_same, e0], by rw [List.take_zero]; exact Mk.Lk.nil _⟩ (fun i σ H2 _ ⟨_, _, _, _, x, _⟩ => x.sqT h8) ?_ ?_⟩
    · rintro i x σ H2 hx ⟨lk, o1, o2, rfl, x3, hl3, L⟩
      obtain ⟨d, hd1, hd2⟩ := dpAll_get' h9 hx
      rw [List.getElem?_map] at hd1
      cases eb : bs[i]? with
      | none => rw [eb] at hd1; cases hd1
      | some be =>
        rw [eb] at hd1
        cases hd1
        obtain ⟨b1, b2⟩ := be
        obtain ⟨hb1, hb2⟩ := hb (b1, b2) (List.mem_of_getElem? eb)
        simp only at hb1 hb2
        obtain ⟨t, zs, rfl, h10, h11⟩ := dp_tup hd2
        have ez : zs = [V.int (b1 : Int), V.int (b2 : Int)] := by
          cases h11 with
          | cons z1 zr =>
            cases zr with
            | cons z2 zr =>
              cases zr
              rw [dp_int z1, dp_int z2]
        subst ez
        have hl := L.len
        have g1 : (vsN lk)[b1]? = some (V.int ((lk.getD b1 0 : Nat) : Int)) := vsN_get (by omega)
        refine ⟨t, _, rfl, x3.sqT h10, rfl, _, _, rfl, _, _, rfl, rfl, ?_⟩
        refine ⟨_, rfl, _, rfl, p, _, b1, _, rfl, rfl, hl3, g1, _, rfl, 1, (b2 : Int), rfl, rfl, ⟨by omega, by omega, by decide⟩, _, _, rfl, rfl, p, vsN lk, _, b1, rfl, rfl, hl3, by simp [ixN_nat (show b1 < lk.length by omega)], ?_⟩
        have e1 : V.int (Builtin.bitOr ((lk.getD b1 0 : Nat) : Int) (1 * 2 ^ ((b2 : Nat) : Int).toNat)) = V.int ((lk.getD b1 0 ||| 2 ^ b2 : Nat) : Int) := by rw [shl_pp, or_pp]
        dsimp only
        rw [e1, vsN_set]
        have g2 : (vsN (lk.set b1 (lk.getD b1 0 ||| 2 ^ b2)))[b2]? = some (V.int ((lk.getD b2 0 : Nat) : Int)) := by
          rw [vsN_get (by simp; omega), Mk.getD_set (by omega), if_neg (by omega)]
        refine ⟨_, rfl, _, rfl, p, _, b2, _, rfl, rfl, upd_same, g2, _, rfl, 1, (b1 : Int), rfl, rfl, ⟨by omega, by omega, by decide⟩, _, _, rfl, rfl, p, vsN (lk.set b1 (lk.getD b1 0 ||| 2 ^ b2)), _, b2, rfl, rfl, upd_same, by simp [ixN_nat (show b2 < lk.length by omega)], ?_⟩
        have e2 : V.int (Builtin.bitOr ((lk.getD b2 0 : Nat) : Int) (1 * 2 ^ ((b1 : Nat) : Int).toNat)) = V.int ((lk.getD b2 0 ||| 2 ^ b1 : Nat) : Int) := by rw [shl_pp, or_pp]
        dsimp only
        rw [e2, vsN_set]
        refine ⟨_, _, _, rfl, ?_, upd_same, ?_⟩
        · exact (x3.write hp0).write hp0
        · have et : bs.take (i + 1) = bs.take i ++ [(b1, b2)] := by
            rw [List.take_add_one, eb]
            rfl
          rw [et]
          exact L.add hb1 hb2
    · rintro σ H2 ⟨lk, o1, o2, rfl, x3, hl3, L⟩
      have el : ys.length = bs.length := by
        have := dpAll_len h9
        rw [List.length_map] at this
        exact this
      rw [el, List.take_length] at L
      exact ⟨_, rfl, k p H2 lk x3 hp0 hl3 L⟩
/-! ### reached -/
def spReached (K : PySem.W.Frag) (T1 : Addr) : Sp := fun vs H Q _ => ∃ (l : Addr) (lk : List Nat) (n start m : Nat) (bs : List (Nat × Nat)), vs = [.ref l, .int (start : Int), .int (m : Int)] ∧ H l = some (.lst (vsN lk)) ∧ Mk.Lk n bs lk ∧ Mk.Bs n bs ∧ n ≤ 12 ∧ m < 2 ^ n ∧
  (∀ q, start.testBit q = true → m.testBit q = true) ∧ TabG H T1 ∧ ∀ r H', Ext H H' → Mk.Rch bs m start r → Q (.int ((r : Nat) : Int)) H'
theorem sc_reached : FnScope ["links", "start", "mask", "seen", "fresh", "around", "place"] ["links", "start", "mask"] (defScope st_reached) := ⟨rfl, rfl, rfl, by decide +kernel, rfl, by decide +kernel, by decide +kernel⟩
theorem ok_reached {f T1 : Addr} {fd : FuncData} (F : Fun K "reached" "reached" st_reached f fd) (B : Bl mg) (c1 : Cal P w K mg base 6 "lot_of" ["mask"] (spLotOf K T1)) : FnOk P w K mg base CX0 7 f fd ["links", "start", "mask"] (spReached K T1) := by
  refine F.ok sc_reached (fun vs H Q E h => ?_) (fun cdv A outer s H vs Q E hr h => ?_)
  · obtain ⟨l, lk, n, start, m, bs, rfl, _⟩ := h
    rfl
  · obtain ⟨l, lk, n, start, m, bs, rfl, hl, L, hb, hn, hm, hs, hT, k⟩ := h
    refine ⟨_, pss_cons (ps_set (i := 3) sc_reached.nd rfl (Or.inl rfl) (pv 1)) (pss_cons (ps_set (i := 4) sc_reached.nd rfl (Or.inl rfl) (pv 1))
      (pss_cons (ps_while PassesOwn.never (pt_truth (pv 4) (by intro _; rfl))
        (pss_cons (ps_set (i := 5) sc_reached.nd rfl (Or.inl rfl) pe_int)
        (pss_cons (ps_for PassesOwn.never rfl (pi_tup (pe_cal c1 hr rfl (pa_cons (pv 4) pa_nil))) (pg_name (i := 6) sc_reached.nd rfl (Or.inl rfl))
          (pss_one (ps_aug (i := 5) sc_reached.nd rfl (Or.inl rfl) (pe_ix ix_list (pv 0) (pv 6) (fun _ _ => rfl)) iop_or)))
        (pss_cons (ps_set (i := 4) sc_reached.nd rfl (Or.inl rfl) (pe_op op_and (pv 5) (pe_op op_xor (pv 2) (pv 3))))
        (pss_one (ps_aug (i := 3) sc_reached.nd rfl (Or.inl rfl) (pv 4) iop_or))))))
      (pss_one (ps_ret (pv 3))))), ?_⟩
    refine ⟨_, rfl, _, rfl, ?_⟩
    dsimp only [gName, tSeq]
    refine while_by (fun σ H2 => ∃ (seen fresh : Nat) (o1 o2 : Option V), σ = [some (.ref l), some (.int (start : Int)), some (.int (m : Int)), some (.int (seen : Int)), some (.int (fresh : Int)), o1, o2] ∧ Ext H H2 ∧ Mk.Walk bs m start seen fresh)
      (fun σ _ => match σ with
        | [_, _, _, some (.int a), some (.int b), _, _] => 2 * (m - a.toNat) + (if b = 0 then 0 else 1)
        | _ => 0) ⟨start, start, none, none, rfl, Ext.refl H, Mk.Walk.begin hs⟩ ?_ ?_
    · rintro σ H2 ⟨seen, fresh, o1, o2, rfl, x2, W⟩
      refine ⟨_, rfl, decide (fresh ≠ 0), ?_, ?_⟩
      · show decide (fresh ≠ 0) = (((fresh : Nat) : Int) != 0)
        by_cases e : fresh = 0
        · subst e; rfl
        · have e2 : ((fresh : Int) != 0) = true := by simp; omega
          rw [e2]
          exact decide_eq_true e
      by_cases e : fresh = 0
      · rw [decide_eq_false (by simp [e])]
        subst e
        exact iteF ⟨_, rfl, k seen H2 x2 W.fin⟩
      · rw [decide_eq_true e]
        refine iteT ?_
        have hf : fresh < 2 ^ n := Mk.lt_of_sub hm fun q hq => by
          obtain ⟨_, _, c⟩ := W.sound q (W.sub q hq)
          exact c.snd
        refine ⟨_, rfl, fresh, n, rfl, hf, by omega, x2.tabs _ hT, fun p H3 x3 hp hd3 hp3 => ?_⟩
        have x13 := x2.trans x3
        refine ⟨p, rfl, ⟨_, SqT.of hp3⟩, for_tup (K := K) (a := p) (xs := vsN (Mk.bits n fresh)) (fun i σ H4 => ∃ (o2 : Option V), σ = [some (.ref l), some (.int (start : Int)), some (.int (m : Int)), some (.int (seen : Int)), some (.int (fresh : Int)), some (.int ((((Mk.bits n fresh).take i).foldl (fun a q => a ||| lk.getD q 0) 0 : Nat) : Int)), o2] ∧ H4 = H3)
          ⟨_, rfl, rfl⟩ (fun i σ H4 _ ⟨_, _, e4⟩ => by rw [e4]; exact SqT.of hp3) ?_ ?_⟩
        · rintro i x σ H4 hx ⟨o2, rfl, rfl⟩
          rw [List.getElem?_map] at hx
          cases eb : (Mk.bits n fresh)[i]? with
          | none => rw [eb] at hx; cases hx
          | some q =>
            rw [eb] at hx
            cases hx
            have hq := (Mk.mem_bits.mp (List.mem_of_getElem? eb)).1
            have hll := L.len
            refine ⟨_, rfl, _, rfl, _, rfl, _, _, _, _, rfl, rfl, SqL.of (x13.lst hl), atI_nat (vsN_get (show q < lk.length by omega)), _, _, rfl, rfl, some (V.int (q : Int)), ?_, rfl⟩
            have et : (Mk.bits n fresh).take (i + 1) = (Mk.bits n fresh).take i ++ [q] := by
              rw [List.take_add_one, eb]
              rfl
            dsimp only [List.set]
            rw [et, List.foldl_append, or_pp]
            rfl
        · rintro σ H4 ⟨o2, rfl, rfl⟩
          have elen : (vsN (Mk.bits n fresh)).length = (Mk.bits n fresh).length := List.length_map ..
          rw [elen, List.take_length]
          generalize har : (Mk.bits n fresh).foldl (fun a q => a ||| lk.getD q 0) 0 = around
          have ha : ∀ r, around.testBit r = true ↔ ∃ q, fresh.testBit q = true ∧ Mk.adj bs q r = true := fun r => by
            rw [← har]
            exact Mk.around_bits L hf r
          have W2 := W.turn ha
          refine ⟨_, rfl, _, rfl, _, rfl, _, _, rfl, rfl, _, _, rfl, rfl, ?_⟩
          refine ⟨_, rfl, _, rfl, _, _, rfl, rfl, ?_⟩
          have e1 : Builtin.bitAnd (around : Int) (Builtin.bitXor (m : Int) (seen : Int)) = ((around &&& (m ^^^ seen) : Nat) : Int) := by rw [xor_pp, and_pp]
          have e2 : Builtin.bitOr (seen : Int) (Builtin.bitAnd (around : Int) (Builtin.bitXor (m : Int) (seen : Int))) = ((seen ||| (around &&& (m ^^^ seen)) : Nat) : Int) := by rw [e1, or_pp]
          refine ⟨⟨_, _, some (V.int (around : Int)), o2, by dsimp only [List.set]; rw [e2, e1], x13, W2⟩, ?_⟩
          show 2 * (m - (Builtin.bitOr (seen : Int) (Builtin.bitAnd (around : Int) (Builtin.bitXor (m : Int) (seen : Int)))).toNat) + (if Builtin.bitAnd (around : Int) (Builtin.bitXor (m : Int) (seen : Int)) = 0 then 0 else 1) < 2 * (m - ((seen : Nat) : Int).toNat) + (if ((fresh : Nat) : Int) = 0 then 0 else 1)
          rw [e2, e1, Int.toNat_natCast, Int.toNat_natCast, if_neg (show ¬ ((fresh : Nat) : Int) = 0 by omega)]
          have hle := W2.le
          by_cases hz : around &&& (m ^^^ seen) = 0
          · rw [hz, if_pos (show ((0 : Nat) : Int) = 0 from rfl), Nat.or_zero]
            omega
          · rw [if_neg (by omega)]
            have hdj : seen &&& (around &&& (m ^^^ seen)) = 0 := Mk.eq_of_bits fun q => by
              rw [Nat.testBit_and, Nat.testBit_and, Nat.testBit_xor, Nat.zero_testBit]
              have hsm : seen.testBit q = true → m.testBit q = true := fun hq => by
                obtain ⟨_, _, c⟩ := W.sound q hq
                exact c.snd
              cases h1 : seen.testBit q <;> cases h2 : m.testBit q <;> simp_all
            have := Mk.or_gt hdj hz
            omega
    · rintro σ H2 Q1 Q2 hq ⟨v, e, kk, ht, q⟩
      exact ⟨v, e, kk, ht, hq _ _ q⟩
end
section
variable {P : Program} {w : World} {K : PySem.W.Frag} {mg : Str → Option Value} {base : Heap}
/-! ### piece_masks -/
def spPieceMasks (K : PySem.W.Frag) (T1 : Addr) : Sp := fun vs H Q _ => ∃ (l : Addr) (lk : List Nat) (n m : Nat) (bs : List (Nat × Nat)), vs = [.ref l, .int (m : Int)] ∧ H l = some (.lst (vsN lk)) ∧ Mk.Lk n bs lk ∧ Mk.Bs n bs ∧ n ≤ 12 ∧ m < 2 ^ n ∧
  TabG H T1 ∧ ∀ p H' ps, Ext H H' → H p = none → H' p = some (.lst (vsN ps)) → Mk.Pcs bs m ps → Q (.ref p) H'
/-! ### is_border: of a right border -/
def spIsBorder (K : PySem.W.Frag) : Sp := fun vs H Q _ => ∃ (v : V) (b1 b2 n : Nat), vs = [v, .int (n : Int)] ∧ Dp K H v (.tuple [.int (b1 : Int), .int (b2 : Int)]) ∧ b1 < b2 ∧ b2 < n ∧ Q (.bl true) H
theorem sc_is_border : FnScope ["value", "many", "low", "high"] ["value", "many"] (defScope st_is_border) := ⟨rfl, rfl, rfl, by decide +kernel, rfl, by decide +kernel, by decide +kernel⟩
theorem ok_is_border {f : Addr} {fd : FuncData} (F : Fun K "is_border" "is_border" st_is_border f fd) (B : Bl mg) (c1 : Cal P w K mg base 1 "is_integer" ["value", "low", "high"] (spIsInteger K)) : FnOk P w K mg base CX0 2 f fd ["value", "many"] (spIsBorder K) := by
  refine F.ok sc_is_border (fun vs H Q E h => ?_) (fun cdv A outer s H vs Q E hr h => ?_)
  · obtain ⟨v, b1, b2, n, rfl, _⟩ := h
    rfl
  · obtain ⟨v, b1, b2, n, rfl, hd, h12, h2n, k⟩ := h
    refine ⟨_, pss_cons (ps_if (PW.pt (pw_or (pt_cmpR op_neTy (pe_callTy call_type1 rfl B.type (by decide +kernel) (pa_cons (pv 0) pa_nil)) (pe_bltn rfl B.tuple (by decide +kernel) (v := .ty "tuple") rfl) (nomark _))
        (pw_or1 (pt_cmpR op_ne (pe_callB call_len (by rfl) B.len PySem.boot_len (pa_cons (pv 0) pa_nil)) pe_int (nomark _))))) (pss_one (ps_ret pe_bl)) pss_nil)
      (pss_cons (ps_asg (pv 0) (pg_tup rfl (pgs_cons (pg_name (i := 2) sc_is_border.nd rfl (Or.inl rfl)) (pgs_cons (pg_name (i := 3) sc_is_border.nd rfl (Or.inl rfl)) pgs_nil))))
      (pss_one (ps_ret (pe_and (pe_cal c1 hr rfl (pa_cons (pv 3) (pa_cons pe_int (pa_cons (pe_op op_sub (pv 1) pe_int) pa_nil)))) (pe_one (pe_cal c1 hr rfl (pa_cons (pv 2) (pa_cons pe_int (pa_cons (pe_op op_sub (pv 3) pe_int) pa_nil))))))))), ?_⟩
    obtain ⟨t, zs, rfl, h1, h2⟩ := dp_tup hd
    have ez : zs = [V.int (b1 : Int), V.int (b2 : Int)] := by
      cases h2 with
      | cons z1 zr =>
        cases zr with
        | cons z2 zr =>
          cases zr
          rw [dp_int z1, dp_int z2]
    subst ez
    refine ⟨_, rfl, _, "tuple", rfl, .tup h1, "tuple", "tuple", rfl, rfl, by decide, by decide, false, rfl, ?_⟩
    refine iteF ⟨_, rfl, _, 2, rfl, .inr ⟨_, h1, rfl⟩, rfl, false, rfl, iteF ?_⟩
    refine ⟨_, rfl, t, _, rfl, h1, rfl, _, _, rfl, _, _, rfl, rfl, ?_⟩
    refine ⟨_, rfl, _, rfl, _, _, rfl, rfl, _, .int (b2 : Int), 0, (n : Int) - 1, rfl, .int _, true, ?_, iteT ?_⟩
    · show V.bl (decide (_ ∧ _)) = _
      rw [decide_eq_true (by omega)]
    · refine ⟨_, rfl, _, rfl, _, _, rfl, rfl, _, .int (b1 : Int), 0, (b2 : Int) - 1, rfl, .int _, ?_⟩
      show Q (V.bl (decide (_ ∧ _))) H
      rw [decide_eq_true (by omega)]
      exact k
end
theorem lex2_false {a b c d : Int} (h : c < a ∨ (c = a ∧ d < b)) :
    Ob.lexAt (fun j => decide ([a, b].getD j 0 = [c, d].getD j 0)) (fun j => decide ([a, b].getD j 0 ≤ [c, d].getD j 0)) (decide ([a, b].length ≤ [c, d].length)) 0 (min [a, b].length [c, d].length) = false := by
  show (if decide (a = c) = true then (if decide (b = d) = true then _ else decide (b ≤ d)) else decide (a ≤ c)) = false
  by_cases e1 : a = c
  · rw [decide_eq_true e1, if_pos rfl]
    have e2 : ¬ b = d := by omega
    rw [decide_eq_false e2, if_neg Bool.false_ne_true]
    apply decide_eq_false
    omega
  · rw [decide_eq_false e1, if_neg Bool.false_ne_true]
    apply decide_eq_false
    omega
/-- the three numbers of the module -/
structure Nums (mg : Str → Option Value) : Prop where
  fp : ∃ t, mg "FEWEST_PLACES" = some (.int 2 t)
  mp : ∃ t, mg "MOST_PLACES" = some (.int 12 t)
  mf : ∃ t, mg "MOST_FOLK" = some (.int 1000000 t)
def ltP (a b : Nat × Nat) : Prop := a.1 < b.1 ∨ (a.1 = b.1 ∧ a.2 < b.2)
structure LandOk (fs : List Int) (bs : List (Nat × Nat)) : Prop where
  few : 2 ≤ fs.length
  most : fs.length ≤ 12
  folk : ∀ z ∈ fs, 0 ≤ z ∧ z ≤ 1000000
  bord : Mk.Bs fs.length bs
  asc : bs.Pairwise ltP
theorem bs_len {n : Nat} (hn : n ≤ 12) {bs : List (Nat × Nat)} (hb : Mk.Bs n bs) (h : bs.Pairwise ltP) : bs.length ≤ 1000 := by
  -- coded by one number below 13 * 13, ascending
  have key : ∀ (l : List Nat) (m : Nat), l.Pairwise (· < ·) → (∀ x ∈ l, x < m) → l.length ≤ m := by
    intro l
    induction l with
    | nil => intro m _ _; exact Nat.zero_le _
    | cons a r ih =>
      intro m hp hm
      rw [List.pairwise_cons] at hp
      have h1 := ih (m - a - 1) |> fun _ => hm a List.mem_cons_self
      have h2 : ∀ (r : List Nat) (lo m : Nat), r.Pairwise (· < ·) → (∀ x ∈ r, lo ≤ x ∧ x < m) → r.length ≤ m - lo := by
        intro r
        induction r with
        | nil => intro lo m _ _; exact Nat.zero_le _
        | cons b r ih =>
          intro lo m hp hm
          rw [List.pairwise_cons] at hp
          have h3 := hm b List.mem_cons_self
          have := ih (b + 1) m hp.2 fun x hx => ⟨hp.1 x hx, (hm x (List.mem_cons_of_mem _ hx)).2⟩
          rw [List.length_cons]
          omega
      have h3 := h2 r (a + 1) m hp.2 fun x hx => ⟨hp.1 x hx, hm x (List.mem_cons_of_mem _ hx)⟩
      rw [List.length_cons]
      omega
  have h2 := key (bs.map fun (b : Nat × Nat) => 13 * b.1 + b.2) 169 (by
    rw [List.pairwise_map]
    refine List.Pairwise.imp_of_mem (fun {a b} ha hb' z => ?_) h
    have := hb a ha
    have := hb b hb'
    rcases z with z | z
    · omega
    · omega) fun x hx => by
    obtain ⟨b, h1, rfl⟩ := List.mem_map.mp hx
    have := hb b h1
    omega
  rw [List.length_map] at h2
  omega
section
variable {P : Program} {w : World} {K : PySem.W.Frag} {mg : Str → Option Value} {base : Heap}
theorem dp_pair {H : Hp} {v : V} {b : Nat × Nat} (h : Dp K H v (.tuple [.int (b.1 : Int), .int (b.2 : Int)])) : ∃ t, v = .ref t ∧ SqT K H t [V.int (b.1 : Int), V.int (b.2 : Int)] := by
  obtain ⟨t, zs, rfl, h1, h2⟩ := dp_tup h
  cases h2 with
  | cons z1 zr =>
    cases zr with
    | cons z2 zr =>
      cases zr
      rw [dp_int z1, dp_int z2] at h1
      exact ⟨t, rfl, h1⟩
theorem dp_bord {H : Hp} {v : V} {bs : List (Nat × Nat)} (h : Dp K H v (bordD bs)) : ∃ c ys, v = .ref c ∧ SqT K H c ys ∧ ys.length = bs.length ∧ ∀ (i : Nat) (b : Nat × Nat), bs[i]? = some b → ∃ u, ys[i]? = some u ∧ Dp K H u (.tuple [.int (b.1 : Int), .int (b.2 : Int)]) := by
  obtain ⟨c, ys, rfl, h1, h2⟩ := dp_tup h
  refine ⟨c, ys, rfl, h1, by have := dpAll_len h2; rw [List.length_map] at this; exact this, fun i b e => ?_⟩
  exact dpAll_get h2 (by rw [List.getElem?_map, e]; rfl)
/-! ### fault_of_folk, fault_of_borders, fault_of_land, check_land: of right lands -/
def spFaultFolk (K : PySem.W.Frag) : Sp := fun vs H Q _ => ∃ (v : V) (fs : List Int), vs = [v] ∧ Dp K H v (.tuple (fs.map .int)) ∧ 2 ≤ fs.length ∧ fs.length ≤ 12 ∧ (∀ z ∈ fs, 0 ≤ z ∧ z ≤ 1000000) ∧ Q .non H
theorem sc_fault_of_folk : FnScope ["folk", "k"] ["folk"] (defScope st_fault_of_folk) := ⟨rfl, rfl, rfl, by decide +kernel, rfl, by decide +kernel, by decide +kernel⟩
theorem ok_fault_of_folk {f : Addr} {fd : FuncData} (F : Fun K "fault_of_folk" "fault_of_folk" st_fault_of_folk f fd) (B : Bl mg) (N : Nums mg) (c1 : Cal P w K mg base 1 "is_integer" ["value", "low", "high"] (spIsInteger K)) : FnOk P w K mg base CX0 2 f fd ["folk"] (spFaultFolk K) := by
  refine F.ok sc_fault_of_folk (fun vs H Q E h => ?_) (fun cdv A outer s H vs Q E hr h => ?_)
  · obtain ⟨v, fs, rfl, _⟩ := h
    rfl
  · obtain ⟨v, fs, rfl, hd, h2, h12, hf, k⟩ := h
    obtain ⟨⟨t1, e1⟩, ⟨t2, e2⟩, ⟨t3, e3⟩⟩ := N
    refine ⟨_, pss_cons (ps_if (PW.pt (pw_or (pt_cmpR op_neTy (pe_callTy call_type1 rfl B.type (by decide +kernel) (pa_cons (pv 0) pa_nil)) (pe_bltn rfl B.tuple (by decide +kernel) (v := .ty "tuple") rfl) (nomark _))
        (pw_or1 (pt_not (pt_chain op_le op_le (pe_glob rfl e1 (v := .int 2) ⟨_, rfl⟩) (pe_callB call_len (by rfl) B.len PySem.boot_len (pa_cons (pv 0) pa_nil)) (pe_glob rfl e2 (v := .int 12) ⟨_, rfl⟩)))))) pss_never pss_nil)
      (pss_cons (ps_for PassesOwn.never rfl (pi_range1 rfl B.range (pa_cons (pe_callB call_len (by rfl) B.len PySem.boot_len (pa_cons (pv 0) pa_nil)) pa_nil)) (pg_name (i := 1) sc_fault_of_folk.nd rfl (Or.inl rfl))
        (pss_one (ps_if (pt_not (pt_val (pe_cal c1 hr rfl (pa_cons (pe_ix ix_tup (pv 0) (pv 1) (fun _ _ => rfl)) (pa_cons pe_int (pa_cons (pe_glob rfl e3 (v := .int 1000000) ⟨_, rfl⟩) pa_nil)))) (by intro _; rfl))) pss_never pss_nil)))
      (pss_one (ps_ret pe_non))), ?_⟩
    obtain ⟨a, rfl, h1⟩ := dp_ints hd
    refine ⟨_, rfl, _, "tuple", rfl, .tup h1, "tuple", "tuple", rfl, rfl, by decide, by decide, false, rfl, ?_⟩
    refine iteF ⟨_, rfl, _, fs.length, rfl, .inr ⟨_, h1, by simp⟩, _, _, rfl, rfl, true, ?_, iteT ⟨_, _, rfl, rfl, true, ?_, iteF ?_⟩⟩
    · show V.bl (decide _) = _
      rw [decide_eq_true (by omega)]
    · show V.bl (decide _) = _
      rw [decide_eq_true (by omega)]
    refine ⟨_, rfl, _, fs.length, rfl, .inr ⟨_, h1, by simp⟩, _, rfl, by omega, by omega, ?_⟩
    rw [Int.toNat_natCast]
    refine for_range (n := fs.length) (fun i σ H2 => ∃ o, σ = [some (.ref a), o] ∧ H2 = H) ⟨_, rfl, rfl⟩ ?_ ?_
    · rintro i σ H2 hi ⟨o, rfl, rfl⟩
      have g1 : (fs.map V.int)[i]? = some (V.int fs[i]) := by rw [List.getElem?_map, List.getElem?_eq_getElem hi]; rfl
      refine ⟨_, rfl, _, rfl, _, _, _, _, rfl, rfl, h1, by rw [Int.zero_add]; exact atI_nat g1, _, .int fs[i], 0, 1000000, rfl, .int _, true, ?_, iteF ⟨_, rfl, rfl⟩⟩
      show V.bl (decide _) = _
      rw [decide_eq_true (hf _ (List.getElem_mem hi))]
    · rintro σ H2 ⟨o, rfl, rfl⟩
      exact k
def spFaultBord (K : PySem.W.Frag) : Sp := fun vs H Q _ => ∃ (v : V) (bs : List (Nat × Nat)) (n : Nat), vs = [v, .int (n : Int)] ∧ Dp K H v (bordD bs) ∧ n ≤ 12 ∧ Mk.Bs n bs ∧ bs.Pairwise ltP ∧ Q .non H
theorem sc_fault_of_borders : FnScope ["borders", "many", "k"] ["borders", "many"] (defScope st_fault_of_borders) := ⟨rfl, rfl, rfl, by decide +kernel, rfl, by decide +kernel, by decide +kernel⟩
theorem ok_fault_of_borders {f : Addr} {fd : FuncData} (F : Fun K "fault_of_borders" "fault_of_borders" st_fault_of_borders f fd) (B : Bl mg) (c1 : Cal P w K mg base 2 "is_border" ["value", "many"] (spIsBorder K)) : FnOk P w K mg base CX0 3 f fd ["borders", "many"] (spFaultBord K) := by
  refine F.ok sc_fault_of_borders (fun vs H Q E h => ?_) (fun cdv A outer s H vs Q E hr h => ?_)
  · obtain ⟨v, bs, n, rfl, _⟩ := h
    rfl
  · obtain ⟨v, bs, n, rfl, hd, hn, hb, ha, k⟩ := h
    refine ⟨_, pss_cons (ps_if (pt_cmpR op_neTy (pe_callTy call_type1 rfl B.type (by decide +kernel) (pa_cons (pv 0) pa_nil)) (pe_bltn rfl B.tuple (by decide +kernel) (v := .ty "tuple") rfl) (nomark _)) pss_never pss_nil)
      (pss_cons (ps_for PassesOwn.never rfl (pi_range1 rfl B.range (pa_cons (pe_callB call_len (by rfl) B.len PySem.boot_len (pa_cons (pv 0) pa_nil)) pa_nil)) (pg_name (i := 2) sc_fault_of_borders.nd rfl (Or.inl rfl))
        (pss_cons (ps_if (pt_not (pt_val (pe_cal c1 hr rfl (pa_cons (pe_ix ix_tup (pv 0) (pv 2) (fun _ _ => rfl)) (pa_cons (pv 1) pa_nil))) (by intro _; rfl))) pss_never pss_nil)
        (pss_one (ps_if (PW.pt (pw_and (pt_cmpR op_gt (pv 2) pe_int (nomark _)) (pw_and1 (pt_cmpR (op_leT hr.units0) (pe_ix ix_tup (pv 0) (pv 2) (fun _ _ => rfl)) (pe_ix ix_tup (pv 0) (pe_op op_sub (pv 2) pe_int) (fun _ _ => rfl)) (nomark _))))) pss_never pss_nil))))
      (pss_one (ps_ret pe_non))), ?_⟩
    obtain ⟨c, ys, rfl, h1, hl, hg⟩ := dp_bord hd
    have hbl := bs_len hn hb ha
    refine ⟨_, rfl, _, "tuple", rfl, .tup h1, "tuple", "tuple", rfl, rfl, by decide, by decide, false, rfl, iteF ?_⟩
    refine ⟨_, rfl, _, bs.length, rfl, .inr ⟨_, h1, hl.symm⟩, _, rfl, by omega, by omega, ?_⟩
    rw [Int.toNat_natCast]
    refine for_range (n := bs.length) (fun i σ H2 => ∃ o, σ = [some (.ref c), some (.int (n : Int)), o] ∧ H2 = H) ⟨_, rfl, rfl⟩ ?_ ?_
    · rintro i σ H2 hi ⟨o, rfl, rfl⟩
      obtain ⟨u, hu, hu2⟩ := hg i _ (List.getElem?_eq_getElem hi)
      have hbi := hb _ (List.getElem_mem hi)
      refine ⟨_, rfl, _, rfl, _, _, _, _, rfl, rfl, h1, by rw [Int.zero_add]; exact atI_nat hu, _, rfl, _, bs[i].1, bs[i].2, n, rfl, hu2, hbi.1, hbi.2, true, rfl, iteF ?_⟩
      refine ⟨_, rfl, _, _, rfl, rfl, decide (0 < i), ?_, ?_⟩
      · show V.bl (decide ((0 : Int) < (0 : Int) + (i : Int))) = _
        congr 1
        apply decide_eq_decide.mpr
        omega
      by_cases hi0 : 0 < i
      · rw [decide_eq_true hi0]
        refine iteT ?_
        obtain ⟨u', hu', hu2'⟩ := hg (i - 1) _ (List.getElem?_eq_getElem (show i - 1 < bs.length by omega))
        obtain ⟨t, rfl, q1⟩ := dp_pair hu2
        obtain ⟨t', rfl, q2⟩ := dp_pair hu2'
        have hlt : ltP bs[i - 1] bs[i] := List.pairwise_iff_getElem.mp ha _ _ _ _ (by omega)
        refine ⟨_, rfl, _, rfl, _, _, _, _, rfl, rfl, h1, by rw [Int.zero_add]; exact atI_nat hu, _, rfl, _, rfl, _, _, rfl, rfl, _, _, _, _, rfl, rfl, h1, (by
          have e : (0 : Int) + (i : Int) - 1 = ((i - 1 : Nat) : Int) := by omega
          rw [e]; exact atI_nat hu'), t, t', [(bs[i].1 : Int), (bs[i].2 : Int)], [(bs[i - 1].1 : Int), (bs[i - 1].2 : Int)], rfl, rfl, q1, q2, false, ?_, iteF ⟨_, rfl, rfl⟩⟩
        congr 1
        unfold ltP at hlt
        apply lex2_false
        omega
      · rw [decide_eq_false hi0]
        exact iteF (iteF ⟨_, rfl, rfl⟩)
    · rintro σ H2 ⟨o, rfl, rfl⟩
      exact k
def spFaultLand (K : PySem.W.Frag) : Sp := fun vs H Q _ => ∃ (v : V) (fs : List Int) (bs : List (Nat × Nat)), vs = [v] ∧ Dp K H v (landD fs bs) ∧ LandOk fs bs ∧ Q .non H
theorem sc_fault_of_land : FnScope ["value", "folk", "borders", "place"] ["value"] (defScope st_fault_of_land) := ⟨rfl, rfl, rfl, by decide +kernel, rfl, by decide +kernel, by decide +kernel⟩
theorem ok_fault_of_land {f : Addr} {fd : FuncData} (F : Fun K "fault_of_land" "fault_of_land" st_fault_of_land f fd) (B : Bl mg) (c1 : Cal P w K mg base 2 "fault_of_folk" ["folk"] (spFaultFolk K)) (c2 : Cal P w K mg base 3 "fault_of_borders" ["borders", "many"] (spFaultBord K)) : FnOk P w K mg base CX0 4 f fd ["value"] (spFaultLand K) := by
  refine F.ok sc_fault_of_land (fun vs H Q E h => ?_) (fun cdv A outer s H vs Q E hr h => ?_)
  · obtain ⟨v, fs, bs, rfl, _⟩ := h
    rfl
  · obtain ⟨v, fs, bs, rfl, hd, ok, k⟩ := h
    refine ⟨_, pss_cons (ps_if (PW.pt (pw_or (pt_cmpR op_neTy (pe_callTy call_type1 rfl B.type (by decide +kernel) (pa_cons (pv 0) pa_nil)) (pe_bltn rfl B.tuple (by decide +kernel) (v := .ty "tuple") rfl) (nomark _))
        (pw_or1 (pt_cmpR op_ne (pe_callB call_len (by rfl) B.len PySem.boot_len (pa_cons (pv 0) pa_nil)) pe_int (nomark _))))) pss_never pss_nil)
      (pss_cons (ps_asg (pv 0) (pg_tup rfl (pgs_cons (pg_name (i := 1) sc_fault_of_land.nd rfl (Or.inl rfl)) (pgs_cons (pg_name (i := 2) sc_fault_of_land.nd rfl (Or.inl rfl)) pgs_nil))))
      (pss_cons (ps_set (i := 3) sc_fault_of_land.nd rfl (Or.inl rfl) (pe_cal c1 (hr.mono (by decide)) rfl (pa_cons (pv 1) pa_nil)))
      (pss_cons (ps_if (pt_cmpR op_isN (pv 3) pe_non (nomark _)) (pss_one (ps_set (i := 3) sc_fault_of_land.nd rfl (Or.inl rfl) (pe_cal c2 hr rfl (pa_cons (pv 2) (pa_cons (pe_callB call_len (by rfl) B.len PySem.boot_len (pa_cons (pv 1) pa_nil)) pa_nil))))) pss_nil)
      (pss_one (ps_ret (pv 3)))))), ?_⟩
    obtain ⟨a, xs, rfl, h1, h2⟩ := dp_tup hd
    have ez : ∃ v0 v1, xs = [v0, v1] ∧ Dp K H v0 (.tuple (fs.map .int)) ∧ Dp K H v1 (bordD bs) := by
      cases h2 with
      | cons z1 zr =>
        cases zr with
        | cons z2 zr =>
          cases zr
          exact ⟨_, _, rfl, z1, z2⟩
    obtain ⟨v0, v1, rfl, d0, d1⟩ := ez
    obtain ⟨b, rfl, h5⟩ := dp_ints d0
    refine ⟨_, rfl, _, "tuple", rfl, .tup h1, "tuple", "tuple", rfl, rfl, by decide, by decide, false, rfl, ?_⟩
    refine iteF ⟨_, rfl, _, 2, rfl, .inr ⟨_, h1, rfl⟩, rfl, false, rfl, iteF ?_⟩
    refine ⟨_, rfl, a, _, rfl, h1, rfl, _, _, rfl, _, _, rfl, rfl, ?_⟩
    refine ⟨_, rfl, _, fs, rfl, d0, ok.few, ok.most, ok.folk, ?_⟩
    refine ⟨_, rfl, rfl, true, rfl, iteT ?_⟩
    refine ⟨_, rfl, _, rfl, _, fs.length, rfl, .inr ⟨_, h5, by simp⟩, _, bs, fs.length, rfl, d1, ok.most, ok.bord, ok.asc, ?_⟩
    exact ⟨_, rfl, k⟩
def spCheckLand (K : PySem.W.Frag) : Sp := spFaultLand K
theorem sc_check_land : FnScope ["land", "place"] ["land"] (defScope st_check_land) := ⟨rfl, rfl, rfl, by decide +kernel, rfl, by decide +kernel, by decide +kernel⟩
theorem ok_check_land {f : Addr} {fd : FuncData} (F : Fun K "check_land" "check_land" st_check_land f fd) (c1 : Cal P w K mg base 4 "fault_of_land" ["value"] (spFaultLand K)) : FnOk P w K mg base CX0 5 f fd ["land"] (spFaultLand K) := by
  refine F.ok sc_check_land (fun vs H Q E h => ?_) (fun cdv A outer s H vs Q E hr h => ?_)
  · obtain ⟨v, fs, bs, rfl, _⟩ := h
    rfl
  · obtain ⟨v, fs, bs, rfl, hd, ok, k⟩ := h
    refine ⟨_, pss_cons (ps_set (i := 1) sc_check_land.nd rfl (Or.inl rfl) (pe_cal c1 hr rfl (pa_cons (pv 0) pa_nil))) (pss_one (ps_if (pt_cmpR op_notN (pv 1) pe_non (nomark _)) pss_never pss_nil)), ?_⟩
    exact ⟨_, rfl, v, fs, bs, rfl, hd, ok, _, rfl, rfl, false, rfl, iteF k⟩
/-! ### check_lot -/
def spCheckLot (K : PySem.W.Frag) (T1 T2 : Addr) : Sp := fun vs H Q _ => ∃ (l v : V) (fs : List Int) (bd : PyData) (ps : List Nat), vs = [l, v] ∧ Dp K H l (.tuple [.tuple (fs.map .int), bd]) ∧ fs.length ≤ 12 ∧ Dp K H v (lotD ps) ∧ isLot fs.length ps = true ∧ ps.length ≤ 12 ∧
  TabG H T1 ∧ TabG H T2 ∧ ∀ H', Ext H H' → Q .non H'
end
section
variable {P : Program} {w : World} {K : PySem.W.Frag} {mg : Str → Option Value} {base : Heap}
/-! ### cut_places -/
theorem asc_pair : ∀ {ns : List Int}, asc ns = true → ns.Pairwise (· < ·)
  | [], _ => .nil
  | [_], _ => by simp
  | a :: b :: r, h => by
    have h2 : (decide (a < b) && asc (b :: r)) = true := h
    rw [Bool.and_eq_true, decide_eq_true_eq] at h2
    have ih := asc_pair h2.2
    rw [List.pairwise_cons] at ih ⊢
    refine ⟨fun x hx => ?_, by rw [List.pairwise_cons]; exact ih⟩
    rcases List.mem_cons.mp hx with e | e
    · rw [e]; exact h2.1
    · have := ih.1 x e
      omega
structure LotOk (n : Nat) (ps : List Nat) : Prop where
  ne : ps ≠ []
  lt : ∀ p ∈ ps, p < n
  asc : ps.Pairwise (· < ·)
theorem pair_asc : ∀ {ns : List Int}, ns.Pairwise (· < ·) → asc ns = true
  | [], _ => rfl
  | [_], _ => rfl
  | a :: b :: r, h => by
    rw [List.pairwise_cons] at h
    show (decide (a < b) && asc (b :: r)) = true
    rw [pair_asc h.2, decide_eq_true (h.1 b List.mem_cons_self)]
    rfl
theorem LotOk.is {n : Nat} {ps : List Nat} (h : LotOk n ps) : isLot n ps = true := by
  unfold isLot
  have e1 : ps.isEmpty = false := by cases ps with
    | nil => exact absurd rfl h.ne
    | cons _ _ => rfl
  have e2 : (ps.all fun p => decide (p < n)) = true := List.all_eq_true.mpr fun p hp => decide_eq_true (h.lt p hp)
  have e3 : Wd.asc (ps.map fun (p : Nat) => (p : Int)) = true := Wd.pair_asc (by
    rw [List.pairwise_map]
    exact h.asc.imp fun z => by omega)
  rw [e1, e2, e3]
  rfl
theorem LotOk.len {n : Nat} {ps : List Nat} (h : LotOk n ps) : ps.length ≤ n := by
  have e := Mk.bits_mask h.asc h.lt
  rw [← e]
  exact Mk.bits_len _ _
end
end Wd

set_option Elab.async false
set_option linter.all false
set_option maxRecDepth 100000
set_option maxHeartbeats 4000000
/-! Ly: what the laws' own steps want: heaps that change at some lists alone; membership in tuples of data. -/
namespace Bx
open PySem PySem.Spec PyProof.Rows L2
section
variable {X : Cx}
def rInDT (K : PySem.W.Frag) (neg : Bool) : R2 := fun x y H Q => ∃ d ds, Dp K H x d ∧ Dp K H y (.tuple ds) ∧ SeqAt.shaped d = true ∧ SeqAt.shaped (.tuple ds) = true ∧ Q (.bl (neg ^^ (ds.any fun z => PyData.eqv z d))) H
theorem op_inDT (hu : X.A.units + 65 < cLine) : OpR X (compareOp .In) (rInDT X.K false) := by
  intro pins s σ H x y v u Q I rx ry h
  obtain ⟨d, ds, hd, he, sd, se, q⟩ := h
  obtain ⟨as, r1⟩ := Dp.reads I d x v hd rx
  obtain ⟨bs, r2⟩ := Dp.reads I (.tuple ds) y u he ry
  refine SeqAt.in_tuple_reads r2 r1 (SeqAt.canLay_of_shaped se) (SeqAt.canLay_of_shaped sd) (PyProof.Rows.room_in_shaped sd hu) ⟨.bl (ds.any fun y => y.eqv d), H, I, rfl, ?_⟩
  rw [Bool.false_xor] at q
  exact q
end
def isLs : HO → Prop
  | .lst _ => True
  | _ => False
/-- the heap has grown, tables and the lists at S may hold other things -/
structure ExtS (S : List Addr) (H H' : Hp) : Prop where
  keep : ∀ b o, H b = some o → ¬ isTbl o → (isLs o → b ∉ S) → H' b = some o
  tabs : ∀ P, Gx.TabG H P → Gx.TabG H' P
  live : ∀ b o, H b = some o → ∃ o', H' b = some o'
theorem ExtS.of {S : List Addr} {H H' : Hp} (x : Ext H H') : ExtS S H H' := ⟨fun b o e n _ => x.keep b o e n, x.tabs, x.live⟩
theorem ExtS.refl (S : List Addr) (H : Hp) : ExtS S H H := .of (.refl H)
theorem ExtS.trans {S : List Addr} {H H1 H2 : Hp} (a : ExtS S H H1) (b : ExtS S H1 H2) : ExtS S H H2 :=
  ⟨fun c o e n m => b.keep c o (a.keep c o e n m) n m, fun P t => b.tabs P (a.tabs P t), fun c o e => let ⟨o1, e1⟩ := a.live c o e; b.live c o1 e1⟩
theorem ExtS.new {S : List Addr} {H : Hp} {p : Addr} {o : HO} (h : H p = none) : ExtS S H (upd H p o) := .of (.new h)
theorem ExtS.free {S : List Addr} {H H' : Hp} (x : ExtS S H H') {p : Addr} (h : H' p = none) : H p = none := by
  cases e : H p with
  | none => rfl
  | some o =>
    obtain ⟨o', e'⟩ := x.live p o e
    rw [h] at e'
    cases e'
/-- a list of S, or one that was not there ahead, is written -/
theorem ExtS.write {S : List Addr} {H H' : Hp} {p : Addr} {o : HO} (x : ExtS S H H') (h : H p = none ∨ (p ∈ S ∧ ∃ xs, H p = some (.lst xs))) : ExtS S H (upd H' p o) := by
  refine ⟨fun b u e n m => ?_, fun Q hQ => ?_, fun b u e => ?_⟩
  · by_cases hb : b = p
    · subst hb
      rcases h with h | ⟨h1, xs, h2⟩
      · rw [h] at e; cases e
      · rw [h2] at e
        cases e
        exact absurd h1 (m trivial)
    · rw [upd_ne hb]
      exact x.keep b u e n m
  · obtain ⟨ps, e, k⟩ := x.tabs Q hQ
    obtain ⟨ps0, e0, _⟩ := hQ
    have hb : Q ≠ p := by
      intro e1
      subst e1
      rcases h with h | ⟨_, xs, h2⟩
      · rw [h] at e0; cases e0
      · rw [h2] at e0; cases e0
    exact ⟨ps, by rw [upd_ne hb]; exact e, k⟩
  · by_cases hb : b = p
    · exact ⟨o, by rw [hb, upd_same]⟩
    · rw [upd_ne hb]
      exact x.live b u e
theorem ExtS.rd {S : List Addr} {H H' : Hp} (x : ExtS S H H') {a : Addr} {u : HO} (n : ¬ isTbl u) (l : ¬ isLs u) (h : Rd H a u) : Rd H' a u := by
  rcases h with h | ⟨o, h⟩
  · exact .inl (x.keep a u h n fun z => absurd z l)
  · exact .inr ⟨o, x.keep a _ h (fun z => z) fun z => z.elim⟩
theorem ExtS.sqT {S : List Addr} {K : PySem.W.Frag} {H H' : Hp} (x : ExtS S H H') {a : Addr} {xs : List V} (h : SqT K H a xs) : SqT K H' a xs := h.elim (fun z => .inl (x.rd (fun z => z) (fun z => z) z)) .inr
theorem ExtS.lst {S : List Addr} {H H' : Hp} (x : ExtS S H H') {a : Addr} {xs : List V} (n : a ∉ S) (h : H a = some (.lst xs)) : H' a = some (.lst xs) := x.keep a _ h (fun z => z) fun _ => n
theorem ExtS.tup {S : List Addr} {H H' : Hp} (x : ExtS S H H') {a : Addr} {xs : List V} (h : H a = some (.tup xs)) : H' a = some (.tup xs) := x.keep a _ h (fun z => z) fun z => z.elim
theorem ExtS.dT {S : List Addr} {H H' : Hp} (x : ExtS S H H') {a : Addr} {xs : List (List L2.Key × V)} (h : H a = some (.dT xs)) : H' a = some (.dT xs) := x.keep a _ h (fun z => z) fun z => z.elim
mutual
/-- data without a list in it -/
def noL : PyData → Bool
  | .list _ => false
  | .tuple ds => noLs ds
  | _ => true
def noLs : List PyData → Bool
  | [] => true
  | d :: ds => noL d && noLs ds
end
theorem noLs_map {α : Type} (f : α → PyData) (h : ∀ x, noL (f x) = true) : ∀ xs : List α, noLs (xs.map f) = true
  | [] => rfl
  | x :: xs => by rw [List.map_cons, noLs, h, noLs_map f h xs]; rfl
mutual
theorem dp_extS {S : List Addr} {K : PySem.W.Frag} {H H' : Hp} (x : ExtS S H H') : ∀ {v : V} {d : PyData}, noL d = true → Dp K H v d → Dp K H' v d
  | _, _, _, .non => .non
  | _, _, _, .bl b => .bl b
  | _, _, _, .int i => .int i
  | _, _, _, .str z => .str z
  | _, _, n, .lst h hs => absurd n (by simp [noL])
  | _, _, n, .tup h hs => .tup (x.sqT h) (dpAll_extS x (by simpa [noL] using n) hs)
theorem dpAll_extS {S : List Addr} {K : PySem.W.Frag} {H H' : Hp} (x : ExtS S H H') : ∀ {vs : List V} {ds : List PyData}, noLs ds = true → DpAll K H vs ds → DpAll K H' vs ds
  | _, _, _, .nil => .nil
  | _, _, n, .cons h hs => .cons (dp_extS x (Bool.and_eq_true_iff.mp (by simpa [noLs] using n)).1 h) (dpAll_extS x (Bool.and_eq_true_iff.mp (by simpa [noLs] using n)).2 hs)
end
theorem depthAll_le {n : Nat} : ∀ {ds : List PyData}, (∀ d ∈ ds, d.depth ≤ n) → PyData.depthAll ds ≤ n
  | [], _ => by simp [PyData.depthAll]
  | d :: ds, h => by
    have ih := depthAll_le (n := n) (ds := ds) fun x hx => h x (List.mem_cons_of_mem _ hx)
    have h1 := h d List.mem_cons_self
    simp [PyData.depthAll]
    omega
theorem canLayAll_of : ∀ {ds : List PyData}, (∀ d ∈ ds, d.canLay0 = true) → PyData.canLayAll0 ds = true
  | [], _ => by simp [PyData.canLayAll0]
  | d :: ds, h => by
    have ih := canLayAll_of (ds := ds) fun x hx => h x (List.mem_cons_of_mem _ hx)
    have h1 := h d List.mem_cons_self
    simp [PyData.canLayAll0, ih, h1]
structure Sh (n : Nat) (d : PyData) : Prop where
  lay : d.canLay0 = true
  dep : d.depth ≤ n
theorem Sh.int (n : Nat) (i : Int) : Sh (n + 1) (.int i) := ⟨by simp [PyData.canLay0], by simp [PyData.depth]⟩
theorem Sh.tup {n : Nat} {ds : List PyData} (h : ∀ d ∈ ds, Sh n d) : Sh (n + 1) (.tuple ds) := ⟨by
  have := canLayAll_of fun d hd => (h d hd).lay
  simp [PyData.canLay0, this], by
  have := depthAll_le fun d hd => (h d hd).dep
  simp [PyData.depth]; omega⟩
theorem Sh.lst {n : Nat} {ds : List PyData} (h : ∀ d ∈ ds, Sh n d) : Sh (n + 1) (.list ds) := ⟨by
  have := canLayAll_of fun d hd => (h d hd).lay
  simp [PyData.canLay0, this], by
  have := depthAll_le fun d hd => (h d hd).dep
  simp [PyData.depth]; omega⟩
theorem Sh.shaped {n : Nat} {d : PyData} (h : Sh n d) (hn : n ≤ 64) : SeqAt.shaped d = true := by
  unfold SeqAt.shaped
  rw [h.lay, decide_eq_true (by have := h.dep; omega)]
  rfl
theorem Sh.ints {n : Nat} (xs : List Int) : Sh (n + 2) (.list (xs.map .int)) := .lst fun d hd => by
  obtain ⟨i, _, rfl⟩ := List.mem_map.mp hd
  exact .int _ i
theorem Sh.intsT {n : Nat} (xs : List Int) : Sh (n + 2) (.tuple (xs.map .int)) := .tup fun d hd => by
  obtain ⟨i, _, rfl⟩ := List.mem_map.mp hd
  exact .int _ i
theorem eqv_nil (xs : List PyData) : PyData.eqv (.list xs) (.list []) = xs.isEmpty := by
  cases xs <;> simp [PyData.eqv, PyData.eqvAll]
theorem eqv_nilT (xs : List PyData) : PyData.eqv (.tuple xs) (.tuple []) = xs.isEmpty := by
  cases xs <;> simp [PyData.eqv, PyData.eqvAll]
theorem via {T : TS} {D : L2.Ends} {σ : L2.St} {H : Hp} (Pz : L2.St → Hp → Prop) (h1 : ∀ σ H, Pz σ H → D.nx σ H) (h2 : ∀ nx : L2.St → Hp → Prop, (∀ σ H, Pz σ H → nx σ H) → T { D with nx := nx } σ H) : T D σ H := h2 D.nx h1
theorem u65 {k : Nat} {A : Around} (h : Room k A) : A.units + 65 < cLine := by
  have := h.un
  omega
theorem op_inDTK {X : Cx} {K : PySem.W.Frag} (h : X.K = K) (hu : X.A.units + 65 < cLine) : OpR X (compareOp .In) (rInDT K false) := h ▸ op_inDT hu
theorem op_inK {X : Cx} {K : PySem.W.Frag} (h : X.K = K) : OpR X (compareOp .In) (rIn K false) := h ▸ op_in_seq
theorem op_notInK {X : Cx} {K : PySem.W.Frag} (h : X.K = K) : OpR X (compareOp .NotIn) (rIn K true) := h ▸ op_notIn_seq
theorem op_neDK {X : Cx} {K : PySem.W.Frag} (h : X.K = K) (hu : X.A.units + 64 < cLine) : OpR X (compareOp .NotEq) (rNeD K) := h ▸ op_neD hu
theorem op_eqDK {X : Cx} {K : PySem.W.Frag} (h : X.K = K) (hu : X.A.units + 64 < cLine) : OpR X (compareOp .Eq) (rEqD K) := h ▸ op_eqD hu
theorem cr_sortedK {X : Cx} {K : PySem.W.Frag} (h : X.K = K) : CallR X (.builtin "sorted") (rSorted K) := h ▸ cr_sorted
theorem pe_tupleOfK {X : Cx} {K : PySem.W.Frag} {a : Expr} {ta : TE} {p pos : Pos} (h : X.K = K) (hg : Gl X "tuple") (hm : X.mg "tuple" = none) (ha : PE X a ta) (na : starEach [a] X.env = (false, eval a X.env) :: starEach [] X.env := by rfl) : PE X (.Call (.Name "tuple" p) [a] [] pos) (tThen ta (kTup K)) := h ▸ pe_tupleOf hg hm ha na
theorem pg_tupK {X : Cx} {K : PySem.W.Frag} {pos : Pos} {es : List Expr} {k : Nat} {t : TGs} {n : Nat} (h : X.K = K) (hc : X.calm = true) (ht : PGs X es t) (h1 : (assignEach es X.env).length = n := by rfl) (h2 : List.findIdx? (fun x => x.fst) (assignEach es X.env) = none := by rfl) : PG X (.Tuple es k pos) (L2.gTup K n t) := h ▸ pg_tup hc ht h1 h2
end Bx

set_option Elab.async false
set_option linter.all false
set_option maxRecDepth 100000
set_option maxHeartbeats 4000000
namespace Wd
open PySem PySem.Spec PyProof.Rows L2 Bx Gx



































section
variable {P : Program} {w : World} {K : PySem.W.Frag} {mg : Str → Option Value} {base : Heap}
/-! ### the drawn numbers -/
/-- the spring at sp, its great cells at gr -/
structure SpAt (H : Hp) (sp gr : Addr) : Prop where
  ex : ∃ (xs : List Int) (m t : Int), H sp = some (.lst [.ref gr, .int m, .int t]) ∧ H gr = some (.lst (xs.map V.int)) ∧ 0 ≤ m ∧ m < 2305843009213693951 ∧ xs.length ≤ 63
  ne : sp ≠ gr
theorem SpAt.ls {H : Hp} {sp gr p : Addr} (h : SpAt H sp gr) (hp : p ∈ [sp, gr]) : p ∈ [sp, gr] ∧ ∃ xs, H p = some (.lst xs) := by
  obtain ⟨xs, m, t, h1, h2, _⟩ := h.ex
  refine ⟨hp, ?_⟩
  rcases List.mem_cons.mp hp with e | e
  · rw [e]; exact ⟨_, h1⟩
  · rw [List.mem_singleton.mp e]; exact ⟨_, h2⟩
theorem SpAt.ext {H H' : Hp} {sp gr : Addr} (h : SpAt H sp gr) (x : Ext H H') : SpAt H' sp gr := by
  obtain ⟨xs, m, t, h1, h2, h3⟩ := h.ex
  exact ⟨⟨xs, m, t, x.lst h1, x.lst h2, h3⟩, h.ne⟩
theorem SpAt.upd {H : Hp} {sp gr p : Addr} {o : HO} (h : SpAt H sp gr) (h1 : p ≠ sp) (h2 : p ≠ gr) : SpAt (upd H p o) sp gr := by
  obtain ⟨xs, m, t, h3, h4, h5⟩ := h.ex
  exact ⟨⟨xs, m, t, by rw [upd_ne h1.symm]; exact h3, by rw [upd_ne h2.symm]; exact h4, h5⟩, h.ne⟩
def spSpring (K : PySem.W.Frag) : Sp := fun vs H Q _ => ∃ (a : Addr) (ns : List Int), vs = [.ref a] ∧ SqL K H a (ns.map V.int) ∧ ns.length ≤ 63 ∧ ∀ sp gr H', Ext H H' → SpAt H' sp gr → H sp = none → H gr = none → Q (.ref sp) H'
/-! ### a number from 0 on -/
theorem fmod_bd (y : Int) {m : Nat} (h : 0 < m) : 0 ≤ y.fmod (m : Int) ∧ y.fmod (m : Int) < (m : Int) := by
  rw [Int.fmod_eq_emod_of_nonneg y (by omega)]
  exact ⟨Int.emod_nonneg _ (by omega), Int.emod_lt_of_pos _ (by omega)⟩
def spDrop (K : PySem.W.Frag) : Sp := fun vs H Q _ => ∃ (sp gr : Addr) (many : Nat), vs = [.ref sp, .int (many : Int)] ∧ SpAt H sp gr ∧ 0 < many ∧ many < 100000000 ∧ ∀ (n : Nat) H', n < many → ExtS [sp, gr] H H' → SpAt H' sp gr → Q (.int (n : Int)) H'
end
section
variable {P : Program} {w : World} {K : PySem.W.Frag} {mg : Str → Option Value} {base : Heap}
/-! ### the sack -/
def spSack (K : PySem.W.Frag) : Sp := fun vs H Q _ => ∃ (a : Addr) (ns : List Int), vs = [.ref a] ∧ SqL K H a (ns.map V.int) ∧ ns.length ≤ 63 ∧ ∀ sp gr H', Ext H H' → SpAt H' sp gr → H sp = none → H gr = none → Q (.ref sp) H'
theorem sc_law_sack : FnScope ["script", "cell", "deep", "bran"] ["script"] (defScope st__law_sack) := ⟨rfl, rfl, rfl, by decide +kernel, rfl, by decide +kernel, by decide +kernel⟩
theorem ok_law_sack {f : Addr} {fd : FuncData} (F : Fun K "_law_sack" "_law_sack" st__law_sack f fd) (B : Bl mg) : FnOk P w K mg base CX0 1 f fd ["script"] (spSack K) := by
  refine F.ok sc_law_sack (fun vs H Q E h => ?_) (fun cdv A outer s H vs Q E hr h => ?_)
  · obtain ⟨a, ns, rfl, _⟩ := h
    rfl
  · obtain ⟨a, ns, rfl, hS, hlen, k⟩ := h
    refine ⟨_, pss_cons (ps_setLc (i := 2) (own := [("cell", 1)]) (g := gName 1) rfl sc_law_sack.nd rfl rfl (sw_true rfl rfl rfl (by decide +kernel)) (pi_list (pv 0)) (blkOk_by (own := [("cell", 1)]) (N := ["script", "cell", "deep", "bran"]) (sc := defScope st__law_sack) (by decide +kernel))
        (fun _ _ _ _ _ => pg_name (i := 1) sc_law_sack.nd rfl (Or.inl rfl)) (fun _ _ _ _ _ => pts_one (pt_cmpR op_ge (pv 1) (pe_op op_pow pe_int pe_int) (nomark _))) (fun _ _ _ _ _ => pe_op op_sub (pv 1) (pe_op op_pow pe_int pe_int)))
      (pss_cons (ps_set (i := 3) sc_law_sack.nd rfl (Or.inl rfl) (pe_op op_add pe_int (pe_op op_mul pe_int (pe_callB call_len (by rfl) B.len PySem.boot_len (pa_cons (pv 0) pa_nil)))))
      (pss_cons (ps_for PassesOwn.never rfl (pi_list (pv 0)) (pg_name (i := 1) sc_law_sack.nd rfl (Or.inl rfl))
        (pss_one (ps_set (i := 3) sc_law_sack.nd rfl (Or.inl rfl) (pe_op op_mod (pe_callTy call_int1 rfl B.int (by decide +kernel) (pa_cons (pe_op op_add (pe_op op_add (pe_op op_mul (pv 3) pe_int) (pe_op op_mul (pv 1) pe_int)) pe_int) pa_nil)) (pe_op op_sub (pe_op op_pow pe_int pe_int) pe_int)))))
      (pss_one (ps_ret (pe_lst (pa_cons (pv 2) (pa_cons (pv 3) (pa_cons pe_int pa_nil)))))))), ?_⟩
    refine ⟨_, rfl, a, rfl, ⟨_, hS⟩, fun D hD => ?_⟩
    refine lc_list (K := K) (a := a) (xs := ns.map V.int) (fun i H1 => ∃ xs : List Int, xs.length ≤ i ∧ H1 = upd H D (.lst (xs.map V.int))) ⟨[], Nat.le_refl _, rfl⟩ (fun i H1 _ ⟨xs, _, e⟩ => by rw [e]; exact (Ext.new hD).sqL hS) ?_ ?_
    · rintro i x H1 hx ⟨xs, hl, rfl⟩
      obtain ⟨z, rfl⟩ : ∃ z, x = V.int z := by
        rw [List.getElem?_map] at hx
        cases e : ns[i]? with
        | none => rw [e] at hx; cases hx
        | some z => rw [e] at hx; exact ⟨z, (Option.some.inj hx).symm⟩
      have hi : i < ns.length := by
        have := (List.getElem?_eq_some_iff.mp hx).1
        rwa [List.length_map] at this
      refine ⟨rfl, _, rfl, _, _, rfl, rfl, ⟨by decide, by decide, by decide⟩, _, _, rfl, rfl, _, rfl, ?_⟩
      refine ite2 (fun _ => ?_) (fun _ => ?_)
      · refine ⟨_, rfl, _, _, rfl, rfl, ⟨by decide, by decide, by decide⟩, _, _, rfl, rfl, _, upd_same, ?_, xs ++ [z - 10 ^ Int.toNat 18], ?_, ?_⟩
        · rw [List.length_map]
          exact small1000 (by omega)
        · rw [List.length_append]
          exact Nat.add_le_add_right hl 1
        · rw [upd_upd, List.map_append]
          rfl
      · exact ⟨xs, by omega, rfl⟩
    · rintro H1 ⟨xs, hl, rfl⟩
      rw [List.length_map] at hl
      have x1 : Ext H (upd H D (.lst (xs.map V.int))) := Ext.new hD
      have hDa : (upd H D (.lst (xs.map V.int))) D = some (.lst (xs.map V.int)) := upd_same
      generalize upd H D (.lst (xs.map V.int)) = H1 at x1 hDa ⊢
      refine ⟨_, rfl, _, ns.length, rfl, .inl ⟨_, x1.sqL hS, by simp⟩, _, _, rfl, rfl, .inl ⟨by decide, by decide⟩, _, _, rfl, rfl, ?_⟩
      refine ⟨_, rfl, a, rfl, ⟨_, x1.sqL hS⟩, for_list (K := K) (a := a) (xs := ns.map V.int) (fun i σ H2 => ∃ (v : Option V) (m : Int), σ = [some (.ref a), v, some (.ref D), some (.int m)] ∧ H2 = H1 ∧ 0 ≤ m ∧ m < 2305843009213693951)
        ⟨_, _, rfl, rfl, by omega, by omega⟩ (fun i σ H2 _ ⟨_, _, _, e, _⟩ => by rw [e]; exact x1.sqL hS) ?_ ?_⟩
      · rintro i x σ H2 hx ⟨v, m, rfl, rfl, hm1, hm2⟩
        obtain ⟨z, rfl⟩ : ∃ z, x = V.int z := by
          rw [List.getElem?_map] at hx
          cases e : ns[i]? with
          | none => rw [e] at hx; cases hx
          | some z => rw [e] at hx; exact ⟨z, (Option.some.inj hx).symm⟩
        refine ⟨_, rfl, _, _, rfl, rfl, .inr ⟨by decide, by decide⟩, _, rfl, _, _, rfl, rfl, .inr ⟨by decide, by decide⟩, _, _, rfl, rfl, _, _, rfl, rfl, .inl ⟨_, rfl, ?_⟩⟩
        refine ⟨_, _, rfl, rfl, ⟨by decide, by decide, by decide⟩, _, _, rfl, rfl, ?_⟩
        refine ⟨_, 2305843009213693951, rfl, congrArg V.int (by decide), (by show (0 : Int) < 2305843009213693951; decide), some (.int z), _, rfl, rfl, Int.emod_nonneg _ (by decide), Int.emod_lt_of_pos _ (by decide)⟩
      · rintro σ H2 ⟨v, m, rfl, rfl, hm1, hm2⟩
        refine ⟨_, rfl, _, rfl, by show 3 ≤ sizeLine; decide, fun l hlf => ?_⟩
        have hnl : l ≠ D := fun e => by rw [e, hDa] at hlf; cases hlf
        exact k l D _ (x1.trans (Ext.new hlf)) ⟨⟨xs, m, 0, upd_same, by rw [upd_ne hnl.symm]; exact hDa, hm1, hm2, by omega⟩, hnl⟩ (x1.free hlf) hD
def spGrab (K : PySem.W.Frag) : Sp := fun vs H Q _ => ∃ (sp gr : Addr) (many : Nat), vs = [.ref sp, .int (many : Int)] ∧ SpAt H sp gr ∧ 0 < many ∧ many < 100000000 ∧ ∀ (n : Nat) H', n < many → ExtS [sp, gr] H H' → SpAt H' sp gr → Q (.int (n : Int)) H'
theorem sc_law_grab : FnScope ["sack", "many", "deep", "found"] ["sack", "many"] (defScope st__law_grab) := ⟨rfl, rfl, rfl, by decide +kernel, rfl, by decide +kernel, by decide +kernel⟩
theorem ok_law_grab {f : Addr} {fd : FuncData} (F : Fun K "_law_grab" "_law_grab" st__law_grab f fd) (B : Bl mg) : FnOk P w K mg base CX0 1 f fd ["sack", "many"] (spGrab K) := by
  refine F.ok sc_law_grab (fun vs H Q E h => ?_) (fun cdv A outer s H vs Q E hr h => ?_)
  · obtain ⟨sp, gr, many, rfl, _⟩ := h
    rfl
  · obtain ⟨sp, gr, many, rfl, S, hm0, hmb, k⟩ := h
    refine ⟨_, pss_cons (ps_set (i := 2) sc_law_grab.nd rfl (Or.inl rfl) (pe_ix ix_list (pv 0) pe_int (fun _ _ => rfl)))
      (pss_cons (ps_while PassesOwn.never (PW.pt (pw_and (pt_cmpR (op_neD hr.units) (pv 2) (pe_lst pa_nil) (nomark _)) (pw_and1 (pt_cmpR op_eq (pe_ix ix_list (pv 2) pe_int (fun _ _ => rfl)) pe_int (nomark _)))))
        (pss_one (ps_expr (pe_bm PySem.F.plainAttrs_list PySem.F.slot_list_pop PySem.F.type_list_pop mt_popAt (pv 2) (pa_cons pe_int pa_nil)))))
      (pss_cons (ps_if (pt_cmpR (op_neD hr.units) (pv 2) (pe_lst pa_nil) (nomark _))
        (pss_cons (ps_set (i := 3) sc_law_grab.nd rfl (Or.inl rfl) (pe_op op_modN (pe_callTy call_int1 rfl B.int (by decide +kernel) (pa_cons (pe_ix ix_list (pv 2) pe_int (fun _ _ => rfl)) pa_nil)) (pv 1)))
        (pss_cons (ps_asg (pe_op op_fdivN (pe_ix ix_list (pv 2) pe_int (fun _ _ => rfl)) (pv 1)) (pg_sub (pv 2) pe_int set_list))
        (pss_one (ps_ret (pv 3))))) pss_nil)
      (pss_cons (ps_asg (pe_op op_add (pe_ix ix_list (pv 0) pe_int (fun _ _ => rfl)) pe_int) (pg_sub (pv 0) pe_int set_list))
      (pss_cons (ps_asg (pe_op op_mod (pe_callTy call_int1 rfl B.int (by decide +kernel) (pa_cons (pe_op op_add (pe_op op_mul (pe_ix ix_list (pv 0) pe_int (fun _ _ => rfl)) pe_int) (pe_op op_mul (pe_ix ix_list (pv 0) pe_int (fun _ _ => rfl)) pe_int)) pa_nil)) (pe_op op_sub (pe_op op_pow pe_int pe_int) pe_int)) (pg_sub (pv 0) pe_int set_list))
      (pss_one (ps_ret (pe_op op_modN (pe_op op_fdiv (pe_op op_mod (pe_callTy call_int1 rfl B.int (by decide +kernel) (pa_cons (pe_op op_add (pe_op op_mul (pe_ix ix_list (pv 0) pe_int (fun _ _ => rfl)) (pe_ix ix_list (pv 0) pe_int (fun _ _ => rfl))) (pe_op op_fdiv (pe_ix ix_list (pv 0) pe_int (fun _ _ => rfl)) pe_int)) pa_nil)) (pe_op op_add (pe_op op_pow pe_int pe_int) pe_int)) pe_int) (pv 1)))))))), ?_⟩
    obtain ⟨xs, m, t, h1, h2, hm1, hm2, hl⟩ := S.ex
    refine ⟨_, rfl, sp, _, _, _, rfl, rfl, SqL.of h1, atI_nat (j := 0) rfl, ?_⟩
    dsimp only [gName, tSeq]
    refine via (fun σ H2 => σ = [some (.ref sp), some (.int (many : Int)), some (.ref gr), none] ∧ SpAt H2 sp gr ∧ ExtS [sp, gr] H H2) ?_ (fun nx hnx => ?_)
    · rintro σ H2 ⟨rfl, S2, x2⟩
      obtain ⟨ys, m2, t2, g1, g2, g3, g4, g5⟩ := S2.ex
      refine ⟨_, rfl, Nat.zero_le _, fun l hl0 => ?_⟩
      have hng : gr ≠ l := ne_of_none g2 hl0
      have x3 : ExtS [sp, gr] H2 (upd H2 l (.lst [])) := .new hl0
      refine ⟨.list (ys.map .int), .list [], .lst (SqL.of (by rw [upd_ne hng]; exact g2)) (dpAll_of_ints ys), .lst (SqL.of upd_same) .nil, (Sh.ints (n := 0) ys).shaped (by decide), (Sh.lst (n := 0) (fun d hd => by cases hd)).shaped (by decide), _, rfl, ?_⟩
      rw [eqv_nil]
      have S3 : SpAt (upd H2 l (.lst [])) sp gr := S2.upd (ne_of_none g1 hl0).symm hng.symm
      have g1' : (upd H2 l (.lst [])) sp = some (.lst [.ref gr, .int m2, .int t2]) := by rw [upd_ne (ne_of_none g1 hl0)]; exact g1
      have g2' : (upd H2 l (.lst [])) gr = some (.lst (ys.map V.int)) := by rw [upd_ne hng]; exact g2
      have x23 := x2.trans x3
      generalize upd H2 l (.lst []) = H3 at x23 S3 g1' g2' ⊢
      have w1 : sp ∈ [sp, gr] ∧ ∃ xs, H sp = some (.lst xs) := S.ls (by simp)
      have w2 : gr ∈ [sp, gr] ∧ ∃ xs, H gr = some (.lst xs) := S.ls (by simp)
      cases ys with
      | cons y r =>
        refine iteT ?_
        refine ⟨_, rfl, gr, _, _, _, rfl, rfl, SqL.of g2', atI_nat (j := 0) rfl, .inl ⟨_, rfl, _, rfl, _, _, rfl, rfl, by omega, ?_⟩⟩
        refine ⟨_, rfl, gr, _, _, _, rfl, rfl, SqL.of g2', atI_nat (j := 0) rfl, _, rfl, _, _, rfl, rfl, ⟨by omega, by omega⟩, _, rfl, gr, _, _, 0, rfl, rfl, g2', by simp [ixN], _, rfl, ?_⟩
        obtain ⟨hf1, hf2⟩ := fmod_bd y hm0
        have e : y.fmod (many : Int) = (((y.fmod (many : Int)).toNat : Nat) : Int) := by omega
        have hlt : (y.fmod (many : Int)).toNat < many := by omega
        dsimp only [List.set]
        show Q (V.int (y.fmod (many : Int))) _
        rw [e]
        refine k _ _ hlt (x23.write (.inr w2)) ⟨⟨y.fdiv many :: r, m2, t2, by rw [upd_ne S.ne]; exact g1', upd_same, g3, g4, g5⟩, S.ne⟩
      | nil =>
        refine iteF ?_
        refine ⟨_, rfl, sp, _, _, _, rfl, rfl, SqL.of g1', atI_nat (j := 2) rfl, _, _, rfl, rfl, _, rfl, sp, _, _, 2, rfl, rfl, g1', rfl, ?_⟩
        dsimp only [List.set]
        refine ⟨_, rfl, sp, _, _, _, rfl, rfl, SqL.of upd_same, atI_nat (j := 1) rfl, _, _, rfl, rfl, .inr ⟨by decide, by decide⟩, _, rfl, sp, _, _, _, rfl, rfl, SqL.of upd_same, atI_nat (j := 2) rfl, _, _, rfl, rfl, .inr ⟨by decide, by decide⟩, _, _, rfl, rfl, .inl ⟨_, rfl, _, _, rfl, rfl, ⟨by decide, by decide, by decide⟩, _, _, rfl, rfl, _, 2305843009213693951, rfl, congrArg V.int (by decide), (by show (0 : Int) < 2305843009213693951; decide), _, rfl, sp, _, _, 1, rfl, rfl, upd_same, rfl, ?_⟩⟩
        dsimp only [List.set]
        rw [upd_upd]
        have hq1 := Int.emod_nonneg (m2 * 6364136223846793005 + (t2 + 1) * 1442695040888963407) (show (2305843009213693951 : Int) ≠ 0 by decide)
        have hq2 := Int.emod_lt_of_pos (m2 * 6364136223846793005 + (t2 + 1) * 1442695040888963407) (show (0 : Int) < 2305843009213693951 by decide)
        generalize (m2 * 6364136223846793005 + (t2 + 1) * 1442695040888963407) % 2305843009213693951 = q at hq1 hq2 ⊢
        refine ⟨_, rfl, sp, _, _, _, rfl, rfl, SqL.of upd_same, atI_nat (j := 1) rfl, _, rfl, sp, _, _, _, rfl, rfl, SqL.of upd_same, atI_nat (j := 1) rfl, _, _, rfl, rfl, .inl ⟨by omega, by omega⟩, _, rfl, sp, _, _, _, rfl, rfl, SqL.of upd_same, atI_nat (j := 1) rfl, _, _, rfl, rfl, ⟨by decide, by decide⟩, _, _, rfl, rfl, .inl ⟨_, rfl, _, _, rfl, rfl, ⟨by decide, by decide, by decide⟩, _, _, rfl, rfl, _, 576460752303423619, rfl, congrArg V.int (by decide), (by show (0 : Int) < 576460752303423619; decide), _, _, rfl, rfl, ⟨by decide, by decide⟩, _, rfl, _, _, rfl, rfl, by omega, ?_⟩⟩
        generalize (q * q + q / 1024) % 576460752303423619 / 16384 = y
        obtain ⟨hf1, hf2⟩ := fmod_bd y hm0
        have e : y.fmod (many : Int) = (((y.fmod (many : Int)).toNat : Nat) : Int) := by omega
        have hlt : (y.fmod (many : Int)).toNat < many := by omega
        show Q (V.int (y.fmod (many : Int))) _
        rw [e]
        refine k _ _ hlt (x23.write (.inr w1)) ⟨⟨[], q, t2 + 1, upd_same, by rw [upd_ne S.ne.symm]; exact g2', hq1, hq2, by decide⟩, S.ne⟩
    · refine while_by (fun σ H2 => σ = [some (.ref sp), some (.int (many : Int)), some (.ref gr), none] ∧ SpAt H2 sp gr ∧ ExtS [sp, gr] H H2)
        (fun σ H2 => match H2 gr with
          | some (.lst ys) => ys.length
          | _ => 0) ⟨rfl, S, .refl _ H⟩ ?_ ?_
      · rintro σ H2 ⟨rfl, S2, x2⟩
        obtain ⟨ys, m2, t2, g1, g2, g3, g4, g5⟩ := S2.ex
        refine ⟨_, rfl, Nat.zero_le _, fun l hl0 => ?_⟩
        have hng : gr ≠ l := ne_of_none g2 hl0
        have x3 : ExtS [sp, gr] H2 (upd H2 l (.lst [])) := .new hl0
        refine ⟨.list (ys.map .int), .list [], .lst (SqL.of (by rw [upd_ne hng]; exact g2)) (dpAll_of_ints ys), .lst (SqL.of upd_same) .nil, (Sh.ints (n := 0) ys).shaped (by decide), (Sh.lst (n := 0) (fun d hd => by cases hd)).shaped (by decide), _, rfl, ?_⟩
        rw [eqv_nil]
        have S3 : SpAt (upd H2 l (.lst [])) sp gr := S2.upd (ne_of_none g1 hl0).symm hng.symm
        have g1' : (upd H2 l (.lst [])) sp = some (.lst [.ref gr, .int m2, .int t2]) := by rw [upd_ne (ne_of_none g1 hl0)]; exact g1
        have g2' : (upd H2 l (.lst [])) gr = some (.lst (ys.map V.int)) := by rw [upd_ne hng]; exact g2
        have x23 := x2.trans x3
        generalize upd H2 l (.lst []) = H3 at x23 S3 g1' g2' ⊢
        cases ys with
        | nil => exact iteF (hnx _ _ ⟨rfl, S3, x23⟩)
        | cons y r =>
          refine iteT ?_
          refine ⟨_, rfl, gr, _, _, _, rfl, rfl, SqL.of g2', atI_nat (j := 0) rfl, rfl, _, rfl, ?_⟩
          refine ite2 (fun _ => ?_) (fun _ => ?_)
          · refine ⟨_, rfl, .inl ⟨rfl, _, SqL.of g2'⟩, gr, _, 0, 0, _, rfl, rfl, g2', by decide, by decide, by simp [seqIndex?], rfl, ⟨rfl, ⟨⟨r, m2, t2, by rw [upd_ne S.ne]; exact g1', upd_same, g3, g4, by have := g5; simp at this; omega⟩, S.ne⟩, x23.write (.inr (S.ls (by simp)))⟩, ?_⟩
            rw [g2, upd_same]
            simp
          · exact hnx _ _ ⟨rfl, S3, x23⟩
      · rintro σ H2 Q1 Q2 hq ⟨v, e, hl, g⟩
        refine ⟨v, e, hl, fun l hl0 => ?_⟩
        obtain ⟨d, d2, a1, a2, a3, a4, kk, a5, q⟩ := g l hl0
        refine ⟨d, d2, a1, a2, a3, a4, kk, a5, ?_⟩
        cases kk with
        | false => exact hq _ _ q
        | true =>
          obtain ⟨b1, b2, b3, b4, b5, b6, b7, b8, b9, b10, b11, b12, b13, b14⟩ := q
          exact ⟨b1, b2, b3, b4, b5, b6, b7, b8, b9, b10, b11, b12, b13, hq _ _ b14⟩
end
section
variable {P : Program} {w : World} {K : PySem.W.Frag} {mg : Str → Option Value} {base : Heap}
/-! ### one thing out of a list -/
def spPick (K : PySem.W.Frag) : Sp := fun vs H Q _ => ∃ (sp gr l : Addr) (xs : List V), vs = [.ref sp, .ref l] ∧ SpAt H sp gr ∧ H l = some (.lst xs) ∧ l ∉ [sp, gr] ∧ xs ≠ [] ∧ xs.length ≤ 1000 ∧ ∀ x ∈ xs, ∀ H', ExtS [sp, gr] H H' → SpAt H' sp gr → Q x H'
theorem sc_law_pick : FnScope ["sack", "things"] ["sack", "things"] (defScope st__law_pick) := ⟨rfl, rfl, rfl, by decide +kernel, rfl, by decide +kernel, by decide +kernel⟩
theorem ok_law_pick {f : Addr} {fd : FuncData} (F : Fun K "_law_pick" "_law_pick" st__law_pick f fd) (B : Bl mg) (c1 : Cal P w K mg base 1 "_law_grab" ["sack", "many"] (spGrab K)) : FnOk P w K mg base CX0 2 f fd ["sack", "things"] (spPick K) := by
  refine F.ok sc_law_pick (fun vs H Q E h => ?_) (fun cdv A outer s H vs Q E hr h => ?_)
  · obtain ⟨sp, gr, l, xs, rfl, _⟩ := h
    rfl
  · obtain ⟨sp, gr, l, xs, rfl, S, hl, hn, hne, hlen, k⟩ := h
    refine ⟨_, pss_one (ps_ret (pe_ix ix_list (pv 1) (pe_cal c1 (hr.mono (by decide)) rfl (pa_cons (pv 0) (pa_cons (pe_callB call_len (by rfl) B.len PySem.boot_len (pa_cons (pv 1) pa_nil)) pa_nil))) (fun _ _ => rfl))), ?_⟩
    have h0 : 0 < xs.length := List.length_pos_iff.mpr hne
    refine ⟨_, rfl, _, rfl, _, rfl, _, xs.length, rfl, .inl ⟨_, SqL.of hl, rfl⟩, sp, gr, xs.length, rfl, S, h0, by omega, fun n H1 hn1 x1 S1 => ?_⟩
    exact ⟨l, xs, n, xs[n], rfl, rfl, SqL.of (x1.lst hn hl), atI_nat (List.getElem?_eq_getElem hn1), k _ (List.getElem_mem hn1) H1 x1 S1⟩
end
end Wd

set_option Elab.async false
set_option linter.all false
set_option maxRecDepth 100000
set_option maxHeartbeats 4000000
/-! My: places reached one by one. -/
namespace Mk
theorem nodup_le : ∀ (n : Nat) (l : List Nat), l.Nodup → (∀ x ∈ l, x < n) → l.length ≤ n
  | 0, [], _, _ => Nat.le_refl _
  | 0, x :: _, _, h => by have := h x List.mem_cons_self; omega
  | n + 1, l, nd, h => by
    by_cases e : n ∈ l
    · have ih := nodup_le n (l.erase n) (nd.erase n) fun x hx => by
        have h1 := (List.Nodup.mem_erase_iff nd).mp hx
        have h2 := h x h1.2
        have := h1.1
        omega
      rw [List.length_erase_of_mem e] at ih
      omega
    · have ih := nodup_le n l nd fun x hx => by
        have h2 := h x hx
        have : x ≠ n := fun z => e (z ▸ hx)
        omega
      omega
/-- places reached from p within ps, the first at_ of them gone through -/
structure Rw (bs : List (Nat × Nat)) (ps : List Nat) (p : Nat) (fnd : List Nat) (at_ : Nat) : Prop where
  nd : fnd.Nodup
  sound : ∀ x, x ∈ fnd → Conn bs (· ∈ ps) p x
  here : p ∈ fnd
  done : ∀ j x, j < at_ → fnd[j]? = some x → ∀ y, y ∈ ps → adj bs x y = true → y ∈ fnd
  le : at_ ≤ fnd.length
theorem Rw.begin {bs : List (Nat × Nat)} {ps : List Nat} {p : Nat} (h : p ∈ ps) : Rw bs ps p [p] 0 :=
  ⟨by simp, fun x hx => by rw [List.mem_singleton.mp hx]; exact .refl h, by simp, fun j x hj => by omega, by simp⟩
theorem Rw.turn {bs : List (Nat × Nat)} {n : Nat} {ps fnd : List Nat} {p at_ x : Nat} (w : Rw bs ps p fnd at_) (hx : fnd[at_]? = some x) (hb : Bs n bs) :
    Rw bs ps p (fnd ++ ((List.range n).filter fun k => adj bs k x).filter fun k => decide (k ∈ ps) && decide (k ∉ fnd)) (at_ + 1) := by
  have hlt : at_ < fnd.length := (List.getElem?_eq_some_iff.mp hx).1
  have hmem : ∀ y, y ∈ (((List.range n).filter fun k => adj bs k x).filter fun k => decide (k ∈ ps) && decide (k ∉ fnd)) ↔ y < n ∧ adj bs y x = true ∧ y ∈ ps ∧ y ∉ fnd := fun y => by
    rw [List.mem_filter, List.mem_filter, List.mem_range, Bool.and_eq_true, decide_eq_true_eq, decide_eq_true_eq]
    constructor
    · rintro ⟨⟨a, b⟩, c, d⟩; exact ⟨a, b, c, d⟩
    · rintro ⟨a, b, c, d⟩; exact ⟨⟨a, b⟩, c, d⟩
  refine ⟨?_, fun y hy => ?_, List.mem_append_left _ w.here, fun j z hj hz y hy ha => ?_, by rw [List.length_append]; omega⟩
  · refine List.nodup_append.mpr ⟨w.nd, (List.nodup_range.filter _).filter _, fun a ha b hb2 e => ?_⟩
    subst e
    exact ((hmem a).mp hb2).2.2.2 ha
  · rcases List.mem_append.mp hy with h | h
    · exact w.sound y h
    · obtain ⟨_, a, b, _⟩ := (hmem y).mp h
      exact .step (w.sound x (List.mem_of_getElem? hx)) (by rw [adj_comm]; exact a) b
  · by_cases hin : y ∈ fnd
    · exact List.mem_append_left _ hin
    · rw [List.getElem?_append_left (by omega)] at hz
      by_cases e : j = at_
      · subst e
        rw [hx] at hz
        cases hz
        exact List.mem_append_right _ ((hmem y).mpr ⟨(adj_lt hb ha).2.1, by rw [adj_comm]; exact ha, hy, hin⟩)
      · exact absurd (w.done j z (by omega) hz y hy ha) hin
theorem Rw.fin {bs : List (Nat × Nat)} {ps fnd : List Nat} {p at_ : Nat} (w : Rw bs ps p fnd at_) (h : fnd.length ≤ at_) (x : Nat) : x ∈ fnd ↔ Conn bs (· ∈ ps) p x := by
  refine ⟨w.sound x, fun c => ?_⟩
  refine (c.closed (T := (· ∈ fnd)) w.here fun y z hy hz a => ?_).2
  obtain ⟨j, hj, e⟩ := List.getElem_of_mem hy
  exact w.done j y (by omega) (by rw [List.getElem?_eq_getElem hj, e]) z hz a
/-- the pieces gone through so far, and what is left -/
structure Pw (bs : List (Nat × Nat)) (ps left : List Nat) (rs : List (List Nat)) : Prop where
  asc : left.Pairwise (· < ·)
  sub : ∀ x, x ∈ left → x ∈ ps
  clo : ∀ x, x ∈ left → ∀ y, Conn bs (· ∈ ps) x y → y ∈ left
  pcs : ∀ qs, Pcs bs (mask left) qs → Pcs bs (mask ps) (rs.map mask ++ qs)
  good : ∀ r, r ∈ rs → r.Pairwise (· < ·) ∧ ∀ x, x ∈ r → x ∈ ps
  len : rs.length + left.length ≤ ps.length
theorem Pw.begin {bs : List (Nat × Nat)} {ps : List Nat} (h : ps.Pairwise (· < ·)) : Pw bs ps ps [] :=
  ⟨h, fun _ h => h, fun x _ y c => c.snd, fun qs h => h, fun r hr => (nomatch hr), by simp⟩
theorem Pw.fin {bs : List (Nat × Nat)} {ps : List Nat} {rs : List (List Nat)} (w : Pw bs ps [] rs) : Pcs bs (mask ps) (rs.map mask) := by
  have := w.pcs [] .nil
  rwa [List.append_nil] at this
theorem Pw.turn {bs : List (Nat × Nat)} {ps tl r : List Nat} {rs : List (List Nat)} {x0 : Nat} (w : Pw bs ps (x0 :: tl) rs) (ha : r.Pairwise (· < ·)) (hr : ∀ x, x ∈ r ↔ Conn bs (· ∈ ps) x0 x) :
    Pw bs ps ((x0 :: tl).filter fun x => decide (x ∉ r)) (rs ++ [r]) ∧ ((x0 :: tl).filter fun x => decide (x ∉ r)).length < (x0 :: tl).length := by
  have h0 : x0 ∈ x0 :: tl := List.mem_cons_self
  have h0r : x0 ∈ r := (hr x0).mpr (.refl (w.sub _ h0))
  have hsub : ∀ x, x ∈ r → x ∈ x0 :: tl := fun x hx => w.clo x0 h0 x ((hr x).mp hx)
  have hasc := w.asc
  have hrch : Rch bs (mask (x0 :: tl)) (2 ^ x0) (mask r) := fun q => by
    rw [bit_mask ha, decide_eq_true_eq, hr]
    constructor
    · intro c
      refine ⟨x0, by simp [Nat.testBit_two_pow], ?_⟩
      have c2 := (c.closed (T := (· ∈ x0 :: tl)) h0 fun x y hx hy a => w.clo x hx y (.one (w.sub x hx) hy a)).1
      exact c2.mono fun x hx => by
        show (mask (x0 :: tl)).testBit x = true
        rw [bit_mask hasc]
        exact decide_eq_true hx
    · rintro ⟨p, hp, c⟩
      rw [Nat.testBit_two_pow, decide_eq_true_eq] at hp
      subst hp
      exact c.mono fun x hx => by
        have hx : (mask (x0 :: tl)).testBit x = true := hx
        rw [bit_mask hasc, decide_eq_true_eq] at hx
        exact w.sub x hx
  have hfa : ((x0 :: tl).filter fun x => decide (x ∉ r)).Pairwise (· < ·) := hasc.filter _
  have hmem : ∀ x, x ∈ ((x0 :: tl).filter fun x => decide (x ∉ r)) ↔ x ∈ x0 :: tl ∧ x ∉ r := fun x => by
    rw [List.mem_filter, decide_eq_true_eq]
  have hmask : mask ((x0 :: tl).filter fun x => decide (x ∉ r)) = mask (x0 :: tl) ^^^ mask r := eq_of_bits fun q => by
    rw [xor_sub (fun q hq => by
      rw [bit_mask ha, decide_eq_true_eq] at hq
      rw [bit_mask hasc]
      exact decide_eq_true (hsub q hq)), bit_mask hfa, bit_mask hasc, bit_mask ha, decide_eq_true_eq, decide_eq_true_eq, decide_eq_false_iff_not]
    exact hmem q
  have hlt : ((x0 :: tl).filter fun x => decide (x ∉ r)).length < (x0 :: tl).length := by
    rw [List.filter_cons_of_neg (by simp [h0r])]
    have := List.length_filter_le (fun x => decide (x ∉ r)) tl
    rw [List.length_cons]
    omega
  refine ⟨⟨hfa, fun x hx => w.sub x ((hmem x).mp hx).1, fun x hx y c => ?_, fun qs hq => ?_, fun s hs => ?_, ?_⟩, hlt⟩
  · obtain ⟨h1, h2⟩ := (hmem x).mp hx
    refine (hmem y).mpr ⟨w.clo x h1 y c, fun hy => h2 ?_⟩
    exact (hr x).mpr (((hr y).mp hy).trans c.symm)
  · rw [hmask] at hq
    rw [List.map_append, List.append_assoc]
    refine w.pcs _ (.cons ?_ (fun x hx => ?_) hrch hq)
    · rw [bit_mask hasc]
      exact decide_eq_true h0
    · rw [bit_mask hasc]
      refine decide_eq_false fun hm => ?_
      rcases List.mem_cons.mp hm with e | e
      · omega
      · have := List.rel_of_pairwise_cons hasc e
        omega
  · rcases List.mem_append.mp hs with e | e
    · exact w.good s e
    · rw [List.mem_singleton.mp e]
      exact ⟨ha, fun x hx => w.sub x (hsub x hx)⟩
  · have := w.len
    rw [List.length_append, List.length_singleton]
    omega
end Mk

set_option Elab.async false
set_option linter.all false
set_option maxRecDepth 100000
set_option maxHeartbeats 4000000
namespace Wd
open PySem PySem.Spec PyProof.Rows L2 Bx Gx



































section
variable {P : Program} {w : World} {K : PySem.W.Frag} {mg : Str → Option Value} {base : Heap}
/-! ### a drawn sequence -/
theorem rgV_nat (n : Nat) : rgV 0 (n : Int) = vsN (List.range n) := by
  unfold rgV vsN
  simp
theorem vsN_len (l : List Nat) : (vsN l).length = l.length := List.length_map ..
theorem vsN_at {l : List Nat} {n : Nat} (h : n < l.length) : (vsN l)[n]? = some (.int ((l[n] : Nat) : Int)) := by
  rw [List.getElem?_map, List.getElem?_eq_getElem h]
  rfl
theorem erase_map {α β : Type} (f : α → β) : ∀ (l : List α) (n : Nat), (l.map f).eraseIdx n = (l.eraseIdx n).map f
  | [], _ => rfl
  | _ :: _, 0 => rfl
  | x :: l, n + 1 => by
    show f x :: (l.map f).eraseIdx n = f x :: (l.eraseIdx n).map f
    rw [erase_map f l n]
theorem erase_perm : ∀ {l : List Nat} {n : Nat} (h : n < l.length), (l[n] :: l.eraseIdx n).Perm l
  | _ :: _, 0, _ => .refl _
  | x :: l, n + 1, h => by
    have h2 : n < l.length := by simpa using h
    have ih := erase_perm (l := l) (n := n) h2
    exact (List.Perm.swap x (l[n]'h2) (l.eraseIdx n)).trans (ih.cons x)
def spOrder (K : PySem.W.Frag) : Sp := fun vs H Q _ => ∃ (sp gr : Addr) (many : Nat), vs = [.ref sp, .int (many : Int)] ∧ SpAt H sp gr ∧ many ≤ 100 ∧ ∀ (p : Addr) (os : List Nat) H', os.Perm (List.range many) → ExtS [sp, gr] H H' → SpAt H' sp gr → H p = none → H' p = some (.tup (vsN os)) → Q (.ref p) H'
end
section
variable {P : Program} {w : World} {K : PySem.W.Frag} {mg : Str → Option Value} {base : Heap}
/-! ### the neighbours of a place -/
theorem filt_snoc (f : Nat → Bool) (l : List Nat) (i : Nat) : (l ++ [i]).filter f = l.filter f ++ (if f i = true then [i] else []) := by
  rw [List.filter_append]
  congr 1
  by_cases z : f i = true
  · rw [if_pos z, List.filter_cons_of_pos z]; rfl
  · rw [if_neg z, List.filter_cons_of_neg z]; rfl
def nearL (n : Nat) (bs : List (Nat × Nat)) (p : Nat) : List Nat := (List.range n).filter fun k => Mk.adj bs k p
theorem sh_pair (n : Nat) (a b : Int) : Bx.Sh (n + 2) (.tuple [.int a, .int b]) := .tup fun d hd => by
  rcases List.mem_cons.mp hd with e | e
  · rw [e]; exact .int _ _
  · rw [List.mem_singleton.mp e]; exact .int _ _
theorem sh_bord (n : Nat) (bs : List (Nat × Nat)) : Bx.Sh (n + 3) (bordD bs) := .tup fun d hd => by
  obtain ⟨b, _, rfl⟩ := List.mem_map.mp hd
  exact sh_pair _ _ _
theorem any_adj (bs : List (Nat × Nat)) (k p : Nat) :
    ((bs.map fun (b : Nat × Nat) => PyData.tuple [.int (b.1 : Int), .int (b.2 : Int)]).any fun z => PyData.eqv z (.tuple [.int (if (p : Int) < (k : Int) then (p : Int) else (k : Int)), .int (if (p : Int) > (k : Int) then (p : Int) else (k : Int))])) = Mk.adj bs k p := by
  unfold Mk.adj
  have e1 : (if (p : Int) < (k : Int) then (p : Int) else (k : Int)) = ((min k p : Nat) : Int) := by
    split <;> omega
  have e2 : (if (p : Int) > (k : Int) then (p : Int) else (k : Int)) = ((max k p : Nat) : Int) := by
    split <;> omega
  rw [e1, e2, List.any_map]
  induction bs with
  | nil => rfl
  | cons b r ih =>
    rw [List.any_cons, ih, List.contains_cons]
    congr 1
    obtain ⟨x, y⟩ := b
    rw [Bool.eq_iff_iff]
    simp [PyData.eqv, PyData.eqvAll]
    omega
def spNear (K : PySem.W.Frag) : Sp := fun vs H Q _ => ∃ (l : V) (fs : List Int) (bs : List (Nat × Nat)) (p : Nat), vs = [l, .int (p : Int)] ∧ Dp K H l (landD fs bs) ∧ fs.length ≤ 12 ∧ ∀ q H', Ext H H' → H q = none → H' q = some (.lst (vsN (nearL fs.length bs p))) → Q (.ref q) H'
theorem dp_land {H : Hp} {l : V} {fs : List Int} {bs : List (Nat × Nat)} (h : Dp K H l (landD fs bs)) : ∃ (a af : Addr) (vb : V), l = .ref a ∧ SqT K H a [.ref af, vb] ∧ SqT K H af (fs.map V.int) ∧ Dp K H vb (bordD bs) := by
  obtain ⟨a, xs, rfl, h1, h2⟩ := dp_tup h
  cases h2 with
  | cons hf h3 =>
    cases h3 with
    | cons hb h4 =>
      cases h4
      obtain ⟨af, rfl, h5⟩ := dp_ints hf
      exact ⟨a, af, _, rfl, h1, h5, hb⟩
end
section
variable {P : Program} {w : World} {K : PySem.W.Frag} {mg : Str → Option Value} {base : Heap}
/-! ### all pairs of places -/
def pairsTo (n : Nat) : List (Nat × Nat) := (List.range n).flatMap fun j => (List.range j).map fun i => (i, j)
theorem pairsTo_succ (n : Nat) : pairsTo (n + 1) = pairsTo n ++ (List.range n).map fun i => (i, n) := by
  unfold pairsTo
  rw [List.range_succ, List.flatMap_append]
  simp
theorem pairsTo_mem {n : Nat} {b : Nat × Nat} (h : b ∈ pairsTo n) : b.1 < b.2 ∧ b.2 < n := by
  unfold pairsTo at h
  obtain ⟨j, hj, h2⟩ := List.mem_flatMap.mp h
  obtain ⟨i, hi, rfl⟩ := List.mem_map.mp h2
  exact ⟨List.mem_range.mp hi, List.mem_range.mp hj⟩
theorem pairsTo_len : ∀ n, (pairsTo n).length ≤ n * n
  | 0 => Nat.le_refl _
  | n + 1 => by
    rw [pairsTo_succ, List.length_append, List.length_map, List.length_range]
    have := pairsTo_len n
    rw [Nat.succ_mul, Nat.mul_succ]
    omega
abbrev pairD (b : Nat × Nat) : PyData := .tuple [.int (b.1 : Int), .int (b.2 : Int)]
def spPairs (K : PySem.W.Frag) : Sp := fun vs H Q _ => ∃ (n : Nat), vs = [.int (n : Int)] ∧ n ≤ 12 ∧ ∀ q xs H', Ext H H' → H q = none → H' q = some (.lst xs) → DpAll K H' xs ((pairsTo n).map pairD) → Q (.ref q) H'
abbrev prN : List Str := ["many", "found", "j", "i"]
theorem sc_law_pairs : FnScope prN ["many"] (defScope st__law_pairs) := ⟨rfl, rfl, rfl, by decide +kernel, rfl, by decide +kernel, by decide +kernel⟩
theorem noL_pairs (l : List (Nat × Nat)) : noLs (l.map pairD) = true := noLs_map pairD (fun _ => rfl) l
theorem ok_law_pairs {f : Addr} {fd : FuncData} (F : Fun K "_law_pairs" "_law_pairs" st__law_pairs f fd) (B : Bl mg) : FnOk P w K mg base CX0 1 f fd ["many"] (spPairs K) := by
  refine F.ok sc_law_pairs (fun vs H Q E h => ?_) (fun cdv A outer s H vs Q E hr h => ?_)
  · obtain ⟨n, rfl, _⟩ := h
    rfl
  · obtain ⟨n, rfl, hn, k⟩ := h
    have nd := sc_law_pairs.nd
    refine ⟨_, pss_cons (ps_set (i := 1) nd rfl (Or.inl rfl) (pe_lst pa_nil))
      (pss_cons (ps_for PassesOwn.never rfl (pi_range1 rfl B.range (pa_cons (pv 0) pa_nil)) (pg_name (i := 2) nd rfl (Or.inr rfl))
        (pss_one (ps_set (i := 1) nd rfl (Or.inl rfl) (pe_op op_cat (pv 1) (pe_lc (own := [("i", 3)]) (g := gName 3) (by rfl) nd (pi_range1 rfl B.range (pa_cons (pv 2) pa_nil)) (blkOk_by (own := [("i", 3)]) (N := prN) (sc := defScope st__law_pairs) (by decide +kernel))
          (fun _ _ _ _ _ => pg_name (i := 3) nd rfl (Or.inl rfl)) (fun _ _ _ _ _ => pts_nil) (fun _ _ _ _ _ => pe_tup (pa_cons (pv 3) (pa_cons (pv 2) pa_nil))))))))
      (pss_one (ps_ret (pv 1)))), ?_⟩
    refine ⟨Nat.zero_le _, fun l hl => ?_⟩
    have x1 : Ext H (upd H l (.lst [])) := .new hl
    have hl1 : (upd H l (.lst [])) l = some (.lst []) := upd_same
    dsimp only [gName, tSeq, List.set]
    generalize upd H l (.lst []) = H1 at x1 hl1 ⊢
    refine ⟨_, rfl, _, rfl, by omega, by omega, for_range (lo := 0) (n := (n : Int).toNat) (fun j σ H2 => ∃ (o2 o3 : Option V) (p : Addr) (xs : List V), σ = [some (.int (n : Int)), some (.ref p), o2, o3] ∧ Ext H H2 ∧ H p = none ∧ H2 p = some (.lst xs) ∧ DpAll K H2 xs ((pairsTo j).map pairD))
      ⟨_, _, l, [], rfl, x1, hl, hl1, .nil⟩ ?_ ?_⟩
    · rintro j σ H2 hj ⟨o2, o3, p, xs, rfl, x2, hp0, hp, hd⟩
      rw [Int.toNat_natCast] at hj
      rw [Int.zero_add]
      refine ⟨_, rfl, _, rfl, _, rfl, by omega, by omega, fun D hD => ?_⟩
      refine lc_range (lo := 0) (n := (j : Int).toNat) (fun i H3 => ∃ as : List V, H3 D = some (.lst as) ∧ DpAll K H3 as (((List.range i).map fun i => (i, j)).map pairD) ∧ Ext H2 H3) ⟨[], upd_same, .nil, .new hD⟩ (fun i H3 hi ⟨as, e3, hA, x3⟩ => ?_) (fun H3 ⟨as, e3, hA, x3⟩ => ?_)
      · rw [Int.toNat_natCast] at hi
        have hal := dpAll_len hA
        rw [List.length_map, List.length_map, List.length_range] at hal
        refine ⟨rfl, ?_⟩
        dsimp only [tYes]
        rw [if_pos rfl, Int.zero_add]
        refine ⟨_, rfl, _, rfl, by show 2 ≤ sizeLine; decide, fun t ht => ⟨as, (Ext.new ht).lst e3, small1000 (by omega), as ++ [.ref t], upd_same, ?_, (x3.trans (.new ht)).write hD⟩⟩
        rw [List.range_succ, List.map_append, List.map_append]
        have htD : t ≠ D := (ne_of_none e3 ht).symm
        have xd : ExtS [D] H3 (upd (upd H3 t (.tup [.int (i : Int), .int (j : Int)])) D (.lst (as ++ [.ref t]))) := (ExtS.new ht).write (.inr ⟨by simp, _, e3⟩)
        refine dpAll_app (dpAll_extS xd (noL_pairs _) hA) (.cons ?_ .nil)
        exact .tup (SqT.of (by rw [upd_ne htD]; exact upd_same)) (.cons (.int _) (.cons (.int _) .nil))
      · rw [Int.toNat_natCast] at hA
        have hal := dpAll_len hA
        have hdl := dpAll_len hd
        rw [List.length_map, List.length_map, List.length_range] at hal
        rw [List.length_map] at hdl
        have hpl := pairsTo_len j
        have hjj : j * j ≤ 12 * 12 := Nat.mul_le_mul (by omega) (by omega)
        refine ⟨p, D, xs, as, rfl, rfl, x3.lst hp, e3, by have : 1000 ≤ sizeLine := by decide
                                                          omega, fun q hq => ⟨_, _, q, xs ++ as, rfl, (x2.trans x3).trans (.new hq), (x2.trans x3).free hq, upd_same, ?_⟩⟩
        rw [pairsTo_succ, List.map_append]
        exact dpAll_app (dpAll_ext (x3.trans (.new hq)) hd) (dpAll_ext (.new hq) hA)
    · rintro σ H2 ⟨o2, o3, p, xs, rfl, x2, hp0, hp, hd⟩
      rw [Int.toNat_natCast] at hd
      exact ⟨_, rfl, k p xs H2 x2 hp0 hp hd⟩
end
end Wd

set_option Elab.async false
set_option linter.all false
set_option maxRecDepth 100000
set_option maxHeartbeats 4000000
namespace Wd
open PySem PySem.Spec PyProof.Rows L2 Bx Gx



































section
variable {P : Program} {w : World} {K : PySem.W.Frag} {mg : Str → Option Value} {base : Heap}
/-! ### a drawn lot -/
theorem noL_bord (bs : List (Nat × Nat)) : noL (bordD bs) = true := by
  show noLs _ = true
  exact noLs_map _ (fun _ => rfl) bs
theorem noL_land (fs : List Int) (bs : List (Nat × Nat)) : noL (landD fs bs) = true := by
  show (noL (.tuple (fs.map .int)) && (noL (bordD bs) && true)) = true
  rw [noL_bord]
  show (noLs _ && true) = true
  rw [noLs_map _ (fun _ => rfl) fs]
  rfl
theorem asc_snoc {l : List Nat} {i : Nat} (h : l.Pairwise (· < ·)) (h2 : ∀ x ∈ l, x < i) : (l ++ [i]).Pairwise (· < ·) := by
  rw [List.pairwise_append]
  refine ⟨h, by simp, fun a ha b hb => ?_⟩
  rw [List.mem_singleton.mp hb]
  exact h2 a ha
theorem asc_len {l : List Nat} {n : Nat} (h : l.Pairwise (· < ·)) (h2 : ∀ x ∈ l, x < n) : l.length ≤ n := by
  have e := Mk.bits_mask h h2
  rw [← e]
  exact Mk.bits_len _ _
theorem SpAt.notin {H : Hp} {sp gr p : Addr} (h : SpAt H sp gr) (hp : H p = none) : p ∉ [sp, gr] := fun e => by
  obtain ⟨_, xs, e2⟩ := h.ls e
  rw [hp] at e2
  cases e2
def spSome (K : PySem.W.Frag) : Sp := fun vs H Q _ => ∃ (sp gr : Addr) (l : V) (fs : List Int) (bs : List (Nat × Nat)), vs = [.ref sp, l] ∧ SpAt H sp gr ∧ Dp K H l (landD fs bs) ∧ 0 < fs.length ∧ fs.length ≤ 12 ∧
  ∀ (q : Addr) (ps : List Nat) H', ExtS [sp, gr] H H' → SpAt H' sp gr → H q = none → H' q = some (.tup (vsN ps)) → ps ≠ [] → ps.Pairwise (· < ·) → (∀ x ∈ ps, x < fs.length) → Q (.ref q) H'
end
section
variable {P : Program} {w : World} {K : PySem.W.Frag} {mg : Str → Option Value} {base : Heap}
/-! ### two heads -/
def spHeads (K : PySem.W.Frag) : Sp := fun vs H Q _ => ∃ (sp gr : Addr) (l : V) (fs : List Int) (bs : List (Nat × Nat)), vs = [.ref sp, l] ∧ SpAt H sp gr ∧ Dp K H l (landD fs bs) ∧ 2 ≤ fs.length ∧ fs.length ≤ 12 ∧
  ∀ q (a b : Nat) H', ExtS [sp, gr] H H' → SpAt H' sp gr → H q = none → H' q = some (.tup [.int (a : Int), .int (b : Int)]) → a < fs.length → b < fs.length → a ≠ b → Q (.ref q) H'
abbrev heN : List Str := ["sack", "told", "many", "one", "other"]
theorem sc_law_heads : FnScope heN ["sack", "told"] (defScope st__law_heads) := ⟨rfl, rfl, rfl, by decide +kernel, rfl, by decide +kernel, by decide +kernel⟩
theorem ok_law_heads {f : Addr} {fd : FuncData} (F : Fun K "_law_heads" "_law_heads" st__law_heads f fd) (B : Bl mg) (c1 : Cal P w K mg base 1 "_law_grab" ["sack", "many"] (spGrab K)) : FnOk P w K mg base CX0 2 f fd ["sack", "told"] (spHeads K) := by
  refine F.ok sc_law_heads (fun vs H Q E h => ?_) (fun cdv A outer s H vs Q E hr h => ?_)
  · obtain ⟨sp, gr, l, fs, bs, rfl, _⟩ := h
    rfl
  · obtain ⟨sp, gr, l, fs, bs, rfl, S, hl, h2, h12, k⟩ := h
    have nd := sc_law_heads.nd
    have hr1 := hr.mono (j := 1) (by decide)
    refine ⟨_, pss_cons (ps_set (i := 2) nd rfl (Or.inl rfl) (pe_callB call_len (by rfl) B.len PySem.boot_len (pa_cons (pe_ix ix_tup (pv 1) pe_int (fun _ _ => rfl)) pa_nil)))
      (pss_cons (ps_set (i := 3) nd rfl (Or.inl rfl) (pe_cal c1 hr1 rfl (pa_cons (pv 0) (pa_cons (pv 2) pa_nil))))
      (pss_cons (ps_set (i := 4) nd rfl (Or.inl rfl) (pe_cal c1 hr1 rfl (pa_cons (pv 0) (pa_cons (pe_op op_sub (pv 2) pe_int) pa_nil))))
      (pss_one (ps_ret (pe_tup (pa_cons (pv 3) (pa_cons (pe_op op_add (pv 4) (pe_callTy call_int1 rfl B.int (by decide +kernel) (pa_cons (pe_cmpR op_ge (pv 4) (pv 3) (nomark _)) pa_nil))) pa_nil))))))), ?_⟩
    obtain ⟨a, af, vb, rfl, hl1, hl2, hl3⟩ := dp_land hl
    refine ⟨_, rfl, a, _, _, _, rfl, rfl, hl1, atI_nat (j := 0) rfl, _, fs.length, rfl, .inr ⟨_, hl2, by simp⟩, ?_⟩
    refine ⟨_, rfl, _, rfl, sp, gr, fs.length, rfl, S, by omega, by omega, fun n H1 hn x1 S1 => ?_⟩
    refine ⟨_, rfl, _, rfl, _, _, rfl, rfl, sp, gr, fs.length - 1, ?_, S1, by omega, by omega, fun m H2 hm x2 S2 => ?_⟩
    · rw [show ((fs.length - 1 : Nat) : Int) = (fs.length : Int) - 1 by omega]
      rfl
    have x12 := x1.trans x2
    refine ⟨_, rfl, _, rfl, _, rfl, _, rfl, _, _, rfl, rfl, .inr ⟨_, rfl, ?_⟩⟩
    by_cases e : n ≤ m
    · rw [decide_eq_true (show ((n : Nat) : Int) ≤ ((m : Nat) : Int) by omega)]
      refine ⟨_, _, rfl, rfl, by show 2 ≤ sizeLine; decide, fun q hq => ?_⟩
      rw [if_pos rfl]
      exact k q n (m + 1) _ (x12.trans (.new hq)) (S2.ext (.new hq)) (x12.free hq) upd_same hn (by omega) (by omega)
    · rw [decide_eq_false (show ¬ ((n : Nat) : Int) ≤ ((m : Nat) : Int) by omega)]
      refine ⟨_, _, rfl, rfl, by show 2 ≤ sizeLine; decide, fun q hq => ?_⟩
      show Q (.ref q) (upd H2 q (.tup [.int (n : Int), .int ((m : Int) + 0)]))
      rw [Int.add_zero]
      exact k q n m _ (x12.trans (.new hq)) (S2.ext (.new hq)) (x12.free hq) upd_same hn (by omega) (by omega)
end
end Wd

set_option Elab.async false
set_option linter.all false
set_option maxRecDepth 100000
set_option maxHeartbeats 4000000
namespace Mk
theorem sub_le : ∀ {l m : List Nat}, l.Nodup → (∀ x, x ∈ l → x ∈ m) → l.length ≤ m.length
  | [], m, _, _ => Nat.zero_le _
  | x :: l, m, nd, h => by
    rw [List.nodup_cons] at nd
    have hx := h x List.mem_cons_self
    have ih := sub_le (l := l) (m := m.erase x) nd.2 fun y hy => by
      have hne : y ≠ x := fun e => nd.1 (e ▸ hy)
      exact (List.mem_erase_of_ne hne).mpr (h y (List.mem_cons_of_mem _ hy))
    rw [List.length_erase_of_mem hx] at ih
    have := List.length_pos_of_mem hx
    rw [List.length_cons]
    omega
theorem filt_sum (f : Nat → Bool) : ∀ l : List Nat, l.length = (l.filter f).length + (l.filter fun x => !f x).length
  | [] => rfl
  | x :: l => by
    have ih := filt_sum f l
    by_cases h : f x = true
    · rw [List.filter_cons_of_pos h, List.filter_cons_of_neg (by simp [h]), List.length_cons, List.length_cons]
      omega
    · rw [List.filter_cons_of_neg h, List.filter_cons_of_pos (by simp [h]), List.length_cons, List.length_cons]
      omega
/-- what hangs together is one piece, and back -/
theorem pcs_one {bs : List (Nat × Nat)} {ps : List Nat} {p : Nat} (ha : ps.Pairwise (· < ·)) (hp : p ∈ ps) (hc : ∀ x, x ∈ ps → Conn bs (· ∈ ps) p x) : Pcs bs (mask ps) [mask ps] := by
  cases ps with
  | nil => cases hp
  | cons q r =>
    have hb := bit_mask ha
    refine .cons (q := q) (by rw [hb]; simp) (fun x hx => ?_) (fun x => ?_) (by rw [Nat.xor_self]; exact .nil)
    · rw [hb]
      refine decide_eq_false fun hm => ?_
      rcases List.mem_cons.mp hm with e | e
      · omega
      · have := List.rel_of_pairwise_cons ha e
        omega
    · rw [hb, decide_eq_true_eq]
      have mono : ∀ {a b : Nat}, Conn bs (· ∈ q :: r) a b → Conn bs (In (mask (q :: r))) a b := fun c => c.mono fun y hy => by
        show (mask (q :: r)).testBit y = true
        rw [hb]
        exact decide_eq_true hy
      constructor
      · intro hx
        refine ⟨q, by simp [Nat.testBit_two_pow], mono ?_⟩
        exact (hc q List.mem_cons_self).symm.trans (hc x hx)
      · rintro ⟨_, _, c⟩
        have := c.snd
        have h2 : (mask (q :: r)).testBit x = true := this
        rwa [hb, decide_eq_true_eq] at h2
theorem Pcs.none {bs : List (Nat × Nat)} {m : Nat} {l : List Nat} (h : Pcs bs m l) (e : l = []) : m = 0 := by
  cases h with
  | nil => rfl
  | cons _ _ _ _ => cases e
theorem Pcs.len1 {bs : List (Nat × Nat)} {m : Nat} {l : List Nat} (h : Pcs bs m l) (e : l.length = 1) : ∃ q, Rch bs m (2 ^ q) m := by
  cases h with
  | nil => cases e
  | @cons _ q p l2 hq hlow hR hP =>
    have e2 : l2 = [] := List.length_eq_zero_iff.mp (by rw [List.length_cons] at e; omega)
    have h0 := hP.none e2
    have : m = p := by
      have h1 : (m ^^^ p) ^^^ p = m := by rw [Nat.xor_assoc, Nat.xor_self, Nat.xor_zero]
      rw [h0, Nat.zero_xor] at h1
      exact h1.symm
    subst this
    exact ⟨q, hR⟩
theorem one_pcs {bs : List (Nat × Nat)} {ps : List Nat} (ha : ps.Pairwise (· < ·)) {l : List Nat} (hl : Pcs bs (mask ps) l) (h : l.length = 1) {p x : Nat} (hp : p ∈ ps) (hx : x ∈ ps) : Conn bs (· ∈ ps) p x := by
  obtain ⟨q, hR⟩ := hl.len1 h
  have hb := bit_mask ha
  have key : ∀ y, y ∈ ps → Conn bs (· ∈ ps) q y := fun y hy => by
    obtain ⟨z, hz, c⟩ := (hR y).mp (by rw [hb]; exact decide_eq_true hy)
    rw [Nat.testBit_two_pow, decide_eq_true_eq] at hz
    subst hz
    exact c.mono fun w hw => by
      have hw : (mask ps).testBit w = true := hw
      rwa [hb, decide_eq_true_eq] at hw
  exact (key p hp).symm.trans (key x hx)
/-- every part that hangs together can be grown place by place -/
theorem grown {bs : List (Nat × Nat)} {ps : List Nat} {p : Nat} (hp : p ∈ ps) (nd : ps.Nodup) (hc : ∀ x, x ∈ ps → Conn bs (· ∈ ps) p x) : ∀ k, k < ps.length → ∃ l : List Nat, l.length = k + 1 ∧ l.Nodup ∧ (∀ x, x ∈ l → x ∈ ps) ∧ p ∈ l ∧ ∀ x, x ∈ l → Conn bs (· ∈ l) p x
  | 0, _ => ⟨[p], rfl, by simp, fun x hx => by rw [List.mem_singleton.mp hx]; exact hp, by simp, fun x hx => by rw [List.mem_singleton.mp hx]; exact .refl (by simp)⟩
  | k + 1, hk => by
    obtain ⟨l, h1, h2, h3, h4, h5⟩ := grown hp nd hc k (by omega)
    -- a place beside it
    have hex : ∃ y z, y ∈ l ∧ z ∈ ps ∧ z ∉ l ∧ adj bs y z = true := by
      refine Classical.byContradiction fun hno => ?_
      have hall : ∀ x, x ∈ ps → x ∈ l := fun x hx => ((hc x hx).closed (T := (· ∈ l)) h4 fun y z hy hz a => Classical.byContradiction fun hz2 => hno ⟨y, z, hy, hz, hz2, a⟩).2
      have := sub_le nd hall
      omega
    obtain ⟨y, z, hy, hz, hzl, a⟩ := hex
    have hm : ∀ x, x ∈ l → x ∈ z :: l := fun x hx => List.mem_cons_of_mem _ hx
    refine ⟨z :: l, by rw [List.length_cons, h1], List.nodup_cons.mpr ⟨hzl, h2⟩, fun x hx => ?_, hm p h4, fun x hx => ?_⟩
    · rcases List.mem_cons.mp hx with e | e
      · rw [e]; exact hz
      · exact h3 x e
    · rcases List.mem_cons.mp hx with e | e
      · rw [e]
        exact .step ((h5 y hy).mono hm) a List.mem_cons_self
      · exact (h5 x e).mono hm
theorem mask_less {ps : List Nat} (ha : ps.Pairwise (· < ·)) {p : Nat} (hp : p ∈ ps) : mask (ps.filter fun x => decide (x ≠ p)) = mask ps ^^^ 2 ^ p := eq_of_bits fun q => by
  rw [bit_mask (ha.filter _), Nat.testBit_xor, bit_mask ha, Nat.testBit_two_pow, decide_eq_true_eq, List.mem_filter, decide_eq_true_eq]
  by_cases h1 : q ∈ ps <;> by_cases h2 : p = q
  · simp [h1, h2]
  · simp [h1, h2]; exact fun z => h2 z.symm
  · exact absurd (h2 ▸ hp) h1
  · simp [h1, h2]
/-- a lot that hangs together has a place, another than p, without which it hangs together -/
theorem other {bs : List (Nat × Nat)} {ps : List Nat} {p : Nat} (ha : ps.Pairwise (· < ·)) (hp : p ∈ ps) (hc : ∀ x, x ∈ ps → Conn bs (· ∈ ps) p x) (h2 : 2 ≤ ps.length) : ∃ v, v ∈ ps ∧ v ≠ p ∧ ∃ l, Pcs bs (mask ps ^^^ 2 ^ v) l ∧ l.length = 1 := by
  have nd : ps.Nodup := ha.imp fun h e => by omega
  obtain ⟨l, h1, hnd, h3, h4, h5⟩ := grown hp nd hc (ps.length - 2) (by omega)
  have hex : ∃ v, v ∈ ps ∧ v ∉ l := Classical.byContradiction fun hno => by
    have hall : ∀ x, x ∈ ps → x ∈ l := fun x hx => Classical.byContradiction fun h => hno ⟨x, hx, h⟩
    have := sub_le nd hall
    omega
  obtain ⟨v, hv, hvl⟩ := hex
  have hvp : v ≠ p := fun e => hvl (e ▸ h4)
  -- the others are l
  have hmem : ∀ x, x ∈ ps.filter (fun x => decide (x ≠ v)) → x ∈ l := fun x hx => Classical.byContradiction fun hxl => by
    rw [List.mem_filter, decide_eq_true_eq] at hx
    have nd3 : (x :: v :: l).Nodup := List.nodup_cons.mpr ⟨fun h => by
      rcases List.mem_cons.mp h with e | e
      · exact hx.2 e
      · exact hxl e, List.nodup_cons.mpr ⟨hvl, hnd⟩⟩
    have hall : ∀ y, y ∈ x :: v :: l → y ∈ ps := fun y hy => by
      rcases List.mem_cons.mp hy with e | e
      · rw [e]; exact hx.1
      · rcases List.mem_cons.mp e with e | e
        · rw [e]; exact hv
        · exact h3 y e
    have := sub_le nd3 hall
    simp only [List.length_cons] at this
    omega
  have hm2 : ∀ x, x ∈ l → x ∈ ps.filter (fun x => decide (x ≠ v)) := fun x hx => by
    rw [List.mem_filter, decide_eq_true_eq]
    exact ⟨h3 x hx, fun e => hvl (e ▸ hx)⟩
  refine ⟨v, hv, hvp, [mask (ps.filter fun x => decide (x ≠ v))], ?_, rfl⟩
  rw [← mask_less ha hv]
  exact pcs_one (ha.filter _) (hm2 p h4) fun x hx => (h5 x (hmem x hx)).mono hm2
theorem two_le {l : List Nat} {u v : Nat} (hu : u ∈ l) (hv : v ∈ l) (h : u ≠ v) : 2 ≤ l.length := by
  match l, hu, hv with
  | [], hu, _ => cases hu
  | [x], hu, hv => exact absurd ((List.mem_singleton.mp hu).trans (List.mem_singleton.mp hv).symm) h
  | _ :: _ :: _, _, _ => simp
/-- of a lot of two places at least that hangs together, two places at least are no cut places -/
theorem two_free {bs : List (Nat × Nat)} {ps l : List Nat} (ha : ps.Pairwise (· < ·)) (hl : Pcs bs (mask ps) l) (h1 : l.length = 1) (h2 : 2 ≤ ps.length) :
    2 ≤ ps.length - (ps.filter fun p => decide ((pcs bs (mask ps)).length < (pcs bs (mask ps ^^^ 2 ^ p)).length)).length := by
  have hn : ∃ p, p ∈ ps := by
    cases ps with
    | nil => cases h2
    | cons p r => exact ⟨p, List.mem_cons_self⟩
  obtain ⟨p, hp⟩ := hn
  obtain ⟨u, hu, _, lu, hlu, hlu1⟩ := other ha hp (fun x hx => one_pcs ha hl h1 hp hx) h2
  obtain ⟨v, hv, hvu, lv, hlv, hlv1⟩ := other ha hu (fun x hx => one_pcs ha hl h1 hu hx) h2
  have hsum := filt_sum (fun p => decide ((pcs bs (mask ps)).length < (pcs bs (mask ps ^^^ 2 ^ p)).length)) ps
  have m1 : ∀ w lw, w ∈ ps → Pcs bs (mask ps ^^^ 2 ^ w) lw → lw.length = 1 → w ∈ ps.filter (fun p => !decide ((pcs bs (mask ps)).length < (pcs bs (mask ps ^^^ 2 ^ p)).length)) := fun w lw hw hlw e => by
    rw [List.mem_filter]
    refine ⟨hw, ?_⟩
    rw [hl.eq, hlw.eq, h1, e]
    rfl
  have := two_le (m1 u lu hu hlu hlu1) (m1 v lv hv hlv hlv1) (fun e => hvu e.symm)
  omega
end Mk

set_option Elab.async false
set_option linter.all false
set_option maxRecDepth 100000
set_option maxHeartbeats 4000000
/-! My3: what pieces are: apart, all, each of them hanging together, by their least places. -/
namespace Mk
structure Parted (bs : List (Nat × Nat)) (m : Nat) (qs : List Nat) : Prop where
  all : ∀ x, m.testBit x = true ↔ ∃ q, q ∈ qs ∧ q.testBit x = true
  apart : qs.Pairwise fun a b => ∀ x, a.testBit x = true → b.testBit x = true → False
  asc : qs.Pairwise fun a b => ∃ x, a.testBit x = true ∧ ∀ y, b.testBit y = true → x < y
  one : ∀ q, q ∈ qs → ∃ x, q.testBit x = true ∧ ∀ y, q.testBit y = true → Conn bs (In q) x y
theorem Pcs.parted {bs : List (Nat × Nat)} {m : Nat} {qs : List Nat} (h : Pcs bs m qs) : Parted bs m qs := by
  induction h with
  | nil => exact ⟨fun x => by simp, .nil, .nil, fun q hq => nomatch hq⟩
  | @cons m q p l hq hlow hR hP ih =>
    have hsub := hR.sub
    have hqp : p.testBit q = true := (hR q).mpr ⟨q, by simp [Nat.testBit_two_pow], .refl hq⟩
    have hx := fun z => xor_sub hsub z
    have hin : ∀ r, r ∈ l → ∀ z, r.testBit z = true → m.testBit z = true ∧ p.testBit z = false := fun r hr z hz => (hx z).mp ((ih.all z).mpr ⟨r, hr, hz⟩)
    refine ⟨fun x => ?_, ?_, ?_, fun r hr => ?_⟩
    · constructor
      · intro hm
        cases hp : p.testBit x with
        | true => exact ⟨p, List.mem_cons_self, hp⟩
        | false =>
          obtain ⟨r, hr, hrx⟩ := (ih.all x).mp ((hx x).mpr ⟨hm, hp⟩)
          exact ⟨r, List.mem_cons_of_mem _ hr, hrx⟩
      · rintro ⟨r, hr, hrx⟩
        rcases List.mem_cons.mp hr with e | e
        · rw [e] at hrx; exact hsub x hrx
        · exact (hin r e x hrx).1
    · rw [List.pairwise_cons]
      refine ⟨fun r hr z h1 h2 => ?_, ih.apart⟩
      have := (hin r hr z h2).2
      rw [h1] at this
      cases this
    · rw [List.pairwise_cons]
      refine ⟨fun r hr => ⟨q, hqp, fun y hy => ?_⟩, ih.asc⟩
      obtain ⟨h1, h2⟩ := hin r hr y hy
      rcases Nat.lt_trichotomy q y with e | e | e
      · exact e
      · rw [← e, hqp] at h2; cases h2
      · rw [hlow y e] at h1; cases h1
    · rcases List.mem_cons.mp hr with e | e
      · subst e
        refine ⟨q, hqp, fun y hy => ?_⟩
        obtain ⟨z, hz, c⟩ := (hR y).mp hy
        rw [Nat.testBit_two_pow, decide_eq_true_eq] at hz
        subst hz
        refine (c.closed (T := In r) hqp fun a b ha hb2 ad => ?_).1
        obtain ⟨z, hz, c2⟩ := (hR a).mp ha
        exact (hR b).mpr ⟨z, hz, .step c2 ad hb2⟩
      · exact ih.one r e
/-- more borders, what hangs together still does -/
theorem Conn.more {bs bs' : List (Nat × Nat)} {S : Nat → Prop} {p q : Nat} (k : ∀ b, b ∈ bs → b ∈ bs') (h : Conn bs S p q) : Conn bs' S p q := by
  induction h with
  | refl h => exact .refl h
  | step _ a h2 ih =>
    refine .step ih ?_ h2
    unfold adj at a ⊢
    rw [List.contains_iff_mem] at a ⊢
    exact k _ a
end Mk

set_option Elab.async false
set_option linter.all false
set_option maxRecDepth 100000
set_option maxHeartbeats 4000000
/-! Tu: sets of tuples of ints as large as a table of 128 slots holds them (76): the library's own rule ends below 64. Hashes of the keys are unlike: a search asks one entry. -/
namespace Tu
open PySem PySem.Spec PyProof.Rows L2
section
variable {P : Program} {w : World} {A : Around} {E : Value → Shared → Prop} {s : Shared}
/-- a set of tuples on a heap, the tuples' objects aside -/
structure Lies (P : Program) (w : World) (h : Heap) (a : Addr) (L : List (Addr × List Int)) (es : Array (Int × Value)) (ep : Nat) (t : SetTable) : Prop where
  obj : ∃ o, h.get? a = some o ∧ o.ExactSet ∧ o.data = .set es ep t
  row : es.toList = rowsOf P w L
  tbl : TabOk t (L.map fun p => thash P w p.2)
  one : (L.map (·.2)).Nodup
  pln : t.plain = true
  ord : w.params.followText "set-order" = true ∨ t.led = true
  gap : L.length * 5 < t.mask * 3
theorem rows_num {L : List (Addr × List Int)} {es : Array (Int × Value)} (e : es.toList = rowsOf P w L) : es.size = L.length := by
  rw [← Array.length_toList, e, rowsOf, List.length_map]
theorem rows_ent {L : List (Addr × List Int)} {es : Array (Int × Value)} (e : es.toList = rowsOf P w L) {i : Nat} {p : Addr × List Int} (h : L[i]? = some p) : es[i]? = some (thash P w p.2, Value.ref p.1) := by
  rw [← Array.getElem?_toList, e, rowsOf, List.getElem?_map, h]
  rfl
variable {a : Addr} {L : List (Addr × List Int)} {es : Array (Int × Value)} {ep : Nat} {t : SetTable}
theorem fits_of (hz : t.place.size = es.size) (hd : t.dummies = #[]) (hm : es.size ≤ t.mask) : t.fits es.size = true := by
  unfold SetTable.fits SetTable.fill
  rw [hd, hz]
  simp [hm]
theorem Lies.plc (Z : Lies P w s.heap a L es ep t) : t.place.size = es.size := by
  rw [Z.tbl.sz, List.length_map, rows_num Z.row]
theorem Lies.num (Z : Lies P w s.heap a L es ep t) : L.length ≤ 76 := by
  have g := Z.gap
  rcases Z.tbl.mok with e | e | e <;> rw [e] at g <;> omega
theorem Lies.fit (Z : Lies P w s.heap a L es ep t) : t.fits es.size = true :=
  fits_of Z.plc Z.tbl.dm (by have := Z.gap; have := rows_num Z.row; omega)

/-! ### a search -/
theorem seek (Z : Lies P w s.heap a L es ep t) (tt : ∀ p ∈ L, IsT P w s.heap p.2 p.1) {x : Addr} {k : List Int} (hx : IsT P w s.heap k x) (hu : A.units < cLine)
    (inj : ∀ p ∈ L, thash P w p.2 = thash P w k → p.2 = k) {Q : SetFound → Shared → Prop} (yes : k ∈ L.map (·.2) → Q (.there none) s)
    (no : ∀ K, k ∉ L.map (·.2) → way t.mask (thash P w k) K ∉ t.place.toList → (∀ c, c < K → way t.mask (thash P w k) c ∈ t.place.toList) → Q (.free (way t.mask (thash P w k) K) false) s) :
    wpAny (model P w) A (setSearch a (.ref x) (thash P w k) true) Q E s := by
  obtain ⟨o, ho, hex, hd⟩ := Z.obj
  obtain ⟨K, f1, f2, f3⟩ := Z.tbl.first (by have := Z.gap; rw [List.length_map]; omega) (thash P w k)
  unfold setSearch
  show wpAny (model P w) A (setSearchFrom a (.ref x) (thash P w k) true (99999 + 1) none) Q E s
  rw [setSearchFrom_succ]
  refine wpAny_bind (wpAny_setState_of ho hd Z.fit ?_)
  dsimp only
  refine wp_if_neg (by unfold SetTable.gaveWay; rw [mask_odd Z.tbl.mok]; decide) ?_
  try refine wpAny_bind (wpAny_pure ?_)
  have word := go_spec t Z.tbl.ris Z.tbl.dm (fun i => (es[i]?.map (·.1)).getD 0) (thash P w k) (10 * SetTable.turns t.mask) K (t.probeStart (thash P w k)) rfl f1 f3 f2
  rcases word with ⟨q, i, hq, hi, hh, -, pr⟩ | ⟨hn, pr⟩
  · have pr2 : t.probe (fun i => (es[i]?.map (·.1)).getD 0) (thash P w k) ((none : Option SetTable.Probe).getD (t.probeStart (thash P w k))) = _ := pr
    rw [pr2]
    dsimp only
    have hil : i < L.length := by
      have z := (List.getElem?_eq_some_iff.mp hi).1
      rw [Array.length_toList, Z.plc, rows_num Z.row] at z
      exact z
    have hL := List.getElem?_eq_getElem hil
    have hmem := List.getElem_mem hil
    generalize L[i] = p at hL hmem
    have hent := rows_ent Z.row hL
    have hkey : p.2 = k := inj p hmem (by
      simp only [hent] at hh
      exact hh)
    have last : wpAny (model P w) A (searchRest a (.ref x) (thash P w k) true 99999 es t (nth t.mask (t.probeStart (thash P w k)) q).j i (nth t.mask (t.probeStart (thash P w k)) (q + 1))) Q E s := by
      unfold searchRest
      rw [hent]
      refine wpAny_bind (wpAny_holding (wpAny_eqBool_tuple hu (tt p hmem) hx ?_))
      refine wpAny_bind (wpAny_setState_of ho hd Z.fit ?_)
      exact wp_if_pos (by simp [hkey]) (wpAny_pure (yes (List.mem_map.mpr ⟨p, hmem, hkey⟩)))
    cases hl : t.led with
    | true =>
      refine wp_if_neg (by simp) ?_
      try refine wpAny_bind (wpAny_pure ?_)
      exact last
    | false =>
      refine wp_if_pos (by simp) (wpAny_bind (seen_tup hx (fun y hy => ?_) ?_))
      · obtain ⟨e, he, rfl⟩ := List.mem_map.mp hy
        have h1 : e ∈ es.toList := by
          have z : e ∈ es ∧ e.1 = thash P w k := by simpa using he
          simpa using z.1
        rw [Z.row] at h1
        obtain ⟨p2, hp2, rfl⟩ := List.mem_map.mp h1
        exact ⟨p2.2, p2.1, rfl, tt p2 hp2⟩
      · refine wp_if_neg Bool.false_ne_true ?_
        try refine wpAny_bind (wpAny_pure ?_)
        exact last
  · have pr2 : t.probe (fun i => (es[i]?.map (·.1)).getD 0) (thash P w k) ((none : Option SetTable.Probe).getD (t.probeStart (thash P w k))) = _ := pr
    rw [pr2]
    refine wpAny_pure (no K (fun hm => ?_) f2 f3)
    obtain ⟨p, hp, hk⟩ := List.mem_map.mp hm
    obtain ⟨i, hi, rfl⟩ := List.getElem_of_mem hp
    have hL := List.getElem?_eq_getElem hi
    have hil : i < t.place.toList.length := by
      rw [Array.length_toList, Z.plc, rows_num Z.row]
      exact hi
    have hj := List.getElem?_eq_getElem hil
    obtain ⟨c, hc, e⟩ := Z.tbl.before f2 (h := thash P w k) (by rw [List.getElem?_map, hL, ← hk]; rfl) hj
    refine hn c i hc (by rw [hj, ← e]; rfl) ?_
    simp only [rows_ent Z.row hL]
    exact congrArg (thash P w) hk

/-! ### a larger table -/
theorem regrow {o : Obj} (ho : s.heap.get? a = some o) (hex : o.ExactSet) (hd : o.data = .set es ep t) (hr : es.toList = rowsOf P w L) (hz : t.place.size = es.size) (hdm : t.dummies = #[]) (hm : es.size ≤ t.mask)
    (nd : (L.map (·.2)).Nodup) (hp : t.plain = true) (hl : w.params.followText "set-order" = true ∨ t.led = true) {want M : Nat} (hw : SetTable.sizeAbove want = M + 1) (hM : MaskOk M) (hg : L.length * 5 < M * 3) {Q : Unit → Shared → Prop}
    (hQ : ∀ h' L' es' ep' t', Heap.SameBut a s.heap h' → Lies P w h' a L' es' ep' t' → L'.Perm L → Q () { s with heap := h' }) : wpAny (model P w) A (setRelay a want) Q E s := by
  have hn := rows_num hr
  have hM2 : M ≤ 127 := by rcases hM with e | e | e <;> omega
  obtain ⟨t', order, e1, e2, e3, e4, e5, e6, -⟩ := relaid_ok t (hs := es.map (·.1)) (wanted := want) (by rw [hw]; rfl) hM (by rw [Array.size_map, hn]; omega)
  rw [Array.size_map, hn] at e2
  obtain ⟨N, r1, r2, r3⟩ := order_rows L es order hr e2
  rw [← r3] at e3
  have hs2 : (order.filterMap (es[·]?)).size = es.size := by rw [rows_num r1, r2.length_eq, hn]
  rw [setRelay_eq]
  refine wpAny_bind (wpAny_setState_of ho hd (fits_of hz hdm hm) ?_)
  dsimp only
  refine wp_if_neg (by rw [hw, sizeLine_eq]; omega) ?_
  try refine wpAny_bind (wpAny_pure ?_)
  rw [e1]
  dsimp only
  refine wpAny_bind (wp_if_neg (by rw [hs2]; simp) ?_)
  try refine wpAny_bind (wpAny_pure ?_)
  refine wpAny_pure (wpAny_storeSet_of ho hd ?_ (by rw [hs2, hn, sizeLine_eq]; omega))
  refine hQ _ N (order.filterMap (es[·]?)) (ep + 1) t' (Heap.SameBut.update ..) ⟨⟨_, store_at ho hd, ⟨hex.1, hex.2.1, hex.2.2⟩, rfl⟩, r1, e3, (r2.map (·.2)).nodup_iff.mpr nd, by rw [e6]; exact hp, by rw [e5]; exact hl, ?_⟩ r2
  rw [r2.length_eq, e4]
  exact hg

/-! ### one more -/
theorem put_in (Z : Lies P w s.heap a L es ep t) (tt : ∀ p ∈ L, IsT P w s.heap p.2 p.1) {x : Addr} {k : List Int} (hx : IsT P w s.heap k x) (hu : A.units < cLine)
    (inj : ∀ p ∈ L, thash P w p.2 = thash P w k → p.2 = k) (few : k ∉ L.map (·.2) → L.length < 76) {Q : Bool → Shared → Prop}
    (old : k ∈ L.map (·.2) → Q false s) (new : k ∉ L.map (·.2) → ∀ h' N es' ep' t', Heap.SameBut a s.heap h' → Lies P w h' a N es' ep' t' → N.Perm ((x, k) :: L) → Q true { s with heap := h' }) :
    wpAny (model P w) A (setAddHashed a (.ref x) (thash P w k)) Q E s := by
  obtain ⟨o, ho, hex, hd⟩ := Z.obj
  have hn := rows_num Z.row
  unfold setAddHashed
  refine wpAny_holding ?_
  show wpAny (model P w) A (setAddHashedIn a (.ref x) (thash P w k) (99999 + 1)) Q E s
  rw [setAddHashedIn_succ]
  refine wpAny_bind (wpAny_setState_of ho hd Z.fit ?_)
  dsimp only
  refine wp_if_neg (by simp [byScan, Value.scannable]) ?_
  try refine wpAny_bind (wpAny_pure ?_)
  refine wpAny_bind (seek Z tt hx hu inj (fun h => wpAny_pure (old h)) fun K hk n1 n2 => ?_)
  have few := few hk
  have put := Z.tbl.put n1 n2
  generalize way t.mask (thash P w k) K = at_ at put ⊢
  dsimp only
  refine wpAny_bind (wpAny_setState_of ho hd Z.fit ?_)
  dsimp only
  obtain ⟨u1, u2, u3, u4, u5, u6, -, -, u9⟩ := put
  have pl : (t.put at_).1.plain = true := by rw [u6]; exact Z.pln
  have od : w.params.followText "set-order" = true ∨ (t.put at_).1.led = true := by rw [u5]; exact Z.ord
  have h1 : (SetTable.insertAt es (SetTable.below t.place at_) (thash P w k, Value.ref x)).toList = rowsOf P w (L.take (SetTable.below t.place at_) ++ (x, k) :: L.drop (SetTable.below t.place at_)) := by
    rw [SetTable.toList_insertAt, rows_put, Z.row]
  have h2 := put_perm L (SetTable.below t.place at_) (x, k)
  have h3 : (L.map fun p => thash P w p.2).take (SetTable.below t.place at_) ++ thash P w k :: (L.map fun p => thash P w p.2).drop (SetTable.below t.place at_) = (L.take (SetTable.below t.place at_) ++ (x, k) :: L.drop (SetTable.below t.place at_)).map fun p => thash P w p.2 := by
    simp [List.map_take, List.map_drop]
  rw [h3] at u3
  clear h3
  rw [List.length_map] at u9
  generalize t.put at_ = pt at u1 u3 u4 u5 u6 u9 pl od ⊢
  obtain ⟨t1, b⟩ := pt
  dsimp only at u1 u3 u4 u5 u6 u9 pl od ⊢
  subst u1
  generalize SetTable.insertAt es (SetTable.below t.place at_) (thash P w k, Value.ref x) = es1 at h1 ⊢
  generalize L.take (SetTable.below t.place at_) ++ (x, k) :: L.drop (SetTable.below t.place at_) = N at h1 h2 u3
  have hN : N.length = L.length + 1 := h2.length_eq
  have he1 : es1.size = L.length + 1 := by rw [rows_num h1, hN]
  have nd : (N.map (·.2)).Nodup := by
    rw [(h2.map (·.2)).nodup_iff]
    exact List.nodup_cons.mpr ⟨hk, Z.one⟩
  first
    | (refine wpAny_bind ?_; refine wp_if_pos pl ?_; refine hashBy_tup hx ?_)
    | refine wp_if_pos pl (wpAny_bind (hashBy_tup hx ?_))
  simp only [if_true]
  refine wpAny_bind (wpAny_storeSet_of ho hd ?_ (by rw [he1, sizeLine_eq]; omega))
  have sb : Heap.SameBut a s.heap (s.heap.update a (Obj.putSet es1 t1)) := Heap.SameBut.update ..
  have ho1 := store_at (es' := es1) (t' := t1) ho hd
  generalize s.heap.update a (Obj.putSet es1 t1) = g1 at sb ho1 ⊢
  have gap := Z.gap
  cases hf : t1.tooFull with
  | false =>
    first
      | refine wp_if_neg (by simp) ?_
      | (refine wpAny_bind ?_; refine wp_if_neg (by simp) ?_; refine wpAny_pure ?_)
    refine wpAny_pure (new hk g1 N es1 (ep + 1) t1 sb ⟨⟨_, ho1, ⟨hex.1, hex.2.1, hex.2.2⟩, rfl⟩, h1, u3, nd, pl, od, ?_⟩ h2)
    unfold SetTable.tooFull at hf
    rw [decide_eq_false_iff_not, u9] at hf
    omega
  | true =>
    unfold SetTable.tooFull at hf
    rw [decide_eq_true_eq, u9, u4] at hf
    have two : (t.mask = 7 ∧ L.length = 4) ∨ (t.mask = 31 ∧ L.length = 18) := by
      rcases Z.tbl.mok with e | e | e
      · exact .inl ⟨e, by omega⟩
      · exact .inr ⟨e, by omega⟩
      · omega
    have hz1 : t1.place.size = es1.size := by rw [u3.sz, List.length_map, hN, he1]
    have grow : ∃ M, SetTable.sizeAbove (SetTable.grown (es.size + 1)) = M + 1 ∧ MaskOk M ∧ N.length * 5 < M * 3 := by
      rw [hn, hN]
      rcases two with ⟨_, e⟩ | ⟨_, e⟩ <;> rw [e]
      · exact ⟨31, size_20, .inr (.inl rfl), by decide⟩
      · exact ⟨127, size_76, .inr (.inr rfl), by decide⟩
    obtain ⟨M, g2, g3, g4⟩ := grow
    have go : wpAny (model P w) A (setRelay a (SetTable.grown (es.size + 1))) (fun _ s' => wpAny (model P w) A (pure true) Q E s') E { s with heap := g1 } :=
      regrow (s := { s with heap := g1 }) ho1 ⟨hex.1, hex.2.1, hex.2.2⟩ rfl h1 hz1 u3.dm (by rw [he1, u4]; rcases two with ⟨e, e2⟩ | ⟨e, e2⟩ <;> omega) nd pl od g2 g3 g4 fun h' N' es' ep' t' sb2 Z2 pm =>
        wpAny_pure (new hk h' N' es' ep' t' (sb.trans sb2) Z2 (pm.trans h2))
    first
      | (refine wpAny_bind ?_; refine wp_if_pos (by simp) ?_; exact go)
      | (refine wp_if_pos (by simp) ?_; refine wpAny_bind ?_; exact go)
end
end Tu

set_option Elab.async false
set_option linter.all false
set_option maxRecDepth 100000
set_option maxHeartbeats 4000000
/-! Tu2: set(xs) of a list of tuples, sorted of it. -/
namespace Tu
open PySem PySem.Spec PyProof.Rows L2
/-- the keys that may come: not too many, of unlike hashes -/
structure Dom (P : Program) (w : World) (D : List (List Int)) : Prop where
  few : D.length ≤ 76
  inj : ∀ k, k ∈ D → ∀ m, m ∈ D → thash P w k = thash P w m → k = m
theorem len_sub {α : Type} [DecidableEq α] : ∀ {l D : List α}, l.Nodup → (∀ x, x ∈ l → x ∈ D) → l.length ≤ D.length
  | [], _, _, _ => Nat.zero_le _
  | x :: l, D, n, h => by
    have n' := List.nodup_cons.mp n
    have hx := h x List.mem_cons_self
    have q := len_sub (D := D.erase x) n'.2 fun y hy => (List.mem_erase_of_ne (fun e => n'.1 (by rw [← e]; exact hy))).mpr (h y (List.mem_cons_of_mem _ hy))
    rw [List.length_erase_of_mem hx] at q
    have := List.length_pos_of_mem hx
    rw [List.length_cons]
    omega
section
variable {P : Program} {w : World} {A : Around} {E : Value → Shared → Prop} {s : Shared}
theorem Lies.on {h h' : Heap} {a : Addr} {L : List (Addr × List Int)} {es : Array (Int × Value)} {ep : Nat} {t : SetTable} (Z : Lies P w h a L es ep t) (k : ∀ o, h.get? a = some o → h'.get? a = some o) : Lies P w h' a L es ep t :=
  ⟨let ⟨o, h1, h2⟩ := Z.obj; ⟨o, k o h1, h2⟩, Z.row, Z.tbl, Z.one, Z.pln, Z.ord, Z.gap⟩
/-- the set at S has what the first i items of ks are; what stood at h0 stands -/
structure Stage (P : Program) (w : World) (D : List (List Int)) (ks : List (Addr × List Int)) (S : Addr) (h0 : Heap) (i : Nat) (h : Heap) : Prop where
  old : ∀ b o, h0.get? b = some o → h.get? b = some o
  set_ : ∃ L es ep t, Lies P w h S L es ep t ∧ Got ks i L
/-- what stays over all steps -/
structure Base (P : Program) (w : World) (D : List (List Int)) (ks : List (Addr × List Int)) (S : Addr) (h0 : Heap) : Prop where
  dom : Dom P w D
  tup : ∀ p ∈ ks, IsT P w h0 p.2 p.1
  sub : ∀ p ∈ ks, p.2 ∈ D
  new : h0.get? S = none
variable {D : List (List Int)} {ks : List (Addr × List Int)} {S : Addr} {h0 : Heap} {i : Nat}
theorem Stage.moved {h h' : Heap} (B : Base P w D ks S h0) (Z : Stage P w D ks S h0 i h) (k1 : ∀ o, h.get? S = some o → h'.get? S = some o) (k2 : ∀ b o, h0.get? b = some o → h.get? b = some o → h'.get? b = some o) : Stage P w D ks S h0 i h' :=
  ⟨fun b o e => k2 b o e (Z.old b o e), let ⟨L, es, ep, t, z, g⟩ := Z.set_; ⟨L, es, ep, t, z.on k1, g⟩⟩
theorem stage_add (B : Base P w D ks S h0) (Z : Stage P w D ks S h0 i s.heap) {p : Addr × List Int} (hp : ks[i]? = some p) (hu : A.units < cLine) {Q : Bool → Shared → Prop}
    (hQ : ∀ b h' tk, Heap.SameBut S s.heap h' → Stage P w D ks S h0 (i + 1) h' → s.toks ≤ tk → Q b { s with heap := h', toks := tk }) : wpAny (model P w) A (setAdd S (.ref p.1)) Q E s := by
  obtain ⟨L, es, ep, t, z, g⟩ := Z.set_
  have hin := List.mem_of_getElem? hp
  have up : ∀ {k b}, IsT P w h0 k b → IsT P w s.heap k b := fun x => isT_keep x Z.old
  have inL : ∀ q ∈ L, q ∈ ks := fun q hq => List.mem_of_mem_take (g.sub q hq)
  have hx := up (B.tup p hin)
  have keep : ∀ h', Heap.SameBut S s.heap h' → ∀ b o, h0.get? b = some o → h'.get? b = some o := fun h' sb b o e => by
    refine (sb.2 b fun q => ?_).trans (Z.old b o e)
    rw [q, B.new] at e
    cases e
  unfold setAdd
  refine wpAny_holding (wpAny_bind (wpAny_pyHash_tuple hu hx ?_))
  refine put_in (s := { s with toks := s.toks + (p.2.length + 1) }) z (fun q hq => up (B.tup q (inL q hq))) hx hu (fun q hq e => B.dom.inj _ (B.sub q (inL q hq)) _ (B.sub p hin) e) (fun hm => ?_) (fun hm => ?_) fun hm h' N es' ep' t' sb z' pm => ?_
  · have q := len_sub (l := p.2 :: L.map (·.2)) (D := D) (List.nodup_cons.mpr ⟨hm, z.one⟩) fun k hk => by
      rcases List.mem_cons.mp hk with e | e
      · exact e ▸ B.sub p hin
      · obtain ⟨r, hr, e2⟩ := List.mem_map.mp e
        exact e2 ▸ B.sub r (inL r hr)
    have := B.dom.few
    rw [List.length_cons, List.length_map] at q
    omega
  · exact hQ false s.heap _ (.refl S s.heap) ⟨Z.old, L, es, ep, t, z, g.same hp hm⟩ (Nat.le_add_right _ _)
  · exact hQ true h' _ sb ⟨keep h' sb, N, es', ep', t', z', g.more hp pm⟩ (Nat.le_add_right _ _)

/-! ### the loop of set.update -/
theorem fill {I : Addr} {fp wr : List Addr} {G : Array GenState → Array GenState → Prop} {Pv : Nat → Value → Prop} {St : Nat → Shared → Prop} {R : Result → Shared → Prop}
    (W : WalksS P w A.in1 I fp wr G ks.length Pv St) (B : Base P w D ks S h0) (hS : S ∉ fp) (val : ∀ i v, Pv i v → ∃ p, ks[i]? = some p ∧ v = .ref p.1) (hw : ∀ b ∈ wr, h0.get? b = none) (hu : A.in1.units < cLine) (m : Nat) :
    ∀ (i : Nat) (s : Shared), i + m = ks.length → St i s → Stage P w D ks S h0 i s.heap → (∀ s', Moved (S :: wr) G s s' → Stage P w D ks S h0 ks.length s'.heap → R (.ok (.ret .none)) s') →
      codeAny (model P w) A (.builtin "set.update.loop" ⟨[.ref S, .ref I], []⟩) R s := by
  have nS : S ∉ wr := fun h => hS (W.sub _ h)
  have wide : ∀ b ∈ wr, b ∈ S :: wr := fun b => List.mem_cons_of_mem S
  have over : ∀ {s s' : Shared} {i : Nat}, Moved wr G s s' → Stage P w D ks S h0 i s.heap → Stage P w D ks S h0 i s'.heap := fun mv z =>
    z.moved B (fun o e => mv.heap S o nS e) fun b o e1 e2 => mv.heap b o (fun hb => by rw [hw b hb] at e1; cases e1) e2
  induction m with
  | zero =>
    intro i s hm hst z hR
    obtain rfl : i = ks.length := by omega
    refine codeAny_builtin F.entry_set_update_loop (by
      rw [Around.under_plainId F.plain_set_update_loop _]
      exact (show wpAny _ A.in1 (pyNext (.ref I) >>= _) _ _ s from wpAny_bind (W.done s _ _ hst fun s' mv => wpAny_pure (hR s' (mv.mono wide) (over mv z)))))
  | succ m ih =>
    intro i s hm hst z hR
    refine codeAny_builtin F.entry_set_update_loop ?_
    rw [Around.under_plainId F.plain_set_update_loop _]
    refine (show wpAny _ A.in1 (pyNext (.ref I) >>= _) _ _ s from wpAny_bind (W.item i s _ _ (by omega) hst fun v s' hv hst' mv => ?_))
    obtain ⟨p, hp, rfl⟩ := val i v hv
    refine (show wpAny _ A.in1 (holding [Value.ref p.1] (setAdd S (.ref p.1)) >>= _) _ _ s' from wpAny_bind (wpAny_holding (stage_add B (over mv z) hp hu fun b h' tk sb z' ht => ?_)))
    have other : ∀ c, c ≠ S → h'.get? c = s'.heap.get? c := fun c hc => sb.2 c hc
    refine wpAny_pure ⟨plainId_quiet F.plain_set_update_loop _, ih (i + 1) _ (by omega) (W.frame _ s' _ _ hst' ht fun c hc o e => ?_) z' fun s'' mv2 z2 => hR s'' (Moved.trans W.gtrans ((mv.mono wide).then_heap ht fun c o hc e => ?_) mv2) z2⟩
    · exact (other c fun q => hS (q ▸ hc)).trans e
    · exact (other c fun q => hc (q ▸ List.mem_cons_self)).trans e
end
end Tu

set_option Elab.async false
set_option linter.all false
set_option maxRecDepth 100000
set_option maxHeartbeats 4000000
/-! Tu3: the call set(xs) and sorted of that set, as rules of the layer. -/
namespace Tu
open PySem PySem.Spec PyProof.Rows L2
section
variable {P : Program} {w : World} {A : Around} {E : Value → Shared → Prop} {s : Shared} {D : List (List Int)} {ks : List (Addr × List Int)}
/-- a set as it is made -/
abbrev bare (w : World) : Obj := { cls := .type "set", dict := none, data := .set #[] 0 (.fresh 0 0 (!w.params.followText "set-order")) }
theorem bare_lies {h : Heap} {a : Addr} (e : h.get? a = some (bare w)) : Lies P w h a [] #[] 0 (.fresh 0 0 (!w.params.followText "set-order")) := by
  refine ⟨⟨_, e, ⟨rfl, rfl, rfl⟩, rfl⟩, rfl, ⟨.nil, rfl, rfl, .inl rfl, (fun x hx => nomatch hx), (fun i h j hi => nomatch hi)⟩, .nil, rfl, ?_, by show 0 * 5 < 7 * 3; decide⟩
  show _ ∨ (!w.params.followText "set-order") = true
  cases w.params.followText "set-order"
  · exact .inr rfl
  · exact .inl rfl
theorem val_at {items : Array Value} (e : items.toList = ks.map fun p => Value.ref p.1) (i : Nat) (v : Value) (h : items[i]? = some v) : ∃ p, ks[i]? = some p ∧ v = .ref p.1 := by
  rw [← Array.getElem?_toList, e, List.getElem?_map, Option.map_eq_some_iff] at h
  obtain ⟨p, h1, h2⟩ := h
  exact ⟨p, h1, h2.symm⟩
theorem beyond {h : Heap} {b : Addr} (hb : h.objs.size ≤ b) : h.get? b = none := by
  cases q : h.get? b with
  | none => rfl
  | some o => exact absurd (Heap.lt_size q) (Nat.not_lt.mpr hb)
/-- set.__init__ of the list, the bare set at the heap's end -/
theorem init_list {l : Addr} {items : Array Value} (hh : A.handled = none) (hl : s.heap.IsList l items) (hit : items.toList = ks.map fun p => Value.ref p.1) (hk : ∀ p ∈ ks, IsT P w s.heap p.2 p.1) (dm : Dom P w D) (hD : ∀ p ∈ ks, p.2 ∈ D) (hu : A.units + 1 < cLine)
    {R : PySem.Fin → Shared → Prop} (h : ∀ h' tk, Stage P w D ks s.heap.objs.size s.heap ks.length h' → R (.done (.ret .none)) { s with heap := h', toks := tk }) :
    wpAny (model P w) A (Builtin.«set.__init__» ⟨[.ref s.heap.objs.size, .ref l], []⟩) R E { s with heap := s.heap.push (bare w) } := by
  have fresh : s.heap.get? s.heap.objs.size = none := beyond (Nat.le_refl _)
  have at0 : (s.heap.push (bare w)).get? s.heap.objs.size = some (bare w) := Heap.get?_push_size _ rfl
  have size : (s.heap.push (bare w)).objs.size = s.heap.objs.size + 1 := Heap.size_push ..
  have kind : Shared.TypeIs { s with heap := s.heap.push (bare w) } (.ref s.heap.objs.size) "set" := ⟨_, at0, rfl⟩
  obtain ⟨⟨cl, dc, dt, sl⟩, lo, rfl, n, rfl⟩ := hl
  have llt := Heap.lt_size lo
  have lo1 := Heap.get?_push_of_some (bare w) lo
  have list1 : (s.heap.push (bare w)).IsList l items := ⟨_, lo1, rfl, n, rfl⟩
  have no1 := F.sub_list_set
  have no2 := F.sub_list_frozenset
  have no3 : (Value.type "list" == Value.type "dict") = false := by decide
  unfold Builtin.«set.__init__» noKeywords Builtin.Frozenset.updateFrom
  generalize eI : pyIter = it
  wp_walk
  subst eI
  refine wpAny_pyIter_list list1 (wpAny_bind (wpAny_runValue ?_))
  have ne1 : l ≠ (s.heap.push (bare w)).objs.size := by rw [size]; exact Nat.ne_of_lt (Nat.lt_succ_of_lt llt)
  have num : items.size = ks.length := by rw [← Array.length_toList, hit, List.length_map]
  have W := (Walks.list (prog := P) (w := w) (A := A.in1) (by simp [hh]) (s.heap.push (bare w)).objs.size l ne1 items).toS
  rw [num] at W
  have B : Base P w D ks s.heap.objs.size s.heap := ⟨dm, hk, hD, fresh⟩
  refine fill W B (fun q => by rw [size] at q; rcases List.mem_cons.mp q with q | q; exact absurd q (Nat.ne_of_lt (Nat.lt_succ_self _)); exact absurd (List.mem_singleton.mp q) (Nat.ne_of_gt llt)) (val_at hit) (fun b hb => beyond (by rw [List.mem_singleton.mp hb, size]; exact Nat.le_succ _)) hu ks.length 0 _ (Nat.zero_add _) ⟨⟨_, Heap.get?_push_size _ rfl, rfl, rfl⟩, list1.push _⟩
    ⟨fun b o e => Heap.get?_push_of_some _ (Heap.get?_push_of_some _ e), _, _, _, _, bare_lies (Heap.get?_push_of_some _ at0), .zero ks⟩ fun s' mv z => ?_
  obtain ⟨h', g', d', tk', os'⟩ := s'
  obtain rfl : g' = s.gens := mv.gens
  obtain rfl : d' = s.drawn := mv.drawn
  obtain rfl : os' = s.os := mv.os
  exact wpAny_pure (wpAny_pure (h h' tk' z))
/-- set(xs) -/
theorem made {l : Addr} {items : Array Value} {Q : Value → Shared → Prop} (hh : A.handled = none) (hl : s.heap.IsList l items) (hit : items.toList = ks.map fun p => Value.ref p.1) (hk : ∀ p ∈ ks, IsT P w s.heap p.2 p.1) (dm : Dom P w D) (hD : ∀ p ∈ ks, p.2 ∈ D) (hu : A.units + 4 < cLine)
    (h : ∀ h' tk, Stage P w D ks s.heap.objs.size s.heap ks.length h' → Q (.ref s.heap.objs.size) { s with heap := h', toks := tk }) : wpAny (model P w) A (call (.type "set") [.ref l]) Q E s := by
  have ⟨cl, tl, mro⟩ := F.called_set.mro
  have f1 := F.called_set.made
  have f2 := F.called_set.sub
  have f3 := F.called_set.notType
  have f4 := F.called_set.canCreate
  have f5 := F.typeCall_set_1 (.ref l)
  refine wpAny_call (codeAny_of_tree (show wpAny _ _ (callAny (.type "set") _) _ _ _ from wpAny_pure ⟨Code.quiet_builtin _ (by decide +kernel), codeAny_builtin F.entry_type_call ?_⟩))
  rw [Around.under_plain (weight_type_call_type "set" [.ref l] []) rfl]
  repeat' first
    | assumption
    | wp_step
  refine codeAny_mono (code_set_led1 (.ref l) (E := E) (Q₁ := fun v s1 => v = .ref s.heap.objs.size ∧ s1 = { s with heap := s.heap.push (bare w) }) ⟨rfl, rfl⟩) fun r s1 hr => ?_
  rcases r with e | fl
  · exact hr
  · cases fl with
    | ret v =>
      obtain ⟨rfl, rfl⟩ := hr
      have at0 : (s.heap.push (bare w)).get? s.heap.objs.size = some (bare w) := Heap.get?_push_size _ rfl
      have kind : Shared.TypeIs { s with heap := s.heap.push (bare w) } (.ref s.heap.objs.size) "set" := ⟨_, at0, rfl⟩
      have g1 := F.called_set.init.lookup
      have g2 := F.called_set.init.bind (.ref s.heap.objs.size)
      repeat' first
        | assumption
        | wp_step
      refine codeAny_mono (codeAny_call_builtin (R := wants (fun r s2 => r = .none ∧ ∃ h' tk, s2 = { s with heap := h', toks := tk } ∧ Stage P w D ks s.heap.objs.size s.heap ks.length h') E) F.called_set.init.plain F.entry_set_init (check_set_init_1 kind
        (init_list (by simp [hh]) hl hit hk dm hD (by simp; omega) fun h' tk z => ⟨rfl, h', tk, rfl, z⟩))) fun r s2 hr => ?_
      rcases r with e | fl
      · exact hr
      · cases fl with
        | ret v =>
          obtain ⟨rfl, h', tk, rfl, z⟩ := hr
          repeat' first
            | assumption
            | wp_step
          exact h h' tk z
        | _ => exact hr.elim
    | _ => exact hr.elim
end
end Tu

set_option Elab.async false
set_option linter.all false
set_option maxRecDepth 100000
set_option maxHeartbeats 4000000
/-! Tu4: sorted of a set of pairs; both calls as rules of the layer. -/
namespace Tu
open PySem PySem.Spec PyProof.Rows L2
/-- one pair of ints ahead of another -/
def ahead (x y : List Int) : Prop := x.getD 0 0 < y.getD 0 0 ∨ (x.getD 0 0 = y.getD 0 0 ∧ x.getD 1 0 < y.getD 1 0)
section
variable {P : Program} {w : World} {A : Around} {E : Value → Shared → Prop} {s : Shared}
/-- the two ints that stand at an address, by a list that tells -/
def told (L : List (Addr × List Int)) (v : Value) : Int × Int := match v with
  | .ref b => match L.find? (fun p => decide (p.1 = b)) with
    | some p => (p.2.getD 0 0, p.2.getD 1 0)
    | none => (0, 0)
  | _ => (0, 0)
theorem told_at {h : Heap} {L : List (Addr × List Int)} (tt : ∀ p ∈ L, IsT P w h p.2 p.1) {p : Addr × List Int} (hp : p ∈ L) : told L (.ref p.1) = (p.2.getD 0 0, p.2.getD 1 0) := by
  show (match L.find? (fun q => decide (q.1 = p.1)) with | some q => (q.2.getD 0 0, q.2.getD 1 0) | none => (0, 0)) = _
  cases e : L.find? (fun q => decide (q.1 = p.1)) with
  | none => exact absurd (List.find?_eq_none.mp e p hp) (by simp)
  | some q =>
    have h1 : q.1 = p.1 := by simpa using List.find?_some e
    have h2 := tt q (List.mem_of_find?_eq_some e)
    rw [h1] at h2
    show (q.2.getD 0 0, q.2.getD 1 0) = _
    rw [h2.inj (tt p hp)]
theorem isPair_of {h : Heap} {k : List Int} {b : Addr} (x : IsT P w h k b) (h2 : k.length = 2) : Srt.IsPair h (.ref b) (k.getD 0 0) (k.getD 1 0) := by
  obtain ⟨o, items, n, ho, hc, hd, hi⟩ := x
  match k, h2 with
  | [i, j], _ =>
    cases hi' : items.toList with
    | nil => rw [hi'] at hi; cases hi
    | cons u us =>
      rw [hi'] at hi
      cases hi with
      | cons a1 r1 =>
        cases r1 with
        | cons a2 r2 =>
          cases r2
          obtain ⟨t1, rfl⟩ := Value.isInt_shape a1
          obtain ⟨t2, rfl⟩ := Value.isInt_shape a2
          have e : items = #[Value.int i t1, Value.int j t2] := by
            apply Array.toList_inj.mp
            rw [hi']
          exact ⟨b, o, t1, t2, n, rfl, ho, hc, by rw [hd, e]; rfl⟩
/-- lists of addresses out of others -/
theorem back {L : List (Addr × List Int)} : ∀ {vs : List Value}, (∀ v ∈ vs, ∃ p ∈ L, v = Value.ref p.1) → ∃ N : List (Addr × List Int), vs = N.map (fun p => Value.ref p.1) ∧ ∀ p ∈ N, p ∈ L
  | [], _ => ⟨[], rfl, fun _ h => nomatch h⟩
  | v :: vs, h => by
    obtain ⟨p, hp, rfl⟩ := h v List.mem_cons_self
    obtain ⟨N, rfl, hN⟩ := back (vs := vs) fun u hu => h u (List.mem_cons_of_mem _ hu)
    exact ⟨p :: N, rfl, fun q hq => by
      rcases List.mem_cons.mp hq with e | e
      · exact e ▸ hp
      · exact hN q e⟩
theorem addr_one {h : Heap} {L : List (Addr × List Int)} (tt : ∀ p ∈ L, IsT P w h p.2 p.1) {p q : Addr × List Int} (hp : p ∈ L) (hq : q ∈ L) (e : p.1 = q.1) : p = q := by
  have h1 := tt p hp
  rw [e] at h1
  exact Prod.ext e (h1.inj (tt q hq))
theorem perm_back {h : Heap} {L N : List (Addr × List Int)} (tt : ∀ p ∈ L, IsT P w h p.2 p.1) (one : (L.map (·.2)).Nodup) (hN : ∀ p ∈ N, p ∈ L) (pm : (N.map fun p => Value.ref p.1).Perm (L.map fun p => Value.ref p.1)) : N.Perm L := by
  have nL : L.Nodup := List.Pairwise.of_map (·.2) (fun _ _ hne e => hne (congrArg _ e)) one
  have nA : (L.map fun p => Value.ref p.1).Nodup := List.pairwise_map.mpr (nL.imp_of_mem fun hp hq hne e => hne (addr_one tt hp hq (Value.ref.inj e)))
  have nN : N.Nodup := List.Pairwise.of_map (fun p : Addr × List Int => Value.ref p.1) (fun a b hne e => hne (by rw [e])) (pm.nodup_iff.mpr nA)
  refine (List.perm_ext_iff_of_nodup nN nL).mpr fun p => ⟨hN p, fun hp => ?_⟩
  obtain ⟨q, hq, e⟩ := List.mem_map.mp (pm.mem_iff.mpr (List.mem_map.mpr ⟨p, hp, rfl⟩))
  rw [← addr_one tt (hN q hq) hp (Value.ref.inj e)]
  exact hq
theorem sort_set {a : Addr} {L : List (Addr × List Int)} {es : Array (Int × Value)} {ep : Nat} {t : SetTable} {Q : Value → Shared → Prop} (Z : Lies P w s.heap a L es ep t) (tt : ∀ p ∈ L, IsT P w s.heap p.2 p.1) (hh : A.handled = none) (two : ∀ p ∈ L, p.2.length = 2)
    (hQ : ∀ s' b (out : Array Value) (c : Nat) (N : List (Addr × List Int)), (∀ d o, s.heap.get? d = some o → s'.heap.get? d = some o) → s'.gens = s.gens → s'.os = s.os → s.heap.objs.size ≤ b → s'.heap.get? b = some (seqObj "list" out c) →
      out.toList = N.map (fun q => Value.ref q.1) → N.Perm L → N.Pairwise (fun p q => ahead p.2 q.2) → Q (.ref b) s') : wpAny (model P w) A (call (.builtin "sorted") [.ref a]) Q E s := by
  obtain ⟨o, ho, hex, hd⟩ := Z.obj
  have num := Z.num
  have num2 := rows_num Z.row
  apply Calls.call_function_entry kind_sorted plain_sorted entry_sorted (args_sorted1 _)
  unfold Builtin.«sorted»
  apply wpAny_bind (m := checkCount "sorted" 1 1 _)
  apply wpAny_pure
  refine wpAny_bind (collect_set (A := A.in1) hh ⟨o, ho, hex.1, hd⟩ Z.fit (by unfold scanBound; omega) Z.tbl.ris Z.ord fun s1 vs kp hz hg hos pm => ?_)
  have refs : es.toList.map (·.2) = L.map fun q => Value.ref q.1 := by
    rw [Z.row, rowsOf, List.map_map]
    rfl
  rw [refs] at pm
  have inL : ∀ v ∈ vs, ∃ p ∈ L, v = Value.ref p.1 := fun v hv => by
    obtain ⟨p, hp, e⟩ := List.mem_map.mp (pm.mem_iff.mp hv)
    exact ⟨p, hp, e.symm⟩
  have len : vs.length ≤ 76 := by rw [pm.length_eq, List.length_map]; exact num
  refine wpAny_bind (wpAny_newList ?_ (by rw [sizeLine_eq]; omega))
  have oL : (s1.heap.push (seqObj "list" vs.toArray 0)).get? s1.heap.objs.size = some (seqObj "list" vs.toArray 0) := Heap.get?_push_size _ rfl
  have up : ∀ d o, s.heap.get? d = some o → (s1.heap.push (seqObj "list" vs.toArray 0)).get? d = some o := fun d o e => Heap.get?_push_of_some _ (kp d o e)
  have tup : ∀ v ∈ vs, Srt.IsPair (s1.heap.push (seqObj "list" vs.toArray 0)) v (told L v).1 (told L v).2 := fun v hv => by
    obtain ⟨p, hp, rfl⟩ := inL v hv
    rw [told_at tt hp]
    exact isPair_of (isT_keep (tt p hp) up) (two p hp)
  refine wpAny_bind (wpAny_holding (wpAny_call_entry (s := { s1 with heap := s1.heap.push (seqObj "list" vs.toArray 0) }) slot_list_sort ⟨_, oL, rfl⟩ entry_list_sort
    (SrtO.list_sort_ord (ltv := fun v u => SrtO.lexB (told L v) (told L u)) (SrtO.swo_lex (told L)) oL (by rw [sizeLine_eq]; omega) (fun h2 => SrtO.pairs_sortableO (by omega) tup fun o e => ?_) fun out sr sb => ⟨_, rfl, ?_⟩) (args_list_sort _)))
  · obtain rfl := Option.some.inj (oL.symm.trans e)
    exact fun c => absurd (Value.type.inj c) (by decide)
  obtain ⟨c, hc⟩ := sortedHeap_at (vs := vs) (out := out.toArray) oL
  obtain ⟨N, e1, e2⟩ := back (L := L) (vs := out) fun v hv => inL v (sb.perm.mem_iff.mp hv)
  have pN : N.Perm L := perm_back tt Z.one e2 (by rw [← e1]; exact sb.perm.trans pm)
  have pw : N.Pairwise fun p q => ahead p.2 q.2 := by
    have nd : (N.map (·.2)).Nodup := (pN.map (·.2)).nodup_iff.mpr Z.one
    unfold SrtO.Srtd at sr
    rw [e1, List.pairwise_map] at sr
    refine List.Pairwise.imp_of_mem (fun {p q} hp hq h => ?_) (sr.and (List.pairwise_map.mp nd))
    obtain ⟨h1, h2⟩ := h
    have h1 : SrtO.lexB (told L (.ref q.1)) (told L (.ref p.1)) = false := h1
    rw [told_at tt (e2 p hp), told_at tt (e2 q hq)] at h1
    have h3 := SrtO.lexB_no.mp h1
    have p2 := two p (e2 p hp)
    have q2 := two q (e2 q hq)
    generalize p.2 = x at h2 h3 p2
    generalize q.2 = y at h2 h3 q2
    match x, p2 with
    | [x0, x1], _ =>
      match y, q2 with
      | [y0, y1], _ =>
        have h4 : ¬ (x0 = y0 ∧ x1 = y1) := fun z => h2 (by rw [z.1, z.2])
        have h5 : ¬ (y0 < x0 ∨ (y0 = x0 ∧ y1 < x1)) := h3
        show x0 < y0 ∨ (x0 = y0 ∧ x1 < y1)
        omega
  refine wpAny_pure ⟨_, rfl, hQ _ s1.heap.objs.size out.toArray c N (fun d u e => ?_) hg hos hz hc (by simpa using e1) pN pw⟩
  have q := kp d u e
  have lt := Heap.lt_size q
  refine (sortedHeap_old (Nat.ne_of_lt lt) (by rw [size_push']; exact Nat.lt_succ_of_lt lt)).trans ?_
  exact Heap.get?_push_of_some _ q
end
/-! ### the rules -/
def SetO (P : Program) (w : World) (a : Addr) (L : List (Addr × List Int)) : HO := .ext fun h => ∃ es ep t, Lies P w h a L es ep t
theorem setO_ok {P : Program} {w : World} {H : Hp} {h : Heap} {a : Addr} {L : List (Addr × List Int)} (z : ∃ es ep t, Lies P w h a L es ep t) : ObjOk P w H h a (SetO P w a L) :=
  ⟨z, let ⟨_, _, _, z⟩ := z; let ⟨o, ho, _⟩ := z.obj; ⟨o, ho⟩, fun h1 h2 ⟨es, ep, t, z⟩ k => ⟨es, ep, t, z.on k⟩⟩
section
variable {X : Cx}
/-- set(xs) of a list of tuples with keys in D -/
def rSetD (K : PySem.W.Frag) (P : Program) (w : World) (D : List (List Int)) : List V → Hp → VK → Prop := fun xs H Q => ∃ (l : Addr) (ks : List (Addr × List Int)), xs = [V.ref l] ∧ SqL K H l (ks.map fun p => V.ref p.1) ∧ (∀ p ∈ ks, SqT K H p.1 (p.2.map V.int)) ∧ (∀ p ∈ ks, p.2 ∈ D) ∧
  ∀ a L, H a = none → (∀ p ∈ L, p ∈ ks) → (∀ p ∈ ks, p.2 ∈ L.map (·.2)) → (L.map (·.2)).Nodup → Q (.ref a) (upd H a (SetO P w a L))
theorem cr_setD {D : List (List Int)} (dm : Dom X.prog X.w D) (hc : X.calm = true) (hu : X.A.units + 64 < cLine) : CallR X (.type "set") (rSetD X.K X.prog X.w D) := by
  intro pins s σ H xs us Q I r h
  obtain ⟨l, ks, rfl, hl, hk, hD, q⟩ := h
  rw [Vals.ref1 r]
  obtain ⟨its, rv, pl, hz⟩ := I.list hl
  refine made (P := X.prog) (w := X.w) (D := D) (ks := ks) (I.ok.hd hc) pl.isList (by simpa using refs_of_vals rv) (fun p hp => I.isT (hk p hp)) dm hD (by omega) fun h' tk z => ?_
  obtain ⟨L, es, ep, t, z1, g⟩ := z.set_
  refine ⟨.ref s.heap.objs.size, upd H s.heap.objs.size (SetO X.prog X.w s.heap.objs.size L), I.laid (t' := tk) z.old (Nat.le_refl _) (setO_ok ⟨es, ep, t, z1⟩), rfl, q _ L (I.hok.fresh (Nat.le_refl _)) (fun p hp => List.mem_of_mem_take (g.sub p hp)) (fun p hp => ?_) z1.one⟩
  exact g.all p (by rw [List.take_length]; exact hp)
/-- sorted(set) of pairs -/
def rSortD (K : PySem.W.Frag) (P : Program) (w : World) : List V → Hp → VK → Prop := fun vs H Q => ∃ (a : Addr) (L : List (Addr × List Int)), vs = [V.ref a] ∧ H a = some (SetO P w a L) ∧ (∀ p ∈ L, SqT K H p.1 (p.2.map V.int)) ∧ (∀ p ∈ L, p.2.length = 2) ∧
  ∀ (N : List (Addr × List Int)) (b : Addr), N.Perm L → N.Pairwise (fun p q => ahead p.2 q.2) → H b = none → Q (.ref b) (upd H b (.lst (N.map fun q => V.ref q.1)))
theorem cr_sortD (hc : X.calm = true) : CallR X (.builtin "sorted") (rSortD X.K X.prog X.w) := by
  intro pins s σ H vs us Q I r h
  obtain ⟨a, L, rfl, ha, hk, two, q⟩ := h
  obtain ⟨es, ep, t, Z⟩ : ∃ es ep t, Lies X.prog X.w s.heap a L es ep t := (I.hok a _ ha).1
  rw [Vals.ref1 r]
  refine sort_set Z (fun p hp => I.isT (hk p hp)) (I.ok.hd hc) two fun s' b out c N k g o hb hg hout pm pw => ?_
  have len : (N.map fun q => V.ref q.1).length ≤ sizeLine := by
    have := Z.num
    rw [List.length_map, pm.length_eq, sizeLine_eq]
    omega
  have hn : H b = none := I.hok.fresh hb
  have J := I.call (ch := []) (h' := s'.heap) (g' := s'.gens) (d' := s'.drawn) (t' := s'.toks) (H' := upd H b (.lst (N.map fun q => V.ref q.1))) (Un.laid k hb hn) (I.hok.laid k hb ⟨len, out.toList, c, by rw [hout]; exact vals_of_refs N, hg⟩) (by rw [g]; exact I.bare) (fun _ z => nomatch z)
  have e : s' = { s with heap := s'.heap, gens := s'.gens, drawn := s'.drawn, toks := s'.toks } := by
    cases s'; cases s; cases o; rfl
  rw [e]
  exact ⟨.ref b, _, J, rfl, q N b pm pw hn⟩
end
end Tu

set_option Elab.async false
set_option linter.all false
set_option maxRecDepth 100000
set_option maxHeartbeats 4000000
/-! Tu5: pairs of places i < j < 12: their hashes are unlike; a list of pairs and its set, sorted. -/
namespace Tu
open PySem PySem.Spec PyProof.Rows L2
def hsh (k : List Int) : Int := reduceHash (Builtin.Tuple.tupleHashOf (k.map hashInt))
theorem hsh_eq (P : Program) (w : World) (k : List Int) : thash P w k = hsh k := rfl
/-- all pairs of places -/
def pairs12 : List (List Int) := (List.range 12).flatMap fun (j : Nat) => (List.range j).map fun (i : Nat) => [(i : Int), (j : Int)]
theorem pairs_few : pairs12.length ≤ 76 := by decide +kernel
theorem pairs_hash : (pairs12.map hsh).Nodup := by decide +kernel
theorem inj_of_nodup {α β : Type} {f : α → β} : ∀ {l : List α}, (l.map f).Nodup → ∀ x, x ∈ l → ∀ y, y ∈ l → f x = f y → x = y
  | [], _, x, hx, _, _, _ => nomatch hx
  | a :: l, n, x, hx, y, hy, e => by
    rw [List.map_cons, List.nodup_cons] at n
    rcases List.mem_cons.mp hx with e1 | h1
    · rcases List.mem_cons.mp hy with e2 | h2
      · rw [e1, e2]
      · exact absurd (List.mem_map.mpr ⟨y, h2, by rw [← e, e1]⟩) n.1
    · rcases List.mem_cons.mp hy with e2 | h2
      · exact absurd (List.mem_map.mpr ⟨x, h1, by rw [e, e2]⟩) n.1
      · exact inj_of_nodup n.2 x h1 y h2 e
theorem pairs_dom (P : Program) (w : World) : Dom P w pairs12 := ⟨pairs_few, fun k hk m hm e => inj_of_nodup pairs_hash k hk m hm e⟩
theorem pairs_mem {i j : Nat} (h1 : i < j) (h2 : j < 12) : [(i : Int), (j : Int)] ∈ pairs12 :=
  List.mem_flatMap.mpr ⟨j, List.mem_range.mpr h2, List.mem_map.mpr ⟨i, List.mem_range.mpr h1, rfl⟩⟩
/-- pairs of places as the rules have them -/
def keyN (b : Nat × Nat) : List Int := [(b.1 : Int), (b.2 : Int)]
/-- ascending pairs -/
def AscP (bs : List (Nat × Nat)) : Prop := bs.Pairwise fun a b => a.1 < b.1 ∨ (a.1 = b.1 ∧ a.2 < b.2)
theorem ahead_keyN {a b : Nat × Nat} : ahead (keyN a) (keyN b) ↔ a.1 < b.1 ∨ (a.1 = b.1 ∧ a.2 < b.2) := by
  show ((a.1 : Int) < (b.1 : Int) ∨ ((a.1 : Int) = (b.1 : Int) ∧ (a.2 : Int) < (b.2 : Int))) ↔ _
  omega
theorem ascP_nodup {bs : List (Nat × Nat)} (h : AscP bs) : bs.Nodup := List.Pairwise.imp (fun {a b} h e => by subst e; omega) h
/-- two ascending lists of the same pairs are one -/
theorem ascP_uniq : ∀ {as bs : List (Nat × Nat)}, AscP as → AscP bs → (∀ p, p ∈ as ↔ p ∈ bs) → as = bs
  | [], [], _, _, _ => rfl
  | [], b :: bs, _, _, h => nomatch (h b).mpr List.mem_cons_self
  | a :: as, [], _, _, h => nomatch (h a).mp List.mem_cons_self
  | a :: as, b :: bs, ha, hb, h => by
    have ha' := List.pairwise_cons.mp ha
    have hb' := List.pairwise_cons.mp hb
    have e : a = b := by
      rcases List.mem_cons.mp ((h a).mp List.mem_cons_self) with e | e
      · exact e
      · rcases List.mem_cons.mp ((h b).mpr List.mem_cons_self) with f | f
        · exact f.symm
        · have z1 := hb'.1 a e
          have z2 := ha'.1 b f
          omega
    subst e
    rw [ascP_uniq ha'.2 hb'.2 fun p => ⟨fun hp => ?_, fun hp => ?_⟩]
    · rcases List.mem_cons.mp ((h p).mp (List.mem_cons_of_mem _ hp)) with e | e
      · have := ha'.1 p hp
        subst e
        omega
      · exact e
    · rcases List.mem_cons.mp ((h p).mpr (List.mem_cons_of_mem _ hp)) with e | e
      · have := hb'.1 p hp
        subst e
        omega
      · exact e
/-- what the set and sorted leave of a list of pairs: its ascending list -/
theorem out_pairs {bs : List (Nat × Nat)} {as : List Addr} (hl : as.length = bs.length) {L N : List (Addr × List Int)} (sub : ∀ p ∈ L, p ∈ as.zip (bs.map keyN)) (all : ∀ p ∈ as.zip (bs.map keyN), p.2 ∈ L.map (·.2)) (pm : N.Perm L) (pw : N.Pairwise fun p q => ahead p.2 q.2) :
    ∃ cs : List (Nat × Nat), N.map (·.2) = cs.map keyN ∧ AscP cs ∧ ∀ p, p ∈ cs ↔ p ∈ bs := by
  have key : ∀ {M : List (Addr × List Int)}, (∀ p ∈ M, ∃ b ∈ bs, p.2 = keyN b) → ∃ cs : List (Nat × Nat), M.map (·.2) = cs.map keyN ∧ ∀ c ∈ cs, c ∈ bs := by
    intro M
    induction M with
    | nil => exact fun _ => ⟨[], rfl, fun _ h => nomatch h⟩
    | cons p M ih =>
      intro h
      obtain ⟨b, hb, e⟩ := h p List.mem_cons_self
      obtain ⟨cs, e1, e2⟩ := ih fun q hq => h q (List.mem_cons_of_mem _ hq)
      refine ⟨b :: cs, by rw [List.map_cons, List.map_cons, e, e1], fun c hc => ?_⟩
      rcases List.mem_cons.mp hc with rfl | hc
      · exact hb
      · exact e2 c hc
  have inj : ∀ {a b : Nat × Nat}, keyN a = keyN b → a = b := fun {a b} e => by
    injection e with e1 e2
    injection e2 with e2
    exact Prod.ext (by omega) (by omega)
  obtain ⟨cs, e1, e2⟩ := key (M := N) fun p hp => by
    have h := (List.of_mem_zip (sub p (pm.mem_iff.mp hp))).2
    obtain ⟨b, hb, e⟩ := List.mem_map.mp h
    exact ⟨b, hb, e.symm⟩
  refine ⟨cs, e1, ?_, fun p => ⟨e2 p, fun hp => ?_⟩⟩
  · have h : (N.map fun p : Addr × List Int => p.2).Pairwise ahead := List.pairwise_map.mpr pw
    rw [e1, List.pairwise_map] at h
    exact h.imp fun {a b} z => ahead_keyN.mp z
  · obtain ⟨i, hi, rfl⟩ := List.getElem_of_mem hp
    have hz : (as[i]'(by omega), keyN bs[i]) ∈ as.zip (bs.map keyN) := by
      refine List.mem_of_getElem? (i := i) ?_
      rw [List.getElem?_zip_eq_some]
      exact ⟨List.getElem?_eq_getElem (by omega), by rw [List.getElem?_map, List.getElem?_eq_getElem hi]; rfl⟩
    have h := all _ hz
    rw [← (pm.map (·.2)).mem_iff, e1] at h
    obtain ⟨c, hc, e⟩ := List.mem_map.mp h
    rw [← inj e]
    exact hc
end Tu

set_option Elab.async false
set_option linter.all false
set_option maxRecDepth 100000
set_option maxHeartbeats 4000000
/-! Lz: a call with all arguments by name. -/
namespace Bx
open PySem PySem.Spec PyProof.Rows L2
section
variable {X : Cx} {CX : CXT} {k : Nat} {f : Addr} {fd : FuncData} {ps ks : List Str} {sp : Sp} {E : XK} {x : Str} {p pos : Pos} {kws : List Keyword} {tk : TA} {g : List Value → List Value → List Value} {gV : List V → List V → List V}
/-- f(k = v, ..) -/
theorem pe_callKO (F : FnOk X.prog X.w X.K X.mg X.base CX k f fd ps sp) (hr : Room k X.A) (hg : Gl X x) (hm : X.mg x = some (.ref f)) (hk : PySem.W.keepIn X.K (.ref f) = true) (hb : KBinds X.K fd ps ks g gV) (hx : Passes CX X E)
    (hkw : PK X kws tk) (hall : (backToKw pos (keywordEach kws X.env)).all (·.1.isSome) = true := by rfl) (hks : (backToKw pos (keywordEach kws X.env)).filterMap (·.1) = ks := by rfl)
    (hdb : (x == ("__debug__" : Str)) = false := by decide)
    (hpl : ((backTo pos (starEach [] X.env)).any (·.1) || (backToKw pos (keywordEach kws X.env)).any (·.1.isNone)) = false := by rfl) :
    PE X (.Call (.Name x p) [] kws pos) (tCallK sp gV E tNil tk) := by
  refine ⟨fun pins s σ H Q I h => ?_⟩
  refine wpAny_Call_Name_kw (ld_glob I hg hm ?_ hdb)
  refine PySem.W.callWith_KW0 (h₀ := X.base) I.ok.mod.kin hk hall ?_ hpl
  refine thn (hkw.run pos pins s σ H _ I h) fun ws s2 ⟨zs, H2, I2, rz, q2⟩ => ⟨I2.kIn, ?_⟩
  rw [hks]
  exact run_fnk F hr hb hx I2 .nil rz q2
end
structure CalK (P : Program) (w : World) (K : PySem.W.Frag) (mg : Str → Option Value) (base : Heap) (k : Nat) (x : Str) (ps ks : List Str) (g : {α : Type} → List α → List α → List α) (sp : Sp) : Prop where
  ex : ∃ (f : Addr) (fd : FuncData), FnOk P w K mg base CX0 k f fd ps sp ∧ mg x = some (.ref f) ∧ PySem.W.keepIn K (.ref f) = true ∧ KBinds K fd ps ks g g
section
variable {X : Cx} {k : Nat} {x : Str} {ps ks : List Str} {sp : Sp} {p pos : Pos} {kws : List Keyword} {tk : TA} {g : {α : Type} → List α → List α → List α}
theorem pe_calK (C : CalK X.prog X.w X.K X.mg X.base k x ps ks g sp) (hr : Room k X.A) (hg : Gl X x) (hkw : PK X kws tk) (hall : (backToKw pos (keywordEach kws X.env)).all (·.1.isSome) = true := by rfl) (hks : (backToKw pos (keywordEach kws X.env)).filterMap (·.1) = ks := by rfl)
    (hdb : (x == ("__debug__" : Str)) = false := by decide)
    (hpl : ((backTo pos (starEach [] X.env)).any (·.1) || (backToKw pos (keywordEach kws X.env)).any (·.1.isNone)) = false := by rfl) : PE X (.Call (.Name x p) [] kws pos) (tCallK sp g E0 tNil tk) := by
  obtain ⟨f, fd, h1, h2, h3, h4⟩ := C.ex
  exact pe_callKO h1 hr hg h2 h3 h4 pass0 hkw hall hks hdb hpl
end
/-- two arguments, named the other way about -/
def swp {α : Type} : List α → List α → List α
  | [], [b, a] => [a, b]
  | _, _ => []
theorem swp_rel {vs zs : List V} {us ws : List Value} (h1 : Vals vs us) (h2 : Vals zs ws) : Vals (swp vs zs) (swp us ws) := by
  cases h1 with
  | cons _ _ => exact .nil
  | nil =>
    cases h2 with
    | nil => exact .nil
    | cons a h3 =>
      cases h3 with
      | nil => exact .nil
      | cons b h4 =>
        cases h4 with
        | nil => exact .cons b (.cons a .nil)
        | cons _ _ => exact .nil
theorem pi_tupK {X : Cx} {K : PySem.W.Frag} {tg e : Expr} {td : TE} (h : X.K = K) (hd : PE X e td) : PI X tg e (iTup K td) := h ▸ pi_tup hd
theorem pi_listK {X : Cx} {K : PySem.W.Frag} {tg e : Expr} {td : TE} (h : X.K = K) (hd : PE X e td) : PI X tg e (iList K td) := h ▸ pi_list hd
end Bx

set_option Elab.async false
set_option linter.all false
set_option maxRecDepth 100000
set_option maxHeartbeats 4000000
namespace Wd
open PySem PySem.Spec PyProof.Rows L2 Bx Gx



































section
variable {P : Program} {w : World} {K : PySem.W.Frag} {mg : Str → Option Value} {base : Heap}
/-! ### pairs as data, sorted without twins -/
theorem pl_addr {H : Hp} : ∀ {vs : List V} {ps : List (Nat × Nat)}, DpAll K H vs (ps.map pairD) → ∃ as : List Addr, vs = as.map V.ref ∧ as.length = ps.length ∧ ∀ p ∈ as.zip (ps.map Tu.keyN), SqT K H p.1 (p.2.map V.int)
  | _, [], .nil => ⟨[], rfl, rfl, fun p hp => nomatch hp⟩
  | _, b :: ps, .cons h hs => by
    obtain ⟨as, e1, e2, e3⟩ := pl_addr hs
    obtain ⟨t, rfl, ht⟩ := dp_ints (ns := [(b.1 : Int), (b.2 : Int)]) h
    refine ⟨t :: as, by rw [e1]; rfl, by rw [List.length_cons, List.length_cons, e2], fun p hp => ?_⟩
    rw [List.map_cons, List.zip_cons_cons] at hp
    rcases List.mem_cons.mp hp with rfl | hp
    · exact ht
    · exact e3 p hp
theorem zip_fst {α β : Type} {as : List α} {bs : List β} (h : as.length = bs.length) : (as.zip bs).map (·.1) = as := List.map_fst_zip (Nat.le_of_eq h)
theorem dp_pairsS {H : Hp} : ∀ {N : List (Addr × List Int)} {cs : List (Nat × Nat)}, (∀ p ∈ N, SqT K H p.1 (p.2.map V.int)) → N.map (·.2) = cs.map Tu.keyN → DpAll K H (N.map fun q => V.ref q.1) (cs.map fun (b : Nat × Nat) => .tuple [.int (b.1 : Int), .int (b.2 : Int)])
  | [], [], _, _ => .nil
  | [], _ :: _, _, e => nomatch e
  | _ :: _, [], _, e => nomatch e
  | p :: N, c :: cs, tn, e => by
    rw [List.map_cons, List.map_cons] at e
    injection e with h1 h2
    have h3 := tn p List.mem_cons_self
    rw [h1] at h3
    exact .cons (.tup h3 (.cons (.int _) (.cons (.int _) .nil))) (dp_pairsS (fun q hq => tn q (List.mem_cons_of_mem _ hq)) h2)
/-- tuple(sorted(set(xs))) of pairs of places -/
theorem set_sortS {H : Hp} {l : Addr} {vs : List V} {ps : List (Nat × Nat)} (hl : SqL K H l vs) (hP : DpAll K H vs (ps.map pairD)) (hb : ∀ p ∈ ps, p.1 < p.2 ∧ p.2 < 12) {Q : VK}
    (hQ : ∀ (cs : List (Nat × Nat)) q H', Ext H H' → H q = none → Tu.AscP cs → (∀ p, p ∈ cs ↔ p ∈ ps) → Dp K H' (.ref q) (bordD cs) → Q (.ref q) H') :
    Tu.rSetD K P w Tu.pairs12 [.ref l] H fun x1 H1 => Tu.rSortD K P w [x1] H1 fun x2 H2 => kTup K x2 H2 Q := by
  obtain ⟨as, rfl, ea, ht⟩ := pl_addr hP
  have ez : ((as.zip (ps.map Tu.keyN)).map fun p => V.ref p.1) = as.map V.ref := by
    rw [← zip_fst (as := as) (bs := ps.map Tu.keyN) (by rw [List.length_map]; exact ea), List.map_map, zip_fst (by rw [List.length_map]; exact ea)]
    rfl
  have ek : ∀ p ∈ as.zip (ps.map Tu.keyN), ∃ b ∈ ps, p.2 = Tu.keyN b := fun p hp => by
    obtain ⟨b, hb, e⟩ := List.mem_map.mp (List.of_mem_zip hp).2
    exact ⟨b, hb, e.symm⟩
  refine ⟨l, as.zip (ps.map Tu.keyN), rfl, by rw [ez]; exact hl, fun p hp => ht p hp, fun p hp => ?_, fun a L ha hsub hall hnd => ?_⟩
  · obtain ⟨b, hbm, e⟩ := ek p hp
    rw [e]
    exact Tu.pairs_mem (hb b hbm).1 (hb b hbm).2
  · have x1 : Ext H (upd H a (Tu.SetO P w a L)) := .new ha
    have tu : ∀ p ∈ L, SqT K (upd H a (Tu.SetO P w a L)) p.1 (p.2.map V.int) := fun p hp => x1.sqT (ht p (hsub p hp))
    refine ⟨a, L, rfl, upd_same, fun p hp => tu p hp, fun p hp => ?_, fun N b pm pw hbn => ?_⟩
    · obtain ⟨c, _, e⟩ := ek p (hsub p hp)
      rw [e]
      rfl
    · obtain ⟨cs, e1, e2, e3⟩ := Tu.out_pairs ea hsub hall pm pw
      refine .inl ⟨b, _, rfl, SqL.of upd_same, fun q hq => ?_⟩
      have x2 : Ext (upd H a (Tu.SetO P w a L)) (upd (upd H a (Tu.SetO P w a L)) b (.lst (N.map fun q => V.ref q.1))) := .new hbn
      refine hQ cs q _ (x1.trans (x2.trans (.new hq))) (x1.free (x2.free hq)) e2 e3 (dp_new hq ?_)
      have tn : ∀ p ∈ N, SqT K (upd (upd H a (Tu.SetO P w a L)) b (.lst (N.map fun q => V.ref q.1))) p.1 (p.2.map V.int) := fun p hp => x2.sqT (tu p (pm.mem_iff.mp hp))
      generalize upd (upd H a (Tu.SetO P w a L)) b (.lst (N.map fun q => V.ref q.1)) = H9 at tn
      exact dp_pairsS tn e1
end
end Wd

set_option Elab.async false
set_option linter.all false
set_option maxRecDepth 100000
set_option maxHeartbeats 4000000
namespace Wd
open PySem PySem.Spec PyProof.Rows L2 Bx Gx



































section
variable {P : Program} {w : World} {K : PySem.W.Frag} {mg : Str → Option Value} {base : Heap}
/-! ### a drawn land -/
def spLandS (K : PySem.W.Frag) : Sp := fun vs H Q _ => ∃ (sp gr : Addr) (most : Nat), vs = [.ref sp, .int (most : Int)] ∧ SpAt H sp gr ∧ 2 ≤ most ∧ most ≤ 12 ∧
  ∀ q (fs : List Int) (bs : List (Nat × Nat)) H', ExtS [sp, gr] H H' → SpAt H' sp gr → H q = none → Dp K H' (.ref q) (landD fs bs) → LandOk fs bs → fs.length ≤ most → Q (.ref q) H'
/-- a list of pairs of places -/
structure PairL (K : PySem.W.Frag) (n L : Nat) (H : Hp) (p : Addr) : Prop where
  ex : ∃ (xs : List V) (bs : List (Nat × Nat)), H p = some (.lst xs) ∧ DpAll K H xs (bs.map pairD) ∧ (∀ b ∈ bs, b.1 < b.2 ∧ b.2 < n) ∧ bs.length ≤ L
theorem PairL.extS {S : List Addr} {n L : Nat} {H H' : Hp} {p : Addr} (h : PairL K n L H p) (hp : p ∉ S) (x : ExtS S H H') : PairL K n L H' p := by
  obtain ⟨xs, bs, h1, h2, h3, h4⟩ := h.ex
  exact ⟨xs, bs, x.lst hp h1, dpAll_extS x (noL_pairs bs) h2, h3, h4⟩
theorem PairL.ext {n L : Nat} {H H' : Hp} {p : Addr} (h : PairL K n L H p) (x : Ext H H') : PairL K n L H' p := h.extS (S := []) (by simp) (.of x)
theorem PairL.up {n L L' : Nat} {H : Hp} {p : Addr} (h : PairL K n L H p) (z : L ≤ L') : PairL K n L' H p := by
  obtain ⟨xs, bs, h1, h2, h3, h4⟩ := h.ex
  exact ⟨xs, bs, h1, h2, h3, Nat.le_trans h4 z⟩
theorem PairL.nil {n : Nat} {H : Hp} {p : Addr} (h : H p = some (.lst [])) : PairL K n 0 H p := ⟨[], [], h, .nil, (fun b hb => nomatch hb), Nat.le_refl _⟩
/-- one pair more at the end of a list under way -/
theorem PairL.push {n L : Nat} {H : Hp} {D : Addr} {y : V} {b : Nat × Nat} (h : PairL K n L H D) (hy : Dp K H y (pairD b)) (hb : b.1 < b.2 ∧ b.2 < n) : ∃ as, H D = some (.lst as) ∧ as.length ≤ L ∧ PairL K n (L + 1) (upd H D (.lst (as ++ [y]))) D := by
  obtain ⟨xs, bs, h1, h2, h3, h4⟩ := h.ex
  have hl := dpAll_len h2
  rw [List.length_map] at hl
  have xd : ExtS [D] H (upd H D (.lst (xs ++ [y]))) := (ExtS.refl _ _).write (.inr ⟨by simp, _, h1⟩)
  refine ⟨xs, h1, by omega, xs ++ [y], bs ++ [b], upd_same, ?_, fun c hc => ?_, by rw [List.length_append]; exact Nat.add_le_add_right h4 1⟩
  · rw [List.map_append]
    exact dpAll_app (dpAll_extS xd (noL_pairs bs) h2) (.cons (dp_extS xd rfl hy) .nil)
  · rcases List.mem_append.mp hc with z | z
    · exact h3 c z
    · rw [List.mem_singleton.mp z]; exact hb
theorem PairL.cat {n L L' : Nat} {H : Hp} {a b : Addr} {Q : VK} (h : PairL K n L H a) (h' : PairL K n L' H b) (hL : L + L' ≤ 1000) (k : ∀ p H', Ext H H' → H p = none → PairL K n (L + L') H' p → Q (.ref p) H') : rCat (.ref a) (.ref b) H Q := by
  obtain ⟨xs, bs, h1, h2, h3, h4⟩ := h.ex
  obtain ⟨ys, cs, g1, g2, g3, g4⟩ := h'.ex
  have hl := dpAll_len h2
  have gl := dpAll_len g2
  rw [List.length_map] at hl gl
  refine ⟨a, b, xs, ys, rfl, rfl, h1, g1, by have : 1000 ≤ sizeLine := by decide
                                             omega, fun p hp => k p _ (.new hp) hp ⟨xs ++ ys, bs ++ cs, upd_same, ?_, fun c hc => ?_, by rw [List.length_append]; omega⟩⟩
  · rw [List.map_append]
    exact dpAll_app (dpAll_ext (.new hp) h2) (dpAll_ext (.new hp) g2)
  · rcases List.mem_append.mp hc with z | z
    · exact h3 c z
    · exact g3 c z
abbrev laN : List Str := ["sack", "most", "many", "sort", "pairs", "borders", "k", "rarely", "pair", "lost", "names", "left", "i", "j", "led", "folk"]
theorem sc_law_landS : FnScope laN ["sack", "most"] (defScope st__law_land) := ⟨rfl, rfl, rfl, by decide +kernel, rfl, by decide +kernel, by decide +kernel⟩
theorem ok_law_landS {f : Addr} {fd : FuncData} (F : Fun K "_law_land" "_law_land" st__law_land f fd) (B : Bl mg) (c1 : Cal P w K mg base 1 "_law_grab" ["sack", "many"] (spGrab K)) (c2 : Cal P w K mg base 1 "_law_pairs" ["many"] (spPairs K)) (c3 : Cal P w K mg base 2 "_law_pick" ["sack", "things"] (spPick K)) : FnOk P w K mg base CX0 3 f fd ["sack", "most"] (spLandS K) := by
  refine F.ok sc_law_landS (fun vs H Q E h => ?_) (fun cdv A outer s H vs Q E hr h => ?_)
  · obtain ⟨sp, gr, most, rfl, _⟩ := h
    rfl
  · obtain ⟨sp, gr, most, rfl, S, hm2, hm12, k⟩ := h
    have nd := sc_law_landS.nd
    have hr1 := hr.mono (j := 1) (by decide)
    have hr2 := hr.mono (j := 2) (by decide)
    refine ⟨_, pss_cons (ps_par (i := 2) (j := 3) (by rfl) nd rfl rfl (by decide) rfl rfl (pa_cons (pe_op op_add pe_int (pe_cal c1 hr1 rfl (pa_cons (pv 0) (pa_cons (pe_op op_sub (pv 1) pe_int) pa_nil)))) (pa_cons (pe_cal c1 hr1 rfl (pa_cons (pv 0) (pa_cons pe_int pa_nil))) pa_nil)) (by rfl))
      (pss_cons (ps_set (i := 4) nd rfl (Or.inl rfl) (pe_cal c2 hr1 rfl (pa_cons (pv 2) pa_nil)))
      (pss_cons (ps_set (i := 5) nd rfl (Or.inl rfl) (pe_lst pa_nil))
      (pss_cons (ps_if (pt_cmpR op_lt (pv 3) pe_int (nomark _))
        (pss_one (ps_set (i := 5) nd rfl (Or.inl rfl) (pe_op op_cat (pe_lc (own := [("k", 6)]) (g := gName 6) (by rfl) nd (pi_range2 rfl B.range (pa_cons pe_int (pa_cons (pv 2) pa_nil))) (blkOk_by (own := [("k", 6)]) (N := laN) (sc := defScope st__law_land) (by decide +kernel))
            (fun _ _ _ _ _ => pg_name (i := 6) nd rfl (Or.inl rfl)) (fun _ _ _ _ _ => pts_nil) (fun _ _ _ _ _ => pe_tup (pa_cons (pe_op op_sub (pv 6) pe_int) (pa_cons (pv 6) pa_nil))))
          (pe_ifExp (pt_cmpR op_gt (pv 2) pe_int (nomark _)) (pe_lst (pa_cons (pe_tup (pa_cons pe_int (pa_cons (pe_op op_sub (pv 2) pe_int) pa_nil))) pa_nil)) (pe_lst pa_nil))))) pss_nil)
      (pss_cons (ps_if (pt_cmpR op_eq (pv 3) pe_int (nomark _))
        (pss_one (ps_setLc (i := 5) (own := [("k", 6)]) (g := gName 6) (by rfl) nd rfl rfl (sw_true rfl rfl rfl (by decide +kernel)) (pi_range2 rfl B.range (pa_cons pe_int (pa_cons (pv 2) pa_nil))) (blkOk_by (own := [("k", 6)]) (N := laN) (sc := defScope st__law_land) (by decide +kernel))
            (fun _ _ _ _ _ => pg_name (i := 6) nd rfl (Or.inl rfl)) (fun _ _ _ _ _ => pts_nil) (fun _ _ _ _ _ => pe_tup (pa_cons (pe_cal c1 hr1 rfl (pa_cons (pv 0) (pa_cons (pv 6) pa_nil))) (pa_cons (pv 6) pa_nil))))) pss_nil)
      (pss_cons (ps_set (i := 7) nd rfl (Or.inr rfl) (pe_ix ix_list (pe_lst (pa_cons pe_int (pa_cons pe_int (pa_cons pe_int (pa_cons pe_int (pa_cons (pe_op op_pow pe_int pe_int) pa_nil)))))) (pe_cal c1 hr1 rfl (pa_cons (pv 0) (pa_cons pe_int pa_nil))) (fun _ _ => rfl)))
      (pss_cons (ps_set (i := 5) nd rfl (Or.inl rfl) (pe_op op_cat (pv 5) (pe_lc (own := [("pair", 8)]) (g := gName 8) (by rfl) nd (pi_list (pv 4)) (blkOk_by (own := [("pair", 8)]) (N := laN) (sc := defScope st__law_land) (by decide +kernel))
            (fun _ _ _ _ _ => pg_name (i := 8) nd rfl (Or.inl rfl)) (fun _ _ _ _ _ => pts_one (pt_cmpR op_eq (pe_cal c1 hr1 rfl (pa_cons (pv 0) (pa_cons (pv 7) pa_nil))) pe_int (nomark _))) (fun _ _ _ _ _ => pv 8))))
      (pss_cons (ps_if (PW.pt (pw_and (pt_cmpR op_eq (pe_cal c1 hr1 rfl (pa_cons (pv 0) (pa_cons pe_int pa_nil))) pe_int (nomark _)) (pw_and1 (pt_cmpR (op_neD hr.units) (pv 5) (pe_lst pa_nil) (nomark _)))))
        (pss_cons (ps_set (i := 9) nd rfl (Or.inr rfl) (pe_cal c3 hr2 rfl (pa_cons (pv 0) (pa_cons (pv 5) pa_nil))))
        (pss_one (ps_setLc (i := 5) (own := [("pair", 8)]) (g := gName 8) (by rfl) nd rfl rfl (sw_true rfl rfl rfl (by decide +kernel)) (pi_list (pv 5)) (blkOk_by (own := [("pair", 8)]) (N := laN) (sc := defScope st__law_land) (by decide +kernel))
            (fun _ _ _ _ _ => pg_name (i := 8) nd rfl (Or.inl rfl)) (fun _ _ _ _ _ => pts_one (pt_cmpR (op_neDK (K := K) rfl hr.units) (pv 8) (pv 9) (nomark _))) (fun _ _ _ _ _ => pv 8)))) pss_nil)
      (pss_cons (ps_asg (pe_tup (pa_cons (pe_lst pa_nil) (pa_cons (pe_listRg rfl rfl B.list (prg_1 rfl B.range (pv 2))) pa_nil))) (pg_tup (by rfl) (pgs_cons (pg_name (i := 10) nd rfl (Or.inr rfl)) (pgs_cons (pg_name (i := 11) nd rfl (Or.inl rfl)) pgs_nil))))
      (pss_cons (ps_for PassesOwn.never rfl (pi_range1 rfl B.range (pa_cons (pv 2) pa_nil)) (pg_name (i := 6) nd rfl (Or.inl rfl))
        (pss_one (ps_expr (pe_bm PySem.F.plainAttrs_list PySem.F.slot_list_append PySem.F.type_list_append mt_append (pv 10)
          (pa_cons (pe_bm PySem.F.plainAttrs_list PySem.F.slot_list_pop PySem.F.type_list_pop mt_popAt (pv 11)
            (pa_cons (pe_cal c1 hr1 rfl (pa_cons (pv 0) (pa_cons (pe_callB call_len (by rfl) B.len PySem.boot_len (pa_cons (pv 11) pa_nil)) pa_nil))) pa_nil)) pa_nil)))))
      (pss_cons (ps_setLc (i := 14) (own := [("i", 12), ("j", 13)]) (g := L2.gTup K 2 (L2.gCons (gName 12) (L2.gCons (gName 13) L2.gNil))) (by rfl) nd rfl rfl (sw_true rfl rfl rfl (by decide +kernel)) (pi_list (pv 5)) (blkOk_by (own := [("i", 12), ("j", 13)]) (N := laN) (sc := defScope st__law_land) (by decide +kernel))
            (fun _ _ _ _ _ => pg_tupK (K := K) rfl (by rfl) (pgs_cons (pg_name (i := 12) nd rfl (Or.inl rfl)) (pgs_cons (pg_name (i := 13) nd rfl (Or.inl rfl)) pgs_nil))) (fun _ _ _ _ _ => pts_nil)
            (fun _ _ _ _ _ => pe_tup (pa_cons (pe_callB (call_min2 rfl) (by rfl) B.min (by decide +kernel) (pa_cons (pe_ix (ix_lstK (K := K) rfl) (pv 10) (pv 12) (fun _ _ => rfl)) (pa_cons (pe_ix (ix_lstK (K := K) rfl) (pv 10) (pv 13) (fun _ _ => rfl)) pa_nil)))
              (pa_cons (pe_callB (call_max2 rfl) (by rfl) B.max (by decide +kernel) (pa_cons (pe_ix (ix_lstK (K := K) rfl) (pv 10) (pv 12) (fun _ _ => rfl)) (pa_cons (pe_ix (ix_lstK (K := K) rfl) (pv 10) (pv 13) (fun _ _ => rfl)) pa_nil))) pa_nil))))
      (pss_cons (ps_set (i := 15) nd rfl (Or.inl rfl) (pe_tupleOf rfl B.tuple (pe_lc (own := [("k", 6)]) (g := gName 6) (by rfl) nd (pi_range1 rfl B.range (pa_cons (pv 2) pa_nil)) (blkOk_by (own := [("k", 6)]) (N := laN) (sc := defScope st__law_land) (by decide +kernel))
            (fun _ _ _ _ _ => pg_name (i := 6) nd rfl (Or.inl rfl)) (fun _ _ _ _ _ => pts_nil)
            (fun _ _ _ _ _ => pe_cal c1 hr1 rfl (pa_cons (pv 0) (pa_cons (pe_ix (ix_lstK (K := K) rfl) (pe_lst (pa_cons pe_int (pa_cons pe_int (pa_cons pe_int (pa_cons pe_int pa_nil))))) (pe_cal c1 hr1 rfl (pa_cons (pv 0) (pa_cons pe_int pa_nil))) (fun _ _ => rfl)) pa_nil))))))
      (pss_one (ps_ret (pe_tup (pa_cons (pv 15) (pa_cons (pe_tupleOf rfl B.tuple (pe_callB (Tu.cr_sortD (by rfl)) (by rfl) B.sorted (by decide +kernel) (pa_cons (pe_callTy (Tu.cr_setD (Tu.pairs_dom _ _) (by rfl) (Nat.lt_trans (Nat.lt_succ_self _) (u65 hr))) rfl B.set (by decide +kernel) (pa_cons (pv 14) pa_nil)) pa_nil))) pa_nil)))))))))))))))), ?_⟩
    refine ⟨_, rfl, _, rfl, _, _, rfl, rfl, sp, gr, most - 1, (by rw [show ((most - 1 : Nat) : Int) = (most : Int) - 1 by omega]; rfl), S, by omega, by omega, fun n0 H1 hn0 x1 S1 => ?_⟩
    refine ⟨_, _, rfl, rfl, _, rfl, sp, gr, 5, rfl, S1, by decide, by decide, fun srt H2 hsrt x2 S2 => ⟨_, _, rfl, ?_⟩⟩
    have x02 := x1.trans x2
    clear x1 x2 S1 S
    obtain ⟨n, hn⟩ : ∃ n, n = 2 + n0 := ⟨_, rfl⟩
    have en : (2 : Int) + (n0 : Int) = (n : Int) := by omega
    have hn2 : 2 ≤ n := by omega
    have hnm : n ≤ most := by omega
    have hn12 : n ≤ 12 := by omega
    simp only [en]
    refine ⟨_, rfl, n, rfl, hn12, fun pq ps H3 x3 hpq0 hpq hpd => ?_⟩
    dsimp only [gName, tSeq, List.set]
    have S3 := S2.ext x3
    have x03 := x02.trans (.of x3)
    have npq := S2.notin hpq0
    clear x02 x3 S2 hpq0
    have hpq3 : PairL K n 144 H3 pq := ⟨ps, pairsTo n, hpq, hpd, fun b hb => pairsTo_mem hb, Nat.le_trans (pairsTo_len n) (Nat.mul_le_mul hn12 hn12)⟩
    clear hpq hpd
    refine ⟨Nat.zero_le _, fun b0 hb0 => ?_⟩
    have x4 : Ext H3 (upd H3 b0 (.lst [])) := .new hb0
    have nb0 := S3.notin hb0
    have hb4 : PairL K n 0 (upd H3 b0 (.lst [])) b0 := .nil upd_same
    have hpq4 := hpq3.ext x4
    have S4 := S3.ext x4
    have x04 := x03.trans (.of x4)
    clear hb0 x4 hpq3 S3 x03
    generalize upd H3 b0 (.lst []) = H4 at hb4 hpq4 S4 x04 ⊢
    dsimp only [gName, tSeq, List.set]
    refine via (fun σ H5 => ∃ (p : Addr) (o6 : Option V), σ = [some (.ref sp), some (.int (most : Int)), some (.int (n : Int)), some (.int (srt : Int)), some (.ref pq), some (.ref p), o6, none, none, none, none, none, none, none, none, none] ∧ ExtS [sp, gr] H H5 ∧ SpAt H5 sp gr ∧ PairL K n 144 H5 pq ∧ PairL K n 20 H5 p ∧ p ∉ [sp, gr]) ?_ (fun nx hnx => ?_)
    · clear hb4 hpq4 S4 x04 nb0 H4 b0
      rintro σ H5 ⟨p, o6, rfl, x05, S5, hpq5, hp5, np5⟩
      dsimp only [tSeq]
      refine via (fun σ H6 => ∃ (p : Addr) (o6 : Option V), σ = [some (.ref sp), some (.int (most : Int)), some (.int (n : Int)), some (.int (srt : Int)), some (.ref pq), some (.ref p), o6, none, none, none, none, none, none, none, none, none] ∧ ExtS [sp, gr] H H6 ∧ SpAt H6 sp gr ∧ PairL K n 144 H6 pq ∧ PairL K n 20 H6 p ∧ p ∉ [sp, gr]) ?_ (fun nx hnx => ?_)
      · clear hpq5 hp5 np5 S5 x05 H5 p o6
        rintro σ H6 ⟨p, o6, rfl, x06, S6, hpq6, hp6, np6⟩
        dsimp only [tSeq]
        refine ⟨_, _, rfl, rfl, ⟨by decide, by decide, by decide⟩, by show 5 ≤ sizeLine; decide, fun l hl => ?_⟩
        have nl := S6.notin hl
        have xl : Ext H6 (upd H6 l (.lst [.int 2, .int 3, .int 6, .int 12, .int ((10 : Int) ^ Int.toNat 6)])) := .new hl
        refine ⟨_, rfl, sp, gr, 5, rfl, S6.ext xl, by decide, by decide, fun z H7 hz x7 S7 => ?_⟩
        obtain ⟨rr, hrr, hr0, hrb⟩ : ∃ rr : Nat, ([V.int 2, .int 3, .int 6, .int 12, .int ((10 : Int) ^ Int.toNat 6)])[z]? = some (.int (rr : Int)) ∧ 0 < rr ∧ rr < 100000000 :=
          match z, hz with
          | 0, _ => ⟨2, rfl, by decide, by decide⟩
          | 1, _ => ⟨3, rfl, by decide, by decide⟩
          | 2, _ => ⟨6, rfl, by decide, by decide⟩
          | 3, _ => ⟨12, rfl, by decide, by decide⟩
          | 4, _ => ⟨1000000, congrArg (fun i => some (V.int i)) (by decide), by decide, by decide⟩
        refine ⟨l, _, z, _, rfl, rfl, SqL.of (x7.lst nl upd_same), atI_nat hrr, ?_⟩
        dsimp only [gName, tSeq, List.set]
        have x67 := (ExtS.of xl).trans x7
        have x07 := x06.trans x67
        have hpq7 := hpq6.extS npq x67
        have hp7 := hp6.extS np6 x67
        clear x67 x7 hrr hz nl xl hl hpq6 hp6 S6 x06
        -- more borders, drawn
        obtain ⟨ps, cs, hps, hpd, hcs, hcl⟩ := hpq7.ex
        have hpl := dpAll_len hpd
        rw [List.length_map] at hpl
        refine ⟨_, rfl, _, rfl, pq, rfl, ⟨_, SqL.of hps⟩, fun D hD => ?_⟩
        have nD := S7.notin hD
        refine lc_list (K := K) (a := pq) (xs := ps) (fun i H8 => PairL K n i H8 D ∧ ExtS [sp, gr] H7 H8 ∧ SpAt H8 sp gr) ⟨.nil upd_same, .new hD, S7.ext (.new hD)⟩ (fun i H8 _ ⟨_, x8, _⟩ => SqL.of (x8.lst npq hps)) (fun i x H8 hx ⟨hp8, x8, S8⟩ => ?_) (fun H8 ⟨hp8, x8, S8⟩ => ?_)
        · obtain ⟨d, hd, hxd⟩ := dpAll_get' hpd hx
          have hil : i < ps.length := (List.getElem?_eq_some_iff.mp hx).1
          rw [List.getElem?_map] at hd
          obtain ⟨b, hb, rfl⟩ := Option.map_eq_some_iff.mp hd
          refine ⟨rfl, _, rfl, _, rfl, sp, gr, rr, rfl, S8, hr0, hrb, fun m H9 hm x9 S9 => ⟨rfl, _, rfl, ite2 (fun _ => ?_) (fun _ => ⟨(hp8.extS nD x9).up (by omega), x8.trans x9, S9⟩)⟩⟩
          obtain ⟨as, e1, e2, e3⟩ := (hp8.extS nD x9).push (y := x) (dp_extS (x8.trans x9) rfl hxd) (hcs b (List.mem_of_getElem? hb))
          exact ⟨_, rfl, as, e1, small1000 (by omega), e3, (x8.trans x9).write (.inl hD), S9.upd (fun e => nD (by simp [e])) (fun e => nD (by simp [e]))⟩
        · refine PairL.cat (hp7.extS np6 x8) hp8 (by omega) fun p2 H9 x9 hp20 hp9 => ?_
          dsimp only [gName, tSeq, List.set]
          have x09 := x07.trans (x8.trans (.of x9))
          have S9 := S8.ext x9
          have np2 := S8.notin hp20
          have hp9 : PairL K n 164 H9 p2 := hp9.up (by omega)
          clear hpd hcs hcl hpl hps hp8 x8 S8 x9 hp20 hp7 hpq7 S7 x07 nD hD np6 npq hr0 hrb
          refine via (fun σ H10 => ∃ (p : Addr) (o8 o9 : Option V), σ = [some (.ref sp), some (.int (most : Int)), some (.int (n : Int)), some (.int (srt : Int)), some (.ref pq), some (.ref p), o6, some (.int (rr : Int)), o8, o9, none, none, none, none, none, none] ∧ ExtS [sp, gr] H H10 ∧ SpAt H10 sp gr ∧ PairL K n 164 H10 p ∧ p ∉ [sp, gr]) ?_ (fun nx hnx => ?_)
          · rintro σ H10 ⟨p, o8, o9, rfl, x10, S10, hp10, np⟩
            dsimp only [tSeq]
            refine ⟨Nat.zero_le _, fun qn hqn => ⟨_, rfl, _, rfl, ⟨by omega, by omega⟩, fun ql hql => ⟨by show 2 ≤ sizeLine; decide, fun t ht => ⟨t, _, rfl, SqT.of upd_same, rfl, ?_⟩⟩⟩⟩
            rw [rgV_nat] at ht ⊢
            dsimp only [gName, tSeq, List.set]
            have y1 : Ext H10 (upd H10 qn (.lst [])) := .new hqn
            have y2 : Ext (upd H10 qn (.lst [])) (upd (upd H10 qn (.lst [])) ql (.lst (vsN (List.range n)))) := .new hql
            have y3 := (y1.trans y2).trans (.new (o := .tup [.ref qn, .ref ql]) ht)
            have nqn := S10.notin hqn
            have nql : ql ∉ [sp, gr] := (S10.ext y1).notin hql
            have hne : qn ≠ ql := ne_of_none upd_same hql
            have hqn1 : (upd (upd (upd H10 qn (.lst [])) ql (.lst (vsN (List.range n)))) t (.tup [.ref qn, .ref ql])) qn = some (.lst (vsN [])) := (y2.trans (.new ht)).lst upd_same
            have hql1 : (upd (upd (upd H10 qn (.lst [])) ql (.lst (vsN (List.range n)))) t (.tup [.ref qn, .ref ql])) ql = some (.lst (vsN (List.range n))) := (Ext.new ht).lst upd_same
            have pqn : p ≠ qn := fun e => by
              obtain ⟨xs, bs, h1, _⟩ := hp10.ex
              rw [e, hqn] at h1
              cases h1
            have pql : p ≠ ql := fun e => by
              obtain ⟨xs, bs, h1, _⟩ := hp10.ex
              rw [e, y1.free hql] at h1
              cases h1
            have S11 := S10.ext y3
            have x11 := x10.trans (.of y3)
            have hp11 := hp10.ext y3
            have hqnH := x10.free hqn
            have hqlH := x10.free (y1.free hql)
            clear y3 y2 y1 ht hql hqn S10 x10 hp10
            generalize upd (upd (upd H10 qn (.lst [])) ql (.lst (vsN (List.range n)))) t (.tup [.ref qn, .ref ql]) = H11 at hqn1 hql1 S11 x11 hp11 ⊢
            refine ⟨_, _, rfl, _, _, rfl, rfl, ?_⟩
            dsimp only [gName, tSeq, List.set]
            refine ⟨_, rfl, _, rfl, by omega, by omega, for_range (lo := 0) (n := (n : Int).toNat) (fun i σ H12 => ∃ (o6 : Option V) (ls fs : List Nat), σ = [some (.ref sp), some (.int (most : Int)), some (.int (n : Int)), some (.int (srt : Int)), some (.ref pq), some (.ref p), o6, some (.int (rr : Int)), o8, o9, some (.ref qn), some (.ref ql), none, none, none, none] ∧ H12 ql = some (.lst (vsN ls)) ∧ H12 qn = some (.lst (vsN fs)) ∧ (fs ++ ls).Perm (List.range n) ∧ fs.length = i ∧ SpAt H12 sp gr ∧ ExtS [sp, gr] H H12 ∧ PairL K n 164 H12 p)
              ⟨_, List.range n, [], rfl, hql1, hqn1, List.Perm.refl _, rfl, S11, x11, hp11⟩ ?_ ?_⟩
            · rintro i σ H12 hi ⟨v, ls, fs, rfl, h1, h2, hp, hf, S2, x2, hp12⟩
              have hlen := hp.length_eq
              rw [List.length_append, List.length_range, hf] at hlen
              rw [Int.toNat_natCast] at hi
              refine ⟨_, rfl, .inl ⟨rfl, _, SqL.of h2⟩, _, rfl, .inl ⟨rfl, _, SqL.of h1⟩, _, rfl, _, rfl, _, ls.length, rfl, .inl ⟨_, SqL.of h1, (vsN_len ls).symm⟩, sp, gr, ls.length, rfl, S2, by omega, by omega, fun m H3 hm x3 S3 => ?_⟩
              have h1' := x3.lst nql h1
              have h2' := x3.lst nqn h2
              refine ⟨ql, _, _, m, _, rfl, rfl, h1', by omega, by omega, ?_, vsN_at hm, qn, _, _, rfl, rfl, by rw [upd_ne hne]; exact h2', ?_, ?_⟩
              · rw [vsN_len]
                have e1 : ¬ ((m : Int) < 0) := by omega
                have e2 : decide (0 ≤ (m : Int)) = true := decide_eq_true (by omega)
                have e3 : decide ((m : Int) < (ls.length : Int)) = true := decide_eq_true (by omega)
                simp only [seqIndex?, if_neg e1, e2, e3, Bool.and_self, if_true, Int.toNat_natCast]
              · rw [vsN_len]
                exact small1000 (by omega)
              · refine ⟨_, ls.eraseIdx m, fs ++ [ls[m]], rfl, ?_, ?_, ?_, by rw [List.length_append, hf]; rfl, ?_, ?_, ?_⟩
                · rw [upd_ne hne.symm, upd_same]
                  rw [erase_map]
                · rw [upd_same]
                  show _ = some (HO.lst (List.map _ (fs ++ [ls[m]])))
                  rw [List.map_append]
                  rfl
                · rw [List.append_assoc]
                  exact ((erase_perm hm).append_left fs).trans hp
                · exact (S3.upd (fun e => nql (by simp [e])) (fun e => nql (by simp [e]))).upd (fun e => nqn (by simp [e])) (fun e => nqn (by simp [e]))
                · exact ((x2.trans x3).write (.inl hqlH)).write (.inl hqnH)
                · refine (hp12.extS np x3).extS (S := [ql, qn]) (by simp [pql, pqn]) (((ExtS.refl _ _).write (.inr ⟨by simp, _, h1'⟩)).write (.inr ⟨by simp, _, h2'⟩))
            · rintro σ H12 ⟨v, ls, fs, rfl, h1, h2, hp, hf, S2, x2, hp12⟩
              have hlen := hp.length_eq
              rw [List.length_append, List.length_range, hf] at hlen
              rw [Int.toNat_natCast] at hlen
              have el : ls = [] := List.length_eq_zero_iff.mp (by omega)
              subst el
              rw [List.append_nil] at hp
              dsimp only [tSeq]
              obtain ⟨xs, bs, g1, g2, g3, g4⟩ := hp12.ex
              have hxl := dpAll_len g2
              rw [List.length_map] at hxl
              rw [List.length_nil, Nat.add_zero] at hlen
              have hfn : fs.length = n := by rw [hp.length_eq, List.length_range]
              have flt : ∀ a (h : a < fs.length), fs[a] < n := fun a h => List.mem_range.mp (hp.mem_iff.mp (List.getElem_mem h))
              have fnd : fs.Nodup := hp.nodup_iff.mpr List.nodup_range
              refine ⟨_, rfl, p, rfl, ⟨_, SqL.of g1⟩, fun D hD => ?_⟩
              have nD := S2.notin hD
              refine lc_list (K := K) (a := p) (xs := xs) (fun i H13 => PairL K n i H13 D ∧ Ext H12 H13) ⟨.nil upd_same, .new hD⟩ (fun i H13 _ ⟨_, x13⟩ => SqL.of (x13.lst g1)) (fun i y H13 hy ⟨hp13, x13⟩ => ?_) (fun H13 ⟨hp13, x13⟩ => ?_)
              · obtain ⟨d, hd, hyd⟩ := dpAll_get' g2 hy
                have hil : i < xs.length := (List.getElem?_eq_some_iff.mp hy).1
                rw [List.getElem?_map] at hd
                obtain ⟨b, hb, rfl⟩ := Option.map_eq_some_iff.mp hd
                obtain ⟨hb1, hb2⟩ := g3 b (List.mem_of_getElem? hb)
                obtain ⟨tq, rfl, htq⟩ := dp_ints (ns := [(b.1 : Int), (b.2 : Int)]) hyd
                have h213 := x13.lst h2
                have e1 := vsN_at (l := fs) (n := b.1) (by omega)
                have e2 := vsN_at (l := fs) (n := b.2) (by omega)
                have fne : fs[b.1]'(by omega) ≠ fs[b.2]'(by omega) := List.pairwise_iff_getElem.mp fnd b.1 b.2 (by omega) (by omega) hb1
                refine ⟨tq, _, rfl, x13.sqT htq, rfl, _, _, rfl, _, _, rfl, rfl, rfl, ?_⟩
                dsimp only [tYes]
                rw [if_pos rfl]
                refine ⟨_, rfl, _, rfl, qn, _, b.1, _, rfl, rfl, SqL.of h213, atI_nat e1, _, rfl, _, rfl, qn, _, b.2, _, rfl, rfl, SqL.of h213, atI_nat e2, _, _, rfl, ?_⟩
                refine ⟨_, rfl, _, rfl, qn, _, b.1, _, rfl, rfl, SqL.of h213, atI_nat e1, _, rfl, _, rfl, qn, _, b.2, _, rfl, rfl, SqL.of h213, atI_nat e2, _, _, rfl, by show 2 ≤ sizeLine; decide, fun t ht => ?_⟩
                have l1 := flt b.1 (by omega)
                have l2 := flt b.2 (by omega)
                generalize fs[b.1]'(by omega) = u1 at fne l1 ⊢
                generalize fs[b.2]'(by omega) = u2 at fne l2 ⊢
                have q1 : (if (u2 : Int) < (u1 : Int) then (u2 : Int) else (u1 : Int)) = ((min u1 u2 : Nat) : Int) := by split <;> omega
                have q2 : (if (u2 : Int) > (u1 : Int) then (u2 : Int) else (u1 : Int)) = ((max u1 u2 : Nat) : Int) := by split <;> omega
                rw [q1, q2]
                obtain ⟨as, f1, f2, f3⟩ := (hp13.ext (.new (o := .tup [.int ((min u1 u2 : Nat) : Int), .int ((max u1 u2 : Nat) : Int)]) ht)).push (y := .ref t) (b := (min u1 u2, max u1 u2)) (.tup (SqT.of upd_same) (.cons (.int _) (.cons (.int _) .nil))) ⟨by show min u1 u2 < max u1 u2; omega, by show max u1 u2 < n; omega⟩
                exact ⟨as, f1, small1000 (by omega), f3, (x13.trans (.new ht)).write hD⟩
              · have x013 := x2.trans (.of x13)
                have S13 := S2.ext x13
                have hD13 := hp13.up (L' := 164) (by omega)
                clear hp13 g1 g2 g3 h1 h2 hp12 x2 S2 hqnH hqlH hqn1 hql1 hp11 x11 S11 hD fnd flt hp
                dsimp only [gName, tSeq, List.set]
                refine ⟨_, rfl, _, rfl, by omega, by omega, fun E0 hE0 => ?_⟩
                have nE := S13.notin hE0
                refine lc_range (lo := 0) (n := (n : Int).toNat) (fun i H14 => ∃ zs : List Int, H14 E0 = some (.lst (zs.map V.int)) ∧ zs.length = i ∧ (∀ z ∈ zs, 0 ≤ z ∧ z ≤ 1000000) ∧ ExtS [sp, gr] H13 H14 ∧ SpAt H14 sp gr) ⟨[], upd_same, rfl, (fun z hz => nomatch hz), .new hE0, S13.ext (.new hE0)⟩ (fun i H14 hi ⟨zs, j1, j2, j3, x14, S14⟩ => ?_) (fun H14 ⟨zs, j1, j2, j3, x14, S14⟩ => ?_)
                · rw [Int.toNat_natCast] at hi
                  refine ⟨rfl, ?_⟩
                  dsimp only [tYes]
                  rw [if_pos rfl]
                  refine ⟨_, rfl, by show 4 ≤ sizeLine; decide, fun l hl => ?_⟩
                  have nl := S14.notin hl
                  have xl : Ext H14 (upd H14 l (.lst [.int 2, .int 9, .int 1000, .int 1000001])) := .new hl
                  refine ⟨_, rfl, sp, gr, 4, rfl, S14.ext xl, by decide, by decide, fun z H15 hz x15 S15 => ?_⟩
                  obtain ⟨rr2, hrr, hr0, hrb⟩ : ∃ rr : Nat, ([V.int 2, .int 9, .int 1000, .int 1000001])[z]? = some (.int (rr : Int)) ∧ 0 < rr ∧ rr ≤ 1000001 :=
                    match z, hz with
                    | 0, _ => ⟨2, rfl, by decide, by decide⟩
                    | 1, _ => ⟨9, rfl, by decide, by decide⟩
                    | 2, _ => ⟨1000, rfl, by decide, by decide⟩
                    | 3, _ => ⟨1000001, rfl, by decide, by decide⟩
                  refine ⟨l, _, z, _, rfl, rfl, SqL.of (x15.lst nl upd_same), atI_nat hrr, sp, gr, rr2, rfl, S15, hr0, by omega, fun m H16 hm x16 S16 => ?_⟩
                  have xx := ((ExtS.of xl).trans x15).trans x16
                  refine ⟨_, xx.lst nE j1, by rw [List.length_map]; exact small1000 (by omega), zs ++ [(m : Int)], by rw [List.map_append]; exact upd_same, by rw [List.length_append, j2]; rfl, fun z hz => ?_, (x14.trans xx).write (.inl hE0), S16.upd (fun e => nE (by simp [e])) (fun e => nE (by simp [e]))⟩
                  rcases List.mem_append.mp hz with h | h
                  · exact j3 z h
                  · rw [List.mem_singleton.mp h]
                    omega
                · rw [Int.toNat_natCast] at j2
                  refine .inl ⟨E0, _, rfl, SqL.of j1, fun qf hqf => ?_⟩
                  dsimp only [gName, tSeq, List.set]
                  have xf : Ext H14 (upd H14 qf (.tup (zs.map V.int))) := .new hqf
                  have hD15 := (hD13.extS nD x14).ext xf
                  have hf15 : (upd H14 qf (.tup (zs.map V.int))) qf = some (.tup (zs.map V.int)) := upd_same
                  have S15 := S14.ext xf
                  have x015 := x013.trans (x14.trans (.of xf))
                  clear xf hqf j1 S14 x14
                  generalize upd H14 qf (.tup (zs.map V.int)) = H15 at hD15 hf15 S15 x015 ⊢
                  obtain ⟨ds, es, k1, k2, k3, k4⟩ := hD15.ex
                  refine ⟨_, rfl, _, rfl, set_sortS (SqL.of k1) k2 (fun b hb => ⟨(k3 b hb).1, by have := (k3 b hb).2; omega⟩) fun cs q H16 x16 hq0 hasc hmem hq => ?_⟩
                  refine ⟨by show 2 ≤ sizeLine; decide, fun t ht => ?_⟩
                  have x17 : Ext H15 (upd H16 t (.tup [.ref qf, .ref q])) := x16.trans (.new ht)
                  exact k t zs cs _ (x015.trans (.of x17)) (S15.ext x17) (x015.free (x16.free ht)) (.tup (SqT.of upd_same) (.cons (.tup (SqT.of (x17.tup hf15)) (dpAll_of_ints zs)) (.cons (dp_ext (.new ht) hq) .nil)))
                    ⟨by omega, by omega, j3, fun b hb => ⟨(k3 b ((hmem b).mp hb)).1, by rw [j2]; exact (k3 b ((hmem b).mp hb)).2⟩, hasc⟩ (by omega)
          · refine ⟨_, rfl, sp, gr, 4, rfl, S9, by decide, by decide, fun m H10 hm x10 S10 => ⟨rfl, _, rfl, ite2 (fun _ => ?_) (fun _ => hnx _ _ ⟨p2, _, _, rfl, x09.trans x10, S10, hp9.extS np2 x10, np2⟩)⟩⟩
            have x010 := x09.trans x10
            obtain ⟨xs, bs, h1, h2, h3, h4⟩ := (hp9.extS np2 x10).ex
            have hxl := dpAll_len h2
            rw [List.length_map] at hxl
            refine ⟨_, rfl, Nat.zero_le _, fun l hl => ?_⟩
            have y11 : Ext H10 (upd H10 l (.lst [])) := .new hl
            refine ⟨.list (bs.map pairD), .list [], .lst (SqL.of (y11.lst h1)) (dpAll_ext y11 h2), .lst (SqL.of upd_same) .nil, (Sh.lst (n := 2) (fun d hd => by
              obtain ⟨b, _, rfl⟩ := List.mem_map.mp hd
              exact sh_pair 0 _ _)).shaped (by decide), (Sh.lst (n := 0) (fun d hd => by cases hd)).shaped (by decide), _, rfl, ite2 (fun hk => ?_) (fun _ => hnx _ _ ⟨p2, _, _, rfl, x010.trans (.of y11), S10.ext y11, ⟨xs, bs, y11.lst h1, dpAll_ext y11 h2, h3, h4⟩, np2⟩)⟩
            have hne : xs ≠ [] := fun e => by
              subst e
              have hb0 : bs = [] := List.length_eq_zero_iff.mp hxl.symm
              subst hb0
              simp [PySem.SeqAt.eqv_refl, PyData.eqv, PyData.eqvAll] at hk
            have S11 := S10.ext y11
            have h1' := y11.lst h1
            have h2' := dpAll_ext y11 h2
            have x011 := x010.trans (.of y11)
            clear hk y11 hl h1 h2 S10 x10 x010
            generalize upd H10 l (.lst []) = H11 at S11 h1' h2' x011 ⊢
            refine ⟨_, rfl, _, rfl, sp, gr, p2, xs, rfl, S11, h1', np2, hne, by omega, fun x hx H12 x12 S12 => ?_⟩
            dsimp only [gName, tSeq, List.set]
            obtain ⟨i0, hi0⟩ := List.getElem?_of_mem hx
            obtain ⟨d0, hd0, hxd0⟩ := dpAll_get' h2' hi0
            rw [List.getElem?_map] at hd0
            obtain ⟨bl, hbl, rfl⟩ := Option.map_eq_some_iff.mp hd0
            have h12 := x12.lst np2 h1'
            have hd12 := dpAll_extS x12 (noL_pairs bs) h2'
            have hx12 := dp_extS x12 rfl hxd0
            have x012 := x011.trans x12
            refine ⟨_, rfl, p2, rfl, ⟨_, SqL.of h12⟩, fun D hD => ?_⟩
            have nD := S12.notin hD
            refine lc_list (K := K) (a := p2) (xs := xs) (fun i H13 => PairL K n i H13 D ∧ Ext H12 H13) ⟨.nil upd_same, .new hD⟩ (fun i H13 _ ⟨_, x13⟩ => SqL.of (x13.lst h12)) (fun i y H13 hy ⟨hp13, x13⟩ => ?_) (fun H13 ⟨hp13, x13⟩ => ?_)
            · obtain ⟨d, hd, hyd⟩ := dpAll_get' hd12 hy
              have hil : i < xs.length := (List.getElem?_eq_some_iff.mp hy).1
              rw [List.getElem?_map] at hd
              obtain ⟨b, hb, rfl⟩ := Option.map_eq_some_iff.mp hd
              refine ⟨rfl, _, rfl, _, rfl, _, _, dp_ext x13 hyd, dp_ext x13 hx12, (sh_pair 0 _ _).shaped (by decide), (sh_pair 0 _ _).shaped (by decide), _, rfl, ite2 (fun _ => ?_) (fun _ => ⟨hp13.up (by omega), x13⟩)⟩
              obtain ⟨as, e1, e2, e3⟩ := hp13.push (y := y) (dp_ext x13 hyd) (h3 b (List.mem_of_getElem? hb))
              exact ⟨_, rfl, as, e1, small1000 (by omega), e3, x13.write hD⟩
            · exact hnx _ _ ⟨D, _, _, rfl, x012.trans (.of x13), S12.ext x13, hp13.up (by omega), nD⟩
      · refine ⟨_, rfl, rfl, _, rfl, ite2 (fun _ => ?_) (fun _ => hnx _ _ ⟨p, _, rfl, x05, S5, hpq5, hp5, np5⟩)⟩
        refine ⟨_, rfl, 1, (n : Int), rfl, ⟨by omega, by omega, by omega, by omega⟩, fun D hD => ?_⟩
        have nD := S5.notin hD
        refine lc_range (lo := 1) (n := ((n : Int) - 1).toNat) (fun i H6 => PairL K n i H6 D ∧ ExtS [sp, gr] H5 H6 ∧ SpAt H6 sp gr) ⟨.nil upd_same, .new hD, S5.ext (.new hD)⟩ (fun i H6 hi ⟨hp6, x6, S6⟩ => ?_) (fun H6 ⟨hp6, x6, S6⟩ => ?_)
        · have hi' : i + 1 < n := by omega
          have et2 : (1 : Int) + (i : Int) = ((i + 1 : Nat) : Int) := by omega
          refine ⟨rfl, ?_⟩
          dsimp only [tYes]
          rw [if_pos rfl, et2]
          refine ⟨_, rfl, _, rfl, sp, gr, i + 1, rfl, S6, by omega, by omega, fun m H7 hm x7 S7 => ⟨_, rfl, by show 2 ≤ sizeLine; decide, fun t ht => ?_⟩⟩
          obtain ⟨as, e1, e2, e3⟩ := ((hp6.extS nD x7).ext (.new (o := .tup [.int (m : Int), .int ((i + 1 : Nat) : Int)]) ht)).push (y := .ref t) (b := (m, i + 1)) (.tup (SqT.of upd_same) (.cons (.int _) (.cons (.int _) .nil))) ⟨by show m < i + 1; omega, hi'⟩
          have S8 : SpAt (upd H7 t (.tup [.int (m : Int), .int ((i + 1 : Nat) : Int)])) sp gr := S7.ext (.new ht)
          exact ⟨as, e1, small1000 (by omega), e3, ((x6.trans x7).trans (.new ht)).write (.inl hD), S8.upd (fun e => nD (by simp [e])) (fun e => nD (by simp [e]))⟩
        · exact hnx _ _ ⟨D, _, rfl, x05.trans x6, S6, hpq5.extS npq x6, hp6.up (by omega), nD⟩
    · refine ⟨_, rfl, _, _, rfl, rfl, _, rfl, ite2 (fun _ => ?_) (fun _ => hnx _ _ ⟨b0, _, rfl, x04, S4, hpq4, hb4.up (by decide), nb0⟩)⟩
      refine ⟨_, rfl, 1, (n : Int), rfl, ⟨by omega, by omega, by omega, by omega⟩, fun D hD => ?_⟩
      refine lc_range (lo := 1) (n := ((n : Int) - 1).toNat) (fun i H5 => PairL K n i H5 D ∧ Ext H4 H5) ⟨.nil upd_same, .new hD⟩ (fun i H5 hi ⟨hp5, x5⟩ => ?_) (fun H5 ⟨hp5, x5⟩ => ?_)
      · have hi' : i + 1 < n := by omega
        refine ⟨rfl, ?_⟩
        dsimp only [tYes]
        rw [if_pos rfl]
        refine ⟨_, rfl, _, _, rfl, rfl, _, rfl, by show 2 ≤ sizeLine; decide, fun t ht => ?_⟩
        have et : ((i + 1 : Nat) : Int) - 1 = ((i : Nat) : Int) := by omega
        have et2 : (1 : Int) + (i : Int) = ((i + 1 : Nat) : Int) := by omega
        obtain ⟨as, e1, e2, e3⟩ := (hp5.ext (.new (o := .tup [.int (i : Int), .int ((i + 1 : Nat) : Int)]) ht)).push (y := .ref t) (b := (i, i + 1)) (.tup (SqT.of upd_same) (.cons (.int _) (.cons (.int _) .nil))) ⟨by show i < i + 1; omega, hi'⟩
        simp only [et2, et]
        exact ⟨as, e1, small1000 (by omega), e3, (x5.trans (.new ht)).write hD⟩
      · have hnD : D ∉ [sp, gr] := S4.notin hD
        have fin : ∀ (r : Addr) (H6 : Hp) (T : VK), Ext H5 H6 → PairL K n 1 H6 r → (∀ (p : Addr) H7, nx [some (.ref sp), some (.int (most : Int)), some (.int (n : Int)), some (.int (srt : Int)), some (.ref pq), some (.ref p), none, none, none, none, none, none, none, none, none, none] H7 → T (.ref p) H7) → rCat (.ref D) (.ref r) H6 T := fun r H6 T x6 hr6 kT => by
          refine PairL.cat ((hp5.up (L' := 12) (by omega)).ext x6) hr6 (by decide) fun p H7 x7 hp0 hp7 => ?_
          have x47 := (x5.trans x6).trans x7
          exact kT p H7 (hnx _ _ ⟨p, _, rfl, x04.trans (.of x47), S4.ext x47, hpq4.ext x47, hp7.up (by decide), (S4.ext (x5.trans x6)).notin hp0⟩)
        refine ⟨_, rfl, _, _, rfl, rfl, _, rfl, ite2 (fun _ => ?_) (fun _ => ?_)⟩
        · refine ⟨_, rfl, _, _, rfl, rfl, by show 2 ≤ sizeLine; decide, fun t ht => ⟨by show 1 ≤ sizeLine; decide, fun l hl => ?_⟩⟩
          have et : (n : Int) - 1 = ((n - 1 : Nat) : Int) := by omega
          refine fin l _ _ ((Ext.new ht).trans (.new hl)) ⟨[.ref t], [(0, n - 1)], upd_same, .cons (dp_ext (.new hl) (.tup (SqT.of upd_same) (.cons (.int _) (.cons ?_ .nil)))) .nil, (fun b hb => ?_), Nat.le_refl _⟩ fun p H7 h => h
          · show Dp K _ (V.int ((n : Int) - 1)) (.int ((n - 1 : Nat) : Int))
            rw [et]
            exact .int _
          · rw [List.mem_singleton.mp hb]
            exact ⟨by show 0 < n - 1; omega, by show n - 1 < n; omega⟩
        · refine ⟨Nat.zero_le _, fun l hl => ?_⟩
          exact fin l _ _ (.new hl) ((PairL.nil upd_same).up (by decide)) fun p H7 h => h
end
end Wd

set_option Elab.async false
set_option linter.all false
set_option maxRecDepth 100000
set_option maxHeartbeats 4000000
namespace Wd
open PySem PySem.Spec PyProof.Rows L2 Bx Gx



































section
variable {P : Program} {w : World} {K : PySem.W.Frag} {mg : Str → Option Value} {base : Heap}
/-! ### the law's rows of bits -/
def spRows (K : PySem.W.Frag) : Sp := fun vs H Q _ => ∃ (l : V) (fs : List Int) (bs : List (Nat × Nat)), vs = [l] ∧ Dp K H l (landD fs bs) ∧ fs.length ≤ 12 ∧ Mk.Bs fs.length bs ∧
  ∀ p H' lk, Ext H H' → H p = none → H' p = some (.lst (vsN lk)) → Mk.Lk fs.length bs lk → Q (.ref p) H'
theorem sc_law_rows : FnScope ["told", "rows", "i", "j"] ["told"] (defScope st__law_rows) := ⟨rfl, rfl, rfl, by decide +kernel, rfl, by decide +kernel, by decide +kernel⟩
theorem ok_law_rows {f : Addr} {fd : FuncData} (F : Fun K "_law_rows" "_law_rows" st__law_rows f fd) (B : Bl mg) : FnOk P w K mg base CX0 1 f fd ["told"] (spRows K) := by
  refine F.ok sc_law_rows (fun vs H Q E h => ?_) (fun cdv A outer s H vs Q E hr h => ?_)
  · obtain ⟨l, fs, bs, rfl, _⟩ := h
    rfl
  · obtain ⟨l, fs, bs, rfl, hd, hn, hb, k⟩ := h
    refine ⟨_, pss_cons (ps_set (i := 1) sc_law_rows.nd rfl (Or.inl rfl) (pe_op op_rep (pe_lst (pa_cons pe_int pa_nil)) (pe_callB call_len (by rfl) B.len PySem.boot_len (pa_cons (pe_ix ix_tup (pv 0) pe_int (fun _ _ => rfl)) pa_nil))))
      (pss_cons (ps_for PassesOwn.never rfl (pi_tup (pe_ix ix_tup (pv 0) pe_int (fun _ _ => rfl))) (pg_tup rfl (pgs_cons (pg_name (i := 2) sc_law_rows.nd rfl (Or.inl rfl)) (pgs_cons (pg_name (i := 3) sc_law_rows.nd rfl (Or.inl rfl)) pgs_nil)))
        (pss_cons (ps_asg (pe_op op_or (pe_ix ix_list (pv 1) (pv 2) (fun _ _ => rfl)) (pe_op op_shl pe_int (pv 3))) (pg_sub (pv 1) (pv 2) set_list))
        (pss_one (ps_asg (pe_op op_or (pe_ix ix_list (pv 1) (pv 3) (fun _ _ => rfl)) (pe_op op_shl pe_int (pv 2))) (pg_sub (pv 1) (pv 3) set_list)))))
      (pss_one (ps_ret (pv 1)))), ?_⟩
    obtain ⟨a, xs, rfl, h1, h2⟩ := dp_tup hd
    obtain ⟨v0, h3, h4⟩ := dpAll_get (i := 0) h2 rfl
    obtain ⟨b, rfl, h5⟩ := dp_ints h4
    obtain ⟨v1, h6, h7⟩ := dpAll_get (i := 1) h2 rfl
    obtain ⟨c, ys, rfl, h8, h9⟩ := dp_tup h7
    -- [0] * len(land[0])
    refine ⟨by decide, fun q hq => ?_⟩
    have x1 : Ext H (upd H q (.lst [.int 0])) := Ext.new hq
    refine ⟨_, rfl, _, _, _, _, rfl, rfl, x1.sqT h1, atI_nat h3, _, fs.length, rfl, .inr ⟨_, x1.sqT h5, by simp⟩, q, fs.length, _, rfl, rfl, upd_same, by omega, by omega, ?_, fun p hp => ?_⟩
    · have e : ((fs.length : Nat) : Int).toNat = fs.length := Int.toNat_natCast _
      rw [e]
      have : 12 ≤ sizeLine := by decide
      simp only [List.length_cons, List.length_nil]
      omega
    have x2 : Ext H (upd (upd H q (.lst [.int 0])) p (.lst (List.replicate ((fs.length : Nat) : Int).toNat [V.int 0]).flatten)) := x1.trans (Ext.new hp)
    have hp0 : H p = none := x1.free hp
    have e0 : (List.replicate ((fs.length : Nat) : Int).toNat [V.int 0]).flatten = vsN (List.replicate fs.length 0) := by
      rw [Int.toNat_natCast]
      generalize fs.length = n
      induction n with
      | zero => rfl
      | succ n ih => rw [List.replicate_succ, List.flatten_cons, ih]; rfl
    -- for low, high in land[1]
    refine ⟨_, rfl, _, _, _, _, rfl, rfl, x2.sqT h1, atI_nat h6, c, rfl, ⟨_, x2.sqT h8⟩, for_tup (K := K) (a := c) (xs := ys) (fun i σ H2 => ∃ (lk : List Nat) (o1 o2 : Option V), σ = [some (.ref a), some (.ref p), o1, o2] ∧ Ext H H2 ∧ H2 p = some (.lst (vsN lk)) ∧ Mk.Lk fs.length (bs.take i) lk)
      ⟨_, none, none, rfl, x2, by rw [upd_same, e0], by rw [List.take_zero]; exact Mk.Lk.nil _⟩ (fun i σ H2 _ ⟨_, _, _, _, x, _⟩ => x.sqT h8) ?_ ?_⟩
    · rintro i x σ H2 hx ⟨lk, o1, o2, rfl, x3, hl3, L⟩
      obtain ⟨d, hd1, hd2⟩ := dpAll_get' h9 hx
      rw [List.getElem?_map] at hd1
      cases eb : bs[i]? with
      | none => rw [eb] at hd1; cases hd1
      | some be =>
        rw [eb] at hd1
        cases hd1
        obtain ⟨b1, b2⟩ := be
        obtain ⟨hb1, hb2⟩ := hb (b1, b2) (List.mem_of_getElem? eb)
        simp only at hb1 hb2
        obtain ⟨t, zs, rfl, h10, h11⟩ := dp_tup hd2
        have ez : zs = [V.int (b1 : Int), V.int (b2 : Int)] := by
          cases h11 with
          | cons z1 zr =>
            cases zr with
            | cons z2 zr =>
              cases zr
              rw [dp_int z1, dp_int z2]
        subst ez
        have hl := L.len
        have g1 : (vsN lk)[b1]? = some (V.int ((lk.getD b1 0 : Nat) : Int)) := vsN_get (by omega)
        refine ⟨t, _, rfl, x3.sqT h10, rfl, _, _, rfl, _, _, rfl, rfl, ?_⟩
        refine ⟨_, rfl, _, rfl, p, _, b1, _, rfl, rfl, SqL.of hl3, atI_nat g1, _, rfl, 1, (b2 : Int), rfl, rfl, ⟨by omega, by omega, by decide⟩, _, _, rfl, rfl, _, rfl, _, rfl, p, vsN lk, _, b1, rfl, rfl, hl3, by simp [ixN_nat (show b1 < lk.length by omega)], ?_⟩
        have e1 : V.int (Builtin.bitOr ((lk.getD b1 0 : Nat) : Int) (1 * 2 ^ ((b2 : Nat) : Int).toNat)) = V.int ((lk.getD b1 0 ||| 2 ^ b2 : Nat) : Int) := by rw [shl_pp, or_pp]
        dsimp only
        rw [e1, vsN_set]
        have g2 : (vsN (lk.set b1 (lk.getD b1 0 ||| 2 ^ b2)))[b2]? = some (V.int ((lk.getD b2 0 : Nat) : Int)) := by
          rw [vsN_get (by simp; omega), Mk.getD_set (by omega), if_neg (by omega)]
        refine ⟨_, rfl, _, rfl, p, _, b2, _, rfl, rfl, SqL.of upd_same, atI_nat g2, _, rfl, 1, (b1 : Int), rfl, rfl, ⟨by omega, by omega, by decide⟩, _, _, rfl, rfl, _, rfl, _, rfl, p, vsN (lk.set b1 (lk.getD b1 0 ||| 2 ^ b2)), _, b2, rfl, rfl, upd_same, by simp [ixN_nat (show b2 < lk.length by omega)], ?_⟩
        have e2 : V.int (Builtin.bitOr ((lk.getD b2 0 : Nat) : Int) (1 * 2 ^ ((b1 : Nat) : Int).toNat)) = V.int ((lk.getD b2 0 ||| 2 ^ b1 : Nat) : Int) := by rw [shl_pp, or_pp]
        dsimp only
        rw [e2, vsN_set]
        refine ⟨_, _, _, rfl, ?_, upd_same, ?_⟩
        · exact (x3.write hp0).write hp0
        · have et : bs.take (i + 1) = bs.take i ++ [(b1, b2)] := by
            rw [List.take_add_one, eb]
            rfl
          rw [et]
          exact L.add hb1 hb2
    · rintro σ H2 ⟨lk, o1, o2, rfl, x3, hl3, L⟩
      have el : ys.length = bs.length := by
        have := dpAll_len h9
        rw [List.length_map] at this
        exact this
      rw [el, List.take_length] at L
      exact ⟨_, rfl, k p H2 lk x3 hp0 hl3 L⟩
end
end Wd

set_option Elab.async false
set_option linter.all false
set_option maxRecDepth 100000
set_option maxHeartbeats 4000000
namespace Wd
open PySem PySem.Spec PyProof.Rows L2 Bx Gx



































section
variable {P : Program} {w : World} {K : PySem.W.Frag} {mg : Str → Option Value} {base : Heap}
/-! ### alike -/
def tyName : PyData → String
  | .none => "NoneType"
  | .bool _ => "bool"
  | .int _ => "int"
  | .str _ => "str"
  | .list _ => "list"
  | .tuple _ => "tuple"
  | _ => "dict"
theorem tyX_dp {H : Hp} {v : V} {d : PyData} (h : Dp K H v d) : TyX K H v (.type (tyName d)) ∧ tyName d ∈ ["NoneType", "bool", "int", "str", "list", "tuple"] := by
  cases h with
  | non => exact ⟨.base .non, by simp [tyName]⟩
  | bl b => exact ⟨.base (.bl b), by simp [tyName]⟩
  | int i => exact ⟨.base (.int i), by simp [tyName]⟩
  | str x => exact ⟨.base (.str x), by simp [tyName]⟩
  | lst h _ =>
    refine ⟨?_, by simp [tyName]⟩
    rcases h with (h | ⟨o, h⟩) | ⟨o, _, _, h1, h2, _⟩
    · exact .base (.lst h)
    · exact .base (.frz h)
    · exact .kList h1 h2
  | tup h _ =>
    refine ⟨?_, by simp [tyName]⟩
    rcases h with (h | ⟨o, h⟩) | ⟨o, _, _, h1, h2, _⟩
    · exact .base (.tup h)
    · exact .fTuple h
    · exact .kTuple h1 h2
def kindsOf (T : String) : List Bool := [decide (T = "bool"), decide (T = "int" ∨ T = "bool"), decide (T = "str"), decide (T = "tuple"), decide (T = "list"), decide (T = "NoneType")]
theorem kit_in (T U : String) (hT : T ∈ ["NoneType", "bool", "int", "str", "list", "tuple"]) (hU : U ∈ ["bool", "int", "str", "list", "tuple"]) : PySem.W.kitOne K (.type T) (.type U) = some (decide (T = U ∨ (T = "bool" ∧ U = "int"))) := by
  simp only [List.mem_cons, List.mem_nil_iff, or_false] at hT hU
  rcases hT with rfl | rfl | rfl | rfl | rfl | rfl <;> rcases hU with rfl | rfl | rfl | rfl | rfl <;> exact kit_ty (by decide +kernel)
def spKinds (K : PySem.W.Frag) : Sp := fun vs H Q _ => ∃ (v : V) (d : PyData), vs = [v] ∧ Dp K H v d ∧ ∀ q H', Ext H H' → H q = none → H' q = some (.lst ((kindsOf (tyName d)).map V.bl)) → Q (.ref q) H'
end
section
variable {P : Program} {w : World} {K : PySem.W.Frag} {mg : Str → Option Value} {base : Heap}
theorem seq_eq {d : PyData} {ds ds' : List PyData} (h : d = .list ds ∨ d = .tuple ds) (h' : d = .list ds' ∨ d = .tuple ds') : ds' = ds := by
  rcases h with rfl | rfl <;> rcases h' with e | e <;> cases e <;> rfl
theorem canLay_get : ∀ {ds : List PyData}, PyData.canLayAll0 ds = true → ∀ d ∈ ds, d.canLay0 = true
  | [], _, d, hd => by cases hd
  | e :: ds, h, d, hd => by
    simp only [PyData.canLayAll0, Bool.and_eq_true] at h
    rcases List.mem_cons.mp hd with z | z
    · rw [z]; exact h.1
    · exact canLay_get h.2 d z
theorem depth_get : ∀ {ds : List PyData} {n : Nat}, PyData.depthAll ds ≤ n → ∀ d ∈ ds, d.depth ≤ n
  | [], _, _, d, hd => by cases hd
  | e :: ds, n, h, d, hd => by
    simp only [PyData.depthAll] at h
    rcases List.mem_cons.mp hd with z | z
    · rw [z]; omega
    · exact depth_get (by omega) d z
theorem rix_of {H : Hp} {a : Addr} {xs : List V} {i : Nat} {v : V} {Q : VK} (h : SqL K H a xs ∨ SqT K H a xs) (e : xs[i]? = some v) (q : Q v H) : rIx K (.ref a) (.int (i : Int)) H Q := by
  rcases h with h | h
  · exact .inl ⟨a, xs, i, v, rfl, rfl, h, atI_nat e, q⟩
  · exact .inr (.inl ⟨a, xs, i, v, rfl, rfl, h, atI_nat e, q⟩)
theorem ix_seqK {X : Cx} {K : PySem.W.Frag} (h : X.K = K) : IxR X (rIx K) := h ▸ ix_seq
mutual
/-- data whose lists and tuples are short -/
def smD : PyData → Bool
  | .list ds => decide (ds.length ≤ 500) && smDs ds
  | .tuple ds => decide (ds.length ≤ 500) && smDs ds
  | _ => true
def smDs : List PyData → Bool
  | [] => true
  | d :: ds => smD d && smDs ds
end
theorem smD_seq {d : PyData} {ds : List PyData} (h : d = .list ds ∨ d = .tuple ds) (hs : smD d = true) : ds.length ≤ 500 ∧ smDs ds = true := by
  rcases h with rfl | rfl <;> simpa [smD] using hs
theorem smDs_get : ∀ {ds : List PyData}, smDs ds = true → ∀ d ∈ ds, smD d = true
  | [], _, d, hd => by cases hd
  | e :: ds, h, d, hd => by
    simp only [smDs, Bool.and_eq_true] at h
    rcases List.mem_cons.mp hd with z | z
    · rw [z]; exact h.1
    · exact smDs_get h.2 d z
def spAlike (K : PySem.W.Frag) (r : Nat) : Sp := fun vs H Q _ => ∃ (v u : V) (d : PyData), vs = [v, u] ∧ Dp K H v d ∧ Dp K H u d ∧ d.canLay0 = true ∧ smD d = true ∧ d.depth < r ∧ ∀ H', Ext H H' → Q (.bl true) H'
theorem dp_seq {H : Hp} {v : V} {d : PyData} (h : Dp K H v d) (ht : tyName d = "tuple" ∨ tyName d = "list") : ∃ a xs ds, v = .ref a ∧ (SqL K H a xs ∨ SqT K H a xs) ∧ DpAll K H xs ds ∧ d.depth = PyData.depthAll ds + 1 ∧ (d.canLay0 = true → PyData.canLayAll0 ds = true) ∧ (d = .list ds ∨ d = .tuple ds) := by
  cases h with
  | lst h hs => exact ⟨_, _, _, rfl, .inl h, hs, by simp [PyData.depth], by simp [PyData.canLay0], .inl rfl⟩
  | tup h hs => exact ⟨_, _, _, rfl, .inr h, hs, by simp [PyData.depth], by simp [PyData.canLay0], .inr rfl⟩
  | non => simp [tyName] at ht
  | bl => simp [tyName] at ht
  | int => simp [tyName] at ht
  | str => simp [tyName] at ht
theorem kit_two (T : String) (hT : T ∈ ["NoneType", "bool", "int", "str", "list", "tuple"]) : PySem.W.kitAny K (.type T) [.type "tuple", .type "list"] = some (decide (T = "tuple" ∨ T = "list")) := by
  unfold PySem.W.kitAny
  rw [kit_in T "tuple" hT (by simp)]
  unfold PySem.W.kitAny
  rw [kit_in T "list" hT (by simp)]
  by_cases h1 : T = "tuple"
  · subst h1; rfl
  · by_cases h2 : T = "list"
    · subst h2; rfl
    · simp only [h1, h2, false_or, or_self, decide_false, show ¬ ("tuple" = "int") by decide, show ¬ ("list" = "int") by decide, and_false]
      rfl
end
section
variable {P : Program} {w : World} {K : PySem.W.Frag} {mg : Str → Option Value} {base : Heap}
/-! ### equal, kinds of numbers too -/
theorem sc_law_same : FnScope ["found", "due", "k"] ["found", "due"] (defScope st__law_same) := ⟨rfl, rfl, rfl, by decide +kernel, rfl, by decide +kernel, by decide +kernel⟩
theorem ok_law_same {f : Addr} {fd : FuncData} (F : Fun K "_law_same" "_law_same" st__law_same f fd) (B : Bl mg) (hm : mg "_law_same" = some (.ref f)) (hb : Binds K fd ["found", "due"] []) :
    ∀ r : Nat, FnOk P w K mg base CX0 (1 + r) f fd ["found", "due"] (spAlike K r)
  | 0 => by
    refine F.ok (k := 0) sc_law_same (fun vs H Q E h => ?_) (fun cdv A outer s H vs Q E hr h => ?_)
    · obtain ⟨v, u, d, rfl, _⟩ := h
      rfl
    · obtain ⟨v, u, d, rfl, _, _, _, _, h0, _⟩ := h
      omega
  | r + 1 => by
    have c2 : Cal P w K mg base (1 + r) "_law_same" ["found", "due"] (spAlike K r) := ⟨f, fd, ok_law_same F B hm hb r, hm, F.kp, hb⟩
    refine F.ok (k := 1 + r) sc_law_same (fun vs H Q E h => ?_) (fun cdv A outer s H vs Q E hr h => ?_)
    · obtain ⟨v, u, d, rfl, _⟩ := h
      rfl
    · obtain ⟨v, u, d, rfl, hv, hu, hlay, hsm, hdep, k⟩ := h
      have nd := sc_law_same.nd
      refine ⟨_, pss_cons (ps_if (pt_val (pe_callB call_isiT (by rfl) B.isinstance (by decide +kernel) (pa_cons (pv 1) (pa_cons (pe_tup (pa_cons (pe_bltn rfl B.tuple (by decide +kernel) (v := .ty "tuple") rfl) (pa_cons (pe_bltn rfl B.list (by decide +kernel) (v := .ty "list") rfl) pa_nil))) pa_nil))))
          (pss_cons (ps_if (PW.pt (pw_or (pt_cmpR op_ne (pe_callB call_isi (by rfl) B.isinstance (by decide +kernel) (pa_cons (pv 0) (pa_cons (pe_bltn rfl B.tuple (by decide +kernel) (v := .ty "tuple") rfl) pa_nil))) (pe_callB call_isi (by rfl) B.isinstance (by decide +kernel) (pa_cons (pv 1) (pa_cons (pe_bltn rfl B.tuple (by decide +kernel) (v := .ty "tuple") rfl) pa_nil))) (nomark _))
              (pw_or1 (pt_cmpR op_ne (pe_callB call_isi (by rfl) B.isinstance (by decide +kernel) (pa_cons (pv 0) (pa_cons (pe_bltn rfl B.list (by decide +kernel) (v := .ty "list") rfl) pa_nil))) (pe_callB call_isi (by rfl) B.isinstance (by decide +kernel) (pa_cons (pv 1) (pa_cons (pe_bltn rfl B.list (by decide +kernel) (v := .ty "list") rfl) pa_nil))) (nomark _))))) (pss_one (ps_ret pe_bl)) pss_nil)
          (pss_one (ps_ret (pe_and (pe_cmpR op_eq (pe_callB call_len (by rfl) B.len PySem.boot_len (pa_cons (pv 0) pa_nil)) (pe_callB call_len (by rfl) B.len PySem.boot_len (pa_cons (pv 1) pa_nil)) (nomark _))
            (pe_one (pe_callB (cr_all rfl) (by rfl) B.all (by decide +kernel) (pa_cons
              (pe_lc (own := [("k", 2)]) (g := gName 2) (by rfl) nd (pi_range1 rfl B.range (pa_cons (pe_callB call_len (by rfl) B.len PySem.boot_len (pa_cons (pv 1) pa_nil)) pa_nil))
                (blkOk_by (own := [("k", 2)]) (N := ["found", "due", "k"]) (sc := defScope st__law_same) (by decide +kernel)) (fun _ _ _ _ _ => pg_name (i := 2) nd rfl (Or.inl rfl))
                (fun _ _ _ _ _ => pts_nil)
                (fun _ _ _ _ _ => pe_cal c2 hr rfl (pa_cons (pe_ix (ix_seqK (K := K) rfl) (pv 0) (pv 2) (fun _ _ => rfl)) (pa_cons (pe_ix (ix_seqK (K := K) rfl) (pv 1) (pv 2) (fun _ _ => rfl)) pa_nil)))) pa_nil))))))) pss_nil)
        (pss_cons (ps_if (PW.pt (pw_or (pt_cmpR op_ne (pe_callB call_isi (by rfl) B.isinstance (by decide +kernel) (pa_cons (pv 0) (pa_cons (pe_bltn rfl B.bool (by decide +kernel) (v := .ty "bool") rfl) pa_nil))) (pe_callB call_isi (by rfl) B.isinstance (by decide +kernel) (pa_cons (pv 1) (pa_cons (pe_bltn rfl B.bool (by decide +kernel) (v := .ty "bool") rfl) pa_nil))) (nomark _))
              (pw_or1 (pt_cmpR op_ne (pe_callB call_isi (by rfl) B.isinstance (by decide +kernel) (pa_cons (pv 0) (pa_cons (pe_bltn rfl B.int (by decide +kernel) (v := .ty "int") rfl) pa_nil))) (pe_callB call_isi (by rfl) B.isinstance (by decide +kernel) (pa_cons (pv 1) (pa_cons (pe_bltn rfl B.int (by decide +kernel) (v := .ty "int") rfl) pa_nil))) (nomark _))))) (pss_one (ps_ret pe_bl)) pss_nil)
        (pss_one (ps_ret (pe_and (pe_cmpR op_eq (pe_callB call_isi (by rfl) B.isinstance (by decide +kernel) (pa_cons (pv 0) (pa_cons (pe_bltn rfl B.str (by decide +kernel) (v := .ty "str") rfl) pa_nil))) (pe_callB call_isi (by rfl) B.isinstance (by decide +kernel) (pa_cons (pv 1) (pa_cons (pe_bltn rfl B.str (by decide +kernel) (v := .ty "str") rfl) pa_nil))) (nomark _))
          (pe_one (pe_cmpR (op_eqD hr.units) (pv 0) (pv 1) (nomark _))))))), ?_⟩
      obtain ⟨hT, hin⟩ := tyX_dp hu
      have kk := fun U hU => kit_in (K := K) (tyName d) U hin hU
      refine ⟨_, rfl, by show 2 ≤ sizeLine; decide, fun t ht => ?_⟩
      have x3 : Ext H (upd H t (.tup [.ty "tuple", .ty "list"])) := .new ht
      refine ⟨u, t, _, _, _, _, rfl, upd_same, .cons (.ty "tuple") (.cons (.ty "list") .nil), (tyX_dp (dp_ext x3 hu)).1, kit_two _ hin, _, rfl, ?_⟩
      have hv3 := dp_ext x3 hv
      have hu3 := dp_ext x3 hu
      generalize upd H t (.tup [.ty "tuple", .ty "list"]) = H3 at x3 hv3 hu3 ⊢
      obtain ⟨tv, _⟩ := tyX_dp hv3
      obtain ⟨tu, _⟩ := tyX_dp hu3
      by_cases hs : tyName d = "tuple" ∨ tyName d = "list"
      · rw [decide_eq_true hs]
        refine iteT ?_
        refine ⟨_, rfl, v, _, _, _, _, rfl, .ty "tuple", tv, kk "tuple" (by simp), _, rfl, u, _, _, _, _, rfl, .ty "tuple", tu, kk "tuple" (by simp), rfl, _, rfl, ?_⟩
        rw [decide_eq_true rfl]
        refine iteF ⟨_, rfl, v, _, _, _, _, rfl, .ty "list", tv, kk "list" (by simp), _, rfl, u, _, _, _, _, rfl, .ty "list", tu, kk "list" (by simp), rfl, _, rfl, ?_⟩
        rw [decide_eq_true rfl]
        refine iteF ?_
        obtain ⟨av, xs, ds, rfl, sv, av2, hdd, hcl, hor⟩ := dp_seq hv3 hs
        obtain ⟨au, ys, ds', rfl, su, au2, _, _, hor'⟩ := dp_seq hu3 hs
        have eds : ds' = ds := seq_eq hor hor'
        subst eds
        have l1 := dpAll_len av2
        have l2 := dpAll_len au2
        have lenv : ∀ {H : Hp} {a : Addr} {xs : List V}, (SqL K H a xs ∨ SqT K H a xs) → LenV K (.ref a) H xs.length := fun h => by
          rcases h with h | h
          · exact .inl ⟨_, h, rfl⟩
          · exact .inr ⟨_, h, rfl⟩
        refine ⟨_, rfl, _, xs.length, rfl, lenv sv, _, rfl, _, ys.length, rfl, lenv su, rfl, _, rfl, ?_⟩
        obtain ⟨hl5, hsm2⟩ := smD_seq hor' hsm
        have elen : decide (V.int (xs.length : Int) = V.int (ys.length : Int)) = true := decide_eq_true (by rw [l1, l2])
        rw [elen]
        refine iteT ⟨_, rfl, _, ys.length, rfl, lenv su, _, rfl, by omega, by omega, fun D hD => ?_⟩
        have nlst : ∀ {H H' : Hp} {a : Addr} {xs : List V}, Ext H H' → (SqL K H a xs ∨ SqT K H a xs) → (SqL K H' a xs ∨ SqT K H' a xs) := fun x h => h.elim (fun z => .inl (x.sqL z)) fun z => .inr (x.sqT z)
        refine lc_range (lo := 0) (n := (ys.length : Int).toNat) (fun i H4 => H4 D = some (.lst ((List.replicate i true).map V.bl)) ∧ Ext H3 H4) ⟨upd_same, .new hD⟩ (fun i H4 hi ⟨e4, x4⟩ => ?_) fun H4 ⟨e4, x4⟩ => ?_
        · rw [Int.toNat_natCast] at hi
          have hx := List.getElem?_eq_getElem (show i < xs.length by omega)
          have hy := List.getElem?_eq_getElem hi
          obtain ⟨d1, hd1, hp1⟩ := dpAll_get' av2 hx
          obtain ⟨d2, hd2, hp2⟩ := dpAll_get' au2 hy
          have ed : d2 = d1 := by
            rw [hd1] at hd2
            exact (Option.some.inj hd2).symm
          subst ed
          have hmem := List.mem_of_getElem? hd1
          have hcn : d2.canLay0 = true := canLay_get (hcl hlay) d2 hmem
          have hdn : d2.depth < r := by
            have := depth_get (Nat.le_refl _) d2 hmem
            omega
          have e0 : (0 : Int) + (i : Int) = (i : Int) := Int.zero_add _
          refine ⟨rfl, ?_⟩
          rw [e0]
          dsimp only [tYes]
          rw [if_pos rfl]
          refine ⟨_, rfl, _, rfl, rix_of (nlst x4 sv) hx ⟨_, rfl, _, rfl, rix_of (nlst x4 su) hy ⟨_, _, d2, rfl, dp_ext x4 hp1, dp_ext x4 hp2, hcn, smDs_get hsm2 d2 hmem, hdn, fun H5 x5 => ?_⟩⟩⟩
          refine ⟨_, x5.lst e4, ?_, ?_, (x4.trans x5).write hD⟩
          · rw [List.length_map, List.length_replicate]
            exact small1000 (by omega)
          · rw [upd_same, List.replicate_succ', List.map_append]
            rfl
        · rw [Int.toNat_natCast] at e4
          refine ⟨D, List.replicate ys.length true, rfl, SqL.of e4, ?_⟩
          have et : ((List.replicate ys.length true).all id) = true := by
            rw [List.all_eq_true]
            intro b hb
            rw [List.eq_of_mem_replicate hb]
            rfl
          rw [et]
          exact k H4 (x3.trans x4)
      · rw [decide_eq_false hs]
        refine iteF ⟨_, rfl, v, _, _, _, _, rfl, .ty "bool", tv, kk "bool" (by simp), _, rfl, u, _, _, _, _, rfl, .ty "bool", tu, kk "bool" (by simp), rfl, _, rfl, ?_⟩
        rw [decide_eq_true rfl]
        refine iteF ⟨_, rfl, v, _, _, _, _, rfl, .ty "int", tv, kk "int" (by simp), _, rfl, u, _, _, _, _, rfl, .ty "int", tu, kk "int" (by simp), rfl, _, rfl, ?_⟩
        rw [decide_eq_true rfl]
        refine iteF ⟨_, rfl, v, _, _, _, _, rfl, .ty "str", tv, kk "str" (by simp), _, rfl, u, _, _, _, _, rfl, .ty "str", tu, kk "str" (by simp), rfl, _, rfl, ?_⟩
        have shd : SeqAt.shaped d = true := by
          have hd0 : d.depth = 0 := by
            have := hs
            cases hv3 <;> simp [tyName, PyData.depth] at this ⊢
          unfold SeqAt.shaped
          rw [hlay, hd0]
          rfl
        rw [decide_eq_true rfl]
        refine iteT ⟨_, rfl, _, rfl, d, d, hv3, hu3, shd, shd, ?_⟩
        rw [SeqAt.eqv_refl _ hlay]
        exact k H3 x3
end
end Wd

set_option Elab.async false
set_option linter.all false
set_option maxRecDepth 100000
set_option maxHeartbeats 4000000
namespace Wd
open PySem PySem.Spec PyProof.Rows L2 Bx Gx



































section
/-! ### one piece -/
def One (bs : List (Nat × Nat)) (m : Nat) : Prop := ∀ p q, m.testBit p = true → m.testBit q = true → Mk.Conn bs (Mk.In m) p q
theorem one_rch {bs : List (Nat × Nat)} {m q r : Nat} (hq : m.testBit q = true) (R : Mk.Rch bs m (2 ^ q) r) : r = m ↔ One bs m := by
  have hR : ∀ x, r.testBit x = true ↔ Mk.Conn bs (Mk.In m) q x := fun x => by
    rw [R x]
    constructor
    · rintro ⟨p, hp, c⟩
      rw [Nat.testBit_two_pow, decide_eq_true_eq] at hp
      rw [hp]; exact c
    · intro c
      exact ⟨q, by rw [Nat.testBit_two_pow]; exact decide_eq_true rfl, c⟩
  constructor
  · intro e p p' hp hp'
    rw [← e] at hp hp'
    exact ((hR p).mp hp).symm.trans ((hR p').mp hp')
  · intro o
    refine Mk.eq_of_bits fun x => ?_
    rw [hR]
    exact ⟨fun c => c.snd, fun hx => o q x hq hx⟩
theorem low_of {m : Nat} (h : 0 < m) : ∃ q, m.testBit q = true ∧ ∀ p, p < q → m.testBit p = false := by
  obtain ⟨q, h1, h2, _⟩ := Mk.and_neg m h
  exact ⟨q, h1, h2⟩
/-- the law's walk: what is come to from q so far -/
structure Grow (bs : List (Nat × Nat)) (m q t r : Nat) (n : Nat) : Prop where
  at_ : r.testBit q = true
  sub : ∀ x, r.testBit x = true → Mk.Conn bs (Mk.In m) q x
  up : (∀ x, Mk.Conn bs (Mk.In m) q x → r.testBit x = true) ∨ t + 1 ≤ (Mk.bits n r).length
structure GrowIn (bs : List (Nat × Nat)) (m q i r0 r : Nat) : Prop where
  sub : ∀ x, r.testBit x = true → Mk.Conn bs (Mk.In m) q x
  old : ∀ x, r0.testBit x = true → r.testBit x = true
  near : ∀ x y, x < i → r0.testBit x = true → Mk.adj bs x y = true → m.testBit y = true → r.testBit y = true
theorem Grow.turn {bs : List (Nat × Nat)} {m q t r0 r n : Nat} (hm : m < 2 ^ n) (G : Grow bs m q t r0 n) (I : GrowIn bs m q n r0 r) : Grow bs m q (t + 1) r n := by
  refine ⟨I.old q G.at_, I.sub, ?_⟩
  rcases G.up with d | d
  · exact .inl fun x c => I.old x (d x c)
  · by_cases c : ∀ x y, r0.testBit x = true → m.testBit y = true → Mk.adj bs x y = true → r0.testBit y = true
    · exact .inl fun x cx => I.old x (cx.closed (T := fun z => r0.testBit z = true) G.at_ fun a b h1 h2 h3 => c a b h1 h2 h3).2
    · have : ∃ x y, r0.testBit x = true ∧ m.testBit y = true ∧ Mk.adj bs x y = true ∧ ¬ r0.testBit y = true := by
        refine Classical.byContradiction fun z => c fun x y h1 h2 h3 => Classical.byContradiction fun h4 => z ⟨x, y, h1, h2, h3, h4⟩
      obtain ⟨x, y, h1, h2, h3, h4⟩ := this
      have hxn : x < n := Mk.lt_of_bit hm (G.sub x h1).snd
      have hyn : y < n := Mk.lt_of_bit hm h2
      have hy := I.near x y hxn h1 h3 h2
      refine .inr ?_
      have hnd : (y :: Mk.bits n r0).Nodup := List.nodup_cons.mpr ⟨fun z => h4 (Mk.mem_bits.mp z).2, (Mk.bits_pair n r0).imp Nat.ne_of_lt⟩
      have := Mk.sub_le (m := Mk.bits n r) hnd fun z hz => by
        rcases List.mem_cons.mp hz with rfl | hz
        · exact Mk.mem_bits.mpr ⟨hyn, hy⟩
        · exact Mk.mem_bits.mpr ⟨(Mk.mem_bits.mp hz).1, I.old z (Mk.mem_bits.mp hz).2⟩
      rw [List.length_cons] at this
      omega
theorem Grow.fin {bs : List (Nat × Nat)} {m q r n : Nat} (G : Grow bs m q n r n) : Mk.Rch bs m (2 ^ q) r := fun x => by
  have hd : ∀ x, Mk.Conn bs (Mk.In m) q x → r.testBit x = true := by
    rcases G.up with d | d
    · exact d
    · have := Mk.bits_len n r
      omega
  constructor
  · intro h
    exact ⟨q, by rw [Nat.testBit_two_pow]; exact decide_eq_true rfl, G.sub x h⟩
  · rintro ⟨p, hp, c⟩
    rw [Nat.testBit_two_pow, decide_eq_true_eq] at hp
    exact hd x (hp ▸ c)
theorem bit_dec (m i : Nat) : decide (V.int (Builtin.bitAnd ((m : Int) / 2 ^ ((i : Nat) : Int).toNat) 1) = V.int 1) = m.testBit i := by
  rw [Int.toNat_natCast, shr_and]
  cases m.testBit i <;> simp
end
section
variable {P : Program} {w : World} {K : PySem.W.Frag} {mg : Str → Option Value} {base : Heap}
/-! ### _law_is_one -/
def spIsOne (K : PySem.W.Frag) : Sp := fun vs H Q _ => ∃ (l : Addr) (lk : List Nat) (n m : Nat) (bs : List (Nat × Nat)), vs = [.ref l, .int (m : Int)] ∧ H l = some (.lst (vsN lk)) ∧ Mk.Lk n bs lk ∧ n ≤ 12 ∧ m < 2 ^ n ∧ 0 < m ∧
  ∀ (b : Bool), (b = true ↔ One bs m) → Q (.bl b) H
abbrev ioN : List Str := ["rows", "bits", "reach", "k", "turn"]
theorem sc_law_is_one : FnScope ioN ["rows", "bits"] (defScope st__law_is_one) := ⟨rfl, rfl, rfl, by decide +kernel, rfl, by decide +kernel, by decide +kernel⟩
theorem ok_law_is_one {f : Addr} {fd : FuncData} (F : Fun K "_law_is_one" "_law_is_one" st__law_is_one f fd) (B : Bl mg) : FnOk P w K mg base CX0 1 f fd ["rows", "bits"] (spIsOne K) := by
  refine F.ok sc_law_is_one (fun vs H Q E h => ?_) (fun cdv A outer s H vs Q E hr h => ?_)
  · obtain ⟨l, lk, n, m, bs, rfl, _⟩ := h
    rfl
  · obtain ⟨l, lk, n, m, bs, rfl, hl, L, hn, hm, hm0, k⟩ := h
    have nd := sc_law_is_one.nd
    refine ⟨_, pss_cons (ps_set (i := 2) nd rfl (Or.inl rfl) pe_int)
      (pss_cons (ps_for PassesOwn.never rfl (pi_range1 rfl B.range (pa_cons (pe_callB call_len (by rfl) B.len PySem.boot_len (pa_cons (pv 0) pa_nil)) pa_nil)) (pg_name (i := 3) nd rfl (Or.inl rfl))
        (pss_one (ps_if (PW.pt (pw_and (pt_cmpR op_eq (pv 2) pe_int (nomark _)) (pw_and1 (pt_cmpR op_eq (pe_op op_and (pe_op op_shr (pv 1) (pv 3)) pe_int) pe_int (nomark _))))) (pss_one (ps_set (i := 2) nd rfl (Or.inl rfl) (pe_op op_shl pe_int (pv 3)))) pss_nil)))
      (pss_cons (ps_for PassesOwn.never rfl (pi_range1 rfl B.range (pa_cons (pe_callB call_len (by rfl) B.len PySem.boot_len (pa_cons (pv 0) pa_nil)) pa_nil)) (pg_name (i := 4) nd rfl (Or.inl rfl))
        (pss_one (ps_for PassesOwn.never rfl (pi_range1 rfl B.range (pa_cons (pe_callB call_len (by rfl) B.len PySem.boot_len (pa_cons (pv 0) pa_nil)) pa_nil)) (pg_name (i := 3) nd rfl (Or.inl rfl))
          (pss_one (ps_if (pt_cmpR op_eq (pe_op op_and (pe_op op_shr (pv 2) (pv 3)) pe_int) pe_int (nomark _)) (pss_one (ps_set (i := 2) nd rfl (Or.inl rfl) (pe_op op_or (pv 2) (pe_op op_and (pe_ix ix_list (pv 0) (pv 3) (fun _ _ => rfl)) (pv 1))))) pss_nil)))))
      (pss_one (ps_ret (pe_cmpR op_eq (pv 2) (pv 1) (nomark _)))))), ?_⟩
    obtain ⟨q, hq, hlow⟩ := low_of hm0
    have hqn : q < n := Mk.lt_of_bit hm hq
    have hlen : (vsN lk).length = n := by rw [List.length_map, L.len]
    have hS := SqL.of (K := K) hl
    refine ⟨_, rfl, _, n, rfl, .inl ⟨_, hS, hlen.symm⟩, _, rfl, by omega, by omega, for_range (lo := 0) (n := (n : Int).toNat) (fun i σ H2 => H2 = H ∧ ∃ (r : Nat) (o3 : Option V), σ = [some (.ref l), some (.int (m : Int)), some (.int (r : Int)), o3, none] ∧ ((r = 0 ∧ i ≤ q) ∨ (r = 2 ^ q ∧ q < i)))
      ⟨rfl, 0, _, rfl, .inl ⟨rfl, Nat.zero_le _⟩⟩ ?_ ?_⟩
    · rintro i σ H2 hi ⟨rfl, r, o3, rfl, hor⟩
      rw [Int.toNat_natCast] at hi
      rw [Int.zero_add]
      refine ⟨_, rfl, rfl, _, rfl, ?_⟩
      rcases hor with ⟨rfl, hiq⟩ | ⟨rfl, hqi⟩
      · have e0 : decide (V.int ((0 : Nat) : Int) = V.int (0 : Int)) = true := decide_eq_true (by simp)
        rw [e0]
        refine iteT ⟨_, rfl, _, rfl, _, _, rfl, rfl, by show (0 : Int) ≤ (i : Int); omega, _, _, rfl, rfl, rfl, _, rfl, ?_⟩
        rw [bit_dec]
        by_cases e : i = q
        · subst e
          rw [hq]
          refine iteT ⟨_, rfl, _, _, rfl, rfl, ⟨by omega, by omega, by decide⟩, ?_⟩
          exact ⟨rfl, 2 ^ i, _, by dsimp only [gName, List.set]; rw [shl_pp], .inr ⟨rfl, by omega⟩⟩
        · rw [hlow i (by omega)]
          exact iteF ⟨rfl, 0, _, rfl, .inl ⟨rfl, by omega⟩⟩
      · rw [decide_eq_false (show ¬ V.int ((2 ^ q : Nat) : Int) = V.int 0 from fun z => by
          have := Nat.two_pow_pos q
          injection z with z
          omega)]
        exact iteF ⟨rfl, 2 ^ q, _, rfl, .inr ⟨rfl, by omega⟩⟩
    · rintro σ H2 ⟨rfl, r, o3, rfl, hor⟩
      rw [Int.toNat_natCast] at hor
      obtain rfl : r = 2 ^ q := by
        rcases hor with ⟨_, z⟩ | ⟨z, _⟩
        · omega
        · exact z
      dsimp only [tSeq]
      refine ⟨_, rfl, _, n, rfl, .inl ⟨_, hS, hlen.symm⟩, _, rfl, by omega, by omega, for_range (lo := 0) (n := (n : Int).toNat) (fun t σ H3 => H3 = H2 ∧ ∃ (r : Nat) (o3 o4 : Option V), σ = [some (.ref l), some (.int (m : Int)), some (.int (r : Int)), o3, o4] ∧ Grow bs m q t r n)
        ⟨rfl, 2 ^ q, _, _, rfl, by rw [Nat.testBit_two_pow]; exact decide_eq_true rfl, fun x hx => ?_, .inr ?_⟩ ?_ ?_⟩
      · rw [Nat.testBit_two_pow, decide_eq_true_eq] at hx
        rw [← hx]
        exact .refl hq
      · rw [Nat.zero_add]
        exact List.length_pos_of_mem (Mk.mem_bits.mpr ⟨hqn, by rw [Nat.testBit_two_pow]; exact decide_eq_true rfl⟩)
      · rintro t σ H3 ht ⟨rfl, r0, o3, o4, rfl, G⟩
        refine ⟨_, rfl, _, n, rfl, .inl ⟨_, hS, hlen.symm⟩, _, rfl, by omega, by omega, for_range (lo := 0) (n := (n : Int).toNat) (fun i σ H4 => H4 = H3 ∧ ∃ (r : Nat) (o3 o4 : Option V), σ = [some (.ref l), some (.int (m : Int)), some (.int (r : Int)), o3, o4] ∧ GrowIn bs m q i r0 r)
          ⟨rfl, r0, _, _, rfl, G.sub, fun _ h => h, fun x y h => absurd h (Nat.not_lt_zero _)⟩ ?_ ?_⟩
        · rintro i σ H4 hi ⟨rfl, r, o3, o4, rfl, I⟩
          rw [Int.toNat_natCast] at hi
          rw [Int.zero_add]
          refine ⟨_, rfl, _, rfl, _, _, rfl, rfl, by show (0 : Int) ≤ (i : Int); omega, _, _, rfl, rfl, rfl, _, rfl, ?_⟩
          rw [bit_dec]
          cases hb : r.testBit i with
          | false =>
            refine iteF ⟨rfl, r, _, _, rfl, I.sub, I.old, fun x y hx h1 h2 h3 => ?_⟩
            by_cases e : x = i
            · rw [e] at h1
              rw [I.old i h1] at hb
              cases hb
            · exact I.near x y (by omega) h1 h2 h3
          | true =>
            have g1 : (vsN lk)[i]? = some (V.int ((lk.getD i 0 : Nat) : Int)) := vsN_get (by rw [L.len]; omega)
            refine iteT ⟨_, rfl, _, rfl, _, rfl, l, _, i, _, rfl, rfl, hS, atI_nat g1, _, rfl, _, _, rfl, rfl, _, _, rfl, rfl, ?_⟩
            refine ⟨rfl, r ||| (lk.getD i 0 &&& m), _, _, by dsimp only [gName, List.set]; rw [and_pp, or_pp], fun x hx => ?_, fun x hx => ?_, fun x y hx h1 h2 h3 => ?_⟩
            · rw [Nat.testBit_or, Bool.or_eq_true, Nat.testBit_and, Bool.and_eq_true, L.bit i x hi] at hx
              rcases hx with hx | ⟨h1, h2⟩
              · exact I.sub x hx
              · exact .step (I.sub i hb) h1 h2
            · rw [Nat.testBit_or, I.old x hx]
              rfl
            · rw [Nat.testBit_or, Bool.or_eq_true]
              by_cases e : x = i
              · refine .inr ?_
                rw [Nat.testBit_and, Bool.and_eq_true, L.bit i y hi, ← e]
                exact ⟨h2, h3⟩
              · exact .inl (I.near x y (by omega) h1 h2 h3)
        · rintro σ H4 ⟨rfl, r, o3, o4, rfl, I⟩
          rw [Int.toNat_natCast] at I
          exact ⟨rfl, r, _, _, rfl, G.turn hm I⟩
      · rintro σ H3 ⟨rfl, r, o3, o4, rfl, G⟩
        rw [Int.toNat_natCast] at G
        refine ⟨_, rfl, _, rfl, rfl, k _ ?_⟩
        rw [decide_eq_true_eq, ← one_rch hq G.fin]
        exact ⟨fun z => by injection z with z; omega, fun z => by rw [z]⟩
end
end Wd

set_option Elab.async false
set_option linter.all false
set_option maxRecDepth 100000
set_option maxHeartbeats 4000000
/-! Sm: sum of a tuple of ints. -/
namespace Bx
open PySem PySem.Spec PyProof.Rows L2
theorem preSum_getD (ns : List Int) : ∀ i, i ≤ ns.length → preSum (fun i => ns.getD i 0) i = (ns.take i).sum
  | 0, _ => rfl
  | i + 1, h => by
    have e : ns.take (i + 1) = ns.take i ++ [ns[i]'(by omega)] := by
      rw [List.take_add_one, List.getElem?_eq_getElem (by omega)]
      rfl
    rw [e, List.sum_append]
    show preSum (fun i => ns.getD i 0) i + ns.getD i 0 = _
    rw [preSum_getD ns i (by omega), List.getD_eq_getElem?_getD, List.getElem?_eq_getElem (by omega)]
    simp
def rSumT (K : PySem.W.Frag) : List V → Hp → VK → Prop := fun vs H Q => ∃ (a : Addr) (ns : List Int), vs = [V.ref a] ∧ SqT K H a (ns.map V.int) ∧ Q (.int ns.sum) H
theorem cr_sumT {X : Cx} (hc : X.calm = true) : CallR X (.builtin "sum") (rSumT X.K) := by
  intro pins s σ H vs us Q I r h
  obtain ⟨a, ns, rfl, hs, q⟩ := h
  obtain ⟨its, rv, ht, hz⟩ := I.tuple hs
  rw [Vals.ref1 r]
  have ht : s.heap.IsTuple a its.toArray := ht
  have ne : a ≠ s.heap.objs.size := by
    obtain ⟨o, ho, _⟩ := ht
    exact Nat.ne_of_lt (Heap.lt_size ho)
  have hn : its.length = ns.length := by rw [← rv.length, List.length_map]
  refine call_sum_walkAnyS (wpAny_pyIter_tuple ht ?_)
  refine ⟨s.heap.objs.size, _, _, _, _, _, _, fun i => ns.getD i 0, rfl, (Walks.tuple (A := X.A.in1) (by simp [I.ok.hd hc]) s.heap.objs.size a ne its.toArray).toS, ⟨⟨_, Heap.get?_push_size _ rfl, rfl, rfl⟩, ht.push _⟩, fun b hb => ?_, fun i v hv => ?_, fun s' t' mv => ?_⟩
  · rw [Heap.size_push]
    rcases List.mem_cons.mp hb with e | e
    · rw [e]
      exact Nat.lt_succ_self _
    · rw [List.mem_singleton.mp e]
      obtain ⟨o, ho, _⟩ := ht
      exact Nat.lt_succ_of_lt (Heap.lt_size ho)
  · exact IntsAre.int_at rv.ints i v (by simpa using hv)
  · obtain ⟨h', g', d', tk', os'⟩ := s'
    obtain rfl : g' = s.gens := mv.gens
    obtain rfl : d' = s.drawn := mv.drawn
    obtain rfl : os' = s.os := mv.os
    have e : preSum (fun i => ns.getD i 0) its.toArray.size = ns.sum := by
      rw [List.size_toArray, hn, preSum_getD ns _ (Nat.le_refl _), List.take_length]
    rw [e]
    refine ⟨.int _, H, I.kept (t' := tk') fun b o eo => ?_, ⟨_, rfl⟩, q⟩
    refine mv.heap b o ?_ (Heap.get?_push_of_some _ eo)
    rw [List.mem_singleton]
    exact Nat.ne_of_lt (Heap.lt_size eo)
/-! ### three arguments by name, from behind -/
def rev3 {α : Type} : List α → List α → List α
  | [], [c, b, a] => [a, b, c]
  | _, _ => []
theorem rev3_rel {vs zs : List V} {us ws : List Value} (h1 : Vals vs us) (h2 : Vals zs ws) : Vals (rev3 vs zs) (rev3 us ws) := by
  cases h1 with
  | cons _ _ => exact .nil
  | nil =>
    cases h2 with
    | nil => exact .nil
    | cons a h3 => cases h3 with
      | nil => exact .nil
      | cons b h4 => cases h4 with
        | nil => exact .nil
        | cons c h5 => cases h5 with
          | nil => exact .cons c (.cons b (.cons a .nil))
          | cons _ _ => exact .nil
end Bx

set_option Elab.async false
set_option linter.all false
set_option maxRecDepth 100000
set_option maxHeartbeats 4000000
/-! Dr: sorted of lists of data of any length; list(d.values()). -/
namespace Bx
open PySem PySem.Spec PyProof.Rows L2
open PySem.W (EachIs AllAlike Sortable dataLe)
theorem each_of {α β : Type} {R : α → β → Prop} : ∀ {as : List α} {bs : List β}, as.length = bs.length → (∀ (i : Nat) (a : α) (b : β), as[i]? = some a → bs[i]? = some b → R a b) → EachIs R as bs
  | [], [], _, _ => .nil
  | a :: as, b :: bs, h, k => .cons (k 0 a b rfl rfl) (each_of (Nat.succ.inj h) fun i a b h1 h2 => k (i + 1) a b h1 h2)
theorem each_at {α β : Type} {R : α → β → Prop} : ∀ {as : List α} {bs : List β}, EachIs R as bs → ∀ {i : Nat} {a : α} {b : β}, as[i]? = some a → bs[i]? = some b → R a b
  | _, _, .cons h t, 0, _, _, h1, h2 => by cases h1; cases h2; exact h
  | _, _, .cons h t, i + 1, _, _, h1, h2 => each_at t (i := i) h1 h2
theorem zip_at {α β : Type} {as : List α} {bs : List β} {i : Nat} {p : α × β} (h : (as.zip bs)[i]? = some p) : as[i]? = some p.1 ∧ bs[i]? = some p.2 := by
  rw [List.getElem?_zip_eq_some] at h
  exact h
theorem vals_of_each : ∀ {us : List Value} {zs : List (V × PyData)}, EachIs (fun v (b : V × PyData) => RelV b.1 v) us zs → Vals (zs.map (·.1)) us
  | _, _, .nil => .nil
  | _, _, .cons h t => .cons h (vals_of_each t)
theorem vals_at : ∀ {xs : List V} {us : List Value}, Vals xs us → ∀ {i : Nat} {x : V} {u : Value}, xs[i]? = some x → us[i]? = some u → RelV x u
  | _, _, .cons h t, 0, _, _, h1, h2 => by cases h1; cases h2; exact h
  | _, _, .cons h t, i + 1, _, _, h1, h2 => vals_at t (i := i) h1 h2
theorem dpAll_zip {K : PySem.W.Frag} {H : Hp} : ∀ {zs : List (V × PyData)}, (∀ z ∈ zs, Dp K H z.1 z.2) → DpAll K H (zs.map (·.1)) (zs.map (·.2))
  | [], _ => .nil
  | z :: zs, h => .cons (h z List.mem_cons_self) (dpAll_zip fun y hy => h y (List.mem_cons_of_mem _ hy))
theorem dpAll_zipmem {K : PySem.W.Frag} {H : Hp} : ∀ {xs : List V} {ds : List PyData}, DpAll K H xs ds → ∀ z ∈ xs.zip ds, Dp K H z.1 z.2
  | _, _, .nil, _, hz => nomatch hz
  | _, _, .cons h t, z, hz => by
    rw [List.zip_cons_cons] at hz
    rcases List.mem_cons.mp hz with e | e
    · rw [e]; exact h
    · exact dpAll_zipmem t z e
/-- sorted(xs) of a list of data that compare -/
def rSortDt (K : PySem.W.Frag) : List V → Hp → VK → Prop := fun vs H Q => ∃ (a : Addr) (xs : List V) (ds : List PyData), vs = [V.ref a] ∧ SqL K H a xs ∧ DpAll K H xs ds ∧ AllAlike ds ∧ Sortable ds ∧ ds.length ≤ 100000 ∧ (∀ d ∈ ds, d.depth ≤ 40) ∧
  ∀ ys es p, DpAll K H ys es → es.Perm ds → es.Pairwise (fun d e => PySem.W.dataLt e d = false) → H p = none → Q (.ref p) (upd H p (.lst ys))
theorem dataLe_not {β : Type} (k : β → PyData) (a b : β) : dataLe false k a b = !PySem.W.dataLt (k b) (k a) := rfl
theorem cr_sortDt {X : Cx} (hu : X.A.units + 64 < cLine) : CallR X (.builtin "sorted") (rSortDt X.K) := by
  intro pins s σ H vs us Q I r h
  obtain ⟨a, xs, ds, rfl, hs, hd, ha, hk, hn, hdp, q⟩ := h
  rw [Vals.ref1 r]
  obtain ⟨its, rv, hl, hz⟩ := I.list hs
  have e1 : (xs.zip ds).map (·.2) = ds := List.map_snd_zip (Nat.le_of_eq (dpAll_len hd).symm)
  have e0 : (xs.zip ds).map (·.1) = xs := List.map_fst_zip (Nat.le_of_eq (dpAll_len hd))
  have el : its.length = (xs.zip ds).length := by rw [← rv.length, List.length_zip, dpAll_len hd]; omega
  have rd : ∀ (i : Nat) (u : Value) (z : V × PyData), its[i]? = some u → (xs.zip ds)[i]? = some z → RelV z.1 u ∧ ∃ as, Reads s.heap u z.2 as := fun i u z h1 h2 => by
    obtain ⟨h3, h4⟩ := zip_at h2
    have h5 := vals_at rv h3 h1
    obtain ⟨as, h6⟩ := Dp.reads I z.2 z.1 u (dpAll_zipmem hd z (List.mem_of_getElem? h2)) h5
    exact ⟨h5, as, h6⟩
  have hl' : s.heap.IsList a its.toArray := hl.isList
  refine PySem.W.sorted_data (vs := its) (bs := xs.zip ds) (R := fun v (b : V × PyData) => RelV b.1 v) (enc := fun b : V × PyData => b.2) hl' (each_of el fun i u z h1 h2 => (rd i u z h1 h2).1) (each_of el fun i u z h1 h2 => (rd i u z h1 h2).2) (by rw [e1]; exact ha) (by rw [e1]; exact hk) (by rw [List.length_zip, sizeLine_eq]; omega)
    (fun b hb => by have := hdp b.2 (by rw [← e1]; exact List.mem_map.mpr ⟨b, hb, rfl⟩); omega) fun out ho he => ?_
  have hv := vals_of_each he
  have hperm : ((xs.zip ds).mergeSort (dataLe false fun b : V × PyData => b.2)).Perm (xs.zip ds) := List.mergeSort_perm ..
  have tot := PySem.W.sortLe_total (listOrd itemOrd) false (fun b : V × PyData => PySem.W.keyToks b.2)
  have hsort : ((xs.zip ds).mergeSort (dataLe false fun b : V × PyData => b.2)).Pairwise (fun a b => dataLe false (fun b : V × PyData => b.2) a b = true) := List.pairwise_mergeSort (fun a b c h1 h2 => tot.trans a b c h1 h2) (fun a b => Bool.or_eq_true_iff.mpr (tot.total a b)) _
  generalize (xs.zip ds).mergeSort (dataLe false fun b : V × PyData => b.2) = zs at hv hperm hsort he
  have hlz : zs.length = out.length := by rw [he.length]
  have kp : ∀ b o, s.heap.get? b = some o → (sortedAll s.heap its out.toArray).get? b = some o := fun b o e => sortedAll_old e
  obtain ⟨n, hat⟩ := sortedAll_at s.heap its out.toArray
  have hfr : H (s.heap.objs.size + 1) = none := I.hok.fresh (Nat.le_succ _)
  refine ⟨.ref (s.heap.objs.size + 1), upd H (s.heap.objs.size + 1) (.lst (zs.map (·.1))), I.laid (t' := s.toks) kp (Nat.le_succ _) ⟨?_, out, n, hv, hat⟩, rfl, q _ (zs.map (·.2)) _ (dpAll_zip fun z hz => dpAll_zipmem hd z (hperm.mem_iff.mp hz)) ?_ ?_ hfr⟩
  · rw [List.length_map, hperm.length_eq, List.length_zip, sizeLine_eq]
    omega
  · have := hperm.map (·.2)
    rw [e1] at this
    exact this
  · rw [List.pairwise_map]
    refine hsort.imp fun {d e} h => ?_
    rw [dataLe_not] at h
    simpa using h
theorem cr_sortDtK {X : Cx} {K : PySem.W.Frag} (h : X.K = K) (hu : X.A.units + 64 < cLine) : CallR X (.builtin "sorted") (rSortDt K) := h ▸ cr_sortDt hu
/-! ### list(d.values()) -/
def rValsL : V → Hp → VK → Prop := fun x H Q => ∃ (d : Addr) (kvs : List (Key × V)), x = .ref d ∧ H d = some (.dK kvs) ∧ ∀ p, H p = none → Q (.ref p) (upd H p (.lst (kvs.map (·.2))))
def tListVals (te : TE) : TE := fun σ H Q => te σ H fun x H1 => rValsL x H1 Q
theorem vals_of_at2 : ∀ {xs : List V} {us : List Value}, xs.length = us.length → (∀ (j : Nat) (x : V) (u : Value), xs[j]? = some x → us[j]? = some u → RelV x u) → Vals xs us
  | [], [], _, _ => .nil
  | x :: xs, u :: us, h, k => .cons (k 0 x u rfl rfl) (vals_of_at2 (Nat.succ.inj h) fun j x u h1 h2 => k (j + 1) x u h1 h2)
theorem kv_at : ∀ {kvs : List (Key × V)} {vs : List (Key × Value)}, KV kvs vs → ∀ {j : Nat} {q : Key × V} {p : Key × Value}, kvs[j]? = some q → vs[j]? = some p → RelV q.2 p.2
  | _, _, .cons h t, 0, _, _, h1, h2 => by cases h1; cases h2; exact h.2
  | _, _, .cons h t, j + 1, _, _, h1, h2 => kv_at t (j := j) h1 h2
theorem pe_listVals {X : Cx} {e : Expr} {te : TE} {p apos cpos pos : Pos} (hc : X.calm = true) (he : PE X e te) (hg : Gl X "list") (hm : X.mg "list" = none) (hv : bootBuiltins "list" = some (.type "list")) (hbase : attributeBase e "values" X.env (eval e X.env) = eval e X.env := by rfl) (hline : (apos.endLine == cpos.line) = true := by rfl)
    (hs : starEach [.Call (.Attribute e "values" apos) [] [] cpos] X.env = (false, eval (.Call (.Attribute e "values" apos) [] [] cpos) X.env) :: starEach [] X.env := by rfl) :
    PE X (.Call (.Name "list" p) [.Call (.Attribute e "values" apos) [] [] cpos] [] pos) (tListVals te) := by
  refine ⟨fun pins s σ H Q I hq => wpAny_Call_Name_kw (ld_blt I hg hm hv (PyProof.Rows.callWith_type1 ?_ hs rfl))⟩
  rw [hs]
  refine Calls.spliced_cons ?_
  refine wpAny_Call_method (T := "dict") (id := "dict.values") hbase rfl hline F.plainAttrs_dict F.slot_dict_values F.type_dict_values (thn (he.run pins s σ H _ I hq) fun u s1 ⟨x, H1, I1, rx, d, kvs, ex, hd, q⟩ => ?_)
  subst ex
  obtain rfl : u = Value.ref d := rx
  obtain ⟨hz, hs0, vs, kv, hdo⟩ := I1.hok d _ hd
  obtain ⟨ep, hat⟩ := hdo.dictAt
  have lk : kvs.length = vs.length := Paired.length kv
  have I2 : Inv X pins σ H1 { s1 with heap := s1.heap.push { cls := .type "dict_values", data := .fields #[.ref d] } } := I1.kept (t' := s1.toks) fun b ob e => Heap.get?_push_of_some _ e
  refine ⟨hdo.typeIs, hdo.mapOf.noDict, ?_⟩
  refine method_meetsIn F.slot_dict_values F.entry_dict_values rfl (PySem.evalArgs_none ⟨rfl, hdo.typeIs, F.args_dict_values_1 _, _, meets_dict_values (mixKind X.prog X.w) d hs0, ⟨vs, hdo⟩, Calls.spliced_nil ?_⟩)
  refine PySem.W.kdl_call (PySem.W.kdl_values (knd := mixKind X.prog X.w) (kvs := vs) (ep := ep)) (I1.ok.hd hc) ⟨⟨_, Heap.get?_push_size _ rfl, rfl, rfl⟩, hat.push _⟩ (by rw [← lk]; exact hz) fun h' tk acc c hk hS hacc => ?_
  refine ⟨.ref _, _, I2.laid (t' := tk) hk (Nat.le_refl _) (show ObjOk X.prog X.w _ _ _ (.lst (kvs.map (·.2))) from ⟨by rw [List.length_map]; exact hz, acc.toList, c, vals_of_at2 ?_ fun j x u h1 h2 => ?_, by rw [Array.toArray_toList]; exact hS⟩), rfl, q _ (I2.hok.fresh (Nat.le_refl _))⟩
  · have el : acc.toList.length = acc.size := by simp
    rw [List.length_map, el, hacc.1, lk]
  · obtain ⟨k, hky⟩ := hacc.2 j u (by rw [← Array.getElem?_toList]; exact h2)
    rw [List.getElem?_map, Option.map_eq_some_iff] at h1
    obtain ⟨qv, h3, rfl⟩ := h1
    exact kv_at kv h3 hky
end Bx

set_option Elab.async false
set_option linter.all false
set_option maxRecDepth 100000
set_option maxHeartbeats 4000000
/-! Mn: min(xs, default=None) of data; repr of data where nothing is being shown. -/
namespace Bx
open PySem PySem.Spec PyProof.Rows L2
open PySem.W (dataLt)
/-! ### the order of alike data -/
theorem lt_irr (d : PyData) : dataLt d d = false := PyProof.Rows.lex_irrefl (O := PyProof.Rows.itemOrd) _
theorem lt_asym {d e : PyData} (h : dataLt d e = true) : dataLt e d = false := by
  cases z : dataLt e d with
  | false => rfl
  | true => exact (Bool.noConfusion ((lt_irr d).symm.trans (PyProof.Rows.lex_trans (O := PyProof.Rows.itemOrd) _ _ _ h z)))
theorem lt_neg {d e f : PyData} (h1 : dataLt e d = false) (h2 : dataLt f e = false) : dataLt f d = false := by
  cases z : dataLt f d with
  | false => rfl
  | true =>
    rcases PyProof.Rows.lex_negTrans (O := PyProof.Rows.itemOrd) _ (PySem.W.keyToks e) _ z with q | q
    · exact Bool.noConfusion (q.symm.trans h2)
    · exact Bool.noConfusion (q.symm.trans h1)
/-- neither is less: they are equal -/
theorem lt_tri {d e : PyData} (h : PySem.W.alike d e = true) (h1 : dataLt d e = false) (h2 : dataLt e d = false) : PyData.eqv d e = true := by
  have et : PySem.W.keyToks d = PySem.W.keyToks e := PyProof.Rows.lex_total (O := PyProof.Rows.itemOrd) _ _ h1 h2
  cases q : PyData.eqv d e with
  | true => rfl
  | false =>
    have z := (PySem.W.toks_eqv d e h).2 q [.inl 0] [.inl 1]
    rw [et, PySem.W.lex_pre, PyProof.Rows.lex_irrefl] at z
    exact absurd z (by decide +kernel)
theorem foldMin_le : ∀ (xs : List PyData) (x : PyData), (∀ y, y = x ∨ y ∈ xs → dataLt y (xs.foldl (fun a y => if dataLt y a then y else a) x) = false) ∧ (xs.foldl (fun a y => if dataLt y a then y else a) x = x ∨ xs.foldl (fun a y => if dataLt y a then y else a) x ∈ xs)
  | [], x => ⟨(fun y h => h.elim (fun e => e ▸ lt_irr y) fun h => nomatch h), .inl rfl⟩
  | z :: xs, x => by
    rw [List.foldl_cons]
    by_cases c : dataLt z x = true
    · rw [if_pos c]
      obtain ⟨h1, h2⟩ := foldMin_le xs z
      refine ⟨fun y h => ?_, .inr (h2.elim (fun e => by rw [e]; exact List.mem_cons_self) fun m => List.mem_cons_of_mem _ m)⟩
      rcases h with rfl | h
      · exact lt_neg (h1 z (.inl rfl)) (lt_asym c)
      · rcases List.mem_cons.mp h with rfl | h
        · exact h1 _ (.inl rfl)
        · exact h1 _ (.inr h)
    · rw [if_neg c]
      obtain ⟨h1, h2⟩ := foldMin_le xs x
      refine ⟨fun y h => ?_, h2.elim .inl fun m => .inr (List.mem_cons_of_mem _ m)⟩
      rcases h with rfl | h
      · exact h1 _ (.inl rfl)
      · rcases List.mem_cons.mp h with rfl | h
        · exact lt_neg (h1 x (.inl rfl)) (by simpa using c)
        · exact h1 _ (.inr h)
/-! ### min(xs, default=None) -/
def rMinDt (K : PySem.W.Frag) : List V → List V → Hp → VK → Prop := fun vs zs H Q => ∃ (a : Addr) (xs : List V) (ds : List PyData), vs = [V.ref a] ∧ zs = [V.non] ∧ SqL K H a xs ∧ DpAll K H xs ds ∧ PySem.W.AlikeAll ds ∧ PyData.depthAll ds ≤ 40 ∧
  (ds = [] → Q .non H) ∧ ∀ x d, x ∈ xs → d ∈ ds → Dp K H x d → (∀ e ∈ ds, dataLt e d = false) → Q x H
theorem cr_minDt {X : Cx} (hc : X.calm = true) (hu : X.A.units + 64 < cLine) : CallRK X (.builtin "min") ["default"] (rMinDt X.K) := by
  intro pins s σ H vs zs us ws Q I r1 r2 h
  obtain ⟨a, xs, ds, rfl, rfl, hs, hd, ha, hdp, q0, q⟩ := h
  obtain rfl : us = [Value.ref a] := Vals.ref1 r1
  obtain ⟨u, rfl, ru⟩ := vals1 r2
  cases (show u = Value.none from ru)
  obtain ⟨its, rv, hl, hz⟩ := I.list hs
  obtain ⟨as, hr⟩ := Dp.readsAll I ds xs its hd rv
  have hl' : s.heap.IsList a its.toArray := hl.isList
  have hr' : ReadsAll s.heap its.toArray.toList ds as := by simpa using hr
  refine PySem.W.min_list_default (I.ok.hd hc) hl' hr' ha (by omega) (fun e h' tk hk => ?_) fun y ys i v h' tk bs e hv rd hk => ?_
  · exact ⟨.non, H, I.kept (t' := tk) hk, rfl, q0 e⟩
  · have hv' : its[i]? = some v := by simpa using hv
    have hxl := rv.length
    have hi := (List.getElem?_eq_some_iff.mp hv').1
    have hx : xs[i]? = some xs[i] := List.getElem?_eq_getElem (by omega)
    obtain ⟨d, hd1, hd2⟩ := dpAll_get' hd hx
    have rel := vals_at rv hx hv'
    have I' := I.kept (t' := tk) hk
    obtain ⟨bs2, rd2⟩ := Dp.reads I' d _ v hd2 rel
    obtain ⟨m1, m2⟩ := foldMin_le ys y
    have md : PySem.W.minD y ys ∈ ds := by
      rw [e]
      rcases m2 with z | z
      · exact List.mem_cons.mpr (.inl z)
      · exact List.mem_cons_of_mem _ z
    have ed : PySem.W.minD y ys = d := PySem.W.alike_unique _ _ v _ _ (ha.1 _ md _ (List.mem_of_getElem? hd1)) rd rd2
    refine ⟨xs[i], H, I', rel, q _ d (List.getElem_mem _) (List.mem_of_getElem? hd1) hd2 fun e' he' => ?_⟩
    rw [← ed]
    refine m1 e' ?_
    rw [e] at he'
    exact List.mem_cons.mp he'
/-! ### repr of data -/
def rReprD (K : PySem.W.Frag) : List V → Hp → VK → Prop := fun vs H Q => ∃ (a : Addr) (d : PyData), vs = [V.ref a] ∧ Dp K H (.ref a) d ∧ d.showable = true ∧ d.hasDict = false ∧ d.depth ≤ 40 ∧ d.shown.length ≤ sizeLine ∧ Q (.str d.shown) H
theorem cr_reprD {X : Cx} (hg : X.A.guards = some []) (hu : X.A.units + 64 < cLine) : CallR X (.builtin "repr") (rReprD X.K) := by
  intro pins s σ H vs us Q I r h
  obtain ⟨a, d, rfl, hd, h1, h2, h3, h4, q⟩ := h
  obtain rfl : us = [Value.ref a] := Vals.ref1 r
  obtain ⟨as, rd⟩ := Dp.reads I d _ _ hd (rfl : RelV (V.ref a) (Value.ref a))
  exact repr_of_reads' rd h1 (PyData.noDict_hsm h2) hg (by omega) (fun _ _ e => e) (fun h' u tk hk => ⟨.str d.shown, H, I.kept (t' := tk) hk, ⟨u, rfl⟩, q⟩) h4
/-- data that repr tells: its depth, and how much it holds -/
structure Rp (n W : Nat) (d : PyData) : Prop where
  show_ : d.showable = true
  dict : d.hasDict = false
  short : d.leavesShort 13 = true
  dep : d.depth ≤ n
  wt : d.weight ≤ W
theorem Rp.mono {n W m V : Nat} {d : PyData} (h : Rp n W d) (h1 : n ≤ m) (h2 : W ≤ V) : Rp m V d := ⟨h.show_, h.dict, h.short, Nat.le_trans h.dep h1, Nat.le_trans h.wt h2⟩
theorem Rp.int {i : Int} (h1 : -999999999999 ≤ i) (h2 : i ≤ 999999999999) : Rp 0 40 (.int i) := by
  have e : i.natAbs < 2 ^ 40 := by
    have : (2 : Nat) ^ 40 = 1099511627776 := by decide
    omega
  have hlog : i ≠ 0 → i.natAbs.log2 < 40 := fun hz => (Nat.log2_lt (by omega)).mpr e
  refine ⟨?_, by simp [PyData.hasDict], ?_, by simp [PyData.depth], ?_⟩
  · simp only [PyData.showable, decide_eq_true_eq]
    by_cases hz : i = 0
    · subst hz; decide
    · have := hlog hz
      omega
  · simp only [PyData.leavesShort, decide_eq_true_eq]
    exact PyData.shown_int_le2 h1 h2
  · simp only [PyData.weight]
    by_cases hz : i = 0
    · subst hz; decide
    · have := hlog hz
      rw [if_neg (by simpa using hz)]
      omega
theorem Rp.non : Rp 0 40 .none := ⟨by simp [PyData.showable], by simp [PyData.hasDict], by simp [PyData.leavesShort], by simp [PyData.depth], by simp [PyData.weight]⟩
theorem rp_all {n W : Nat} : ∀ {ds : List PyData}, (∀ d ∈ ds, Rp n W d) → PyData.showableAll ds = true ∧ PyData.hasDictAll ds = false ∧ PyData.leavesShortAll 13 ds = true ∧ PyData.depthAll ds ≤ n ∧ PyData.weightAll ds ≤ ds.length * (W + 1)
  | [], _ => by simp [PyData.showableAll, PyData.hasDictAll, PyData.leavesShortAll, PyData.depthAll, PyData.weightAll]
  | d :: ds, h => by
    obtain ⟨h1, h2, h3, h4, h5⟩ := rp_all fun x hx => h x (List.mem_cons_of_mem _ hx)
    have g := h d List.mem_cons_self
    refine ⟨by simp [PyData.showableAll, g.show_, h1], by simp [PyData.hasDictAll, g.dict, h2], by simp [PyData.leavesShortAll, g.short, h3], ?_, ?_⟩
    · simp only [PyData.depthAll]
      have := g.dep
      omega
    · simp only [PyData.weightAll, List.length_cons, Nat.succ_mul]
      have := g.wt
      omega
theorem Rp.tup {n W : Nat} {ds : List PyData} (h : ∀ d ∈ ds, Rp n W d) {V : Nat} (hv : ds.length * (W + 1) ≤ V) : Rp (n + 1) V (.tuple ds) := by
  obtain ⟨h1, h2, h3, h4, h5⟩ := rp_all h
  exact ⟨by simpa [PyData.showable] using h1, by simpa [PyData.hasDict] using h2, by simpa [PyData.leavesShort] using h3, by simp only [PyData.depth]; omega, by simp only [PyData.weight]; omega⟩
theorem Rp.lst {n W : Nat} {ds : List PyData} (h : ∀ d ∈ ds, Rp n W d) {V : Nat} (hv : ds.length * (W + 1) ≤ V) : Rp (n + 1) V (.list ds) := by
  obtain ⟨h1, h2, h3, h4, h5⟩ := rp_all h
  exact ⟨by simpa [PyData.showable] using h1, by simpa [PyData.hasDict] using h2, by simpa [PyData.leavesShort] using h3, by simp only [PyData.depth]; omega, by simp only [PyData.weight]; omega⟩
theorem Rp.len {n W : Nat} {d : PyData} (h : Rp n W d) (hW : W ≤ 1000000) : d.shown.length ≤ sizeLine := by
  have h2 := PyData.shown_le 13 (by decide) d h.short
  have := h.wt
  rw [sizeLine_eq]
  omega
theorem rp_repr {K : PySem.W.Frag} {H : Hp} {a : Addr} {d : PyData} {Q : VK} {n W : Nat} (h : Rp n W d) (hn : n ≤ 40) (hW : W ≤ 1000000) (hd : Dp K H (.ref a) d) (q : Q (.str d.shown) H) : rReprD K [V.ref a] H Q :=
  ⟨a, d, rfl, hd, h.show_, h.dict, Nat.le_trans h.dep hn, h.len hW, q⟩
end Bx

set_option Elab.async false
set_option linter.all false
set_option maxRecDepth 100000
set_option maxHeartbeats 4000000
namespace Wd
open PySem PySem.Spec PyProof.Rows L2 Bx Gx



































section
/-! ### sorted lots -/
theorem perm_unmap {α β : Type} (f : α → β) {es fs : List β} (h : es.Perm fs) : ∀ {ws : List α}, fs = ws.map f → ∃ vs : List α, vs.Perm ws ∧ es = vs.map f := by
  induction h with
  | nil => intro ws e; cases ws with
    | nil => exact ⟨[], .refl _, rfl⟩
    | cons _ _ => cases e
  | cons x _ ih => intro ws e; cases ws with
    | nil => cases e
    | cons w ws =>
      injection e with e1 e2
      obtain ⟨vs, h1, h2⟩ := ih e2
      exact ⟨w :: vs, h1.cons w, by rw [List.map_cons, ← e1, h2]⟩
  | swap x y l => intro ws e; match ws, e with
    | a :: b :: ws, e =>
      injection e with e1 e
      injection e with e2 e3
      exact ⟨b :: a :: ws, .swap _ _ _, by rw [List.map_cons, List.map_cons, ← e1, ← e2, ← e3]⟩
  | trans _ _ ih1 ih2 => intro ws e; obtain ⟨vs, h1, h2⟩ := ih2 e; obtain ⟨us, h3, h4⟩ := ih1 h2; exact ⟨us, h3.trans h1, h4⟩
theorem perm_uniq {α : Type} {R : α → α → Prop} (as_ : ∀ a b, R a b → R b a → False) : ∀ {l m : List α}, l.Perm m → l.Pairwise R → m.Pairwise R → l = m
  | [], m, h, _, _ => (List.Perm.nil_eq h)
  | a :: l, [], h, _, _ => absurd h.length_eq (by simp)
  | a :: l, b :: m, h, hl, hm => by
    have hl' := List.pairwise_cons.mp hl
    have hm' := List.pairwise_cons.mp hm
    have e : a = b := by
      rcases List.mem_cons.mp (h.mem_iff.mp List.mem_cons_self) with e | e
      · exact e
      · rcases List.mem_cons.mp (h.mem_iff.mpr List.mem_cons_self) with f | f
        · exact f.symm
        · exact (as_ _ _ (hl'.1 b f) (hm'.1 a e)).elim
    subst e
    rw [perm_uniq as_ h.cons_inv hl'.2 hm'.2]
theorem lt_lots {u v : List Nat} (hu : u ≠ []) (hv : v ≠ []) (h : u.headD 0 ≠ v.headD 0) : PySem.W.dataLt (lotD u) (lotD v) = decide (u.headD 0 < v.headD 0) := by
  match u, hu with
  | a :: r, _ =>
    match v, hv with
    | b :: s, _ =>
      have hne : a ≠ b := h
      have e : PyData.eqv (.int (a : Int)) (.int (b : Int)) = false := by simp [PyData.eqv]; omega
      show PySem.W.dataLt (.tuple (.int (a : Int) :: _)) (.tuple (.int (b : Int) :: _)) = decide (a < b)
      rw [PySem.W.dataLt_tuple, PySem.W.dataLt_cons (by simp [PySem.W.alike]), e, if_neg Bool.false_ne_true, PySem.W.dataLt_int]
      exact decide_eq_decide.mpr (by omega)
abbrev hdLt (u v : List Nat) : Prop := u.headD 0 < v.headD 0
theorem sorted_lots {ws : List (List Nat)} (ne : ∀ u ∈ ws, u ≠ []) (asc : ws.Pairwise hdLt) {us : List (List Nat)} (hus : us.Perm ws) {es : List PyData} (pm : es.Perm (us.map lotD)) (pw : es.Pairwise fun d e => PySem.W.dataLt e d = false) : es = ws.map lotD := by
  obtain ⟨vs, h1, rfl⟩ := perm_unmap lotD pm rfl
  have h2 := h1.trans hus
  have nd : vs.Pairwise fun u v => u.headD 0 ≠ v.headD 0 := by
    have : ws.Pairwise fun u v => u.headD 0 ≠ v.headD 0 := asc.imp fun h => Nat.ne_of_lt h
    exact (h2.pairwise_iff (fun {a b} h => h.symm)).mpr this
  have hv : vs.Pairwise hdLt := by
    rw [List.pairwise_map] at pw
    refine List.Pairwise.imp_of_mem (fun {u v} hu hv h => ?_) (pw.and nd)
    have z := h.1
    rw [lt_lots (ne v (h2.mem_iff.mp hv)) (ne u (h2.mem_iff.mp hu)) h.2.symm, decide_eq_false_iff_not] at z
    have := h.2
    show u.headD 0 < v.headD 0
    omega
  rw [perm_uniq (R := hdLt) (fun a b h1 h2 => by unfold hdLt at h1 h2; omega) h2 hv asc]
theorem alike_lots (u v : List Nat) : PySem.W.alike (lotD u) (lotD v) = true := by
  have := PySem.W.alike_ints (u.map fun (p : Nat) => (p : Int)) (v.map fun (p : Nat) => (p : Int))
  rw [List.map_map, List.map_map] at this
  exact this
theorem allAlike_lots (us : List (List Nat)) : PySem.W.AllAlike (us.map lotD) := PySem.W.AllAlike.of alike_lots
theorem sortable_lots {us : List (List Nat)} (ne : ∀ u ∈ us, u ≠ []) : PySem.W.Sortable (us.map lotD) := .inl fun d hd => by
  obtain ⟨u, hu, rfl⟩ := List.mem_map.mp hd
  match u, ne u hu with
  | a :: r, _ => exact ⟨_, _, rfl⟩
theorem depth_lots {us : List (List Nat)} : ∀ d ∈ us.map lotD, d.depth ≤ 40 := fun d hd => by
  obtain ⟨u, _, rfl⟩ := List.mem_map.mp hd
  have : PyData.depthAll (u.map fun (p : Nat) => PyData.int (p : Int)) ≤ 0 := depthAll_le fun d hd => by
    obtain ⟨p, _, rfl⟩ := List.mem_map.mp hd
    simp [PyData.depth]
  show PyData.depth (.tuple _) ≤ 40
  simp only [PyData.depth]
  omega
end
section
/-! ### partings by two heads -/
def rest (n m : Nat) : Nat := (2 ^ n - 1) ^^^ m
theorem bit_whole (n q : Nat) : (2 ^ n - 1).testBit q = decide (q < n) := Nat.testBit_two_pow_sub_one n q
theorem bit_rest {n m q : Nat} (hq : q < n) : (rest n m).testBit q = !m.testBit q := by
  unfold rest
  rw [Nat.testBit_xor, bit_whole, decide_eq_true hq]
  cases m.testBit q <;> rfl
theorem rest_eq {n m : Nat} (h : m < 2 ^ n) : 2 ^ n - 1 - m = rest n m := by
  refine Nat.eq_of_testBit_eq fun i => ?_
  have e : 2 ^ n - 1 - m = 2 ^ n - (m + 1) := by omega
  rw [e, Nat.testBit_two_pow_sub_succ h]
  unfold rest
  rw [Nat.testBit_xor, bit_whole]
  by_cases hi : i < n
  · rw [decide_eq_true hi]
    cases m.testBit i <;> rfl
  · rw [decide_eq_false hi, Nat.testBit_lt_two_pow (Nat.lt_of_lt_of_le h (Nat.pow_le_pow_right (by decide) (by omega)))]
    rfl
theorem rest_lt {n m : Nat} (h : m < 2 ^ n) : rest n m < 2 ^ n := by
  rw [← rest_eq h]
  have := Nat.two_pow_pos n
  omega
theorem rest_rest {n m : Nat} (h : m < 2 ^ n) : rest n (rest n m) = m := by
  rw [← rest_eq (rest_lt h), ← rest_eq h]
  have := Nat.two_pow_pos n
  omega
structure IsPart (n : Nat) (bs : List (Nat × Nat)) (a b m : Nat) : Prop where
  pos : 0 < m
  one : m.testBit a = true
  two : m.testBit b = false
  hang : One bs m
  hang2 : One bs (rest n m)
noncomputable def isPartB (n : Nat) (bs : List (Nat × Nat)) (a b m : Nat) : Bool := @decide (IsPart n bs a b m) (Classical.propDecidable _)
theorem isPartB_iff {n : Nat} {bs : List (Nat × Nat)} {a b m : Nat} : isPartB n bs a b m = true ↔ IsPart n bs a b m := by
  exact @decide_eq_true_iff _ (Classical.propDecidable _)
noncomputable def partsTo (n : Nat) (bs : List (Nat × Nat)) (a b k : Nat) : List Nat := (List.range k).filter (isPartB n bs a b)
noncomputable abbrev partsOf (n : Nat) (bs : List (Nat × Nat)) (a b : Nat) : List Nat := partsTo n bs a b (2 ^ n - 1)
theorem partsTo_no {n : Nat} {bs : List (Nat × Nat)} {a b k : Nat} (h : ¬ IsPart n bs a b k) : partsTo n bs a b (k + 1) = partsTo n bs a b k := by
  unfold partsTo
  rw [List.range_succ, List.filter_append, List.filter_cons_of_neg (fun z => h (isPartB_iff.mp z))]
  simp
theorem partsTo_yes {n : Nat} {bs : List (Nat × Nat)} {a b k : Nat} (h : IsPart n bs a b k) : partsTo n bs a b (k + 1) = partsTo n bs a b k ++ [k] := by
  unfold partsTo
  rw [List.range_succ, List.filter_append, List.filter_cons_of_pos (isPartB_iff.mpr h)]
  rfl
theorem partsTo_one (n : Nat) (bs : List (Nat × Nat)) (a b : Nat) : partsTo n bs a b 1 = [] := by
  rw [show (1 : Nat) = 0 + 1 from rfl, partsTo_no (fun h => Nat.lt_irrefl 0 h.pos)]
  rfl
theorem partsTo_len (n : Nat) (bs : List (Nat × Nat)) (a b k : Nat) : (partsTo n bs a b k).length ≤ k := by
  unfold partsTo
  have := List.length_filter_le (isPartB n bs a b) (List.range k)
  rw [List.length_range] at this
  exact this
theorem mem_partsOf {n : Nat} {bs : List (Nat × Nat)} {a b m : Nat} : m ∈ partsOf n bs a b ↔ m < 2 ^ n - 1 ∧ IsPart n bs a b m := by
  unfold partsOf partsTo
  rw [List.mem_filter, List.mem_range, isPartB_iff]
abbrev wardsD (n m : Nat) : List PyData := [lotD (Mk.bits n m), lotD (Mk.bits n (rest n m))]
abbrev partD (n m : Nat) : PyData := .tuple (wardsD n m)
theorem bits_rest (n m : Nat) : (List.range n).filter (fun k => !m.testBit k) = Mk.bits n (rest n m) := by
  unfold Mk.bits
  refine List.filter_congr fun x hx => ?_
  rw [bit_rest (List.mem_range.mp hx)]
theorem alike_lotD (u v : List Nat) : PySem.W.alike (lotD u) (lotD v) = true := by
  have h := PySem.W.alike_ints (u.map fun (p : Nat) => (p : Int)) (v.map fun (p : Nat) => (p : Int))
  rw [List.map_map, List.map_map] at h
  exact h
theorem alike_part (n m m' : Nat) : PySem.W.alike (partD n m) (partD n m') = true := by
  simp only [PySem.W.alike, PySem.W.alikeAll, alike_lotD, Bool.and_self]
theorem depth_lotD (u : List Nat) : (lotD u).depth ≤ 1 := by
  have : PyData.depthAll (u.map fun (p : Nat) => PyData.int (p : Int)) ≤ 0 := depthAll_le fun d hd => by
    obtain ⟨p, _, rfl⟩ := List.mem_map.mp hd
    simp [PyData.depth]
  unfold lotD
  simp only [PyData.depth]
  omega
theorem depth_part (n m : Nat) : (partD n m).depth ≤ 2 := by
  have h1 := depth_lotD (Mk.bits n m)
  have h2 := depth_lotD (Mk.bits n (rest n m))
  simp only [partD, wardsD, PyData.depth, PyData.depthAll]
  omega
theorem noL_lotD (u : List Nat) : noL (lotD u) = true := by
  show noLs _ = true
  exact noLs_map _ (fun _ => rfl) u
theorem noL_part (n m : Nat) : noL (partD n m) = true := by
  show noLs _ = true
  rw [noLs, noL_lotD, noLs, noL_lotD]
  rfl
end
section
variable {P : Program} {w : World} {K : PySem.W.Frag} {mg : Str → Option Value} {base : Heap}
/-! ### the law's partings -/
def spLParts (K : PySem.W.Frag) : Sp := fun vs H Q _ => ∃ (l : V) (fs : List Int) (bs : List (Nat × Nat)) (a b : Nat), vs = [l, .int (a : Int), .int (b : Int)] ∧ Dp K H l (landD fs bs) ∧ fs.length ≤ 12 ∧ Mk.Bs fs.length bs ∧ a < fs.length ∧ b < fs.length ∧
  ∀ (q : Addr) (ys : List V) (ms : List Nat) (H' : Hp), Ext H H' → H q = none → H' q = some (.lst ys) → DpAll K H' ys (ms.map (partD fs.length)) → ms.Perm (partsOf fs.length bs a b) → (ms.map (partD fs.length)).Pairwise (fun d e => PySem.W.dataLt e d = false) → Q (.ref q) H'
abbrev lpN : List Str := ["told", "one", "other", "rows", "many", "found", "whole", "bits", "k"]
theorem sc_law_partings : FnScope lpN ["told", "one", "other"] (defScope st__law_partings) := ⟨rfl, rfl, rfl, by decide +kernel, rfl, by decide +kernel, by decide +kernel⟩
theorem small5000 {n : Nat} (h : n ≤ 5000) : n < sizeLine := Nat.lt_of_le_of_lt h (by decide)
theorem ok_law_partings {f : Addr} {fd : FuncData} (F : Fun K "_law_partings" "_law_partings" st__law_partings f fd) (B : Bl mg) (c1 : Cal P w K mg base 1 "_law_rows" ["told"] (spRows K)) (c2 : Cal P w K mg base 1 "_law_is_one" ["rows", "bits"] (spIsOne K)) : FnOk P w K mg base CX0 2 f fd ["told", "one", "other"] (spLParts K) := by
  refine F.ok sc_law_partings (fun vs H Q E h => ?_) (fun cdv A outer s H vs Q E hr h => ?_)
  · obtain ⟨l, fs, bs, a, b, rfl, _⟩ := h
    rfl
  · obtain ⟨l, fs, bs, a, b, rfl, hd, hn, hb, ha, hb2, k⟩ := h
    have nd := sc_law_partings.nd
    refine ⟨_, pss_cons (ps_par3 (i := 3) (j := 4) (l := 5) (by rfl) nd rfl rfl rfl (by decide) (by decide) (by decide) rfl rfl rfl (pa_cons (pe_cal c1 hr rfl (pa_cons (pv 0) pa_nil)) (pa_cons (pe_callB call_len (by rfl) B.len PySem.boot_len (pa_cons (pe_ix ix_tup (pv 0) pe_int (fun _ _ => rfl)) pa_nil)) (pa_cons (pe_lst pa_nil) pa_nil))) (by rfl))
      (pss_cons (ps_set (i := 6) nd rfl (Or.inl rfl) (pe_op op_sub (pe_op op_shl pe_int (pv 4)) pe_int))
      (pss_cons (ps_for PassesOwn.never rfl (pi_range2 rfl B.range (pa_cons pe_int (pa_cons (pv 6) pa_nil))) (pg_name (i := 7) nd rfl (Or.inr rfl))
        (pss_one (ps_if (PW.pt (pw_and (pt_cmpR op_eq (pe_op op_and (pe_op op_shr (pv 7) (pv 1)) pe_int) pe_int (nomark _)) (pw_and (pt_cmpR op_eq (pe_op op_and (pe_op op_shr (pv 7) (pv 2)) pe_int) pe_int (nomark _))
            (pw_and (pt_val (pe_cal c2 hr rfl (pa_cons (pv 3) (pa_cons (pv 7) pa_nil))) (by intro _; rfl)) (pw_and1 (pt_val (pe_cal c2 hr rfl (pa_cons (pv 3) (pa_cons (pe_op op_sub (pv 6) (pv 7)) pa_nil))) (by intro _; rfl)))))))
          (pss_one (ps_expr (pe_bm PySem.F.plainAttrs_list PySem.F.slot_list_append PySem.F.type_list_append mt_append (pv 5) (pa_cons (pe_tup
            (pa_cons (pe_tupleOf rfl B.tuple (pe_lc (own := [("k", 8)]) (g := gName 8) (by rfl) nd (pi_range1 rfl B.range (pa_cons (pv 4) pa_nil)) (blkOk_by (own := [("k", 8)]) (N := lpN) (sc := defScope st__law_partings) (by decide +kernel))
              (fun _ _ _ _ _ => pg_name (i := 8) nd rfl (Or.inl rfl)) (fun _ _ _ _ _ => pts_one (pt_cmpR op_eq (pe_op op_and (pe_op op_shr (pv 7) (pv 8)) pe_int) pe_int (nomark _))) (fun _ _ _ _ _ => pv 8)))
            (pa_cons (pe_tupleOf rfl B.tuple (pe_lc (own := [("k", 8)]) (g := gName 8) (by rfl) nd (pi_range1 rfl B.range (pa_cons (pv 4) pa_nil)) (blkOk_by (own := [("k", 8)]) (N := lpN) (sc := defScope st__law_partings) (by decide +kernel))
              (fun _ _ _ _ _ => pg_name (i := 8) nd rfl (Or.inl rfl)) (fun _ _ _ _ _ => pts_one (pt_cmpR op_eq (pe_op op_and (pe_op op_shr (pv 7) (pv 8)) pe_int) pe_int (nomark _))) (fun _ _ _ _ _ => pv 8))) pa_nil))) pa_nil)))) pss_nil)))
      (pss_one (ps_ret (pe_callB (cr_sortDt hr.units) (by rfl) B.sorted (by decide +kernel) (pa_cons (pv 5) pa_nil)))))), ?_⟩
    have hp12 : 2 ^ fs.length ≤ 2 ^ 12 := Nat.pow_le_pow_right (by decide) hn
    have hp0 := Nat.two_pow_pos fs.length
    obtain ⟨n, en⟩ : ∃ n, n = fs.length := ⟨_, rfl⟩
    rw [← en] at hn hb ha hb2 k hp12 hp0
    refine ⟨_, rfl, l, fs, bs, rfl, hd, by rw [← en]; exact hn, by rw [← en]; exact hb, fun r H1 lk x1 hr0 hlk L => ?_⟩
    rw [← en] at L
    obtain ⟨al, af, vb, rfl, hl1, hl2, hl3⟩ := dp_land (dp_ext x1 hd)
    refine ⟨_, rfl, al, _, _, _, rfl, rfl, hl1, atI_nat (j := 0) rfl, _, n, rfl, .inr ⟨_, hl2, by simp [en]⟩, Nat.zero_le _, fun p hp => ⟨_, _, _, rfl, ?_⟩⟩
    have x2 : Ext H1 (upd H1 p (.lst [])) := .new hp
    have h1p : (upd H1 p (.lst [])) p = some (.lst []) := upd_same
    have hrp : r ≠ p := ne_of_none hlk hp
    dsimp only [gName, tSeq, List.set]
    -- whole
    refine ⟨_, rfl, _, _, rfl, rfl, ⟨by omega, by omega, by decide⟩, _, _, rfl, rfl, ?_⟩
    have ew : (1 : Int) * 2 ^ ((n : Nat) : Int).toNat - 1 = ((2 ^ n - 1 : Nat) : Int) := by
      rw [Int.toNat_natCast, Int.one_mul]
      have h2 : ((2 : Int) ^ n) = ((2 ^ n : Nat) : Int) := by simp
      rw [h2]
      omega
    dsimp only [gName, tSeq, List.set]
    rw [ew]
    generalize hH2 : upd H1 p (.lst []) = H2 at x2 h1p ⊢
    have bitV : ∀ (m i : Nat) (c : Int) (hc : c = 0 ∨ c = 1), decide (V.int (Builtin.bitAnd ((m : Int) / 2 ^ ((i : Nat) : Int).toNat) 1) = V.int c) = (if c = 1 then m.testBit i else !m.testBit i) := fun m i c hc => by
      rw [Int.toNat_natCast, shr_and]
      rcases hc with rfl | rfl <;> cases m.testBit i <;> simp
    refine ⟨_, rfl, _, _, rfl, ⟨by decide, by decide, by omega, by omega⟩, for_range (lo := 1) (n := (((2 ^ n - 1 : Nat) : Int) - 1).toNat) (fun i σ H3 => ∃ (xs : List V) (o7 o8 : Option V), σ = [some (.ref al), some (.int (a : Int)), some (.int (b : Int)), some (.ref r), some (.int (n : Int)), some (.ref p), some (.int ((2 ^ n - 1 : Nat) : Int)), o7, o8] ∧
        H3 p = some (.lst xs) ∧ DpAll K H3 xs ((partsTo n bs a b (i + 1)).map (partD n)) ∧ Ext H1 H3)
      ⟨[], _, _, rfl, h1p, by rw [partsTo_one]; exact .nil, x2⟩ ?_ ?_⟩
    · rintro i σ H3 hi ⟨xs, o7, o8, rfl, h3p, hda, x3⟩
      have him : (1 : Int) + (i : Int) = ((i + 1 : Nat) : Int) := by omega
      rw [him]
      have hm : i + 1 < 2 ^ n - 1 := by omega
      generalize hmm : i + 1 = m at hm
      have h3r := x3.lst hlk
      have hlen := dpAll_len hda
      have hpl := partsTo_len n bs a b m
      rw [List.length_map, hmm] at hlen
      refine ⟨_, rfl, _, rfl, _, _, rfl, rfl, by show (0 : Int) ≤ (a : Int); omega, _, _, rfl, rfl, rfl, _, rfl, ?_⟩
      rw [bitV m a 1 (.inr rfl), if_pos rfl]
      have stay : ¬ IsPart n bs a b m → ∃ (xs' : List V) (o7' o8' : Option V), [some (V.ref al), some (.int (a : Int)), some (.int (b : Int)), some (.ref r), some (.int (n : Int)), some (.ref p), some (.int ((2 ^ n - 1 : Nat) : Int)), some (.int (m : Int)), o8] = [some (V.ref al), some (.int (a : Int)), some (.int (b : Int)), some (.ref r), some (.int (n : Int)), some (.ref p), some (.int ((2 ^ n - 1 : Nat) : Int)), o7', o8'] ∧
          H3 p = some (.lst xs') ∧ DpAll K H3 xs' ((partsTo n bs a b (m + 1)).map (partD n)) ∧ Ext H1 H3 := fun hno => ⟨xs, _, _, rfl, h3p, by rw [partsTo_no hno, ← hmm]; exact hda, x3⟩
      have hm2 : m < 2 ^ n := by omega
      have hbm : m.testBit a = false → ¬ IsPart n bs a b m := fun e P => by rw [P.one] at e; cases e
      cases ea : m.testBit a with
      | false => exact iteF (iteF (stay (hbm ea)))
      | true =>
      refine iteT ⟨_, rfl, _, rfl, _, _, rfl, rfl, by show (0 : Int) ≤ (b : Int); omega, _, _, rfl, rfl, rfl, _, rfl, ?_⟩
      rw [bitV m b 0 (.inl rfl), if_neg (by decide)]
      cases eb : m.testBit b with
      | true => exact iteF (iteF (stay fun P => by rw [P.two] at eb; cases eb))
      | false =>
      refine iteT ⟨_, rfl, _, rfl, r, lk, n, m, bs, rfl, h3r, L, hn, hm2, by omega, fun o1 ho1 => ⟨o1, rfl, ?_⟩⟩
      cases o1 with
      | false => exact iteF (iteF (stay fun P => by simpa using ho1.mpr P.hang))
      | true =>
      have er := rest_eq hm2
      have hrl := rest_lt hm2
      have hrp0 : 0 < rest n m := by omega
      have hsub : ((2 ^ n - 1 : Nat) : Int) - (m : Int) = ((rest n m : Nat) : Int) := by omega
      refine iteT ⟨_, rfl, _, rfl, _, rfl, _, _, rfl, rfl, r, lk, n, rest n m, bs, by show [V.ref r, V.int (((2 ^ n - 1 : Nat) : Int) - (m : Int))] = _; rw [hsub], h3r, L, hn, hrl, hrp0, fun o2 ho2 => ⟨o2, rfl, ?_⟩⟩
      cases o2 with
      | false => exact iteF (stay fun P => by simpa using ho2.mpr P.hang2)
      | true =>
      have hP : IsPart n bs a b m := ⟨by omega, ea, eb, ho1.mp rfl, ho2.mp rfl⟩
      refine iteT ⟨_, rfl, .inl ⟨rfl, _, SqL.of h3p⟩, _, rfl, _, rfl, by omega, by omega, fun D1 hD1 => ?_⟩
      refine lc_range (lo := 0) (n := (n : Int).toNat) (fun k H4 => H4 D1 = some (.lst (vsN ((List.range k).filter fun q => m.testBit q))) ∧ Ext H3 H4) ⟨upd_same, .new hD1⟩ (fun k H4 hk ⟨e4, x4⟩ => ?_) fun H4 ⟨e4, x4⟩ => ?_
      · rw [Int.toNat_natCast] at hk
        rw [Int.zero_add]
        refine ⟨rfl, _, rfl, _, rfl, _, _, rfl, rfl, by show (0 : Int) ≤ (k : Int); omega, _, _, rfl, rfl, rfl, _, rfl, ?_⟩
        rw [bitV m k 1 (.inr rfl), if_pos rfl]
        have hfl := List.length_filter_le (fun q => m.testBit q) (List.range k)
        rw [List.length_range] at hfl
        cases ek : m.testBit k with
        | false =>
          refine iteF ⟨?_, x4⟩
          rw [List.range_succ, List.filter_append, List.filter_cons_of_neg (by simp [ek])]
          simpa using e4
        | true =>
          refine iteT ⟨_, rfl, _, e4, by rw [List.length_map]; exact small1000 (by omega), ?_, x4.write hD1⟩
          rw [upd_same, List.range_succ, List.filter_append, List.filter_cons_of_pos (by simp [ek])]
          show some (HO.lst (List.map _ _ ++ _)) = some (HO.lst (List.map _ (_ ++ [k])))
          rw [List.map_append]
          rfl
      rw [Int.toNat_natCast] at e4
      refine .inl ⟨D1, _, rfl, SqL.of e4, fun t1 ht1 => ?_⟩
      have y1 : Ext H3 (upd H4 t1 (.tup (vsN (Mk.bits n m)))) := x4.trans (.new ht1)
      have ht1' : (upd H4 t1 (.tup (vsN (Mk.bits n m)))) t1 = some (.tup (vsN (Mk.bits n m))) := upd_same
      show tThen _ _ _ (upd H4 t1 (.tup (vsN (Mk.bits n m)))) _
      generalize upd H4 t1 (.tup (vsN (Mk.bits n m))) = H5 at y1 ht1' ⊢
      refine ⟨_, rfl, _, rfl, by omega, by omega, fun D2 hD2 => ?_⟩
      refine lc_range (lo := 0) (n := (n : Int).toNat) (fun k H6 => H6 D2 = some (.lst (vsN ((List.range k).filter fun q => !m.testBit q))) ∧ Ext H5 H6) ⟨upd_same, .new hD2⟩ (fun k H6 hk ⟨e6, x6⟩ => ?_) fun H6 ⟨e6, x6⟩ => ?_
      · rw [Int.toNat_natCast] at hk
        rw [Int.zero_add]
        refine ⟨rfl, _, rfl, _, rfl, _, _, rfl, rfl, by show (0 : Int) ≤ (k : Int); omega, _, _, rfl, rfl, rfl, _, rfl, ?_⟩
        rw [bitV m k 0 (.inl rfl), if_neg (by decide)]
        have hfl := List.length_filter_le (fun q => !m.testBit q) (List.range k)
        rw [List.length_range] at hfl
        cases ek : m.testBit k with
        | true =>
          refine iteF ⟨?_, x6⟩
          rw [List.range_succ, List.filter_append, List.filter_cons_of_neg (by simp [ek])]
          simpa using e6
        | false =>
          refine iteT ⟨_, rfl, _, e6, by rw [List.length_map]; exact small1000 (by omega), ?_, x6.write hD2⟩
          rw [upd_same, List.range_succ, List.filter_append, List.filter_cons_of_pos (by simp [ek])]
          show some (HO.lst (List.map _ _ ++ _)) = some (HO.lst (List.map _ (_ ++ [k])))
          rw [List.map_append]
          rfl
      rw [Int.toNat_natCast, bits_rest] at e6
      refine .inl ⟨D2, _, rfl, SqL.of e6, fun t2 ht2 => ⟨by show 2 ≤ sizeLine; decide, fun t3 ht3 => ?_⟩⟩
      have y2 : Ext H5 (upd (upd H6 t2 (.tup (vsN (Mk.bits n (rest n m))))) t3 (.tup [.ref t1, .ref t2])) := (x6.trans (.new ht2)).trans (.new ht3)
      have y3 := y1.trans y2
      have hpart : Dp K (upd (upd H6 t2 (.tup (vsN (Mk.bits n (rest n m))))) t3 (.tup [.ref t1, .ref t2])) (.ref t3) (partD n m) := .tup (SqT.of upd_same) (.cons (.tup (SqT.of (y2.tup ht1')) (dpAll_lot _)) (.cons (.tup (SqT.of ((Ext.new ht3).tup upd_same)) (dpAll_lot _)) .nil))
      generalize upd (upd H6 t2 (.tup (vsN (Mk.bits n (rest n m))))) t3 (.tup [.ref t1, .ref t2]) = H7 at y3 hpart
      have e7 := y3.lst h3p
      have nl : noLs ((partsTo n bs a b m).map (partD n)) = true := noLs_map _ (noL_part n) _
      have xd : ExtS [p] H7 (upd H7 p (.lst (xs ++ [.ref t3]))) := (ExtS.refl _ _).write (.inr ⟨by simp, _, e7⟩)
      refine ⟨p, xs, _, rfl, rfl, e7, small5000 (by omega), xs ++ [.ref t3], _, _, rfl, upd_same, ?_, (x3.trans y3).write hp⟩
      rw [partsTo_yes hP, List.map_append]
      rw [hmm] at hda
      exact dpAll_app (dpAll_extS xd nl (dpAll_ext y3 hda)) (.cons (dp_extS xd (noL_part n m) hpart) .nil)
    · rintro σ H3 ⟨xs, o7, o8, rfl, h3p, hda, x3⟩
      have ek : (((2 ^ n - 1 : Nat) : Int) - 1).toNat + 1 = max 1 (2 ^ n - 1) := by omega
      have hda2 : DpAll K H3 xs ((partsOf n bs a b).map (partD n)) := by
        rw [ek] at hda
        by_cases h1 : 1 ≤ 2 ^ n - 1
        · rw [Nat.max_eq_right h1] at hda
          exact hda
        · have e0 : 2 ^ n - 1 = 0 := by omega
          rw [Nat.max_eq_left (by omega), partsTo_one] at hda
          show DpAll K H3 xs ((partsTo n bs a b (2 ^ n - 1)).map (partD n))
          rw [e0]
          exact hda
      have hpl := partsTo_len n bs a b (2 ^ n - 1)
      refine ⟨_, rfl, p, xs, _, rfl, SqL.of h3p, hda2, ?_, .inl fun d hd => ?_, by rw [List.length_map]; exact Nat.le_trans hpl (by omega), fun d hd => ?_, fun ys es q hy hperm hsrt hq => ?_⟩
      · intro d hd d' hd'
        obtain ⟨m, _, rfl⟩ := List.mem_map.mp hd
        obtain ⟨m', _, rfl⟩ := List.mem_map.mp hd'
        exact alike_part n m m'
      · obtain ⟨m, _, rfl⟩ := List.mem_map.mp hd
        exact ⟨_, _, rfl⟩
      · obtain ⟨m, _, rfl⟩ := List.mem_map.mp hd
        have := depth_part n m
        omega
      · subst en
        obtain ⟨ms, hms, rfl⟩ := perm_unmap (partD _) hperm rfl
        have x4 : Ext H3 (upd H3 q (.lst ys)) := .new hq
        exact k q ys ms _ (x1.trans (x3.trans x4)) (x1.free (x3.free hq)) upd_same (dpAll_ext x4 hy) hms hsrt
end
end Wd

set_option Elab.async false
set_option linter.all false
set_option maxRecDepth 100000
set_option maxHeartbeats 4000000
namespace Wd
open PySem PySem.Spec PyProof.Rows L2 Bx Gx



































section
variable {P : Program} {w : World} {K : PySem.W.Frag} {mg : Str → Option Value} {base : Heap}
/-! ### check_head -/
def spCheckHead (K : PySem.W.Frag) : Sp := fun vs H Q _ => ∃ (l : V) (fs : List Int) (bd : PyData) (p : Nat), vs = [l, .int (p : Int)] ∧ Dp K H l (.tuple [.tuple (fs.map .int), bd]) ∧ fs.length ≤ 12 ∧ p < fs.length ∧ Q .non H
theorem sc_check_head : FnScope ["land", "head"] ["land", "head"] (defScope st_check_head) := ⟨rfl, rfl, rfl, by decide +kernel, rfl, by decide +kernel, by decide +kernel⟩
theorem ok_check_head {f : Addr} {fd : FuncData} (F : Fun K "check_head" "check_head" st_check_head f fd) (c1 : Cal P w K mg base 2 "is_place" ["land", "value"] (spIsPlace K)) : FnOk P w K mg base CX0 3 f fd ["land", "head"] (spCheckHead K) := by
  refine F.ok sc_check_head (fun vs H Q E h => ?_) (fun cdv A outer s H vs Q E hr h => ?_)
  · obtain ⟨l, fs, bd, p, rfl, _⟩ := h
    rfl
  · obtain ⟨l, fs, bd, p, rfl, hl, hn, hp, k⟩ := h
    refine ⟨_, pss_one (ps_if (pt_not (pt_val (pe_cal c1 hr rfl (pa_cons (pv 0) (pa_cons (pv 1) pa_nil))) (by intro _; rfl))) pss_never pss_nil), ?_⟩
    have e : isIntD 0 ((fs.length : Int) - 1) (.int (p : Int)) = true := decide_eq_true (by omega)
    refine ⟨_, rfl, _, rfl, _, _, fs, bd, .int (p : Int), rfl, hl, by omega, .int _, ⟨true, by rw [e], iteF k⟩⟩
/-! ### hangs_together -/
def spHangsTog (K : PySem.W.Frag) (T1 : Addr) : Sp := fun vs H Q _ => ∃ (l : Addr) (lk : List Nat) (n m : Nat) (bs : List (Nat × Nat)), vs = [.ref l, .int (m : Int)] ∧ H l = some (.lst (vsN lk)) ∧ Mk.Lk n bs lk ∧ Mk.Bs n bs ∧ n ≤ 12 ∧ m < 2 ^ n ∧ 0 < m ∧ TabG H T1 ∧
  ∀ (b : Bool) H', Ext H H' → (∀ qs, Mk.Pcs bs m qs → b = decide (qs.length = 1)) → Q (.bl b) H'
theorem sc_hangs_together : FnScope ["links", "mask"] ["links", "mask"] (defScope st_hangs_together) := ⟨rfl, rfl, rfl, by decide +kernel, rfl, by decide +kernel, by decide +kernel⟩
theorem pcs_first {bs : List (Nat × Nat)} {m q r : Nat} (hq : m.testBit q = true) (hlow : ∀ p, p < q → m.testBit p = false) (hR : Mk.Rch bs m (2 ^ q) r) {qs : List Nat} (h : Mk.Pcs bs m qs) : r = m ↔ qs.length = 1 := by
  cases h with
  | nil => simp at hq
  | @cons _ q' p l hq' hlow' hR' hP =>
    have e := Mk.low_uniq hq hlow hq' hlow'
    subst e
    have e2 := hR.uniq hR'
    subst e2
    rw [List.length_cons]
    constructor
    · intro e
      rw [e, Nat.xor_self] at hP
      generalize hz : (0 : Nat) = z at hP
      cases hP with
      | nil => rfl
      | cons h1 _ _ _ =>
        rw [← hz, Nat.zero_testBit] at h1
        cases h1
    · intro e
      have h0 := hP.none (List.length_eq_zero_iff.mp (by omega))
      have h1 : (m ^^^ r) ^^^ r = m := by rw [Nat.xor_assoc, Nat.xor_self, Nat.xor_zero]
      rw [h0, Nat.zero_xor] at h1
      exact h1
theorem ok_hangs_together {f T1 : Addr} {fd : FuncData} (F : Fun K "hangs_together" "hangs_together" st_hangs_together f fd) (c1 : Cal P w K mg base 7 "reached" ["links", "start", "mask"] (spReached K T1)) : FnOk P w K mg base CX0 8 f fd ["links", "mask"] (spHangsTog K T1) := by
  refine F.ok sc_hangs_together (fun vs H Q E h => ?_) (fun cdv A outer s H vs Q E hr h => ?_)
  · obtain ⟨l, lk, n, m, bs, rfl, _⟩ := h
    rfl
  · obtain ⟨l, lk, n, m, bs, rfl, hl, L, hb, hn, hm, hm0, hT, k⟩ := h
    refine ⟨_, pss_one (ps_ret (pe_cmpR op_eq (pe_cal c1 hr rfl (pa_cons (pv 0) (pa_cons (pe_op op_and (pv 1) (pe_un un_neg (pv 1))) (pa_cons (pv 1) pa_nil)))) (pv 1) (nomark _))), ?_⟩
    obtain ⟨q, hq, hlow, hand⟩ := Mk.and_neg m hm0
    refine ⟨_, rfl, _, rfl, _, rfl, _, rfl, _, _, rfl, rfl, _, rfl, l, lk, n, 2 ^ q, m, bs, ?_, hl, L, hb, hn, hm, ?_, hT, fun r H3 x3 hR => ?_⟩
    · dsimp only [List.append_nil]
      rw [hand]
      rfl
    · intro z hz
      rw [Nat.testBit_two_pow, decide_eq_true_eq] at hz
      rw [← hz]
      exact hq
    · refine ⟨_, rfl, rfl, ?_⟩
      refine k _ H3 x3 fun qs hqs => ?_
      have := pcs_first hq hlow hR hqs
      by_cases e : r = m
      · rw [decide_eq_true (this.mp e)]
        exact decide_eq_true (by rw [e])
      · rw [decide_eq_false (fun z => e (this.mpr z))]
        exact decide_eq_false fun z => e (by have := V.int.inj z; omega)
theorem mask_pos {ps : List Nat} (ha : ps.Pairwise (· < ·)) (hne : ps ≠ []) : 0 < Mk.mask ps := by
  cases ps with
  | nil => exact absurd rfl hne
  | cons p r =>
    have h : (Mk.mask (p :: r)).testBit p = true := by rw [Mk.bit_mask ha]; simp
    refine Nat.pos_of_ne_zero fun z => ?_
    rw [z, Nat.zero_testBit] at h
    cases h
end
section
variable {P : Program} {w : World} {K : PySem.W.Frag} {mg : Str → Option Value} {base : Heap}
/-! ### whole_mask -/
def spWhole (K : PySem.W.Frag) : Sp := fun vs H Q _ => ∃ (l : V) (fs : List Int) (bd : PyData), vs = [l] ∧ Dp K H l (.tuple [.tuple (fs.map .int), bd]) ∧ fs.length ≤ 12 ∧ Q (.int ((2 ^ fs.length - 1 : Nat) : Int)) H
theorem sc_whole_mask : FnScope ["land"] ["land"] (defScope st_whole_mask) := ⟨rfl, rfl, rfl, by decide +kernel, rfl, by decide +kernel, by decide +kernel⟩
theorem ok_whole_mask {f : Addr} {fd : FuncData} (F : Fun K "whole_mask" "whole_mask" st_whole_mask f fd) (B : Bl mg) : FnOk P w K mg base CX0 1 f fd ["land"] (spWhole K) := by
  refine F.ok sc_whole_mask (fun vs H Q E h => ?_) (fun cdv A outer s H vs Q E hr h => ?_)
  · obtain ⟨l, fs, bd, rfl, _⟩ := h
    rfl
  · obtain ⟨l, fs, bd, rfl, hl, hn, k⟩ := h
    refine ⟨_, pss_one (ps_ret (pe_op op_sub (pe_op op_shl pe_int (pe_callB call_len (by rfl) B.len PySem.boot_len (pa_cons (pe_ix ix_tup (pv 0) pe_int (fun _ _ => rfl)) pa_nil))) pe_int)), ?_⟩
    obtain ⟨al, xl, rfl, h2, h3⟩ := dp_tup hl
    cases h3 with
    | cons hf h4 =>
    obtain ⟨af, rfl, h5⟩ := dp_ints hf
    refine ⟨_, rfl, al, _, _, _, rfl, rfl, h2, atI_nat (j := 0) rfl, _, fs.length, rfl, .inr ⟨_, h5, by simp⟩, _, _, rfl, rfl, ⟨by omega, by omega, by decide⟩, _, _, rfl, rfl, ?_⟩
    have e : (1 : Int) * 2 ^ ((fs.length : Nat) : Int).toNat - 1 = ((2 ^ fs.length - 1 : Nat) : Int) := by
      rw [Int.toNat_natCast, Int.one_mul]
      have h := Nat.two_pow_pos fs.length
      have h2 : ((2 : Int) ^ fs.length) = ((2 ^ fs.length : Nat) : Int) := by simp
      rw [h2]
      omega
    show Q (V.int ((1 : Int) * 2 ^ ((fs.length : Nat) : Int).toNat - 1)) H
    rw [e]
    exact k
end
section
variable {P : Program} {w : World} {K : PySem.W.Frag} {mg : Str → Option Value} {base : Heap}
/-! ### check_heads -/
def spCheckHeads (K : PySem.W.Frag) : Sp := fun vs H Q _ => ∃ (l : V) (fs : List Int) (bd : PyData) (a b : Nat), vs = [l, .int (a : Int), .int (b : Int)] ∧ Dp K H l (.tuple [.tuple (fs.map .int), bd]) ∧ fs.length ≤ 12 ∧ a < fs.length ∧ b < fs.length ∧ a ≠ b ∧ Q .non H
theorem sc_check_heads : FnScope ["land", "head", "other_head"] ["land", "head", "other_head"] (defScope st_check_heads) := ⟨rfl, rfl, rfl, by decide +kernel, rfl, by decide +kernel, by decide +kernel⟩
theorem ok_check_heads {f : Addr} {fd : FuncData} (F : Fun K "check_heads" "check_heads" st_check_heads f fd) (c1 : Cal P w K mg base 3 "check_head" ["land", "head"] (spCheckHead K)) : FnOk P w K mg base CX0 4 f fd ["land", "head", "other_head"] (spCheckHeads K) := by
  refine F.ok sc_check_heads (fun vs H Q E h => ?_) (fun cdv A outer s H vs Q E hr h => ?_)
  · obtain ⟨l, fs, bd, a, b, rfl, _⟩ := h
    rfl
  · obtain ⟨l, fs, bd, a, b, rfl, hl, hn, ha, hb, hab, k⟩ := h
    refine ⟨_, pss_cons (ps_expr (pe_cal c1 hr rfl (pa_cons (pv 0) (pa_cons (pv 1) pa_nil))))
      (pss_cons (ps_expr (pe_cal c1 hr rfl (pa_cons (pv 0) (pa_cons (pv 2) pa_nil))))
      (pss_one (ps_if (pt_cmpR op_eq (pv 1) (pv 2) (nomark _)) pss_never pss_nil))), ?_⟩
    refine ⟨_, rfl, _, rfl, l, fs, bd, a, rfl, hl, hn, ha, ?_⟩
    refine ⟨_, rfl, _, rfl, l, fs, bd, b, rfl, hl, hn, hb, ?_⟩
    refine ⟨_, rfl, _, rfl, rfl, _, rfl, ?_⟩
    rw [decide_eq_false (show ¬ V.int (a : Int) = V.int (b : Int) from fun z => by injection z with z; omega)]
    exact iteF k
/-! ### is_between -/
def spBetween : Sp := fun vs H Q _ => ∃ (m a b : Nat), vs = [.int (m : Int), .int (a : Int), .int (b : Int)] ∧ Q (.bl (m.testBit a && !m.testBit b)) H
theorem sc_is_between : FnScope ["mask", "head", "other_head"] ["mask", "head", "other_head"] (defScope st_is_between) := ⟨rfl, rfl, rfl, by decide +kernel, rfl, by decide +kernel, by decide +kernel⟩
theorem ok_is_between {f : Addr} {fd : FuncData} (F : Fun K "is_between" "is_between" st_is_between f fd) : FnOk P w K mg base CX0 1 f fd ["mask", "head", "other_head"] spBetween := by
  refine F.ok sc_is_between (fun vs H Q E h => ?_) (fun cdv A outer s H vs Q E hr h => ?_)
  · obtain ⟨m, a, b, rfl, _⟩ := h
    rfl
  · obtain ⟨m, a, b, rfl, k⟩ := h
    refine ⟨_, pss_one (ps_ret (pe_and (pe_cmpR op_eq (pe_op op_and (pe_op op_shr (pv 0) (pv 1)) pe_int) pe_int (nomark _)) (pe_one (pe_cmpR op_eq (pe_op op_and (pe_op op_shr (pv 0) (pv 2)) pe_int) pe_int (nomark _))))), ?_⟩
    have bitV : ∀ (m i : Nat) (c : Int) (hc : c = 0 ∨ c = 1), decide (V.int (Builtin.bitAnd ((m : Int) / 2 ^ ((i : Nat) : Int).toNat) 1) = V.int c) = (if c = 1 then m.testBit i else !m.testBit i) := fun m i c hc => by
      rw [Int.toNat_natCast, shr_and]
      rcases hc with rfl | rfl <;> cases m.testBit i <;> simp
    refine ⟨_, rfl, _, rfl, _, _, rfl, rfl, by show (0 : Int) ≤ (a : Int); omega, _, _, rfl, rfl, rfl, _, rfl, ?_⟩
    rw [bitV m a 1 (.inr rfl), if_pos rfl]
    cases ea : m.testBit a with
    | false =>
      rw [ea] at k
      exact iteF k
    | true =>
      rw [ea] at k
      refine iteT ⟨_, rfl, _, rfl, _, _, rfl, rfl, by show (0 : Int) ≤ (b : Int); omega, _, _, rfl, rfl, rfl, ?_⟩
      rw [bitV m b 0 (.inl rfl), if_neg (by decide)]
      exact k
/-! ### hangs_together, told by what One says -/
def spHangOne (K : PySem.W.Frag) (T1 : Addr) : Sp := fun vs H Q _ => ∃ (l : Addr) (lk : List Nat) (n m : Nat) (bs : List (Nat × Nat)), vs = [.ref l, .int (m : Int)] ∧ H l = some (.lst (vsN lk)) ∧ Mk.Lk n bs lk ∧ Mk.Bs n bs ∧ n ≤ 12 ∧ m < 2 ^ n ∧ 0 < m ∧ TabG H T1 ∧
  ∀ (b : Bool) H', Ext H H' → (b = true ↔ One bs m) → Q (.bl b) H'
theorem sc_hangs_one : FnScope ["links", "mask"] ["links", "mask"] (defScope st_hangs_together) := ⟨rfl, rfl, rfl, by decide +kernel, rfl, by decide +kernel, by decide +kernel⟩
theorem ok_hangs_one {f T1 : Addr} {fd : FuncData} (F : Fun K "hangs_together" "hangs_together" st_hangs_together f fd) (c1 : Cal P w K mg base 7 "reached" ["links", "start", "mask"] (spReached K T1)) : FnOk P w K mg base CX0 8 f fd ["links", "mask"] (spHangOne K T1) := by
  refine F.ok sc_hangs_one (fun vs H Q E h => ?_) (fun cdv A outer s H vs Q E hr h => ?_)
  · obtain ⟨l, lk, n, m, bs, rfl, _⟩ := h
    rfl
  · obtain ⟨l, lk, n, m, bs, rfl, hl, L, hb, hn, hm, hm0, hT, k⟩ := h
    refine ⟨_, pss_one (ps_ret (pe_cmpR op_eq (pe_cal c1 hr rfl (pa_cons (pv 0) (pa_cons (pe_op op_and (pv 1) (pe_un un_neg (pv 1))) (pa_cons (pv 1) pa_nil)))) (pv 1) (nomark _))), ?_⟩
    obtain ⟨q, hq, hlow, hand⟩ := Mk.and_neg m hm0
    refine ⟨_, rfl, _, rfl, _, rfl, _, rfl, _, _, rfl, rfl, _, rfl, l, lk, n, 2 ^ q, m, bs, ?_, hl, L, hb, hn, hm, ?_, hT, fun r H3 x3 hR => ?_⟩
    · dsimp only [List.append_nil]
      rw [hand]
      rfl
    · intro z hz
      rw [Nat.testBit_two_pow, decide_eq_true_eq] at hz
      rw [← hz]
      exact hq
    · refine ⟨_, rfl, rfl, k _ H3 x3 ?_⟩
      rw [decide_eq_true_eq, ← one_rch hq hR]
      exact ⟨fun z => by injection z with z; omega, fun z => by rw [z]⟩
/-! ### partings -/
def spPartings (K : PySem.W.Frag) (T1 : Addr) : Sp := fun vs H Q _ => ∃ (l : V) (fs : List Int) (bs : List (Nat × Nat)) (a b : Nat), vs = [l, .int (a : Int), .int (b : Int)] ∧ Dp K H l (landD fs bs) ∧ fs.length ≤ 12 ∧ Mk.Bs fs.length bs ∧ a < fs.length ∧ b < fs.length ∧ TabG H T1 ∧
  ∀ (q : Addr) (ys : List V) (H' : Hp), Ext H H' → H q = none → H' q = some (.lst ys) → DpAll K H' ys ((partsOf fs.length bs a b).map (partD fs.length)) → Q (.ref q) H'
abbrev paN : List Str := ["land", "head", "other_head", "links", "whole", "found", "mask"]
theorem sc_partings : FnScope paN ["land", "head", "other_head"] (defScope st_partings) := ⟨rfl, rfl, rfl, by decide +kernel, rfl, by decide +kernel, by decide +kernel⟩
theorem ok_partings {f T1 : Addr} {fd : FuncData} (F : Fun K "partings" "partings" st_partings f fd) (B : Bl mg) (c1 : Cal P w K mg base 1 "links_of" ["land"] (spLinksOf K)) (c2 : Cal P w K mg base 1 "whole_mask" ["land"] (spWhole K)) (c3 : Cal P w K mg base 1 "is_between" ["mask", "head", "other_head"] spBetween)
    (c4 : Cal P w K mg base 8 "hangs_together" ["links", "mask"] (spHangOne K T1)) (c5 : Cal P w K mg base 6 "lot_of" ["mask"] (spLotOf K T1)) : FnOk P w K mg base CX0 9 f fd ["land", "head", "other_head"] (spPartings K T1) := by
  refine F.ok sc_partings (fun vs H Q E h => ?_) (fun cdv A outer s H vs Q E hr h => ?_)
  · obtain ⟨l, fs, bs, a, b, rfl, _⟩ := h
    rfl
  · obtain ⟨l, fs, bs, a, b, rfl, hd, hn, hb, ha, hb2, hT, k⟩ := h
    have nd := sc_partings.nd
    have hr1 := hr.mono (j := 1) (by decide)
    have hr6 := hr.mono (j := 6) (by decide)
    refine ⟨_, pss_cons (ps_set (i := 3) nd rfl (Or.inl rfl) (pe_cal c1 hr1 rfl (pa_cons (pv 0) pa_nil)))
      (pss_cons (ps_set (i := 4) nd rfl (Or.inl rfl) (pe_cal c2 hr1 rfl (pa_cons (pv 0) pa_nil)))
      (pss_cons (ps_set (i := 5) nd rfl (Or.inl rfl) (pe_lst pa_nil))
      (pss_cons (ps_for PassesOwn.never rfl (pi_range2 rfl B.range (pa_cons pe_int (pa_cons (pv 4) pa_nil))) (pg_name (i := 6) nd rfl (Or.inl rfl))
        (pss_one (ps_if (PW.pt (pw_and (pt_val (pe_cal c3 hr1 rfl (pa_cons (pv 6) (pa_cons (pv 1) (pa_cons (pv 2) pa_nil)))) (by intro _; rfl)) (pw_and1 (pt_val (pe_cal c4 hr rfl (pa_cons (pv 3) (pa_cons (pv 6) pa_nil))) (by intro _; rfl)))))
          (pss_one (ps_if (pt_val (pe_cal c4 hr rfl (pa_cons (pv 3) (pa_cons (pe_op op_xor (pv 4) (pv 6)) pa_nil))) (by intro _; rfl))
            (pss_one (ps_expr (pe_bm PySem.F.plainAttrs_list PySem.F.slot_list_append PySem.F.type_list_append mt_append (pv 5) (pa_cons (pe_tup
              (pa_cons (pe_cal c5 hr6 rfl (pa_cons (pv 6) pa_nil)) (pa_cons (pe_cal c5 hr6 rfl (pa_cons (pe_op op_xor (pv 4) (pv 6)) pa_nil)) pa_nil))) pa_nil)))) pss_nil)) pss_nil)))
      (pss_one (ps_ret (pv 5)))))), ?_⟩
    have hp12 : 2 ^ fs.length ≤ 2 ^ 12 := Nat.pow_le_pow_right (by decide) hn
    have hp0 := Nat.two_pow_pos fs.length
    generalize hnn : fs.length = n at hn hb ha hb2 k hp12 hp0
    refine ⟨_, rfl, l, fs, bs, rfl, hd, by omega, by rw [hnn]; exact hb, fun r H1 lk x1 hr0 hlk L => ?_⟩
    rw [hnn] at L
    refine ⟨_, rfl, l, fs, bordD bs, rfl, dp_ext x1 hd, by omega, ?_⟩
    rw [hnn]
    refine ⟨Nat.zero_le _, fun p hp => ?_⟩
    have x2 : Ext H1 (upd H1 p (.lst [])) := .new hp
    have h1p : (upd H1 p (.lst [])) p = some (.lst []) := upd_same
    dsimp only [gName, tSeq, List.set]
    generalize hH2 : upd H1 p (.lst []) = H2 at x2 h1p ⊢
    have hT1 := x1.tabs _ hT
    refine ⟨_, rfl, _, _, rfl, ⟨by decide, by decide, by omega, by omega⟩, for_range (lo := 1) (n := (((2 ^ n - 1 : Nat) : Int) - 1).toNat) (fun i σ H3 => ∃ (xs : List V) (o6 : Option V), σ = [some l, some (.int (a : Int)), some (.int (b : Int)), some (.ref r), some (.int ((2 ^ n - 1 : Nat) : Int)), some (.ref p), o6] ∧
        H3 p = some (.lst xs) ∧ DpAll K H3 xs ((partsTo n bs a b (i + 1)).map (partD n)) ∧ Ext H1 H3)
      ⟨[], _, rfl, h1p, by rw [partsTo_one]; exact .nil, x2⟩ ?_ ?_⟩
    · rintro i σ H3 hi ⟨xs, o6, rfl, h3p, hda, x3⟩
      have him : (1 : Int) + (i : Int) = ((i + 1 : Nat) : Int) := by omega
      rw [him]
      have hm : i + 1 < 2 ^ n - 1 := by omega
      generalize hmm : i + 1 = m at hm
      have hlen := dpAll_len hda
      have hpl := partsTo_len n bs a b m
      rw [List.length_map, hmm] at hlen
      have hm2 : m < 2 ^ n := by omega
      have stay : ∀ H4, Ext H3 H4 → ¬ IsPart n bs a b m → ∃ (xs' : List V) (o6' : Option V), [some l, some (.int (a : Int)), some (.int (b : Int)), some (.ref r), some (.int ((2 ^ n - 1 : Nat) : Int)), some (.ref p), some (.int (m : Int))] = [some l, some (.int (a : Int)), some (.int (b : Int)), some (.ref r), some (.int ((2 ^ n - 1 : Nat) : Int)), some (.ref p), o6'] ∧
          H4 p = some (.lst xs') ∧ DpAll K H4 xs' ((partsTo n bs a b (m + 1)).map (partD n)) ∧ Ext H1 H4 := fun H4 x4 hno => ⟨xs, _, rfl, x4.lst h3p, by rw [partsTo_no hno, ← hmm]; exact dpAll_ext x4 hda, x3.trans x4⟩
      refine ⟨_, rfl, _, rfl, _, rfl, m, a, b, rfl, ⟨_, rfl, ?_⟩⟩
      cases eab : (m.testBit a && !m.testBit b) with
      | false =>
        refine iteF (iteF (stay H3 (.refl _) fun P => ?_))
        rw [P.one, P.two] at eab
        cases eab
      | true =>
      rw [Bool.and_eq_true, Bool.not_eq_true'] at eab
      refine iteT ⟨_, rfl, _, rfl, r, lk, n, m, bs, rfl, x3.lst hlk, L, hb, hn, hm2, by omega, x3.tabs _ hT1, fun o1 H4 x4 ho1 => ⟨o1, rfl, ?_⟩⟩
      cases o1 with
      | false => exact iteF (stay H4 x4 fun P => by simpa using ho1.mpr P.hang)
      | true =>
      have er := rest_eq hm2
      have hrl := rest_lt hm2
      refine iteT ⟨_, rfl, _, rfl, _, rfl, _, _, rfl, rfl, r, lk, n, rest n m, bs, by show [V.ref r, V.int (Builtin.bitXor ((2 ^ n - 1 : Nat) : Int) (m : Int))] = _; rw [xor_pp]; rfl, (x3.trans x4).lst hlk, L, hb, hn, hrl, by omega, (x3.trans x4).tabs _ hT1, fun o2 H5 x5 ho2 => ⟨o2, rfl, ?_⟩⟩
      have x45 := x4.trans x5
      cases o2 with
      | false => exact iteF (stay H5 x45 fun P => by simpa using ho2.mpr P.hang2)
      | true =>
      have hP : IsPart n bs a b m := ⟨by omega, eab.1, eab.2, ho1.mp rfl, ho2.mp rfl⟩
      refine iteT ⟨_, rfl, .inl ⟨rfl, _, SqL.of (x45.lst h3p)⟩, _, rfl, m, n, rfl, hm2, by omega, (x3.trans x45).tabs _ hT1, fun t1 H6 x6 ht1 d1 _ => ?_⟩
      refine ⟨_, rfl, _, rfl, _, _, rfl, rfl, rest n m, n, by show [V.int (Builtin.bitXor ((2 ^ n - 1 : Nat) : Int) (m : Int))] = _; rw [xor_pp]; rfl, hrl, by omega, ((x3.trans x45).trans x6).tabs _ hT1, fun t2 H7 x7 ht2 d2 _ => ⟨by show 2 ≤ sizeLine; decide, fun t3 ht3 => ?_⟩⟩
      have y3 : Ext H3 (upd H7 t3 (.tup [.ref t1, .ref t2])) := ((x45.trans x6).trans x7).trans (.new ht3)
      have hpart : Dp K (upd H7 t3 (.tup [.ref t1, .ref t2])) (.ref t3) (partD n m) := .tup (SqT.of upd_same) (.cons (dp_ext (x7.trans (.new ht3)) d1) (.cons (dp_ext (.new ht3) d2) .nil))
      generalize upd H7 t3 (.tup [.ref t1, .ref t2]) = H8 at y3 hpart
      have e8 := y3.lst h3p
      have nl : noLs ((partsTo n bs a b m).map (partD n)) = true := noLs_map _ (noL_part n) _
      have xd : ExtS [p] H8 (upd H8 p (.lst (xs ++ [.ref t3]))) := (ExtS.refl _ _).write (.inr ⟨by simp, _, e8⟩)
      refine ⟨p, xs, _, rfl, rfl, e8, small5000 (by omega), xs ++ [.ref t3], _, rfl, upd_same, ?_, (x3.trans y3).write hp⟩
      rw [partsTo_yes hP, List.map_append]
      rw [hmm] at hda
      exact dpAll_app (dpAll_extS xd nl (dpAll_ext y3 hda)) (.cons (dp_extS xd (noL_part n m) hpart) .nil)
    · rintro σ H3 ⟨xs, o6, rfl, h3p, hda, x3⟩
      have ek : (((2 ^ n - 1 : Nat) : Int) - 1).toNat + 1 = max 1 (2 ^ n - 1) := by omega
      have hda2 : DpAll K H3 xs ((partsOf n bs a b).map (partD n)) := by
        rw [ek] at hda
        by_cases h1 : 1 ≤ 2 ^ n - 1
        · rw [Nat.max_eq_right h1] at hda
          exact hda
        · have e0 : 2 ^ n - 1 = 0 := by omega
          rw [Nat.max_eq_left (by omega), partsTo_one] at hda
          show DpAll K H3 xs ((partsTo n bs a b (2 ^ n - 1)).map (partD n))
          rw [e0]
          exact hda
      exact ⟨_, rfl, k p xs H3 (x1.trans x3) (x1.free hp) h3p hda2⟩
end
end Wd

set_option Elab.async false
set_option linter.all false
set_option maxRecDepth 100000
set_option maxHeartbeats 4000000
namespace Wd
open PySem PySem.Spec PyProof.Rows L2 Bx Gx



































section
variable {P : Program} {w : World} {K : PySem.W.Frag} {mg : Str → Option Value} {base : Heap}
/-! ### folk_within -/
def folkOf (fs : List Int) (ps : List Nat) : Int := (ps.map fun p => fs.getD p 0).sum
def spFolkIn (K : PySem.W.Frag) (T1 : Addr) : Sp := fun vs H Q _ => ∃ (l v : V) (fs : List Int) (bd : PyData) (ps : List Nat), vs = [l, v] ∧ Dp K H l (.tuple [.tuple (fs.map .int), bd]) ∧ Dp K H v (lotD ps) ∧ (∀ p ∈ ps, p < fs.length) ∧ TabG H T1 ∧ ∀ H', Ext H H' → Q (.int (folkOf fs ps)) H'
/-! ### pair_of -/
def spPairOf (K : PySem.W.Frag) : Sp := fun vs H Q _ => ∃ (a b : Nat), vs = [.int (a : Int), .int (b : Int)] ∧ ∀ p H', Ext H H' → H p = none → H' p = some (.tup [.int ((min a b : Nat) : Int), .int ((max a b : Nat) : Int)]) → Q (.ref p) H'
end
section
variable {P : Program} {w : World} {K : PySem.W.Frag} {mg : Str → Option Value} {base : Heap}
/-- a sum as a part of more: its end as a predicate -/
theorem g_sumF {J : It} {n : Nat} {it : Nat → V} {Ph : Hp → Prop} {g : TG} {te : TE} {vs : List Nat} {σg : L2.St} {H : Hp} {Fin : List V → Hp → Prop} (S : Src J n it Ph) (f : Nat → Int) (h0 : Ph H)
    (step : ∀ i H (C : V → Hp → Prop), Ph H → i < n → (∀ H4, Ph H4 → C (.int (f i)) H4) → g (it i) σg H fun σ2 H2 => wipe σ2 vs = σg ∧ te σ2 H2 C)
    (fin : ∀ H, Ph H → Fin (((List.range n).map f).map V.int) H) :
    ∃ W : Nat → Nat → List V → Hp → Prop, (∃ m, W 0 m [] H) ∧ GTurn J g tYes te vs σg pSum Fin W := by
  refine ⟨fun i m ys H => Ph H ∧ i ≤ n ∧ m = n - i ∧ ys = ((List.range i).map f).map V.int, ⟨n, h0, Nat.zero_le _, by omega, rfl⟩, fun i m ys H ⟨hp, hi, hm, hy⟩ => ?_⟩
  by_cases hn : i = n
  · subst hn
    exact .inl ⟨S.stop H hp, hy ▸ fin H hp⟩
  · have hlt : i < n := by omega
    refine .inr ⟨S.go i H hp hlt, fun x H' y => ?_⟩
    obtain ⟨rfl, rfl⟩ := S.yld i H x H' hp hlt y
    refine step i H' _ hp hlt fun H4 hp4 => ⟨⟨f i, rfl⟩, n - (i + 1), by omega, hp4, hlt, rfl, ?_⟩
    rw [hy, List.range_succ, List.map_append, List.map_append]
    rfl
theorem ints_inj : ∀ {a b : List Int}, a.map V.int = b.map V.int → a = b
  | [], [], _ => rfl
  | [], _ :: _, h => nomatch h
  | _ :: _, [], h => nomatch h
  | x :: a, y :: b, h => by
    injection h with h1 h2
    injection h1 with h1
    rw [h1, ints_inj h2]
/-! ### gap_of -/
def absI (i : Int) : Int := if i < 0 then -i else i
def gapI (fs : List Int) (ps qs : List Nat) : Int := absI (folkOf fs ps - folkOf fs qs)
def spGapOf (K : PySem.W.Frag) (T1 : Addr) : Sp := fun vs H Q _ => ∃ (l v u : V) (fs : List Int) (bd : PyData) (ps qs : List Nat), vs = [l, v, u] ∧ Dp K H l (.tuple [.tuple (fs.map .int), bd]) ∧ Dp K H v (lotD ps) ∧ Dp K H u (lotD qs) ∧ (∀ p ∈ ps, p < fs.length) ∧ (∀ p ∈ qs, p < fs.length) ∧ TabG H T1 ∧ ∀ H', Ext H H' → Q (.int (gapI fs ps qs)) H'
theorem sc_gap_of : FnScope ["land", "ward", "other", "folk"] ["land", "ward", "other"] (defScope st_gap_of) := ⟨rfl, rfl, rfl, by decide +kernel, rfl, by decide +kernel, by decide +kernel⟩
theorem ok_gap_of {f c T1 : Addr} {fd : FuncData} (F : FunC K "gap_of" "gap_of" st_gap_of f fd c) (TB : TabB base mg c T1) (B : Bl mg) (hab : mg "abs" = none) : FnOk P w K mg base CX0 4 f fd ["land", "ward", "other"] (spGapOf K T1) := by
  refine F.ok sc_gap_of (fun vs H Q E h => ?_) (fun A outer s H vs Q E hr h => ?_)
  · obtain ⟨l, v, u, fs, bd, ps, qs, rfl, _⟩ := h
    rfl
  · obtain ⟨l, v, u, fs, bd, ps, qs, rfl, hl, hv, hu, hp, hq, hT, k⟩ := h
    have nd := sc_gap_of.nd
    refine ⟨_, pss_cons (ps_set (i := 3) nd rfl (Or.inr rfl) (pe_ix ix_tup (pv 0) pe_int (fun _ _ => rfl)))
      (pss_one (ps_ret (pe_callB call_abs (by rfl) hab (by decide +kernel) (pa_cons (pe_op op_sub
        (pe_gsum (k := 0) (N := ["place", "folk"]) (src := [none, some 3]) (vs := [0])
          ⟨fun B s H fp code hB => pg_name (i := 0) (by decide +kernel : (["place", "folk"] : List Str).Nodup) rfl (Or.inl rfl), fun B s H fp code hB => pts_nil, fun B s H fp code hB => pe_ix (ix_tupK (K := K) rfl) (pv 1) (pv 0) (fun _ _ => rfl)⟩
          (hr.mono (by decide)) rfl B.sum TB rfl (gOk (ND := ["land", "ward", "other", "folk"]) (sc := defScope st_gap_of) (by decide +kernel)) (pi_tup (pv 1)))
        (pe_gsum (k := 0) (N := ["place", "folk"]) (src := [none, some 3]) (vs := [0])
          ⟨fun B s H fp code hB => pg_name (i := 0) (by decide +kernel : (["place", "folk"] : List Str).Nodup) rfl (Or.inl rfl), fun B s H fp code hB => pts_nil, fun B s H fp code hB => pe_ix (ix_tupK (K := K) rfl) (pv 1) (pv 0) (fun _ _ => rfl)⟩
          (hr.mono (by decide)) rfl B.sum TB rfl (gOk (ND := ["land", "ward", "other", "folk"]) (sc := defScope st_gap_of) (by decide +kernel)) (pi_tup (pv 2)))) pa_nil)))), ?_⟩
    obtain ⟨a, rfl, h1⟩ := dp_lot hv
    obtain ⟨b, rfl, h1b⟩ := dp_lot hu
    obtain ⟨al, xl, rfl, h2, h3⟩ := dp_tup hl
    cases h3 with
    | cons hf h4 =>
    obtain ⟨af, rfl, h5⟩ := dp_ints hf
    refine ⟨_, rfl, al, _, _, _, rfl, rfl, h2, atI_nat (j := 0) rfl, ?_⟩
    dsimp only [gName, tSeq, List.set]
    refine ⟨_, rfl, a, rfl, ⟨_, h1⟩, hT, fun H2 hT2 => ?_⟩
    have x2 : Ext H H2 := Ext.tabbed hT hT2
    refine g_sumF (Ph := fun H4 => H4 = H2) (src_tup fun H4 e => by rw [e]; exact x2.sqT h1) (fun i => fs.getD (ps.getD i 0) 0) rfl (fun i H C hp2 hi k2 => ?_) fun H4 hp2 ns ens => ?_
    · subst hp2
      rw [getD_lot hi]
      rw [List.length_map] at hi
      have hm : ps.getD i 0 < fs.length := by
        rw [List.getD_eq_getElem?_getD, List.getElem?_eq_getElem hi]
        exact hp _ (List.getElem_mem hi)
      generalize ps.getD i 0 = pl at hm k2 ⊢
      have e : (fs.map V.int)[pl]? = some (V.int (fs.getD pl 0)) := by
        rw [List.getElem?_map, List.getElem?_eq_getElem hm, List.getD_eq_getElem?_getD, List.getElem?_eq_getElem hm]
        rfl
      exact ⟨rfl, _, rfl, _, rfl, af, _, _, _, rfl, rfl, x2.sqT h5, atI_nat e, k2 H rfl⟩
    · subst hp2
      rw [List.length_map, map_range_getD ps fun (p : Nat) => fs.getD p 0] at ens
      have ens := ints_inj ens
      subst ens
      refine ⟨_, rfl, b, rfl, ⟨_, x2.sqT h1b⟩, x2.tabs _ hT, fun H5 hT5 => ?_⟩
      have x5 := x2.trans (Ext.tabbed (x2.tabs _ hT) hT5)
      refine g_sumF (Ph := fun H4 => H4 = H5) (src_tup fun H4 e => by rw [e]; exact x5.sqT h1b) (fun i => fs.getD (qs.getD i 0) 0) rfl (fun i H C hp2 hi k2 => ?_) fun H6 hp2 ns' ens' => ?_
      · subst hp2
        rw [getD_lot hi]
        rw [List.length_map] at hi
        have hm : qs.getD i 0 < fs.length := by
          rw [List.getD_eq_getElem?_getD, List.getElem?_eq_getElem hi]
          exact hq _ (List.getElem_mem hi)
        generalize qs.getD i 0 = pl at hm k2 ⊢
        have e : (fs.map V.int)[pl]? = some (V.int (fs.getD pl 0)) := by
          rw [List.getElem?_map, List.getElem?_eq_getElem hm, List.getD_eq_getElem?_getD, List.getElem?_eq_getElem hm]
          rfl
        exact ⟨rfl, _, rfl, _, rfl, af, _, _, _, rfl, rfl, x5.sqT h5, atI_nat e, k2 H rfl⟩
      · subst hp2
        rw [List.length_map, map_range_getD qs fun (p : Nat) => fs.getD p 0] at ens'
        have ens' := ints_inj ens'
        subst ens'
        exact ⟨_, _, rfl, rfl, _, rfl, k H6 x5⟩
theorem dp_two {H : Hp} {v : V} {d1 d2 : PyData} (h : Dp K H v (.tuple [d1, d2])) : ∃ (t : Addr) (v1 v2 : V), v = .ref t ∧ SqT K H t [v1, v2] ∧ Dp K H v1 d1 ∧ Dp K H v2 d2 := by
  obtain ⟨t, us, rfl, ht, hus⟩ := dp_tup h
  cases hus with
  | cons g1 hus =>
    cases hus with
    | cons g2 hus =>
      cases hus
      exact ⟨t, _, _, rfl, ht, g1, g2⟩
/-! ### fairest -/
def gapM (fs : List Int) (m : Nat) : Int := gapI fs (Mk.bits fs.length m) (Mk.bits fs.length (rest fs.length m))
abbrev triD (fs : List Int) (m : Nat) : PyData := .tuple (.int (gapM fs m) :: wardsD fs.length m)
structure Best (fs : List Int) (ms : List Nat) (m : Nat) : Prop where
  mem : m ∈ ms
  least : ∀ m' ∈ ms, PySem.W.dataLt (triD fs m') (triD fs m) = false
theorem alike_tri (fs : List Int) (m m' : Nat) : PySem.W.alike (triD fs m) (triD fs m') = true := by
  simp only [triD, wardsD, PySem.W.alike, PySem.W.alikeAll, alike_lotD, Bool.and_self]
theorem noL_tri (fs : List Int) (m : Nat) : noL (triD fs m) = true := by
  show noLs _ = true
  rw [noLs, noLs, noL_lotD, noLs, noL_lotD]
  rfl
theorem depth_tri (fs : List Int) (m : Nat) : (triD fs m).depth ≤ 2 := by
  have h1 := depth_lotD (Mk.bits fs.length m)
  have h2 := depth_lotD (Mk.bits fs.length (rest fs.length m))
  simp only [triD, wardsD, PyData.depth, PyData.depthAll]
  omega
theorem bits_lt {n m : Nat} : ∀ p ∈ Mk.bits n m, p < n := fun p hp => (Mk.mem_bits.mp hp).1
def spFairest (K : PySem.W.Frag) (T1 T2 : Addr) : Sp := fun vs H Q _ => ∃ (l : V) (fs : List Int) (bs : List (Nat × Nat)) (a b : Nat), vs = [l, .int (a : Int), .int (b : Int)] ∧ Dp K H l (landD fs bs) ∧ LandOk fs bs ∧ a < fs.length ∧ b < fs.length ∧ a ≠ b ∧ TabG H T1 ∧ TabG H T2 ∧
  (partsOf fs.length bs a b = [] → ∀ H', Ext H H' → Q .non H') ∧ ∀ (v : V) (m : Nat) (H' : Hp), Ext H H' → Best fs (partsOf fs.length bs a b) m → Dp K H' v (triD fs m) → Q v H'
abbrev faN : List Str := ["land", "head", "other_head", "found", "ward", "other"]
theorem sc_fairest : FnScope faN ["land", "head", "other_head"] (defScope st_fairest) := ⟨rfl, rfl, rfl, by decide +kernel, rfl, by decide +kernel, by decide +kernel⟩
theorem ok_fairest {f T1 T2 : Addr} {fd : FuncData} (F : Fun K "fairest" "fairest" st_fairest f fd) (B : Bl mg) (c1 : Cal P w K mg base 5 "check_land" ["land"] (spFaultLand K)) (c2 : Cal P w K mg base 4 "check_heads" ["land", "head", "other_head"] (spCheckHeads K))
    (c3 : Cal P w K mg base 9 "partings" ["land", "head", "other_head"] (spPartings K T1)) (c4 : Cal P w K mg base 4 "gap_of" ["land", "ward", "other"] (spGapOf K T2)) : FnOk P w K mg base CX0 10 f fd ["land", "head", "other_head"] (spFairest K T1 T2) := by
  refine F.ok sc_fairest (fun vs H Q E h => ?_) (fun cdv A outer s H vs Q E hr h => ?_)
  · obtain ⟨l, fs, bs, a, b, rfl, _⟩ := h
    rfl
  · obtain ⟨l, fs, bs, a, b, rfl, hd, ok, ha, hb, hab, hT1, hT2, k0, k⟩ := h
    have nd := sc_fairest.nd
    refine ⟨_, pss_cons (ps_expr (pe_cal c1 (hr.mono (by decide)) rfl (pa_cons (pv 0) pa_nil)))
      (pss_cons (ps_expr (pe_cal c2 (hr.mono (by decide)) rfl (pa_cons (pv 0) (pa_cons (pv 1) (pa_cons (pv 2) pa_nil)))))
      (pss_cons (ps_set (i := 3) nd rfl (Or.inl rfl) (pe_cal c3 hr rfl (pa_cons (pv 0) (pa_cons (pv 1) (pa_cons (pv 2) pa_nil)))))
      (pss_one (ps_ret (pe_callBK (cr_minDt rfl hr.units) (by rfl) B.min (by decide +kernel)
        (pa_cons (pe_lc (own := [("ward", 4), ("other", 5)]) (g := L2.gTup K 2 (L2.gCons (gName 4) (L2.gCons (gName 5) L2.gNil))) (by rfl) nd (pi_list (pv 3)) (blkOk_by (own := [("ward", 4), ("other", 5)]) (N := faN) (sc := defScope st_fairest) (by decide +kernel))
          (fun _ _ _ _ _ => pg_tupK (K := K) rfl (by rfl) (pgs_cons (pg_name (i := 4) nd rfl (Or.inl rfl)) (pgs_cons (pg_name (i := 5) nd rfl (Or.inl rfl)) pgs_nil))) (fun _ _ _ _ _ => pts_nil)
          (fun _ _ _ _ _ => pe_tup (pa_cons (pe_cal c4 (hr.mono (by decide)) rfl (pa_cons (pv 0) (pa_cons (pv 4) (pa_cons (pv 5) pa_nil)))) (pa_cons (pv 4) (pa_cons (pv 5) pa_nil))))) pa_nil)
        (pk_cons pe_non pk_nil)))))), ?_⟩
    have hn := ok.most
    refine ⟨_, rfl, l, fs, bs, rfl, hd, ok, ?_⟩
    refine ⟨_, rfl, _, rfl, _, rfl, l, fs, bordD bs, a, b, rfl, hd, hn, ha, hb, hab, ?_⟩
    refine ⟨_, rfl, _, rfl, _, rfl, l, fs, bs, a, b, rfl, hd, hn, ok.bord, ha, hb, hT1, fun q ys H1 x1 hq0 hq hda => ?_⟩
    dsimp only [gName, tSeq, List.set]
    have hlen := dpAll_len hda
    have hpl : (partsOf fs.length bs a b).length ≤ 2 ^ fs.length - 1 := partsTo_len fs.length bs a b (2 ^ fs.length - 1)
    have hp12 : 2 ^ fs.length ≤ 2 ^ 12 := Nat.pow_le_pow_right (by decide) hn
    rw [List.length_map] at hlen
    have hms : ∀ m ∈ partsOf fs.length bs a b, m < 2 ^ fs.length := fun m hm => by
      have := (mem_partsOf.mp hm).1
      omega
    generalize partsOf fs.length bs a b = ms at *
    have hlm : ys.length ≤ 5000 := by rw [hlen]; exact Nat.le_trans hpl (by omega)
    refine ⟨_, rfl, q, rfl, ⟨_, SqL.of hq⟩, fun D hD => ?_⟩
    refine lc_list (K := K) (a := q) (xs := ys) (fun i H2 => ∃ zs : List V, H2 D = some (.lst zs) ∧ DpAll K H2 zs ((ms.take i).map (triD fs)) ∧ Ext H1 H2) ⟨[], upd_same, by rw [List.take_zero]; exact .nil, .new hD⟩ (fun i H2 _ ⟨_, _, _, x2⟩ => SqL.of (x2.lst hq)) (fun i y H2 hy ⟨zs, e2, hz, x2⟩ => ?_) (fun H2 ⟨zs, e2, hz, x2⟩ => ?_)
    · obtain ⟨d, hd1, hd2⟩ := dpAll_get' hda hy
      have hil : i < ys.length := (List.getElem?_eq_some_iff.mp hy).1
      rw [List.getElem?_map] at hd1
      obtain ⟨m, hm, rfl⟩ := Option.map_eq_some_iff.mp hd1
      obtain ⟨t, v1, v2, rfl, ht, g1, g2⟩ := dp_two hd2
      have hzl := dpAll_len hz
      rw [List.length_map, List.length_take] at hzl
      refine ⟨t, _, rfl, x2.sqT ht, rfl, _, _, rfl, _, _, rfl, rfl, rfl, ?_⟩
      dsimp only [tYes]
      rw [if_pos rfl]
      refine ⟨_, rfl, _, rfl, _, rfl, l, _, _, fs, bordD bs, _, _, rfl, dp_ext (x1.trans x2) hd, dp_ext x2 g1, dp_ext x2 g2, bits_lt, bits_lt, (x1.trans x2).tabs _ hT2, fun H3 x3 => ?_⟩
      refine ⟨_, rfl, _, rfl, by show 3 ≤ sizeLine; decide, fun p hp => ?_⟩
      have x4 : Ext H2 (upd H3 p (.tup [.int (gapI fs (Mk.bits fs.length m) (Mk.bits fs.length (rest fs.length m))), v1, v2])) := x3.trans (.new hp)
      have hpt : Dp K (upd H3 p (.tup [.int (gapI fs (Mk.bits fs.length m) (Mk.bits fs.length (rest fs.length m))), v1, v2])) (.ref p) (triD fs m) := .tup (SqT.of upd_same) (.cons (.int _) (.cons (dp_ext (x2.trans x4) g1) (.cons (dp_ext (x2.trans x4) g2) .nil)))
      have e4 := x4.lst e2
      have nl : noLs ((ms.take i).map (triD fs)) = true := noLs_map _ (noL_tri fs) _
      refine ⟨zs, e4, small5000 (by omega), zs ++ [.ref p], upd_same, ?_, (x2.trans x4).write hD⟩
      have et : ms.take (i + 1) = ms.take i ++ [m] := by rw [List.take_add_one, hm]; rfl
      rw [et, List.map_append]
      have xd : ExtS [D] (upd H3 p (.tup [.int (gapI fs (Mk.bits fs.length m) (Mk.bits fs.length (rest fs.length m))), v1, v2])) (upd (upd H3 p (.tup [.int (gapI fs (Mk.bits fs.length m) (Mk.bits fs.length (rest fs.length m))), v1, v2])) D (.lst (zs ++ [.ref p]))) := (ExtS.refl _ _).write (.inr ⟨by simp, _, e4⟩)
      exact dpAll_app (dpAll_extS xd nl (dpAll_ext x4 hz)) (.cons (dp_extS xd (noL_tri fs m) hpt) .nil)
    · rw [hlen, List.take_length] at hz
      refine ⟨D, zs, _, rfl, rfl, SqL.of e2, hz, ⟨fun d hd d' hd' => ?_, fun d hd => ?_⟩, depthAll_le fun d hd => ?_, fun e => ?_, fun x d hx hdm hxd hle => ?_⟩
      · obtain ⟨m, _, rfl⟩ := List.mem_map.mp hd
        obtain ⟨m', _, rfl⟩ := List.mem_map.mp hd'
        exact alike_tri fs m m'
      · obtain ⟨m, _, rfl⟩ := List.mem_map.mp hd
        exact fun z => nomatch z
      · obtain ⟨m, _, rfl⟩ := List.mem_map.mp hd
        have := depth_tri fs m
        omega
      · exact k0 (List.map_eq_nil_iff.mp e) H2 (x1.trans x2)
      · obtain ⟨m, hm, rfl⟩ := List.mem_map.mp hdm
        exact k x m H2 (x1.trans x2) ⟨hm, fun m' hm' => hle _ (List.mem_map.mpr ⟨m', hm', rfl⟩)⟩ hxd
end
end Wd

set_option Elab.async false
set_option linter.all false
set_option maxRecDepth 100000
set_option maxHeartbeats 4000000
namespace Wd
open PySem PySem.Spec PyProof.Rows L2 Bx Gx



































section
/-! ### the fairest parting is one -/
theorem eqvAll_ints : ∀ {u v : List Nat}, PyData.eqvAll (u.map fun (p : Nat) => PyData.int (p : Int)) (v.map fun (p : Nat) => PyData.int (p : Int)) = true → u = v
  | [], [], _ => rfl
  | [], _ :: _, h => by simp [PyData.eqvAll] at h
  | _ :: _, [], h => by simp [PyData.eqvAll] at h
  | a :: u, b :: v, h => by
    rw [List.map_cons, List.map_cons, PySem.W.eqv_all_cons, Bool.and_eq_true] at h
    have e : a = b := by
      have := h.1
      simp [PyData.eqv] at this
      omega
    rw [e, eqvAll_ints h.2]
theorem eqv_lotD {u v : List Nat} (h : PyData.eqv (lotD u) (lotD v) = true) : u = v := by
  refine eqvAll_ints ?_
  unfold lotD at h
  simpa [PyData.eqv] using h
theorem eqv_tri {fs : List Int} {m m' : Nat} (h : PyData.eqv (triD fs m) (triD fs m') = true) : triD fs m = triD fs m' := by
  have h2 : PyData.eqvAll (.int (gapM fs m) :: wardsD fs.length m) (.int (gapM fs m') :: wardsD fs.length m') = true := by simpa [PyData.eqv] using h
  rw [PySem.W.eqv_all_cons, Bool.and_eq_true] at h2
  obtain ⟨h1, h2⟩ := h2
  rw [PySem.W.eqv_all_cons, Bool.and_eq_true] at h2
  obtain ⟨h3, h2⟩ := h2
  rw [PySem.W.eqv_all_cons, Bool.and_eq_true] at h2
  have e1 : gapM fs m = gapM fs m' := by simpa [PyData.eqv] using h1
  have e2 := eqv_lotD h3
  have e3 := eqv_lotD h2.1
  show PyData.tuple [.int (gapM fs m), lotD (Mk.bits fs.length m), lotD (Mk.bits fs.length (rest fs.length m))] = PyData.tuple [.int (gapM fs m'), lotD (Mk.bits fs.length m'), lotD (Mk.bits fs.length (rest fs.length m'))]
  rw [e1, e2, e3]
theorem Best.uniq {fs : List Int} {ms ns : List Nat} {m m' : Nat} (h : Best fs ms m) (h' : Best fs ns m') (hp : ∀ x, x ∈ ms ↔ x ∈ ns) : triD fs m = triD fs m' :=
  eqv_tri (lt_tri (alike_tri fs m m') (h'.least m ((hp m).mp h.mem)) (h.least m' ((hp m').mpr h'.mem)))
theorem tri_ne {fs : List Int} {m m' : Nat} (h : gapM fs m ≠ gapM fs m') : PySem.W.dataLt (triD fs m) (triD fs m') = decide (gapM fs m < gapM fs m') := by
  rw [PySem.W.dataLt_tuple, PySem.W.dataLt_all_no (by simp [PySem.W.alike]) (by simp [PyData.eqv]; omega), PySem.W.dataLt_int]
theorem tri_eq {fs : List Int} {m m' : Nat} (h : gapM fs m = gapM fs m') : PySem.W.dataLt (triD fs m) (triD fs m') = PySem.W.dataLt (partD fs.length m) (partD fs.length m') := by
  rw [PySem.W.dataLt_tuple, PySem.W.dataLt_all_yes (by simp [PySem.W.alike]) (by simp [PyData.eqv, h]), PySem.W.dataLt_tuple]
theorem gap_le {fs : List Int} {m m' : Nat} (h : PySem.W.dataLt (triD fs m') (triD fs m) = false) : gapM fs m ≤ gapM fs m' := by
  by_cases e : gapM fs m' = gapM fs m
  · omega
  · rw [tri_ne e, decide_eq_false_iff_not] at h
    omega
/-- what the law holds as due, behind some of the partings -/
def Due (K : PySem.W.Frag) (H : Hp) (fs : List Int) (ms : List Nat) (v : V) : Prop := (ms = [] ∧ v = .non) ∨ ∃ m, Best fs ms m ∧ Dp K H v (triD fs m)
theorem best_one (fs : List Int) (m : Nat) : Best fs [m] m := ⟨List.mem_cons_self, fun m' h => by rw [List.mem_singleton.mp h]; exact lt_irr _⟩
theorem Best.less {fs : List Int} {ms : List Nat} {m x : Nat} (h : Best fs ms m) (hx : gapM fs x < gapM fs m) : Best fs (ms ++ [x]) x := by
  have hlt : PySem.W.dataLt (triD fs x) (triD fs m) = true := by rw [tri_ne (by omega)]; exact decide_eq_true hx
  refine ⟨List.mem_append.mpr (.inr List.mem_cons_self), fun m' hm => ?_⟩
  rcases List.mem_append.mp hm with z | z
  · exact lt_neg (lt_asym hlt) (h.least m' z)
  · rw [List.mem_singleton.mp z]
    exact lt_irr _
theorem Best.keep {fs : List Int} {ms : List Nat} {m x : Nat} (h : Best fs ms m) (hx : ¬ gapM fs x < gapM fs m) (hs : PySem.W.dataLt (partD fs.length x) (partD fs.length m) = false) : Best fs (ms ++ [x]) m := by
  refine ⟨List.mem_append.mpr (.inl h.mem), fun m' hm => ?_⟩
  rcases List.mem_append.mp hm with z | z
  · exact h.least m' z
  · rw [List.mem_singleton.mp z]
    by_cases e : gapM fs x = gapM fs m
    · rw [tri_eq e]; exact hs
    · rw [tri_ne e]; exact decide_eq_false hx
theorem IsPart.swap {n : Nat} {bs : List (Nat × Nat)} {a b m : Nat} (hm : m < 2 ^ n) (ha : a < n) (hb : b < n) (h : IsPart n bs a b m) : IsPart n bs b a (rest n m) := by
  have h1 : (rest n m).testBit b = true := by rw [bit_rest hb, h.two]; rfl
  refine ⟨Nat.pos_of_ne_zero fun z => ?_, h1, by rw [bit_rest ha, h.one]; rfl, h.hang2, by rw [rest_rest hm]; exact h.hang⟩
  rw [z, Nat.zero_testBit] at h1
  cases h1
theorem mem_swap {n : Nat} {bs : List (Nat × Nat)} {a b m : Nat} (ha : a < n) (hb : b < n) (h : m ∈ partsOf n bs a b) : rest n m ∈ partsOf n bs b a := by
  obtain ⟨h1, h2⟩ := mem_partsOf.mp h
  have hm : m < 2 ^ n := by omega
  refine mem_partsOf.mpr ⟨?_, h2.swap hm ha hb⟩
  rw [← rest_eq hm]
  have := h2.pos
  omega
theorem gap_swap {fs : List Int} {m : Nat} (hm : m < 2 ^ fs.length) : gapM fs (rest fs.length m) = gapM fs m := by
  unfold gapM gapI absI
  rw [rest_rest hm]
  split <;> split <;> omega
theorem best_swap {fs : List Int} {bs : List (Nat × Nat)} {a b m m' : Nat} (ha : a < fs.length) (hb : b < fs.length) (h : Best fs (partsOf fs.length bs a b) m) (h' : Best fs (partsOf fs.length bs b a) m') : gapM fs m' = gapM fs m := by
  have hm : m < 2 ^ fs.length := by have := (mem_partsOf.mp h.mem).1; omega
  have hm' : m' < 2 ^ fs.length := by have := (mem_partsOf.mp h'.mem).1; omega
  have g1 := gap_le (h'.least _ (mem_swap ha hb h.mem))
  have g2 := gap_le (h.least _ (mem_swap hb ha h'.mem))
  rw [gap_swap hm] at g1
  rw [gap_swap hm'] at g2
  omega
theorem none_swap {n : Nat} {bs : List (Nat × Nat)} {a b : Nat} (ha : a < n) (hb : b < n) (h : partsOf n bs a b = []) : partsOf n bs b a = [] := by
  refine List.eq_nil_iff_forall_not_mem.mpr fun m hm => ?_
  have := mem_swap hb ha hm
  rw [h] at this
  cases this
/-! ### a land's size as repr tells it -/
theorem rp_pair {i j : Nat} (hi : i < 100) (hj : j < 100) : Rp 1 82 (.tuple [.int (i : Int), .int (j : Int)]) := .tup (n := 0) (W := 40) (fun d hd => by
  simp only [List.mem_cons, List.not_mem_nil, or_false] at hd
  rcases hd with rfl | rfl
  · exact .int (by omega) (by omega)
  · exact .int (by omega) (by omega)) (Nat.le_refl _)
theorem rp_land {fs : List Int} {bs : List (Nat × Nat)} (ok : LandOk fs bs) : Rp 3 300000 (landD fs bs) := by
  have hl := bs_len ok.most ok.bord ok.asc
  have hm := ok.most
  refine .tup (n := 2) (W := 100000) (fun d hd => ?_) (by simp only [List.length_cons, List.length_nil]; omega)
  simp only [List.mem_cons, List.not_mem_nil, or_false] at hd
  rcases hd with rfl | rfl
  · refine (Rp.tup (n := 0) (W := 40) (V := 100000) (fun d hd => ?_) (by rw [List.length_map]; omega)).mono (by decide) (Nat.le_refl _)
    obtain ⟨i, hi, rfl⟩ := List.mem_map.mp hd
    obtain ⟨h1, h2⟩ := ok.folk i hi
    exact .int (by omega) (by omega)
  · refine Rp.tup (n := 1) (W := 82) (fun d hd => ?_) (by rw [List.length_map]; omega)
    obtain ⟨b, hb, rfl⟩ := List.mem_map.mp hd
    have := ok.bord b hb
    exact rp_pair (by omega) (by omega)
end
end Wd

set_option Elab.async false
set_option linter.all false
set_option maxRecDepth 100000
set_option maxHeartbeats 4000000
/-! Gd: the law's own def, run by the caller of laws, around whom nothing is being shown (repr asks that). -/
namespace Gd
open PySem PySem.Spec PyProof.Rows L2
/-- a promise of the law's def at its caller -/
def RunC (P : Program) (w : World) (K : PySem.W.Frag) (mg : Str → Option Value) (base : Heap) (f : Addr) (fd : FuncData) (x : Str) (sp : Sp) : Prop :=
  ∀ (s : Shared) (H : Hp) (u : Value) (v : V) (Q : VK), Env0 P w K mg base callerA [] s H → BindsTo s fd ⟨[u], []⟩ [(x, u)] → RelV v u → sp [v] H Q E0 →
    codeAny (model P w) callerA (.call (.ref f) ⟨[u], []⟩) (CR CX0 [] P w H s Q E0) s
section
variable {P : Program} {w : World} {K : PySem.W.Frag} {mg mb : Str → Option Value} {base : Heap}
theorem Fun.runC {x qual : Str} {st : Stmt} {f : Addr} {fd : FuncData} {N : List Str} {k : Nat} {y : Str} {sp : Sp} (F : Fun K x qual st f fd) (S : FnScope N [y] (defScope st)) (hk : Room (k + 1) callerA)
    (hbody : ∀ (cdv : Value) (s : Shared) (H : Hp) (v : V) (Q : VK), Room k (callerA.deeper (envOfC qual (defScope st) s.heap.objs.size f cdv)) → (callerA.deeper (envOfC qual (defScope st) s.heap.objs.size f cdv)).guards = some [] → sp [v] H Q E0 →
      ∃ t, PSs (cxOf CX0 P w K mg base N qual (defScope st) f cdv callerA [] s H E0).nox (defBody st) t ∧ t { nx := fun _ H' => Q .non H', rt := Q } (start N [v]) H) : RunC P w K mg base f fd y sp := by
  obtain ⟨oc, od, kV, doc, pm, an, cdv, ct, osl, rfl, lk, hcd⟩ := F.ex
  intro s H u v Q env bind rel promise
  have stays : ∀ b o, base.get? b = some o → s.heap.get? b = some o := fun b o e => (env.bs b o e).1
  have inK := env.mod.kin.keeps stays
  have kinds : ∀ z ∈ [(y, u)], (defScope st).names.lookup z.1 = some .local ∨ ((defScope st).names.lookup z.1 = some .cell ∧ ((cellsFrom (s.heap.objs.size + 1) (defScope st).names []).lookup z.1).isSome = true) := fun z hz => by
    rw [List.mem_singleton.mp hz]
    exact (S.par y List.mem_cons_self).elim .inl fun q => .inr ⟨q, PySem.W.cellsFrom_some _ _ _ (.inl q)⟩
  refine codeAny_call_function hk.depth (inK _ _ lk) rfl S.co S.gen rfl (PySem.W.codeRec_of inK hcd) (bind _ _ _ _ (wpAny_newFunctionEnv_cells S.kind kinds fun ev he s1 laid => ?_))
  subst he
  refine ⟨(env.mod.nolimit.keeps stays).keeps laid.toInCall.keep, codeAny_func ?_⟩
  obtain ⟨t, reads, holds⟩ := hbody cdv s H v Q (hk.deeper _) rfl promise
  have I : Inv (cxOf CX0 P w K mg base N qual (defScope st) f cdv callerA [] s H E0) [] (start N [v]) H s1 := inv_start S rfl env rfl (.cons rel .nil) laid
  refine wpAny_mono (reads.nox.run [] s1 (start N [v]) H _ I holds) (fun fl s' hs => ?_) fun _ _ z => z
  match fl, hs with
  | .ret _, ⟨_, _, _, J, r, q⟩ => exact ⟨_, _, J.os, J.bare, J.base, J.hok, r, q⟩
  | .next, ⟨_, H', J, q⟩ => exact (⟨V.non, H', J.os, J.bare, J.base, J.hok, rfl, q⟩ : CE [] P w H s Q Value.none s')
  | .brk, ⟨_, _, _, q⟩ => exact False.elim q
  | .cont, ⟨_, _, _, q⟩ => exact False.elim q

/-- the heap in which the tables and, if the written part lacks it, the script are followed -/
noncomputable def stage (K : PySem.W.Frag) (cs : List Addr) (a : Addr) (lo : Obj) (xs : List V) : Hp := fun b => open Classical in
  if b ∈ cs then some (.tbl #[]) else if b = a ∧ K.lookup a = none then some (.frz lo (.lst xs)) else none
theorem stage_tab {cs : List Addr} {a b : Addr} {lo : Obj} {xs : List V} (h : b ∈ cs) : stage K cs a lo xs b = some (.tbl #[]) := if_pos h
theorem stage_at {cs : List Addr} {a : Addr} {lo : Obj} {xs : List V} (h : a ∉ cs) (k : K.lookup a = none) : stage K cs a lo xs a = some (.frz lo (.lst xs)) := (if_neg h).trans (if_pos ⟨rfl, k⟩)
theorem stage_inv {cs : List Addr} {a b : Addr} {lo : Obj} {xs : List V} {u : HO} (h : stage K cs a lo xs b = some u) : (b ∈ cs ∧ u = .tbl #[]) ∨ (b ∉ cs ∧ b = a ∧ K.lookup a = none ∧ u = .frz lo (.lst xs)) := by
  unfold stage at h
  split at h
  · next m => exact .inl ⟨m, (Option.some.inj h).symm⟩
  · next m =>
    split at h
    · next m2 => exact .inr ⟨m, m2.1, m2.2, (Option.some.inj h).symm⟩
    · cases h
theorem stage_off {cs : List Addr} {a b : Addr} {lo : Obj} {xs : List V} (h : b ∉ cs) (k : b ≠ a) : stage K cs a lo xs b = none := (if_neg h).trans (if_neg fun z => k z.1)
abbrev listOf (us : List Value) : Obj := { cls := .type "list", data := .seq us.toArray }
abbrev bareTab : Obj := { cls := .none, data := .fields #[] }
theorem law_run {fa a : Addr} {cs : List (Addr × Addr)} {fd : FuncData} {x : Str} {sp : Sp} {s : Shared} {us : List Value} {ns : List Int} (inK : K.In s.heap) (nsG : s.heap.Ns mainGlobals mg) (nsB : s.heap.Ns builtinsNs mb) (boot : ∀ y : Str, y ≠ "__name__" → mb y = bootBuiltins y) (lim : s.heap.NoLimit)
    (gens : s.gens = #[]) (tabs : ∀ p ∈ cs, s.heap.get? p.2 = some bareTab) (tabK : ∀ p ∈ cs, K.lookup p.2 = none) (codes : ∀ p ∈ cs, PySem.W.CodeHd s.heap p.1 p.2)
    (bmod : ∃ (m : Addr) (o : Obj), mg "__builtins__" = some (.ref m) ∧ m ≠ builtinsNs ∧ s.heap.get? m = some o ∧ o.cls = .type "module" ∧ o.dict = some builtinsNs ∧ o.data = .plain)
    (list : s.heap.get? a = some (listOf us)) (cells : IntsAre us ns) (few : ns.length ≤ sizeLine)
    (F : ∀ base : Heap, K.In base → base.Ns mainGlobals mg → (∀ p ∈ cs, Gx.TabB base mg p.1 p.2) → RunC P w K mg base fa fd x sp) (bind : ∀ (s' : Shared) (u : Value), BindsTo s' fd ⟨[u], []⟩ [(x, u)])
    (promise : ∀ H : Hp, (∀ p ∈ cs, H p.2 = some (.tbl #[])) → SqL K H a (ns.map V.int) → sp [.ref a] H (fun v _ => v = .bl true) E0) :
    codeAny (model P w) callerA (.call (.ref fa) ⟨[.ref a], []⟩) (fun r s' => r = .ok (.ret (.bool true)) ∧ OldK s.heap s'.heap ∧ s'.os = s.os ∧ AllBare s'.gens) s := by
  have rv := vals_ints cells
  have lens := cells.length
  -- what is followed: a bare table or the list, no other kind of object
  obtain ⟨H, eH⟩ : ∃ H, H = stage K (cs.map (·.2)) a (listOf us) (ns.map V.int) := ⟨_, rfl⟩
  have tabOf : ∀ b ∈ cs.map (·.2), ∃ p ∈ cs, p.2 = b := fun b hb => let ⟨p, hp, e⟩ := List.mem_map.mp hb; ⟨p, hp, e⟩
  have tabAt : ∀ b ∈ cs.map (·.2), s.heap.get? b = some bareTab := fun b hb => let ⟨p, hp, e⟩ := tabOf b hb; e ▸ tabs p hp
  have aNot : a ∉ cs.map (·.2) := fun z => by
    have := (tabAt a z).symm.trans list
    simp only [Option.some.injEq, Obj.mk.injEq] at this
    cases this.1
  have at_ : ∀ {b : Addr} {u : HO}, H b = some u → (b ∈ cs.map (·.2) ∧ u = .tbl #[]) ∨ (b ∉ cs.map (·.2) ∧ b = a ∧ K.lookup a = none ∧ u = .frz (listOf us) (.lst (ns.map V.int))) := fun {b u} e => by rw [eH] at e; exact stage_inv e
  have free : ∀ {b : Addr} {o : Obj}, s.heap.get? b = some o → o.data ≠ .fields #[] → (∀ ys n, o.data ≠ .seq ys n) → H b = none := fun {b o} e d1 d2 => by
    cases q : H b with
    | none => rfl
    | some u =>
      rcases at_ q with ⟨m, _⟩ | ⟨_, rfl, _, _⟩
      · rw [tabAt b m] at e
        cases e
        exact absurd rfl d1
      · rw [list] at e
        cases e
        exact absurd rfl (d2 _ _)
  have names : ∀ {b : Addr} {m : Str → Option Value}, s.heap.Ns b m → (hidT s.heap H).Ns b m := fun {b m} ⟨o, es, ep, e, d, r⟩ => ⟨o, es, ep, hidT_get e (free e (by rw [d]; nofun) (by rw [d]; nofun)), d, r⟩
  have below : K.In (hidT s.heap H) := fun b o e => by
    refine hidT_get (inK b o e) ?_
    cases q : H b with
    | none => rfl
    | some u =>
      rcases at_ q with ⟨m, _⟩ | ⟨_, rfl, k, _⟩
      · obtain ⟨p, hp, rfl⟩ := tabOf b m
        rw [tabK p hp] at e
        cases e
      · rw [k] at e
        cases e
  have mod : L2.Mod K mg (hidT s.heap H) := by
    obtain ⟨m, l1, l2⟩ := lim
    exact ⟨below, names nsG, ⟨mb, names nsB, boot⟩, m, names l1, l2⟩
  have tb : ∀ p ∈ cs, Gx.TabB (hidT s.heap H) mg p.1 p.2 := fun p hp => by
    obtain ⟨o, ys, f1, f2, f3, f4, f5, f6, f7, c1, c2, c3, c4, rest⟩ := codes p hp
    obtain ⟨m, ob, b1, b2, b3, b4, b5, b6⟩ := bmod
    refine ⟨⟨o, ys, f1, f2, f3, f4, f5, f6, f7, hidT_get c1 (free c1 (fun z => ?_) (by rw [c3]; nofun)), c2, c3, c4, rest⟩, ⟨m, ob, b1, b2, fun z => ?_, fun z => ?_, hidT_get b3 (free b3 (by rw [b6]; nofun) (by rw [b6]; nofun)), b4, b5, b6⟩, fun z => ?_⟩
    · rw [c3] at z
      cases z
      simp at c4
    · obtain ⟨og, es, ep, e, d, _⟩ := nsG
      rw [← z, b3] at e
      cases e
      rw [b6] at d
      cases d
    · rw [z, tabs p hp] at b3
      cases b3
      cases b6
    · obtain ⟨og, es, ep, e, d, _⟩ := nsG
      rw [z, tabs p hp] at e
      cases e
      cases d
  have hok : HOk P w H s.heap := fun b u q => by
    rcases at_ q with ⟨m, rfl⟩ | ⟨_, rfl, _, rfl⟩
    · exact tabAt b m
    · exact ⟨list, by rw [List.length_map]; exact few, us, _, rv, list⟩
  have env : Env0 P w K mg (hidT s.heap H) callerA [] s H := ⟨rfl, mod, fun b o e => of_hidT e, Nat.le_of_eq (hidT_size _ _), trivial, (fun b z => nomatch z), hok, .of_eq gens⟩
  have script : SqL K H a (ns.map V.int) := by
    cases k : K.lookup a with
    | none => exact .inl (.inr ⟨listOf us, by rw [eH]; exact stage_at aNot k⟩)
    | some o =>
      have e := inK a o k
      rw [list] at e
      cases e
      exact .inr ⟨_, us.toArray, _, k, rfl, rfl, rfl, by rw [List.size_toArray, lens]; exact few, by simpa using rv⟩
  refine codeAny_mono (F _ below (names nsG) tb s H (.ref a) (.ref a) _ env (bind s _) rfl (promise H (fun p hp => by rw [eH]; exact stage_tab (List.mem_map.mpr ⟨p, hp, rfl⟩)) script)) fun r s' h => ?_
  match r, h with
  | .ok (.ret u), h =>
    obtain ⟨v, H', os, bare, un, hok', rel, rfl⟩ := (show CE [] P w H s (fun v _ => v = .bl true) u s' from h)
    obtain rfl : u = Value.bool true := rel
    have kept : ∀ b o, b ∉ cs.map (·.2) → s.heap.get? b = some o → s'.heap.get? b = some o := fun b o nb e => by
      cases q : H b with
      | none => exact un.keep b o e q (fun z => nomatch z) (fun z => nomatch z)
      | some u =>
        rcases at_ q with ⟨m, _⟩ | ⟨_, rfl, _, rfl⟩
        · exact absurd m nb
        · rw [list] at e
          rw [← e]
          exact (hok' _ _ (un.frzs _ _ _ q)).1
    have more : ∀ b ∈ cs.map (·.2), ∃ zs : Array Value, s'.heap.get? b = some { cls := .none, data := .fields zs } := fun b hb => by
      obtain ⟨zs, e⟩ := un.tbls b #[] (by rw [eH]; exact stage_tab hb)
      exact ⟨_, hok' b _ e⟩
    refine ⟨rfl, ⟨fun b o e => ?_, fun b o e => ?_⟩, os, bare⟩
    · by_cases hb : b ∈ cs.map (·.2)
      · obtain ⟨p, hp, rfl⟩ := tabOf b hb
        obtain ⟨zs, z⟩ := more _ hb
        have e2 := tabs p hp
        rw [e2] at e
        cases e
        exact .inr (.inl ⟨((codes p hp).tab e2).isCodeTable, rfl, #[], zs, rfl, by rw [Array.empty_append]; exact z⟩)
      · exact .inl (kept b o hb e)
    · by_cases hb : b ∈ cs.map (·.2)
      · obtain ⟨zs, z⟩ := more b hb
        exact ⟨_, z⟩
      · exact ⟨o, kept b o hb e⟩
  | .ok .next, h => exact False.elim h
  | .ok .brk, h => exact False.elim h
  | .ok .cont, h => exact False.elim h
  | .error e, h => exact False.elim h
end
/-- what the head has to say of the law's def -/
def LawC (l : PySem.W.OpenLaw) (w : World) (K : PySem.W.Frag) (n : Nat) (x : Str) (mg : Str → Option Value) (fa : Addr) (h : Heap) : Prop :=
  ∃ (fd : FuncData) (cs : List (Addr × Addr)) (sp : Sp), (∀ p ∈ cs, h.get? p.2 = some bareTab) ∧ (∀ p ∈ cs, K.lookup p.2 = none) ∧ (∀ p ∈ cs, PySem.W.CodeHd h p.1 p.2) ∧ (∀ (s : Shared) (u : Value), BindsTo s fd ⟨[u], []⟩ [(x, u)]) ∧
    (∀ (H : Hp) (a : Addr) (ns : List Int), ns.length ≤ n → (∀ p ∈ cs, H p.2 = some (.tbl #[])) → SqL K H a (ns.map V.int) → sp [.ref a] H (fun v _ => v = .bl true) E0) ∧
    ∀ base : Heap, K.In base → base.Ns mainGlobals mg → (∀ p ∈ cs, Gx.TabB base mg p.1 p.2) → RunC l.prog w K mg base fa fd x sp
theorem walk_C {l : PySem.W.OpenLaw} {n : Nat} {q : Program} {loose : List Str} {XP : (Str → Option Value) → Heap → Prop} {YP : World → Heap → Prop} {d : DefRec} {x : Str} (most : l.most = some n) (small : n ≤ sizeLine) (plain : d.params.defaults = [])
    (F : ∀ (w : World) (mg : Str → Option Value) (fa : Addr) (h : Heap), YP w h → h.Ns mainGlobals mg → mg d.name = some (.ref fa) → ∃ K : PySem.W.Frag, K.In h ∧ LawC l w K n x mg fa h) :
    PySem.W.WalkO q loose XP YP l.row.toRowW d [] (fun f vs => PySem.call f vs) := by
  refine Att.attach_callB most plain fun w _ s mg _ fa _ _ _ _ a us ns G Y _ _ _ named list cells len _ gens => ?_
  obtain ⟨K, inK, fd, cs, sp, t1, t2, t3, bind, promise, F'⟩ := F w mg fa _ Y G.T.g named
  exact law_run inK G.T.g G.T.b G.T.builtins G.T.nolimit gens t1 t2 t3 G.T.bmain list cells (Nat.le_trans len small) F' bind fun H t i => promise H a ns len t i
end Gd

set_option Elab.async false
set_option linter.all false
set_option maxRecDepth 100000
set_option maxHeartbeats 4000000
namespace Wd
open PySem PySem.Spec PyProof.Rows L2 Bx Gx



































section
variable {P : Program} {w : World} {K : PySem.W.Frag} {mg : Str → Option Value} {base : Heap}
/-! ### the law -/
theorem shown_ne {x y : Str} (h : x = y) : (!decide (V.str x = V.str y)) = false := by rw [h, decide_eq_true rfl]; rfl
theorem sh_lotD (n : Nat) (u : List Nat) : Sh (n + 2) (lotD u) := .tup fun d hd => by
  obtain ⟨p, _, rfl⟩ := List.mem_map.mp hd
  exact .int _ _
theorem smD_lotD {u : List Nat} (h : u.length ≤ 500) : smD (lotD u) = true := by
  have hz : ∀ l : List Nat, smDs (l.map fun (p : Nat) => PyData.int (p : Int)) = true := fun l => by
    induction l with
    | nil => rfl
    | cons p r ih => rw [List.map_cons, smDs, ih]; rfl
  unfold lotD
  rw [smD, hz, List.length_map, decide_eq_true h]
  rfl
theorem sh_tri (fs : List Int) (m : Nat) : Sh 3 (triD fs m) := .tup fun d hd => by
  simp only [List.mem_cons, List.not_mem_nil, or_false] at hd
  rcases hd with rfl | rfl | rfl
  · exact .int _ _
  · exact sh_lotD 0 _
  · exact sh_lotD 0 _
theorem smD_tri {fs : List Int} (h : fs.length ≤ 12) (m : Nat) : smD (triD fs m) = true := by
  have b1 := Mk.bits_len fs.length m
  have b2 := Mk.bits_len fs.length (rest fs.length m)
  simp only [triD, wardsD, smD, smDs, smD_lotD (show (Mk.bits fs.length m).length ≤ 500 by omega), smD_lotD (show (Mk.bits fs.length (rest fs.length m)).length ≤ 500 by omega)]
  rfl
def spLaw (K : PySem.W.Frag) (ts : List Addr) : Sp := fun vs H Q _ => ∃ (a : Addr) (ns : List Int), vs = [.ref a] ∧ SqL K H a (ns.map V.int) ∧ ns.length ≤ 63 ∧ Tabs ts H ∧ ∀ H', Q (.bl true) H'
theorem fair_by {T1 T2 : Addr} {l : V} {fs : List Int} {bs : List (Nat × Nat)} {a b : Nat} {H : Hp} {Q : VK} {E : XK} (hd : Dp K H l (landD fs bs)) (ok : LandOk fs bs) (ha : a < fs.length) (hb : b < fs.length) (hab : a ≠ b) (hT : Tabs [T1, T2] H)
    (k : ∀ (v : V) (H' : Hp), Ext H H' → Due K H' fs (partsOf fs.length bs a b) v → Q v H') : spFairest K T1 T2 [l, .int (a : Int), .int (b : Int)] H Q E :=
  ⟨l, fs, bs, a, b, rfl, hd, ok, ha, hb, hab, hT _ (by simp), hT _ (by simp), fun e H' x => k _ H' x (.inl ⟨e, rfl⟩), fun v m H' x hB hv => k v H' x (.inr ⟨m, hB, hv⟩)⟩
theorem Due.ext {H H' : Hp} {fs : List Int} {ms : List Nat} {v : V} (h : Due K H fs ms v) (x : Ext H H') : Due K H' fs ms v := h.elim .inl fun ⟨m, h1, h2⟩ => .inr ⟨m, h1, dp_ext x h2⟩
/-- the data that a value stands for which is due -/
theorem Due.data {H : Hp} {fs : List Int} {ms : List Nat} {v : V} (h : Due K H fs ms v) : ∃ d, Dp K H v d ∧ (d = .none ∨ ∃ m, d = triD fs m) ∧ ∀ (H' : Hp) (ns : List Nat) (u : V), Due K H' fs ns u → (∀ x, x ∈ ms ↔ x ∈ ns) → Dp K H' u d := by
  rcases h with ⟨rfl, rfl⟩ | ⟨m, hB, hv⟩
  · refine ⟨.none, .non, .inl rfl, fun H' ns u hu he => ?_⟩
    rcases hu with ⟨_, rfl⟩ | ⟨m, hB, _⟩
    · exact .non
    · exact nomatch (he m).mpr hB.mem
  · refine ⟨_, hv, .inr ⟨m, rfl⟩, fun H' ns u hu he => ?_⟩
    rcases hu with ⟨rfl, _⟩ | ⟨m', hB', hu⟩
    · exact nomatch (he m).mp hB.mem
    · rw [hB.uniq hB' he]
      exact hu
abbrev lawN : List Str := ["script", "sack", "turn", "told", "one", "other", "kept", "due", "ward", "rest", "k", "gap", "back"]
theorem sc_law : FnScope lawN ["script"] (defScope st_law) := ⟨rfl, rfl, rfl, by decide +kernel, rfl, by decide +kernel, by decide +kernel⟩
theorem ok_law {f T1 T2 : Addr} {fd : FuncData} (F : Fun K "law" "law" st_law f fd) (B : Bl mg) (hab : mg "abs" = none) (hrp : mg "repr" = none) (hk : Room 12 callerA) (c1 : Cal P w K mg base 1 "_law_sack" ["script"] (spSack K)) (cg : Cal P w K mg base 1 "_law_grab" ["sack", "many"] (spGrab K)) (c3 : Cal P w K mg base 3 "_law_land" ["sack", "most"] (spLandS K))
    (ch : Cal P w K mg base 2 "_law_heads" ["sack", "told"] (spHeads K)) (cp : Cal P w K mg base 2 "_law_partings" ["told", "one", "other"] (spLParts K)) (cs : Cal P w K mg base 5 "_law_same" ["found", "due"] (spAlike K 4))
    (f1 : Cal P w K mg base 10 "fairest" ["land", "head", "other_head"] (spFairest K T1 T2)) (f2 : CalK P w K mg base 10 "fairest" ["land", "head", "other_head"] ["other_head", "head", "land"] rev3 (spFairest K T1 T2)) : Gd.RunC P w K mg base f fd "script" (spLaw K [T1, T2]) := by
  refine Gd.Fun.runC (k := 11) F sc_law hk (fun cdv s H v Q hr hgd h => ?_)
  obtain ⟨a, ns, ev, hS, hlen, hT, k⟩ := h
  obtain rfl : v = .ref a := by injection ev
  have hr1 := hr.mono (j := 1) (by decide)
  have hr2 := hr.mono (j := 2) (by decide)
  have hr3 := hr.mono (j := 3) (by decide)
  have hr5 := hr.mono (j := 5) (by decide)
  have hr10 := hr.mono (j := 10) (by decide)
  have nd := sc_law.nd
  refine ⟨_, pss_cons (ps_set (i := 1) nd rfl (Or.inl rfl) (pe_cal c1 hr1 rfl (pa_cons (pv 0) pa_nil)))
    (pss_cons (ps_for PassesOwn.never rfl (pi_range1 rfl B.range (pa_cons (pe_op op_add pe_int (pe_callB (call_min2 rfl) (by rfl) B.min (by decide +kernel) (pa_cons pe_int (pa_cons (pe_callB call_len (by rfl) B.len PySem.boot_len (pa_cons (pv 0) pa_nil)) pa_nil)))) pa_nil)) (pg_name (i := 2) nd rfl (Or.inl rfl))
      (pss_cons (ps_set (i := 3) nd rfl (Or.inr rfl) (pe_cal c3 hr3 rfl (pa_cons (pv 1) (pa_cons (pe_ix ix_list (pe_lst (pa_cons pe_int (pa_cons pe_int (pa_cons pe_int pa_nil)))) (pe_cal cg hr1 rfl (pa_cons (pv 1) (pa_cons pe_int pa_nil))) (fun _ _ => rfl)) pa_nil))))
      (pss_cons (ps_asg (pe_cal ch hr2 rfl (pa_cons (pv 1) (pa_cons (pv 3) pa_nil))) (pg_tup (by rfl) (pgs_cons (pg_name (i := 4) nd rfl (Or.inl rfl)) (pgs_cons (pg_name (i := 5) nd rfl (Or.inl rfl)) pgs_nil))))
      (pss_cons (ps_par (i := 6) (j := 7) (by rfl) nd rfl rfl (by decide) rfl rfl (pa_cons (pe_callB (cr_reprD hgd hr.units) (by rfl) hrp (by decide +kernel) (pa_cons (pv 3) pa_nil)) (pa_cons pe_non pa_nil)) (by rfl))
      (pss_cons (ps_for PassesOwn.never rfl (pi_list (pe_cal cp hr2 rfl (pa_cons (pv 3) (pa_cons (pv 4) (pa_cons (pv 5) pa_nil))))) (pg_tup (by rfl) (pgs_cons (pg_name (i := 8) nd rfl (Or.inl rfl)) (pgs_cons (pg_name (i := 9) nd rfl (Or.inl rfl)) pgs_nil)))
        (pss_cons (ps_set (i := 11) nd rfl (Or.inl rfl) (pe_callB call_abs (by rfl) hab (by decide +kernel) (pa_cons (pe_op op_sub
          (pe_callB (cr_sum rfl) (by rfl) B.sum (by decide +kernel) (pa_cons (pe_lc (own := [("k", 10)]) (g := gName 10) (by rfl) nd (pi_tup (pv 8)) (blkOk_by (own := [("k", 10)]) (N := lawN) (sc := defScope st_law) (by decide +kernel))
            (fun _ _ _ _ _ => pg_name (i := 10) nd rfl (Or.inl rfl)) (fun _ _ _ _ _ => pts_nil) (fun _ _ _ _ _ => pe_ix (ix_tupK (K := K) rfl) (pe_ix (ix_tupK (K := K) rfl) (pv 3) pe_int (fun _ _ => rfl)) (pv 10) (fun _ _ => rfl))) pa_nil))
          (pe_callB (cr_sum rfl) (by rfl) B.sum (by decide +kernel) (pa_cons (pe_lc (own := [("k", 10)]) (g := gName 10) (by rfl) nd (pi_tup (pv 9)) (blkOk_by (own := [("k", 10)]) (N := lawN) (sc := defScope st_law) (by decide +kernel))
            (fun _ _ _ _ _ => pg_name (i := 10) nd rfl (Or.inl rfl)) (fun _ _ _ _ _ => pts_nil) (fun _ _ _ _ _ => pe_ix (ix_tupK (K := K) rfl) (pe_ix (ix_tupK (K := K) rfl) (pv 3) pe_int (fun _ _ => rfl)) (pv 10) (fun _ _ => rfl))) pa_nil))) pa_nil)))
        (pss_one (ps_if (PW.pt (pw_or (pt_cmpR op_isN (pv 7) pe_non (nomark _)) (pw_or1 (pt_cmpR op_lt (pv 11) (pe_ix ix_tup (pv 7) pe_int (fun _ _ => rfl)) (nomark _)))))
          (pss_one (ps_set (i := 7) nd rfl (Or.inl rfl) (pe_tup (pa_cons (pv 11) (pa_cons (pv 8) (pa_cons (pv 9) pa_nil)))))) pss_nil))))
      (pss_cons (ps_if (pt_not (pt_val (pe_cal cs hr5 rfl (pa_cons (pe_lst (pa_cons (pe_cal f1 hr10 rfl (pa_cons (pv 3) (pa_cons (pv 4) (pa_cons (pv 5) pa_nil)))) (pa_cons (pe_calK f2 hr10 rfl (pk_cons (pv 5) (pk_cons (pv 4) (pk_cons (pv 3) pk_nil)))) pa_nil))) (pa_cons (pe_lst (pa_cons (pv 7) (pa_cons (pv 7) pa_nil))) pa_nil))) (by intro _; rfl))) pss_never pss_nil)
      (pss_cons (ps_set (i := 12) nd rfl (Or.inl rfl) (pe_cal f1 hr10 rfl (pa_cons (pv 3) (pa_cons (pv 5) (pa_cons (pv 4) pa_nil)))))
      (pss_one (ps_if (PW.pt (pw_or (pt_cmpR op_ne (pe_cmpR op_isN (pv 12) pe_non (nomark _)) (pe_cmpR op_isN (pv 7) pe_non (nomark _)) (nomark _))
          (pw_or (PW.pt (pw_and (pt_cmpR op_notN (pv 7) pe_non (nomark _)) (pw_and1 (pt_cmpR op_ne (pe_ix ix_tup (pv 12) pe_int (fun _ _ => rfl)) (pe_ix ix_tup (pv 7) pe_int (fun _ _ => rfl)) (nomark _)))))
          (pw_or1 (pt_cmpR op_ne (pe_callB (cr_reprD hgd hr.units) (by rfl) hrp (by decide +kernel) (pa_cons (pv 3) pa_nil)) (pv 6) (nomark _)))))) pss_never pss_nil)))))))))
    (pss_one (ps_ret pe_bl))), ?_⟩
  refine ⟨_, rfl, a, ns, rfl, hS, hlen, fun sp gr H1 x1 S1 hsp0 hgr0 => ?_⟩
  have T1' : Tabs [T1, T2] H1 := hT.ext x1
  have hS1 := x1.sqL hS
  have hl2 : (ns.map V.int).length = ns.length := List.length_map _
  have hm5 : 0 ≤ (if (ns.length : Int) < 5 then (ns.length : Int) else 5) ∧ (if (ns.length : Int) < 5 then (ns.length : Int) else 5) ≤ 5 := by split <;> omega
  refine ⟨_, rfl, _, _, rfl, .inl ⟨_, hS1, rfl⟩, _, _, rfl, _, _, rfl, rfl, _, rfl, by rw [hl2]; omega, by rw [hl2]; omega, for_range (lo := 0) (fun i σ H2 => ∃ o2 o3 o4 o5 o6 o7 o8 o9 o10 o11 o12 : Option V, σ = [some (.ref a), some (.ref sp), o2, o3, o4, o5, o6, o7, o8, o9, o10, o11, o12] ∧ SpAt H2 sp gr ∧ Tabs [T1, T2] H2)
    ⟨_, _, _, _, _, _, _, _, _, _, _, rfl, S1, T1'⟩ ?_ ?_⟩
  · clear S1 T1' hS1 hS hT x1 hsp0 hgr0
    rintro i σ H2 hi ⟨o2, o3, o4, o5, o6, o7, o8, o9, o10, o11, o12, rfl, S2, T2'⟩
    clear hi
    refine ⟨_, rfl, by show 3 ≤ sizeLine; decide, fun l hl => ?_⟩
    have xl : Ext H2 (upd H2 l (.lst [.int 4, .int 7, .int 12])) := .new hl
    have nl := S2.notin hl
    refine ⟨_, rfl, sp, gr, 3, rfl, S2.ext xl, by decide, by decide, fun z H3 hz x3 S3 => ?_⟩
    obtain ⟨most, hmo, hm2, hm12⟩ : ∃ mo : Nat, ([V.int 4, .int 7, .int 12])[z]? = some (.int (mo : Int)) ∧ 2 ≤ mo ∧ mo ≤ 12 :=
      match z, hz with
      | 0, _ => ⟨4, rfl, by decide, by decide⟩
      | 1, _ => ⟨7, rfl, by decide, by decide⟩
      | 2, _ => ⟨12, rfl, by decide, by decide⟩
    refine ⟨l, _, z, _, rfl, rfl, SqL.of (x3.lst nl upd_same), atI_nat hmo, sp, gr, most, rfl, S3, hm2, hm12, fun ld fs bs H4 x4 S4 hld0 hld ok hfs => ?_⟩
    have T4 : Tabs [T1, T2] H4 := fun Pt hPt => (((ExtS.of xl).trans x3).trans x4).tabs Pt (T2' Pt hPt)
    clear x3 x4 S3 S2 T2' xl nl hl hld0 hmo
    dsimp only [gName, tSeq, List.set]
    refine ⟨_, rfl, _, rfl, sp, gr, .ref ld, fs, bs, rfl, S4, hld, ok.few, ok.most, fun hq aa bb H5 x5 S5 hq0 hhq ha hb hab' => ?_⟩
    have nlo := noL_land fs bs
    have hld5 := dp_extS x5 nlo hld
    have T5 : Tabs [T1, T2] H5 := fun Pt hPt => x5.tabs Pt (T4 Pt hPt)
    clear x5 T4 S4 hld hq0
    refine ⟨hq, _, rfl, SqT.of hhq, rfl, _, _, rfl, _, _, rfl, rfl, ?_⟩
    dsimp only [gName, tSeq, List.set]
    clear hhq hq
    have rpl := rp_land ok
    have rdep : (landD fs bs).depth ≤ 40 := Nat.le_trans rpl.dep (by decide)
    refine ⟨_, rfl, ld, landD fs bs, rfl, hld5, rpl.show_, rpl.dict, rdep, rpl.len (by decide), _, _, rfl, ?_⟩
    dsimp only [gName, tSeq, List.set]
    refine ⟨_, rfl, _, rfl, _, rfl, .ref ld, fs, bs, aa, bb, rfl, hld5, ok.most, ok.bord, ha, hb, fun q ys ms H6 x6 hq0 hq hda hperm hsrt => ?_⟩
    have hlen6 := dpAll_len hda
    rw [List.length_map] at hlen6
    have hld6 := dp_ext x6 hld5
    obtain ⟨al, af, vb, eal, hl1, hl2', hl3⟩ := dp_land hld6
    injection eal with eal
    subst eal
    refine ⟨q, rfl, ⟨_, SqL.of hq⟩, for_list (K := K) (a := q) (xs := ys) (fun i σ H7 => ∃ (o2 : Option V) (dv : V) (o8 o9 o10 o11 o12 : Option V), σ = [some (.ref a), some (.ref sp), o2, some (.ref ld), some (.int (aa : Int)), some (.int (bb : Int)), some (.str (landD fs bs).shown), some dv, o8, o9, o10, o11, o12] ∧ Ext H6 H7 ∧ Due K H7 fs (ms.take i) dv)
      ⟨_, _, _, _, _, _, _, rfl, .refl _, .inl ⟨by rw [List.take_zero], rfl⟩⟩ (fun i σ H7 _ ⟨_, _, _, _, _, _, _, _, x7, _⟩ => SqL.of (x7.lst hq)) ?_ ?_⟩
    · rintro i y σ H7 hy ⟨o2', dv, o8', o9', o10', o11', o12', rfl, x7, due⟩
      obtain ⟨d, hd1, hd2⟩ := dpAll_get' hda hy
      have hil : i < ys.length := (List.getElem?_eq_some_iff.mp hy).1
      rw [List.getElem?_map] at hd1
      obtain ⟨m, hm, rfl⟩ := Option.map_eq_some_iff.mp hd1
      obtain ⟨t, v1, v2, rfl, ht, g1, g2⟩ := dp_two hd2
      have et : ms.take (i + 1) = ms.take i ++ [m] := by rw [List.take_add_one, hm]; rfl
      obtain ⟨w1, rfl, hw1⟩ := dp_lot g1
      obtain ⟨w2, rfl, hw2⟩ := dp_lot g2
      refine ⟨t, _, rfl, x7.sqT ht, rfl, _, _, rfl, _, _, rfl, rfl, ?_⟩
      dsimp only [gName, tSeq, List.set]
      refine ⟨_, rfl, w1, rfl, ⟨_, x7.sqT hw1⟩, fun D1 hD1 => ?_⟩
      refine lc_tup (K := K) (a := w1) (xs := (Mk.bits fs.length m).map fun (p : Nat) => V.int (p : Int)) (fun j Hq => Hq D1 = some (.lst ((((Mk.bits fs.length m).take j).map fun p => fs.getD p 0).map V.int)) ∧ Ext H7 Hq) ⟨upd_same, .new hD1⟩ (fun j Hq _ ⟨_, xq⟩ => (x7.trans xq).sqT hw1) (fun j y Hq hy ⟨eq8, xq⟩ => ?_) (fun H8 ⟨e8, x8⟩ => ?_)
      · have hjl : j < (Mk.bits fs.length m).length := by
          have := (List.getElem?_eq_some_iff.mp hy).1
          rwa [List.length_map] at this
        rw [List.getElem?_map, List.getElem?_eq_getElem hjl] at hy
        obtain rfl := (Option.some.inj hy).symm
        have hpl : (Mk.bits fs.length m)[j] < fs.length := bits_lt _ (List.getElem_mem hjl)
        have hjt : (Mk.bits fs.length m).take (j + 1) = (Mk.bits fs.length m).take j ++ [(Mk.bits fs.length m)[j]] := by rw [List.take_add_one, List.getElem?_eq_getElem hjl]; rfl
        have hbl := Mk.bits_len fs.length m
        have hbl2 := Mk.bits_len fs.length (rest fs.length m)
        have hfn := ok.most
        refine ⟨rfl, ?_⟩
        dsimp only [tYes]
        rw [if_pos rfl]
        have ez : (fs.map V.int)[(Mk.bits fs.length m)[j]]? = some (V.int (fs.getD (Mk.bits fs.length m)[j] 0)) := by rw [List.getElem?_map, List.getElem?_eq_getElem hpl, List.getD_eq_getElem?_getD, List.getElem?_eq_getElem hpl]; rfl
        refine ⟨_, rfl, ld, _, _, _, rfl, rfl, (x7.trans xq).sqT hl1, atI_nat (j := 0) rfl, _, rfl, af, _, _, _, rfl, rfl, (x7.trans xq).sqT hl2', atI_nat ez, _, eq8, ?_, ?_, xq.write hD1⟩
        · rw [List.length_map, List.length_map, List.length_take]
          exact small1000 (by omega)
        · rw [upd_same, hjt, List.map_append, List.map_append]
          rfl
      rw [List.length_map, List.take_length] at e8
      refine ⟨D1, _, rfl, SqL.of e8, ?_⟩
      have x78 := x7.trans x8
      refine ⟨_, rfl, w2, rfl, ⟨_, x78.sqT hw2⟩, fun D2 hD2 => ?_⟩
      refine lc_tup (K := K) (a := w2) (xs := (Mk.bits fs.length (rest fs.length m)).map fun (p : Nat) => V.int (p : Int)) (fun j Hq => Hq D2 = some (.lst ((((Mk.bits fs.length (rest fs.length m)).take j).map fun p => fs.getD p 0).map V.int)) ∧ Ext H8 Hq) ⟨upd_same, .new hD2⟩ (fun j Hq _ ⟨_, xq⟩ => (x78.trans xq).sqT hw2) (fun j y Hq hy ⟨eq8, xq⟩ => ?_) (fun H9 ⟨e9, x9⟩ => ?_)
      · have hjl : j < (Mk.bits fs.length (rest fs.length m)).length := by
          have := (List.getElem?_eq_some_iff.mp hy).1
          rwa [List.length_map] at this
        rw [List.getElem?_map, List.getElem?_eq_getElem hjl] at hy
        obtain rfl := (Option.some.inj hy).symm
        have hpl : (Mk.bits fs.length (rest fs.length m))[j] < fs.length := bits_lt _ (List.getElem_mem hjl)
        have hjt : (Mk.bits fs.length (rest fs.length m)).take (j + 1) = (Mk.bits fs.length (rest fs.length m)).take j ++ [(Mk.bits fs.length (rest fs.length m))[j]] := by rw [List.take_add_one, List.getElem?_eq_getElem hjl]; rfl
        have hbl := Mk.bits_len fs.length m
        have hbl2 := Mk.bits_len fs.length (rest fs.length m)
        have hfn := ok.most
        refine ⟨rfl, ?_⟩
        dsimp only [tYes]
        rw [if_pos rfl]
        have ez : (fs.map V.int)[(Mk.bits fs.length (rest fs.length m))[j]]? = some (V.int (fs.getD (Mk.bits fs.length (rest fs.length m))[j] 0)) := by rw [List.getElem?_map, List.getElem?_eq_getElem hpl, List.getD_eq_getElem?_getD, List.getElem?_eq_getElem hpl]; rfl
        refine ⟨_, rfl, ld, _, _, _, rfl, rfl, (x78.trans xq).sqT hl1, atI_nat (j := 0) rfl, _, rfl, af, _, _, _, rfl, rfl, (x78.trans xq).sqT hl2', atI_nat ez, _, eq8, ?_, ?_, xq.write hD2⟩
        · rw [List.length_map, List.length_map, List.length_take]
          exact small1000 (by omega)
        · rw [upd_same, hjt, List.map_append, List.map_append]
          rfl
      rw [List.length_map, List.take_length] at e9
      refine ⟨D2, _, rfl, SqL.of e9, ?_⟩
      refine ⟨_, _, rfl, rfl, _, rfl, ?_⟩
      dsimp only [gName, tSeq, List.set]
      have eg : (if (((Mk.bits fs.length m).map fun p => fs.getD p 0).sum - ((Mk.bits fs.length (rest fs.length m)).map fun p => fs.getD p 0).sum) < 0 then -(((Mk.bits fs.length m).map fun p => fs.getD p 0).sum - ((Mk.bits fs.length (rest fs.length m)).map fun p => fs.getD p 0).sum) else (((Mk.bits fs.length m).map fun p => fs.getD p 0).sum - ((Mk.bits fs.length (rest fs.length m)).map fun p => fs.getD p 0).sum)) = gapM fs m := rfl
      rw [eg]
      have x79 := x8.trans x9
      have x69 := x7.trans x79
      have newD : ∀ p, H9 p = none → Ext H9 (upd H9 p (.tup [.int (gapM fs m), .ref w1, .ref w2])) ∧ Dp K (upd H9 p (.tup [.int (gapM fs m), .ref w1, .ref w2])) (.ref p) (triD fs m) := fun p hp => ⟨.new hp, .tup (SqT.of upd_same) (.cons (.int _) (.cons (dp_ext (x69.trans (.new hp)) g1) (.cons (dp_ext (x69.trans (.new hp)) g2) .nil)))⟩
      rcases due with ⟨e0, rfl⟩ | ⟨m0, hbest, hdv⟩
      · refine ⟨_, rfl, rfl, _, rfl, ?_⟩
        rw [decide_eq_true rfl]
        refine iteT (iteT ⟨_, rfl, _, rfl, _, rfl, by show 3 ≤ sizeLine; decide, fun p hp => ?_⟩)
        refine ⟨_, _, _, _, _, _, _, rfl, x69.trans (newD p hp).1, .inr ⟨m, ?_, (newD p hp).2⟩⟩
        rw [et, e0]
        exact best_one fs m
      · obtain ⟨td, us, rfl, htd, hus⟩ := dp_tup hdv
        obtain ⟨vg, hvg, hvg2⟩ := dpAll_get (i := 0) hus rfl
        obtain rfl := dp_int hvg2
        have htd9 := x79.sqT htd
        have hdv9 := dp_ext x79 hdv
        refine ⟨_, rfl, rfl, _, rfl, ?_⟩
        rw [decide_eq_false (show ¬ V.ref td = V.non from fun z => nomatch z)]
        refine iteF ⟨_, rfl, _, rfl, td, us, _, _, rfl, rfl, htd9, atI_nat (j := 0) hvg, _, _, rfl, rfl, _, rfl, ?_⟩
        by_cases hlt : gapM fs m < gapM fs m0
        · rw [decide_eq_true hlt]
          refine iteT ⟨_, rfl, _, rfl, _, rfl, by show 3 ≤ sizeLine; decide, fun p hp => ?_⟩
          refine ⟨_, _, _, _, _, _, _, rfl, x69.trans (newD p hp).1, .inr ⟨m, ?_, (newD p hp).2⟩⟩
          rw [et]
          exact hbest.less hlt
        · rw [decide_eq_false hlt]
          refine iteF ⟨_, _, _, _, _, _, _, rfl, x69, .inr ⟨m0, ?_, hdv9⟩⟩
          rw [et]
          refine hbest.keep hlt ?_
          obtain ⟨j, hj⟩ := List.getElem?_of_mem hbest.mem
          have hji : j < i := by
            have := (List.getElem?_eq_some_iff.mp hj).1
            rw [List.length_take] at this
            omega
          rw [List.getElem?_take_of_lt hji] at hj
          obtain ⟨hj1, ej⟩ := List.getElem?_eq_some_iff.mp hj
          obtain ⟨hi1, ei⟩ := List.getElem?_eq_some_iff.mp hm
          have := List.pairwise_iff_getElem.mp hsrt j i (by rw [List.length_map]; exact hj1) (by rw [List.length_map]; exact hi1) hji
          rw [List.getElem_map, List.getElem_map, ej, ei] at this
          exact this
    · rintro σ H7 ⟨o2', dv, o8', o9', o10', o11', o12', rfl, x7, due⟩
      rw [hlen6, List.take_length] at due
      have hmem : ∀ x, x ∈ ms ↔ x ∈ partsOf fs.length bs aa bb := fun x => hperm.mem_iff
      have x57 := x6.trans x7
      have hld7 := dp_ext x57 hld5
      have T7 := T5.ext x57
      have S7 := S5.ext x57
      clear x6 x7 x57 hda hq hsrt hl1 hl2' hl3 hld6 hld5 T5 S5 hlen6 hq0
      dsimp only [tSeq]
      refine ⟨_, rfl, _, rfl, _, rfl, ?_⟩
      dsimp only [tNil, List.append_nil]
      refine fair_by hld7 ok ha hb hab' T7 fun v1 H8 x8 d1 => ?_
      refine ⟨_, rfl, _, rfl, _, rfl, ?_⟩
      dsimp only [tNil, List.append_nil, rev3]
      refine fair_by (dp_ext x8 hld7) ok ha hb hab' (T7.ext x8) fun v2 H9 x9 d2 => ?_
      refine ⟨by show 2 ≤ sizeLine; decide, fun l1 hl1' => ⟨_, rfl, _, rfl, by show 2 ≤ sizeLine; decide, fun l2 hl2' => ?_⟩⟩
      have z1 : Ext H9 (upd H9 l1 (.lst [v1, v2])) := .new hl1'
      have z2 : Ext (upd H9 l1 (.lst [v1, v2])) (upd (upd H9 l1 (.lst [v1, v2])) l2 (.lst [dv, dv])) := .new hl2'
      have z9 := z1.trans z2
      have z7 := (x8.trans x9).trans z9
      obtain ⟨d, hd0, hkind, hsame⟩ := due.data
      have e1 := hsame _ _ _ ((d1.ext x9).ext z9) hmem
      have e2 := hsame _ _ _ (d2.ext z9) hmem
      have e0 := dp_ext z7 hd0
      have shd : Sh 3 d ∧ smD d = true := by
        rcases hkind with rfl | ⟨m, rfl⟩
        · exact ⟨⟨by simp [PyData.canLay0], by simp [PyData.depth]⟩, rfl⟩
        · exact ⟨sh_tri fs m, smD_tri ok.most m⟩
      have g3 : Sh 4 (.list [d, d]) := .lst fun e he => by
        simp only [List.mem_cons, List.not_mem_nil, or_false, or_self] at he
        rw [he]; exact shd.1
      have g4 : smD (.list [d, d]) = true := by simp [smD, smDs, shd.2]
      have g5 : (PyData.list [d, d]).depth < 4 := by
        rcases hkind with rfl | ⟨m, rfl⟩
        · simp [PyData.depth, PyData.depthAll]
        · have := depth_tri fs m
          simp only [PyData.depth, PyData.depthAll] at this ⊢
          omega
      refine ⟨.ref l1, .ref l2, .list [d, d], rfl, .lst (SqL.of (z2.lst upd_same)) (.cons e1 (.cons e2 .nil)), .lst (SqL.of upd_same) (.cons e0 (.cons e0 .nil)), g3.lay, g4, g5, fun H10 x10 => ⟨true, rfl, iteF ?_⟩⟩
      have x710 := z7.trans x10
      have hld10 := dp_ext x710 hld7
      have T10 := T7.ext x710
      have S10 := S7.ext x710
      have due10 := due.ext x710
      clear e0 e1 e2 hd0 hsame z1 z2 z9 z7 x8 x9 d1 d2 hl1' hl2' x10 x710 T7 S7 due hld7
      refine ⟨_, rfl, _, rfl, _, rfl, ?_⟩
      dsimp only [tNil, List.append_nil]
      refine fair_by hld10 ok hb ha (fun e => hab' e.symm) T10 fun u H11 x11 du => ?_
      dsimp only [gName, tSeq, List.set]
      have hld11 := dp_ext x11 hld10
      have due11 := due10.ext x11
      have T11 := T10.ext x11
      have S11 := S10.ext x11
      have rpl := rp_land ok
      have rdep : (landD fs bs).depth ≤ 40 := Nat.le_trans rpl.dep (by decide)
      rcases due11 with ⟨e0, rfl⟩ | ⟨m, hB, hdv⟩
      · have ep : partsOf fs.length bs aa bb = [] := List.eq_nil_iff_forall_not_mem.mpr fun x hx => by
          have := (hmem x).mpr hx
          rw [e0] at this
          cases this
        have ep2 := none_swap ha hb ep
        rcases du with ⟨_, rfl⟩ | ⟨m, hB, _⟩
        · refine ⟨_, rfl, rfl, _, rfl, rfl, rfl, _, rfl, iteF ?_⟩
          refine ⟨_, rfl, rfl, _, rfl, iteF (iteF ?_)⟩
          refine ⟨_, rfl, ld, landD fs bs, rfl, hld11, rpl.show_, rpl.dict, rdep, rpl.len (by decide), _, rfl, rfl, _, rfl, ?_⟩
          rw [shown_ne rfl]
          exact iteF ⟨_, _, _, _, _, _, _, _, _, _, _, rfl, S11, T11⟩
        · rw [ep2] at hB
          exact nomatch hB.mem
      · rcases du with ⟨ep2, _⟩ | ⟨m', hB', hu⟩
        · have hm := (hmem m).mp hB.mem
          rw [none_swap hb ha ep2] at hm
          cases hm
        · obtain ⟨td, us, rfl, htd, hus⟩ := dp_tup hdv
          obtain ⟨vg, hvg, hvg2⟩ := dpAll_get (i := 0) hus rfl
          obtain rfl := dp_int hvg2
          obtain ⟨tu, us', rfl, htu, hus'⟩ := dp_tup hu
          obtain ⟨vg', hvg', hvg2'⟩ := dpAll_get (i := 0) hus' rfl
          obtain rfl := dp_int hvg2'
          have hBp : Best fs (partsOf fs.length bs aa bb) m := ⟨(hmem m).mp hB.mem, fun m' hm' => hB.least m' ((hmem m').mpr hm')⟩
          have eg := best_swap ha hb hBp hB'
          have n1 : decide (V.ref tu = V.non) = false := decide_eq_false fun z => nomatch z
          have n2 : decide (V.ref td = V.non) = false := decide_eq_false fun z => nomatch z
          refine ⟨_, rfl, rfl, _, rfl, rfl, rfl, _, rfl, ?_⟩
          rw [n1, n2]
          refine iteF ⟨_, rfl, rfl, _, rfl, ?_⟩
          rw [n2]
          refine iteT ⟨_, rfl, tu, us', _, _, rfl, rfl, htu, atI_nat (j := 0) hvg', _, rfl, td, us, _, _, rfl, rfl, htd, atI_nat (j := 0) hvg, rfl, _, rfl, ?_⟩
          rw [eg, decide_eq_true rfl]
          refine iteF ?_
          refine ⟨_, rfl, ld, landD fs bs, rfl, hld11, rpl.show_, rpl.dict, rdep, rpl.len (by decide), _, rfl, rfl, _, rfl, ?_⟩
          rw [shown_ne rfl]
          exact iteF ⟨_, _, _, _, _, _, _, _, _, _, _, rfl, S11, T11⟩
  · rintro σ H2 ⟨o2, o3, o4, o5, o6, o7, o8, o9, o10, o11, o12, rfl, S2, T2'⟩
    exact k H2
end
end Wd

set_option Elab.async false
set_option linter.all false
set_option maxRecDepth 100000
set_option maxHeartbeats 4000000
namespace Wd
open PySem PySem.Spec PyProof.Rows L2 Bx Gx



































/-! ### the head -/
theorem funC_of {K : PySem.W.Frag} {x qual : Str} {st : Stmt} {p : Str × Option Str} {fd : FuncData} (F : FunD K x qual (defArgs st) (defBody st) (defScope st) [] [] (He.fAd K p) fd) : FunC K x qual st (He.fAd K p) fd (He.codeOf K p) := by
  obtain ⟨oc, od, dV, kV, doc, pm, an, cdv, ct, osl, e, l, c, hd, _⟩ := F.ex
  rcases hd with ⟨_, e2⟩ | ⟨e2, _⟩
  · subst e2
    obtain ⟨c0, rfl⟩ := He.codeIn_ref c
    have ec : He.codeOf K p = c0 := He.codeOf_eq l (by rw [e])
    rw [ec]
    exact ⟨⟨oc, od, kV, doc, pm, an, ct, osl, e, l, c⟩, F.kp⟩
  · exact absurd rfl e2
theorem kb_swp {K : PySem.W.Frag} {x qual : Str} {st : Stmt} {f : Addr} {fd : FuncData} {a b : Str} (F : Fun K x qual st f fd)
    (h : ∀ (kV doc pm : Value) (an : Option Addr) (cdv ct : Value) (u v : Value), bindArgs (PySem.W.fnOf x qual (defArgs st) (defBody st) (defScope st) .none kV doc pm an cdv ct) ⟨[], [(b, v), (a, u)]⟩ = pure [(a, u), (b, v)]) : KBinds K fd [a, b] [b, a] swp swp := by
  obtain ⟨oc, od, kV, doc, pm, an, cdv, ct, osl, rfl, lk, hc⟩ := F.ex
  refine ⟨fun s us ws _ hl => ?_, swp_rel⟩
  match us, ws, hl with
  | [], [v, u], _ => exact .of_eq (h kV doc pm an cdv ct u v)
  | [], [], hl => cases hl
  | [], [_], hl => cases hl
  | [], _ :: _ :: _ :: _, hl => cases hl
  | _ :: _, _, hl => cases hl

theorem kb_rev3 {K : PySem.W.Frag} {x qual : Str} {st : Stmt} {f : Addr} {fd : FuncData} {a b c : Str} (F : Fun K x qual st f fd)
    (h : ∀ (kV doc pm : Value) (an : Option Addr) (cdv ct : Value) (u v z : Value), bindArgs (PySem.W.fnOf x qual (defArgs st) (defBody st) (defScope st) .none kV doc pm an cdv ct) ⟨[], [(c, z), (b, v), (a, u)]⟩ = pure [(a, u), (b, v), (c, z)]) : KBinds K fd [a, b, c] [c, b, a] rev3 rev3 := by
  obtain ⟨oc, od, kV, doc, pm, an, cdv, ct, osl, rfl, lk, hc⟩ := F.ex
  refine ⟨fun s us ws hu hl => ?_, rev3_rel⟩
  match us, ws, hl with
  | [], [z, v, u], _ => exact .of_eq (h kV doc pm an cdv ct u v z)
  | [], [], hl => cases hl
  | [], [_], hl => cases hl
  | [], [_, _], hl => cases hl
  | [], _ :: _ :: _ :: _ :: _, hl => cases hl
  | _ :: _, _, hl => cases hl

def d_is_integer : He.DefD := ⟨("is_integer", none), "is_integer", "is_integer", defArgs st_is_integer, defBody st_is_integer, defScope st_is_integer, [], []⟩
def d_is_place : He.DefD := ⟨("is_place", none), "is_place", "is_place", defArgs st_is_place, defBody st_is_place, defScope st_is_place, [], []⟩
def d_lot_of : He.DefD := ⟨("lot_of", none), "lot_of", "lot_of", defArgs st_lot_of, defBody st_lot_of, defScope st_lot_of, [], []⟩
def d_whole_mask : He.DefD := ⟨("whole_mask", none), "whole_mask", "whole_mask", defArgs st_whole_mask, defBody st_whole_mask, defScope st_whole_mask, [], []⟩
def d_links_of : He.DefD := ⟨("links_of", none), "links_of", "links_of", defArgs st_links_of, defBody st_links_of, defScope st_links_of, [], []⟩
def d_reached : He.DefD := ⟨("reached", none), "reached", "reached", defArgs st_reached, defBody st_reached, defScope st_reached, [], []⟩
def d_hangs_together : He.DefD := ⟨("hangs_together", none), "hangs_together", "hangs_together", defArgs st_hangs_together, defBody st_hangs_together, defScope st_hangs_together, [], []⟩
def d_is_border : He.DefD := ⟨("is_border", none), "is_border", "is_border", defArgs st_is_border, defBody st_is_border, defScope st_is_border, [], []⟩
def d_fault_of_folk : He.DefD := ⟨("fault_of_folk", none), "fault_of_folk", "fault_of_folk", defArgs st_fault_of_folk, defBody st_fault_of_folk, defScope st_fault_of_folk, [], []⟩
def d_fault_of_borders : He.DefD := ⟨("fault_of_borders", none), "fault_of_borders", "fault_of_borders", defArgs st_fault_of_borders, defBody st_fault_of_borders, defScope st_fault_of_borders, [], []⟩
def d_fault_of_land : He.DefD := ⟨("fault_of_land", none), "fault_of_land", "fault_of_land", defArgs st_fault_of_land, defBody st_fault_of_land, defScope st_fault_of_land, [], []⟩
def d_check_land : He.DefD := ⟨("check_land", none), "check_land", "check_land", defArgs st_check_land, defBody st_check_land, defScope st_check_land, [], []⟩
def d_check_head : He.DefD := ⟨("check_head", none), "check_head", "check_head", defArgs st_check_head, defBody st_check_head, defScope st_check_head, [], []⟩
def d_check_heads : He.DefD := ⟨("check_heads", none), "check_heads", "check_heads", defArgs st_check_heads, defBody st_check_heads, defScope st_check_heads, [], []⟩
def d_is_between : He.DefD := ⟨("is_between", none), "is_between", "is_between", defArgs st_is_between, defBody st_is_between, defScope st_is_between, [], []⟩
def d_partings : He.DefD := ⟨("partings", none), "partings", "partings", defArgs st_partings, defBody st_partings, defScope st_partings, [], []⟩
def d_gap_of : He.DefD := ⟨("gap_of", none), "gap_of", "gap_of", defArgs st_gap_of, defBody st_gap_of, defScope st_gap_of, [], []⟩
def d_fairest : He.DefD := ⟨("fairest", none), "fairest", "fairest", defArgs st_fairest, defBody st_fairest, defScope st_fairest, [], []⟩
def d__law_sack : He.DefD := ⟨("_law_sack", none), "_law_sack", "_law_sack", defArgs st__law_sack, defBody st__law_sack, defScope st__law_sack, [], []⟩
def d__law_grab : He.DefD := ⟨("_law_grab", none), "_law_grab", "_law_grab", defArgs st__law_grab, defBody st__law_grab, defScope st__law_grab, [], []⟩
def d__law_pick : He.DefD := ⟨("_law_pick", none), "_law_pick", "_law_pick", defArgs st__law_pick, defBody st__law_pick, defScope st__law_pick, [], []⟩
def d__law_pairs : He.DefD := ⟨("_law_pairs", none), "_law_pairs", "_law_pairs", defArgs st__law_pairs, defBody st__law_pairs, defScope st__law_pairs, [], []⟩
def d__law_land : He.DefD := ⟨("_law_land", none), "_law_land", "_law_land", defArgs st__law_land, defBody st__law_land, defScope st__law_land, [], []⟩
def d__law_heads : He.DefD := ⟨("_law_heads", none), "_law_heads", "_law_heads", defArgs st__law_heads, defBody st__law_heads, defScope st__law_heads, [], []⟩
def d__law_rows : He.DefD := ⟨("_law_rows", none), "_law_rows", "_law_rows", defArgs st__law_rows, defBody st__law_rows, defScope st__law_rows, [], []⟩
def d__law_is_one : He.DefD := ⟨("_law_is_one", none), "_law_is_one", "_law_is_one", defArgs st__law_is_one, defBody st__law_is_one, defScope st__law_is_one, [], []⟩
def d__law_partings : He.DefD := ⟨("_law_partings", none), "_law_partings", "_law_partings", defArgs st__law_partings, defBody st__law_partings, defScope st__law_partings, [], []⟩
def d__law_same : He.DefD := ⟨("_law_same", none), "_law_same", "_law_same", defArgs st__law_same, defBody st__law_same, defScope st__law_same, [], []⟩
def d_law : He.DefD := ⟨("law", none), "law", "law", defArgs st_law, defBody st_law, defScope st_law, [], []⟩
def fnl : List He.DefD := [d_is_integer, d_is_place, d_lot_of, d_whole_mask, d_links_of, d_reached, d_hangs_together, d_is_border, d_fault_of_folk, d_fault_of_borders, d_fault_of_land, d_check_land, d_check_head, d_check_heads, d_is_between, d_partings, d_gap_of, d_fairest, d__law_sack, d__law_grab, d__law_pick, d__law_pairs, d__law_land, d__law_heads, d__law_rows, d__law_is_one, d__law_partings, d__law_same, d_law]
def fal : List He.Fa := [.glo "is_integer", .glo "is_place", .glo "lot_of", .glo "whole_mask", .glo "links_of", .glo "reached", .glo "hangs_together", .glo "is_border", .glo "fault_of_folk", .glo "fault_of_borders", .glo "fault_of_land", .glo "check_land", .glo "check_head", .glo "check_heads", .glo "is_between", .glo "partings", .glo "gap_of", .glo "fairest", .glo "_law_sack", .glo "_law_grab", .glo "_law_pick", .glo "_law_pairs", .glo "_law_land", .glo "_law_heads", .glo "_law_rows", .glo "_law_is_one", .glo "_law_partings", .glo "_law_same", .glo "law", .free "type", .free "len", .free "all", .free "sum", .free "tuple", .free "list", .free "range", .free "int", .free "bool", .free "str", .free "min", .free "max", .free "sorted", .free "isinstance", .free "set", .int "FEWEST_PLACES" 2, .int "MOST_PLACES" 12, .int "MOST_FOLK" 1000000, .free "abs", .free "repr"]
def tfl : List He.Defn := [("lot_of", none), ("gap_of", none)]
theorem facts {l : PySem.W.OpenLaw} {w : World} {K : PySem.W.Frag} {h : Heap} {mg : Str → Option Value} {f : Addr} (X : K.In h) (G : h.Ns mainGlobals mg) (hfa : mg ("law" : Str) = some (.ref f)) (c : He.SaysX fal fnl [] tfl (fun _ => true) w h K) :
    Gd.LawC l w K 63 "script" mg f h := by
  obtain ⟨e0, D0'⟩ := c.t.d.def_ 0 (d := d_is_integer) rfl
  have D0 : FunD K "is_integer" "is_integer" (defArgs st_is_integer) (defBody st_is_integer) (defScope st_is_integer) [] [] (He.fAd K ("is_integer", none)) e0 := D0'
  have g0 := He.glo_ok X G (c.t.d.fact 0 (f := .glo "is_integer") rfl)
  have b0 := D0.bindsN (ps := ["value", "low", "high"]) fun _ _ _ _ _ _ us hl => match us, hl with | [_, _, _], _ => rfl
  have F0 := He5.fun_of D0
  obtain ⟨e1, D1'⟩ := c.t.d.def_ 1 (d := d_is_place) rfl
  have D1 : FunD K "is_place" "is_place" (defArgs st_is_place) (defBody st_is_place) (defScope st_is_place) [] [] (He.fAd K ("is_place", none)) e1 := D1'
  have g1 := He.glo_ok X G (c.t.d.fact 1 (f := .glo "is_place") rfl)
  have b1 := D1.bindsN (ps := ["land", "value"]) fun _ _ _ _ _ _ us hl => match us, hl with | [_, _], _ => rfl
  have F1 := He5.fun_of D1
  obtain ⟨e2, D2'⟩ := c.t.d.def_ 2 (d := d_lot_of) rfl
  have D2 : FunD K "lot_of" "lot_of" (defArgs st_lot_of) (defBody st_lot_of) (defScope st_lot_of) [] [] (He.fAd K ("lot_of", none)) e2 := D2'
  have g2 := He.glo_ok X G (c.t.d.fact 2 (f := .glo "lot_of") rfl)
  have b2 := D2.bindsN (ps := ["mask"]) fun _ _ _ _ _ _ us hl => match us, hl with | [_], _ => rfl
  have F2 := He5.fun_of D2
  obtain ⟨e3, D3'⟩ := c.t.d.def_ 3 (d := d_whole_mask) rfl
  have D3 : FunD K "whole_mask" "whole_mask" (defArgs st_whole_mask) (defBody st_whole_mask) (defScope st_whole_mask) [] [] (He.fAd K ("whole_mask", none)) e3 := D3'
  have g3 := He.glo_ok X G (c.t.d.fact 3 (f := .glo "whole_mask") rfl)
  have b3 := D3.bindsN (ps := ["land"]) fun _ _ _ _ _ _ us hl => match us, hl with | [_], _ => rfl
  have F3 := He5.fun_of D3
  obtain ⟨e4, D4'⟩ := c.t.d.def_ 4 (d := d_links_of) rfl
  have D4 : FunD K "links_of" "links_of" (defArgs st_links_of) (defBody st_links_of) (defScope st_links_of) [] [] (He.fAd K ("links_of", none)) e4 := D4'
  have g4 := He.glo_ok X G (c.t.d.fact 4 (f := .glo "links_of") rfl)
  have b4 := D4.bindsN (ps := ["land"]) fun _ _ _ _ _ _ us hl => match us, hl with | [_], _ => rfl
  have F4 := He5.fun_of D4
  obtain ⟨e5, D5'⟩ := c.t.d.def_ 5 (d := d_reached) rfl
  have D5 : FunD K "reached" "reached" (defArgs st_reached) (defBody st_reached) (defScope st_reached) [] [] (He.fAd K ("reached", none)) e5 := D5'
  have g5 := He.glo_ok X G (c.t.d.fact 5 (f := .glo "reached") rfl)
  have b5 := D5.bindsN (ps := ["links", "start", "mask"]) fun _ _ _ _ _ _ us hl => match us, hl with | [_, _, _], _ => rfl
  have F5 := He5.fun_of D5
  obtain ⟨e6, D6'⟩ := c.t.d.def_ 6 (d := d_hangs_together) rfl
  have D6 : FunD K "hangs_together" "hangs_together" (defArgs st_hangs_together) (defBody st_hangs_together) (defScope st_hangs_together) [] [] (He.fAd K ("hangs_together", none)) e6 := D6'
  have g6 := He.glo_ok X G (c.t.d.fact 6 (f := .glo "hangs_together") rfl)
  have b6 := D6.bindsN (ps := ["links", "mask"]) fun _ _ _ _ _ _ us hl => match us, hl with | [_, _], _ => rfl
  have F6 := He5.fun_of D6
  obtain ⟨e7, D7'⟩ := c.t.d.def_ 7 (d := d_is_border) rfl
  have D7 : FunD K "is_border" "is_border" (defArgs st_is_border) (defBody st_is_border) (defScope st_is_border) [] [] (He.fAd K ("is_border", none)) e7 := D7'
  have g7 := He.glo_ok X G (c.t.d.fact 7 (f := .glo "is_border") rfl)
  have b7 := D7.bindsN (ps := ["value", "many"]) fun _ _ _ _ _ _ us hl => match us, hl with | [_, _], _ => rfl
  have F7 := He5.fun_of D7
  obtain ⟨e8, D8'⟩ := c.t.d.def_ 8 (d := d_fault_of_folk) rfl
  have D8 : FunD K "fault_of_folk" "fault_of_folk" (defArgs st_fault_of_folk) (defBody st_fault_of_folk) (defScope st_fault_of_folk) [] [] (He.fAd K ("fault_of_folk", none)) e8 := D8'
  have g8 := He.glo_ok X G (c.t.d.fact 8 (f := .glo "fault_of_folk") rfl)
  have b8 := D8.bindsN (ps := ["folk"]) fun _ _ _ _ _ _ us hl => match us, hl with | [_], _ => rfl
  have F8 := He5.fun_of D8
  obtain ⟨e9, D9'⟩ := c.t.d.def_ 9 (d := d_fault_of_borders) rfl
  have D9 : FunD K "fault_of_borders" "fault_of_borders" (defArgs st_fault_of_borders) (defBody st_fault_of_borders) (defScope st_fault_of_borders) [] [] (He.fAd K ("fault_of_borders", none)) e9 := D9'
  have g9 := He.glo_ok X G (c.t.d.fact 9 (f := .glo "fault_of_borders") rfl)
  have b9 := D9.bindsN (ps := ["borders", "many"]) fun _ _ _ _ _ _ us hl => match us, hl with | [_, _], _ => rfl
  have F9 := He5.fun_of D9
  obtain ⟨e10, D10'⟩ := c.t.d.def_ 10 (d := d_fault_of_land) rfl
  have D10 : FunD K "fault_of_land" "fault_of_land" (defArgs st_fault_of_land) (defBody st_fault_of_land) (defScope st_fault_of_land) [] [] (He.fAd K ("fault_of_land", none)) e10 := D10'
  have g10 := He.glo_ok X G (c.t.d.fact 10 (f := .glo "fault_of_land") rfl)
  have b10 := D10.bindsN (ps := ["value"]) fun _ _ _ _ _ _ us hl => match us, hl with | [_], _ => rfl
  have F10 := He5.fun_of D10
  obtain ⟨e11, D11'⟩ := c.t.d.def_ 11 (d := d_check_land) rfl
  have D11 : FunD K "check_land" "check_land" (defArgs st_check_land) (defBody st_check_land) (defScope st_check_land) [] [] (He.fAd K ("check_land", none)) e11 := D11'
  have g11 := He.glo_ok X G (c.t.d.fact 11 (f := .glo "check_land") rfl)
  have b11 := D11.bindsN (ps := ["land"]) fun _ _ _ _ _ _ us hl => match us, hl with | [_], _ => rfl
  have F11 := He5.fun_of D11
  obtain ⟨e12, D12'⟩ := c.t.d.def_ 12 (d := d_check_head) rfl
  have D12 : FunD K "check_head" "check_head" (defArgs st_check_head) (defBody st_check_head) (defScope st_check_head) [] [] (He.fAd K ("check_head", none)) e12 := D12'
  have g12 := He.glo_ok X G (c.t.d.fact 12 (f := .glo "check_head") rfl)
  have b12 := D12.bindsN (ps := ["land", "head"]) fun _ _ _ _ _ _ us hl => match us, hl with | [_, _], _ => rfl
  have F12 := He5.fun_of D12
  obtain ⟨e13, D13'⟩ := c.t.d.def_ 13 (d := d_check_heads) rfl
  have D13 : FunD K "check_heads" "check_heads" (defArgs st_check_heads) (defBody st_check_heads) (defScope st_check_heads) [] [] (He.fAd K ("check_heads", none)) e13 := D13'
  have g13 := He.glo_ok X G (c.t.d.fact 13 (f := .glo "check_heads") rfl)
  have b13 := D13.bindsN (ps := ["land", "head", "other_head"]) fun _ _ _ _ _ _ us hl => match us, hl with | [_, _, _], _ => rfl
  have F13 := He5.fun_of D13
  obtain ⟨e14, D14'⟩ := c.t.d.def_ 14 (d := d_is_between) rfl
  have D14 : FunD K "is_between" "is_between" (defArgs st_is_between) (defBody st_is_between) (defScope st_is_between) [] [] (He.fAd K ("is_between", none)) e14 := D14'
  have g14 := He.glo_ok X G (c.t.d.fact 14 (f := .glo "is_between") rfl)
  have b14 := D14.bindsN (ps := ["mask", "head", "other_head"]) fun _ _ _ _ _ _ us hl => match us, hl with | [_, _, _], _ => rfl
  have F14 := He5.fun_of D14
  obtain ⟨e15, D15'⟩ := c.t.d.def_ 15 (d := d_partings) rfl
  have D15 : FunD K "partings" "partings" (defArgs st_partings) (defBody st_partings) (defScope st_partings) [] [] (He.fAd K ("partings", none)) e15 := D15'
  have g15 := He.glo_ok X G (c.t.d.fact 15 (f := .glo "partings") rfl)
  have b15 := D15.bindsN (ps := ["land", "head", "other_head"]) fun _ _ _ _ _ _ us hl => match us, hl with | [_, _, _], _ => rfl
  have F15 := He5.fun_of D15
  obtain ⟨e16, D16'⟩ := c.t.d.def_ 16 (d := d_gap_of) rfl
  have D16 : FunD K "gap_of" "gap_of" (defArgs st_gap_of) (defBody st_gap_of) (defScope st_gap_of) [] [] (He.fAd K ("gap_of", none)) e16 := D16'
  have g16 := He.glo_ok X G (c.t.d.fact 16 (f := .glo "gap_of") rfl)
  have b16 := D16.bindsN (ps := ["land", "ward", "other"]) fun _ _ _ _ _ _ us hl => match us, hl with | [_, _, _], _ => rfl
  have F16 := He5.fun_of D16
  obtain ⟨e17, D17'⟩ := c.t.d.def_ 17 (d := d_fairest) rfl
  have D17 : FunD K "fairest" "fairest" (defArgs st_fairest) (defBody st_fairest) (defScope st_fairest) [] [] (He.fAd K ("fairest", none)) e17 := D17'
  have g17 := He.glo_ok X G (c.t.d.fact 17 (f := .glo "fairest") rfl)
  have b17 := D17.bindsN (ps := ["land", "head", "other_head"]) fun _ _ _ _ _ _ us hl => match us, hl with | [_, _, _], _ => rfl
  have F17 := He5.fun_of D17
  obtain ⟨e18, D18'⟩ := c.t.d.def_ 18 (d := d__law_sack) rfl
  have D18 : FunD K "_law_sack" "_law_sack" (defArgs st__law_sack) (defBody st__law_sack) (defScope st__law_sack) [] [] (He.fAd K ("_law_sack", none)) e18 := D18'
  have g18 := He.glo_ok X G (c.t.d.fact 18 (f := .glo "_law_sack") rfl)
  have b18 := D18.bindsN (ps := ["script"]) fun _ _ _ _ _ _ us hl => match us, hl with | [_], _ => rfl
  have F18 := He5.fun_of D18
  obtain ⟨e19, D19'⟩ := c.t.d.def_ 19 (d := d__law_grab) rfl
  have D19 : FunD K "_law_grab" "_law_grab" (defArgs st__law_grab) (defBody st__law_grab) (defScope st__law_grab) [] [] (He.fAd K ("_law_grab", none)) e19 := D19'
  have g19 := He.glo_ok X G (c.t.d.fact 19 (f := .glo "_law_grab") rfl)
  have b19 := D19.bindsN (ps := ["sack", "many"]) fun _ _ _ _ _ _ us hl => match us, hl with | [_, _], _ => rfl
  have F19 := He5.fun_of D19
  obtain ⟨e20, D20'⟩ := c.t.d.def_ 20 (d := d__law_pick) rfl
  have D20 : FunD K "_law_pick" "_law_pick" (defArgs st__law_pick) (defBody st__law_pick) (defScope st__law_pick) [] [] (He.fAd K ("_law_pick", none)) e20 := D20'
  have g20 := He.glo_ok X G (c.t.d.fact 20 (f := .glo "_law_pick") rfl)
  have b20 := D20.bindsN (ps := ["sack", "things"]) fun _ _ _ _ _ _ us hl => match us, hl with | [_, _], _ => rfl
  have F20 := He5.fun_of D20
  obtain ⟨e21, D21'⟩ := c.t.d.def_ 21 (d := d__law_pairs) rfl
  have D21 : FunD K "_law_pairs" "_law_pairs" (defArgs st__law_pairs) (defBody st__law_pairs) (defScope st__law_pairs) [] [] (He.fAd K ("_law_pairs", none)) e21 := D21'
  have g21 := He.glo_ok X G (c.t.d.fact 21 (f := .glo "_law_pairs") rfl)
  have b21 := D21.bindsN (ps := ["many"]) fun _ _ _ _ _ _ us hl => match us, hl with | [_], _ => rfl
  have F21 := He5.fun_of D21
  obtain ⟨e22, D22'⟩ := c.t.d.def_ 22 (d := d__law_land) rfl
  have D22 : FunD K "_law_land" "_law_land" (defArgs st__law_land) (defBody st__law_land) (defScope st__law_land) [] [] (He.fAd K ("_law_land", none)) e22 := D22'
  have g22 := He.glo_ok X G (c.t.d.fact 22 (f := .glo "_law_land") rfl)
  have b22 := D22.bindsN (ps := ["sack", "most"]) fun _ _ _ _ _ _ us hl => match us, hl with | [_, _], _ => rfl
  have F22 := He5.fun_of D22
  obtain ⟨e23, D23'⟩ := c.t.d.def_ 23 (d := d__law_heads) rfl
  have D23 : FunD K "_law_heads" "_law_heads" (defArgs st__law_heads) (defBody st__law_heads) (defScope st__law_heads) [] [] (He.fAd K ("_law_heads", none)) e23 := D23'
  have g23 := He.glo_ok X G (c.t.d.fact 23 (f := .glo "_law_heads") rfl)
  have b23 := D23.bindsN (ps := ["sack", "told"]) fun _ _ _ _ _ _ us hl => match us, hl with | [_, _], _ => rfl
  have F23 := He5.fun_of D23
  obtain ⟨e24, D24'⟩ := c.t.d.def_ 24 (d := d__law_rows) rfl
  have D24 : FunD K "_law_rows" "_law_rows" (defArgs st__law_rows) (defBody st__law_rows) (defScope st__law_rows) [] [] (He.fAd K ("_law_rows", none)) e24 := D24'
  have g24 := He.glo_ok X G (c.t.d.fact 24 (f := .glo "_law_rows") rfl)
  have b24 := D24.bindsN (ps := ["told"]) fun _ _ _ _ _ _ us hl => match us, hl with | [_], _ => rfl
  have F24 := He5.fun_of D24
  obtain ⟨e25, D25'⟩ := c.t.d.def_ 25 (d := d__law_is_one) rfl
  have D25 : FunD K "_law_is_one" "_law_is_one" (defArgs st__law_is_one) (defBody st__law_is_one) (defScope st__law_is_one) [] [] (He.fAd K ("_law_is_one", none)) e25 := D25'
  have g25 := He.glo_ok X G (c.t.d.fact 25 (f := .glo "_law_is_one") rfl)
  have b25 := D25.bindsN (ps := ["rows", "bits"]) fun _ _ _ _ _ _ us hl => match us, hl with | [_, _], _ => rfl
  have F25 := He5.fun_of D25
  obtain ⟨e26, D26'⟩ := c.t.d.def_ 26 (d := d__law_partings) rfl
  have D26 : FunD K "_law_partings" "_law_partings" (defArgs st__law_partings) (defBody st__law_partings) (defScope st__law_partings) [] [] (He.fAd K ("_law_partings", none)) e26 := D26'
  have g26 := He.glo_ok X G (c.t.d.fact 26 (f := .glo "_law_partings") rfl)
  have b26 := D26.bindsN (ps := ["told", "one", "other"]) fun _ _ _ _ _ _ us hl => match us, hl with | [_, _, _], _ => rfl
  have F26 := He5.fun_of D26
  obtain ⟨e27, D27'⟩ := c.t.d.def_ 27 (d := d__law_same) rfl
  have D27 : FunD K "_law_same" "_law_same" (defArgs st__law_same) (defBody st__law_same) (defScope st__law_same) [] [] (He.fAd K ("_law_same", none)) e27 := D27'
  have g27 := He.glo_ok X G (c.t.d.fact 27 (f := .glo "_law_same") rfl)
  have b27 := D27.bindsN (ps := ["found", "due"]) fun _ _ _ _ _ _ us hl => match us, hl with | [_, _], _ => rfl
  have F27 := He5.fun_of D27
  obtain ⟨e28, D28'⟩ := c.t.d.def_ 28 (d := d_law) rfl
  have D28 : FunD K "law" "law" (defArgs st_law) (defBody st_law) (defScope st_law) [] [] (He.fAd K ("law", none)) e28 := D28'
  have g28 := He.glo_ok X G (c.t.d.fact 28 (f := .glo "law") rfl)
  have b28 := D28.bindsN (ps := ["script"]) fun _ _ _ _ _ _ us hl => match us, hl with | [_], _ => rfl
  have F28 := He5.fun_of D28
  have B : Bl mg := ⟨He.free_ok X G (c.t.d.fact 29 (f := .free "type") rfl), He.free_ok X G (c.t.d.fact 30 (f := .free "len") rfl), He.free_ok X G (c.t.d.fact 31 (f := .free "all") rfl), He.free_ok X G (c.t.d.fact 32 (f := .free "sum") rfl), He.free_ok X G (c.t.d.fact 33 (f := .free "tuple") rfl), He.free_ok X G (c.t.d.fact 34 (f := .free "list") rfl), He.free_ok X G (c.t.d.fact 35 (f := .free "range") rfl), He.free_ok X G (c.t.d.fact 36 (f := .free "int") rfl), He.free_ok X G (c.t.d.fact 37 (f := .free "bool") rfl), He.free_ok X G (c.t.d.fact 38 (f := .free "str") rfl), He.free_ok X G (c.t.d.fact 39 (f := .free "min") rfl), He.free_ok X G (c.t.d.fact 40 (f := .free "max") rfl), He.free_ok X G (c.t.d.fact 41 (f := .free "sorted") rfl), He.free_ok X G (c.t.d.fact 42 (f := .free "isinstance") rfl), He.free_ok X G (c.t.d.fact 43 (f := .free "set") rfl)⟩
  have N : Nums mg := ⟨He.int_ok X G (c.t.d.fact 44 (f := .int "FEWEST_PLACES" 2) rfl), He.int_ok X G (c.t.d.fact 45 (f := .int "MOST_PLACES" 12) rfl), He.int_ok X G (c.t.d.fact 46 (f := .int "MOST_FOLK" 1000000) rfl)⟩
  have XF0 := He.free_ok X G (c.t.d.fact 47 (f := .free "abs") rfl)
  have XF1 := He.free_ok X G (c.t.d.fact 48 (f := .free "repr") rfl)
  cases hfa.symm.trans g28
  have CF0 := funC_of D2
  have CF1 := funC_of D16
  have mem : ∀ i (p : He.Defn), tfl[i]? = some p → p ∈ tfl := fun i p e => List.mem_of_getElem? e
  refine ⟨_, tfl.map (He.cT K), spLaw K [(He.cT K ("lot_of", none)).2, (He.cT K ("gap_of", none)).2], fun p hp => ?_, fun p hp => ?_, fun p hp => ?_, fun s u => FunD.bindsA D28 (ps := ["script"]) (fun _ _ _ _ _ _ us hl => match us, hl with | [_], _ => rfl) s [u] rfl, fun H a ns hl  hH hS => ?_, fun base hb hg hTB => ?_⟩
  · obtain ⟨q, hq, rfl⟩ := List.mem_map.mp hp
    exact c.empty q hq
  · obtain ⟨q, hq, rfl⟩ := List.mem_map.mp hp
    exact c.out q hq
  · obtain ⟨q, hq, rfl⟩ := List.mem_map.mp hp
    exact PySem.W.codeHd_of_K X (c.hd q hq)
  · have hz : ∀ q, q ∈ tfl → Gx.TabG H (He.cT K q).2 := fun q hq => ⟨#[], hH _ (List.mem_map.mpr ⟨q, hq, rfl⟩), by first | exact trivial | simp [GxR.TriplesOk] | simp⟩
    refine ⟨a, ns, rfl, hS, hl, fun Pt hPt => ?_, fun _ => rfl⟩
    simp only [List.mem_cons, List.mem_nil_iff, or_false] at hPt
    rcases hPt with e | e <;> rw [e] <;> exact hz _ (by simp [tfl])
  · have tb : ∀ q, q ∈ tfl → TabB base mg (He.cT K q).1 (He.cT K q).2 := fun q hq => hTB _ (List.mem_map.mpr ⟨q, hq, rfl⟩)
    have TB0 := tb ("lot_of", none) (by simp [tfl])
    have TB1 := tb ("gap_of", none) (by simp [tfl])
    have ci : Cal l.prog w K mg base 1 "is_integer" _ _ := ⟨_, _, ok_is_integer F0 B, g0, D0.kp, b0⟩
    have cpl : Cal l.prog w K mg base 2 "is_place" _ _ := ⟨_, _, ok_is_place F1 B ci, g1, D1.kp, b1⟩
    have clo : Cal l.prog w K mg base 6 "lot_of" _ _ := ⟨_, _, ok_lot_of CF0 TB0 B, g2, D2.kp, b2⟩
    have cw : Cal l.prog w K mg base 1 "whole_mask" _ _ := ⟨_, _, ok_whole_mask F3 B, g3, D3.kp, b3⟩
    have clk : Cal l.prog w K mg base 1 "links_of" _ _ := ⟨_, _, ok_links_of F4 B, g4, D4.kp, b4⟩
    have cre : Cal l.prog w K mg base 7 "reached" _ _ := ⟨_, _, ok_reached F5 B clo, g5, D5.kp, b5⟩
    have cho : Cal l.prog w K mg base 8 "hangs_together" _ _ := ⟨_, _, ok_hangs_one F6 cre, g6, D6.kp, b6⟩
    have cib : Cal l.prog w K mg base 2 "is_border" _ _ := ⟨_, _, ok_is_border F7 B ci, g7, D7.kp, b7⟩
    have cff : Cal l.prog w K mg base 2 "fault_of_folk" _ _ := ⟨_, _, ok_fault_of_folk F8 B N ci, g8, D8.kp, b8⟩
    have cfb : Cal l.prog w K mg base 3 "fault_of_borders" _ _ := ⟨_, _, ok_fault_of_borders F9 B cib, g9, D9.kp, b9⟩
    have cfl : Cal l.prog w K mg base 4 "fault_of_land" _ _ := ⟨_, _, ok_fault_of_land F10 B cff cfb, g10, D10.kp, b10⟩
    have ckl : Cal l.prog w K mg base 5 "check_land" _ _ := ⟨_, _, ok_check_land F11 cfl, g11, D11.kp, b11⟩
    have ckh : Cal l.prog w K mg base 3 "check_head" _ _ := ⟨_, _, ok_check_head F12 cpl, g12, D12.kp, b12⟩
    have chs : Cal l.prog w K mg base 4 "check_heads" _ _ := ⟨_, _, ok_check_heads F13 ckh, g13, D13.kp, b13⟩
    have cbe : Cal l.prog w K mg base 1 "is_between" _ _ := ⟨_, _, ok_is_between F14, g14, D14.kp, b14⟩
    have cpa : Cal l.prog w K mg base 9 "partings" _ _ := ⟨_, _, ok_partings F15 B clk cw cbe cho clo, g15, D15.kp, b15⟩
    have cga : Cal l.prog w K mg base 4 "gap_of" _ _ := ⟨_, _, ok_gap_of CF1 TB1 B XF0, g16, D16.kp, b16⟩
    have f1 : Cal l.prog w K mg base 10 "fairest" _ _ := ⟨_, _, ok_fairest F17 B ckl chs cpa cga, g17, D17.kp, b17⟩
    have f2 : CalK l.prog w K mg base 10 "fairest" ["land", "head", "other_head"] ["other_head", "head", "land"] rev3 _ := ⟨_, _, ok_fairest F17 B ckl chs cpa cga, g17, D17.kp, kb_rev3 F17 fun _ _ _ _ _ _ _ _ _ => rfl⟩
    have csk : Cal l.prog w K mg base 1 "_law_sack" _ _ := ⟨_, _, ok_law_sack F18 B, g18, D18.kp, b18⟩
    have cgr : Cal l.prog w K mg base 1 "_law_grab" _ _ := ⟨_, _, ok_law_grab F19 B, g19, D19.kp, b19⟩
    have cpk : Cal l.prog w K mg base 2 "_law_pick" _ _ := ⟨_, _, ok_law_pick F20 B cgr, g20, D20.kp, b20⟩
    have cps : Cal l.prog w K mg base 1 "_law_pairs" _ _ := ⟨_, _, ok_law_pairs F21 B, g21, D21.kp, b21⟩
    have cln : Cal l.prog w K mg base 3 "_law_land" _ _ := ⟨_, _, ok_law_landS F22 B cgr cps cpk, g22, D22.kp, b22⟩
    have che : Cal l.prog w K mg base 2 "_law_heads" _ _ := ⟨_, _, ok_law_heads F23 B cgr, g23, D23.kp, b23⟩
    have cro : Cal l.prog w K mg base 1 "_law_rows" _ _ := ⟨_, _, ok_law_rows F24 B, g24, D24.kp, b24⟩
    have cio : Cal l.prog w K mg base 1 "_law_is_one" _ _ := ⟨_, _, ok_law_is_one F25 B, g25, D25.kp, b25⟩
    have clp : Cal l.prog w K mg base 2 "_law_partings" _ _ := ⟨_, _, ok_law_partings F26 B cro cio, g26, D26.kp, b26⟩
    have csa : Cal l.prog w K mg base 5 "_law_same" _ _ := ⟨_, _, ok_law_same F27 B g27 b27 4, g27, D27.kp, b27⟩
    exact ok_law F28 B XF0 XF1 ⟨rfl, by decide, by decide⟩ csk cgr cln che clp csa f1 f2
end Wd

set_option Elab.async false
set_option linter.all false
set_option maxRecDepth 100000
set_option maxHeartbeats 4000000
namespace Wd
open PySem PySem.Spec PyProof.Rows L2 Bx Gx



































/-! ### the run of the top -/
abbrev R : PySem.W.OpenRow := PySem.W.OpenLaw.row PySem.Challenge.rw_wardsdrawn_k17_fairest_partings
abbrev hk : PySem.W.Hook := He.hookX 6 fal fnl [] tfl (fun _ => true)
def ob (s : PySem.W.SharedT) : He.AlX := He.obsX 6 fal fnl [] tfl (fun _ => true) (HandSHeadRun.getT s)
theorem ob_eq (s : PySem.W.SharedT) : ob s = hk.obs s.abs := He.obsX_eq (HandSHeadRun.getT_eq s)
def names : List PySem.Str := ([("WardError" : PySem.Str), ("InvalidPlace" : PySem.Str), ("InvalidLand" : PySem.Str), ("FEWEST_PLACES" : PySem.Str), ("MOST_PLACES" : PySem.Str), ("MOST_FOLK" : PySem.Str), ("is_integer" : PySem.Str), ("is_place" : PySem.Str)] : List PySem.Str) ++ ([("lot_of" : PySem.Str), ("whole_mask" : PySem.Str), ("links_of" : PySem.Str), ("reached" : PySem.Str), ("hangs_together" : PySem.Str), ("fault_of_land" : PySem.Str), ("fault_of_folk" : PySem.Str), ("fault_of_borders" : PySem.Str)] : List PySem.Str) ++ ([("is_border" : PySem.Str), ("check_land" : PySem.Str), ("check_head" : PySem.Str), ("check_heads" : PySem.Str), ("fairest" : PySem.Str), ("is_between" : PySem.Str), ("partings" : PySem.Str), ("gap_of" : PySem.Str)] : List PySem.Str) ++ ([("_law_sack" : PySem.Str), ("_law_grab" : PySem.Str), ("_law_pick" : PySem.Str), ("_law_same" : PySem.Str), ("_law_pairs" : PySem.Str), ("_law_land" : PySem.Str), ("_law_heads" : PySem.Str), ("_law_beside" : PySem.Str)] : List PySem.Str) ++ ([("_law_knots" : PySem.Str), ("_law_is_one" : PySem.Str), ("_law_rows" : PySem.Str), ("_law_partings" : PySem.Str)] : List PySem.Str)
theorem run (w : World) : HandSHeadRun.RunEq R (PySem.W.view R.prog [40]) hk ob 6000 names w := by
  intro os
  kernel_rfl
end Wd
open PySem PySem.W PySem.Calls PyProof.Rows
set_option maxHeartbeats 0
theorem PySem.Challenge.cw_wardsdrawn_k17_fairest_partings_holds : PySem.Challenge.rw_wardsdrawn_k17_fairest_partings.Holds := by
  w_on; o_law
  refine HandSHeadRun.head_any (r := OpenLaw.row PySem.Challenge.rw_wardsdrawn_k17_fairest_partings) (q := view (OpenLaw.row PySem.Challenge.rw_wardsdrawn_k17_fairest_partings).prog [40]) (H := Wd.hk) (ob := Wd.ob) (M := 6000) (loose := Wd.names) (d := HandSHeadRun.topDef (OpenLaw.row PySem.Challenge.rw_wardsdrawn_k17_fairest_partings).prog 40) (kwd := []) Wd.ob_eq
    (by kernel_rfl) (fun s => by kernel_rfl) Wd.run (by kernel_rfl) (by kernel_rfl) (by kernel_rfl) (by rfl) (by first | assumption | decide +kernel) (by decide +kernel) ⟨rfl, rfl, rfl, rfl, rfl, by decide +kernel⟩ ?hw ?hc
  case hw => w_witness2
  case hc =>
    refine Gd.walk_C (l := PySem.Challenge.rw_wardsdrawn_k17_fairest_partings) (n := 63) (x := "script") rfl (by decide) (by kernel_rfl) ?F
    intro w mg fa h Y G hmg0
    obtain ⟨K, KX, c⟩ := Y
    have hmg : mg ("law" : PySem.Str) = some (.ref fa) := by
      have e : (HandSHeadRun.topDef (OpenLaw.row PySem.Challenge.rw_wardsdrawn_k17_fairest_partings).prog 40).name = ("law" : PySem.Str) := by kernel_rfl
      rw [← e]
      exact hmg0
    exact ⟨K, KX, Wd.facts KX G hmg c⟩
namespace Wd
end Wd
