import PyProof.Rows.All
import Wide.All
import OpenK.AllK
import Wide.FinOn
import HandS.ForMost
import HandS.ForExc
import HandS.GenList
import HandS.AnyAll
import HandS.EndOwn
import PyProof.SumAny
import HandS.IsInst
import HandS.More
import HandS.WideBits
import HandS.Zip
import PyProof.TypeEq
import HandS.Text
import HandS.TupLe
import HandS.Comp
import HandS.Deep
import HandS.Sort
import HandS.SortRule
import HandS.Conv
import HandS.Iter
import HandS.Style
import HandS.TupSets
import HandS.Evl
import PyProof.WalksMore
import HandS.SetKeys
import HandS.ListItems
import KE.SortData
import KE.KDictList
import HandS.ExcOwn
import HandS.TryMany
import HandS.TryOnly
import HandS.HeadHook4
import HandS.ExcInit
import HandS.ExcField
import HandS.ExcIs
import KE.KExcIs
import HandS.SetFor
import HandS.Wide
import HandS.TupAny
import HandS.DictComp
import HandS.Strs
import HandS.SortInts
import HandS.TupMul
import PyProof.JoinWalk
import HandS.JoinGen
import HandS.Codes
import PyProof.StrOps2
import HandS.FStr
import HandS.SortKw
import KE.DataMinMax
import PyProof.ReprRoads
import PyProof.ReprLen
import PyProof.Rows.ReprShort
import HandS.EndTab
import HandS.HeadWalk
import HandS.NoneIn
import HandS.Head2
import HandS.HeadNt
import PySem.Challenge.RW_wardsdrawn_k24_wishes_by_all_servings
set_option Elab.async false
set_option linter.all false
set_option maxRecDepth 100000
set_option maxHeartbeats 4000000
/-! Gx: a generator expression over anything that PI serves, drained by all, any, sum, tuple; its element may be any expression of the layer. -/
namespace Gx
open PySem PySem.Spec PyProof.Rows L2 GenW

/-! ### the context in which the generator's code runs -/
abbrev genv (X : Cx) (scope : Scope) (code : Value) (C : Addr) : Env := genEnv scope (cloFrom X.env.cells scope.names []) C code builtinsNs X.env
def gcx (X : Cx) (N : List Str) (scope : Scope) (code : Value) (A : Around) (s : Shared) (H : Hp) (fp : List Addr) : Cx :=
  { X with
    A := A.deeper (genv X scope code s.heap.objs.size)
    N := N
    s_0 := s
    H_0 := H
    env := genv X scope code s.heap.objs.size
    outer := X.stack
    stack := genv X scope code s.heap.objs.size :: X.stack
    ex := fp
    fn := fun _ => false
    calm := true
    pn := []
    xe := fun _ _ => False }
/-- the names of the generator expression: N, its own ones and captured ones; src tells where a captured one stands in the def -/
structure GOk (ND : List Str) (sc scope : Scope) (N : List Str) (src : List (Option Nat)) : Prop where
  kind : scope.kind = .function
  co : scope.isCoroutine = false
  cell : ∀ y ∈ scope.names, y.2 ≠ .cell
  dot : scope.names.lookup (".0" : Str) = some NameKind.local
  free : ∀ y ∈ scope.names, y.2 = .free → sc.names.lookup y.1 = some .cell ∨ sc.names.lookup y.1 = some .free
  len : src.length = N.length
  src : ∀ (i j : Nat), src[i]? = some (some j) → ∃ x, N[i]? = some x ∧ ND[j]? = some x ∧ scope.names.lookup x = some .free
def gsl (σ : L2.St) (src : List (Option Nat)) : L2.St := src.map fun o => match o with
  | some j => σ.getD j none
  | none => none
theorem gsl_some {σ : L2.St} {src : List (Option Nat)} {i : Nat} {v : V} (h : (gsl σ src)[i]? = some (some v)) : ∃ j, src[i]? = some (some j) ∧ σ[j]? = some (some v) := by
  unfold gsl at h
  rw [List.getElem?_map] at h
  cases e : src[i]? with
  | none => rw [e] at h; cases h
  | some o =>
    rw [e] at h
    cases o with
    | none => cases h
    | some j =>
      refine ⟨j, rfl, ?_⟩
      have h2 : σ.getD j none = some v := Option.some.inj h
      rw [List.getD_eq_getElem?_getD] at h2
      cases e2 : σ[j]? with
      | none => rw [e2] at h2; cases h2
      | some w => rw [e2] at h2; exact congrArg some h2
theorem over_gl {A : Around} {elt iter tg : Expr} {ifs : List Expr} {scope : Scope} {pos : Pos} {it acc : Value} {env : Env} :
    A.over (.compLoop (.GeneratorExp elt [⟨tg, iter, ifs, 0⟩] scope pos) 0 it acc env) [] = A.deeper env := by
  first
    | rfl
    | (obtain ⟨hd, d, fr, gs, u⟩ := A; simp [Around.over, Around.deeper, marksOver, frameCount, unitsOf, envsOf, guardsOf, pushEnvs, pushGuards, Code.envs, Code.env?, Code.isFrame, Code.guards, Code.isGuard, Code.weight, Code.frames, Code.isCreation, Code.isCaller, Code.cUnits])
theorem over_gs {A : Around} {elt iter tg : Expr} {ifs : List Expr} {scope : Scope} {pos : Pos} {it acc : Value} {env : Env} :
    A.over (.compStart (.GeneratorExp elt [⟨tg, iter, ifs, 0⟩] scope pos) 0 it acc env) [] = A.deeper env := by
  first
    | rfl
    | (obtain ⟨hd, d, fr, gs, u⟩ := A; simp [Around.over, Around.deeper, marksOver, frameCount, unitsOf, envsOf, guardsOf, pushEnvs, pushGuards, Code.envs, Code.env?, Code.isFrame, Code.guards, Code.isGuard, Code.weight, Code.frames, Code.isCreation, Code.isCaller, Code.cUnits])
section
variable {X : Cx} {pins : List (Addr × Obj)} {σ : L2.St} {H : Hp} {s s' : Shared} {scope : Scope} {N : List Str} {src : List (Option Nat)} {fp : List Addr} {code : Value} {A : Around} {m0 : Str → Option Value}
theorem g_start (I : Inv X pins σ H s) (ok : GOk X.N X.env.scope scope N src) (hfp : ∀ b ∈ fp, FpOk X pins H b ∧ b < s.heap.objs.size) (hA : A.frames = some X.stack) (hh : A.handled = none)
    (os : s'.os = s.os) (bare : AllBare s'.gens) (kp : ∀ b o, s.heap.get? b = some o → s'.heap.get? b = some o) (hn : s'.heap.Ns s.heap.objs.size m0) :
    Inv (gcx X N scope code A s H fp) [] (gsl σ src) H s' := by
  have hfree : ∀ y ∈ scope.names, y.2 = .free → ∃ c, X.env.cells.lookup y.1 = some c := fun y hy e => by
    rcases ok.free y hy e with k | k
    · exact I.ok.has _ (.inl k)
    · exact I.ok.has _ (.inr k)
  have cm : ∀ {y c}, (y, c) ∈ cloFrom X.env.cells scope.names [] → X.env.cells.lookup y = some c ∧ c < s.heap.objs.size := fun {y c} hm => by
    rcases cloFrom_mem hm with hm | ⟨h1, rfl⟩
    · cases hm
    · obtain ⟨c, hc⟩ := hfree _ h1 rfl
      rw [hc]
      obtain ⟨w, z⟩ := I.cell _ _ hc
      exact ⟨rfl, z.lt⟩
  have look : ∀ {y}, scope.names.lookup y = some .free → ∃ c, (cloFrom X.env.cells scope.names []).lookup y = some c ∧ X.env.cells.lookup y = some c := fun {y} hl => by
    have hy : (y, NameKind.free) ∈ scope.names := PySem.mem_of_lookup hl
    obtain ⟨c', e'⟩ := mem_lookup (cloFrom_has (cells := X.env.cells) (acc := []) hy)
    exact ⟨c', e', (cm (PySem.mem_of_lookup e')).1⟩
  refine ⟨⟨I.ok.mod, ok.kind, I.ok.glob, rfl, Nat.le_refl _, fun y z c e1 e2 => ?_, fun y hy => ?_, fun y c z _ => ?_, fun _ => hh, Around.frames_deeper hA, .inr ⟨rfl, rfl⟩, fun b hb => ⟨?_, fun y c e z => ?_⟩, I.bs, Nat.le_trans I.ok.bsz I.sz, fun b o e hb => ?_, fun b hb z => ?_, I.stack, I.stkFree⟩,
    os, bare, Un.kept kp, ⟨m0, hn, fun i y v e1 e2 e3 => ?_⟩, fun y c e => ?_, I.hok.fresh (Nat.le_refl _), fun y c e => ?_, fun p hp => absurd (show p ∈ ([] : List (Addr × Obj)) ++ [] from hp) (by simp), I.hok.kept kp, ?_⟩
  · exact I.ok.inj y z c (cm (PySem.mem_of_lookup e1)).1 (cm (PySem.mem_of_lookup e2)).1
  · have hy : scope.names.lookup y = some .cell ∨ scope.names.lookup y = some .free := hy
    rcases hy with hy | hy
    · exact absurd rfl (ok.cell _ (PySem.mem_of_lookup hy))
    · obtain ⟨c, h1, _⟩ := look hy
      exact ⟨c, h1⟩
  · cases z
  · exact Nat.ne_of_lt (hfp b hb).2
  · exact (hfp b hb).1.2.2.2.2.1 y c (cm (PySem.mem_of_lookup e)).1 z
  · rcases (hfp b hb).1.2.2.2.1 with z | z
    · exact I.ok.noex b o e z
    · exact absurd (Nat.lt_of_lt_of_le (Heap.lt_size e) (Nat.le_trans I.ok.bsz z)) (Nat.lt_irrefl _)
  · rcases List.mem_cons.mp (I.stkSub b z) with z | z
    · exact (hfp b hb).1.2.1 z
    · exact (hfp b hb).1.2.2.1 z
  · obtain ⟨j, h1, h2⟩ := gsl_some e2
    obtain ⟨x, hx1, hx2, hx3⟩ := ok.src i j h1
    have e1 : N[i]? = some y := e1
    rw [hx1] at e1
    cases e1
    obtain ⟨m, _, hl⟩ := I.loc
    have hf := ok.free _ (PySem.mem_of_lookup hx3) rfl
    obtain ⟨w, r, q⟩ := hl j y v hx2 h2 (hf.elim (fun k => .inr (.inl k)) fun k => .inr (.inr k))
    refine ⟨w, r, .inr ⟨.inr hx3, ?_⟩⟩
    obtain ⟨c, h1, h2⟩ := look hx3
    rcases q with ⟨k, _⟩ | ⟨_, c', e', z⟩
    · have k : X.env.scope.names.lookup y = some .local := k
      rcases hf with k' | k' <;> rw [show X.env.scope.names.lookup y = _ from k'] at k <;> cases k
    · rw [h2] at e'; cases e'
      exact ⟨c, h1, z.keeps kp⟩
  · obtain ⟨w, z⟩ := I.cell y c (cm (PySem.mem_of_lookup e)).1
    exact ⟨w, z.keeps kp⟩
  · exact I.freeC y c (cm (PySem.mem_of_lookup e)).1
  · show (gsl σ src).length = N.length
    unfold gsl
    rw [List.length_map, ok.len]
end

/-! ### the loop of the generator's code -/
/-- what is pinned while the generator runs: its own object and what its consumer keeps -/
structure PinsOk (G : Cx) (fp : List Addr) (pins : List (Addr × Obj)) : Prop where
  young : ∀ p ∈ pins, G.s_0.heap.objs.size ≤ p.1
  ne : ∀ p ∈ pins, p.1 ≠ G.env.locals
  nfp : ∀ p ∈ pins, p.1 ∉ fp
  ncell : ∀ p ∈ pins, ∀ x c, G.env.cells.lookup x = some c → c ≠ p.1
abbrev TPost := V → List V → Hp → Prop → Prop
/-- the consumer has taken its item: what it keeps may have changed, all else stands -/
structure Woke (pins pins' : List (Addr × Obj)) (s s' : Shared) : Prop where
  os : s'.os = s.os
  bare : AllBare s'.gens
  keep : ∀ b o, b ∉ pins.map (·.1) → s.heap.get? b = some o → s'.heap.get? b = some o
  same : pins'.map (·.1) = pins.map (·.1)
  at_ : ∀ p ∈ pins', s'.heap.get? p.1 = some p.2
  data : ∀ p ∈ pins', ∀ v, p.2.data ≠ .cell v
def GYx (G : Cx) (fp : List Addr) (Pn : List V → List (Addr × Obj) → Prop) (post : TPost) : Protocol := fun n s₀ v s kap =>
  ∃ x ys σ H pins C, RelV x v ∧ Inv G pins σ H s ∧ PinsOk G fp pins ∧ Pn ys pins ∧ (∀ p ∈ pins, s₀.heap.get? p.1 = some p.2) ∧ post x ys H C ∧
    (C → ∀ s' pins', Woke pins pins' s s' → Pn (ys ++ [x]) pins' → kap (.send .none) s')
def GEx (G : Cx) (fp : List Addr) (Pn : List V → List (Addr × Obj) → Prop) (Fin : List V → Hp → Prop) : Shared → Shared → Prop := fun s₀ s =>
  ∃ ys σ H pins, Inv G pins σ H s ∧ PinsOk G fp pins ∧ Pn ys pins ∧ (∀ p ∈ pins, s₀.heap.get? p.1 = some p.2) ∧ Fin ys H
/-- the reading of a turn -/
def GTurn (J : It) (g : TG) (tt : TT) (te : TE) (vs : List Nat) (σg : L2.St) (post : TPost) (Fin : List V → Hp → Prop) (W : Nat → Nat → List V → Hp → Prop) : Prop :=
  ∀ i m ys H, W i m ys H → (J.stop i H ∧ Fin ys H) ∨ (J.go i H ∧ ∀ x H', J.yld i H x H' → g x σg H' fun σ2 H2 => wipe σ2 vs = σg ∧ tt σ2 H2 fun b H3 =>
    if b = true then te σ2 H3 fun v H4 => post v ys H4 (∃ m', m' < m ∧ W (i + 1) m' (ys ++ [v]) H4) else ∃ m', m' < m ∧ W (i + 1) m' ys H3)
theorem Inv.woke {G : Cx} {fp : List Addr} {pins pins' : List (Addr × Obj)} {σ : L2.St} {H : Hp} {s s' : Shared} (I : Inv G pins σ H s) (hpn : G.pn = []) (hp : PinsOk G fp pins) (z : Woke pins pins' s s') : Inv G pins' σ H s' ∧ PinsOk G fp pins' := by
  have hm : ∀ b, b ∈ pins.map (·.1) → ∃ p ∈ pins, p.1 = b := fun b hb => by
    obtain ⟨p, h1, h2⟩ := List.mem_map.mp hb
    exact ⟨p, h1, h2⟩
  have h0 : ∀ b ∈ pins.map (·.1), H b = none ∧ b ∉ G.fs := fun b hb => by
    obtain ⟨p, h1, rfl⟩ := hm b hb
    have q := I.pin p (List.mem_append_right _ h1)
    exact ⟨q.2.1, q.2.2.2.1⟩
  have h1 : ∀ b ∈ pins.map (·.1), G.s_0.heap.objs.size ≤ b ∧ b ≠ G.env.locals ∧ b ∉ fp ∧ ∀ x c, G.env.cells.lookup x = some c → c ≠ b := fun b hb => by
    obtain ⟨p, h1, rfl⟩ := hm b hb
    exact ⟨hp.young p h1, hp.ne p h1, hp.nfp p h1, hp.ncell p h1⟩
  have I0 : Inv G [] σ H s := I.pins_of fun p hp => by simp at hp
  have nt : ∀ b u, H b = some u → b ∉ pins.map (·.1) := fun b u q hb => by rw [(h0 b hb).1] at q; cases q
  obtain ⟨hh, g, d, t, o⟩ := s'
  have ho : o = s.os := z.os
  subst ho
  have J : Inv G [] σ H { s with heap := hh, gens := g, drawn := d, toks := t } := by
    refine I0.step (g' := g) (t' := t) (d' := d) (ch := pins.map (·.1)) (fun b hb => ?_)
      (fun b ob _ _ hc q _ => z.keep b ob hc q) (fun b ob _ _ hc q _ => ⟨ob.slots, z.keep b ob hc q⟩) (fun _ _ _ _ n => n) (fun b ob hc q => ⟨ob, z.keep b ob hc q⟩)
      (fun _ _ q => q) (fun _ _ _ q => q) (fun b ps q => ⟨#[], by rw [q]; simp⟩) (fun m hm => ?_) (fun b u q => ?_) z.bare
    · obtain ⟨q1, q2, _, q4⟩ := h1 b hb
      refine ⟨.inr q1, q2, q4, fun p hp => ?_⟩
      rw [hpn] at hp
      simp at hp
    · obtain ⟨ob, es, ep, ho, r⟩ := hm
      exact ⟨ob, es, ep, z.keep _ ob (fun hb => (h1 _ hb).2.1 rfl) ho, r⟩
    · refine (I0.hok b u q).stay (fun c v hc y => z.keep c v ?_ y) (fun _ y => y) fun _ _ y => y
      rcases hc with y | y
      · rw [y]; exact nt b u q
      · exact nt c _ y
  have hsub : ∀ p ∈ pins', p.1 ∈ pins.map (·.1) := fun p hp => by rw [← z.same]; exact List.mem_map.mpr ⟨p, hp, rfl⟩
  refine ⟨J.pins_of fun p hp => ⟨z.at_ p hp, (h0 _ (hsub p hp)).1, (h1 _ (hsub p hp)).2.1, (h0 _ (hsub p hp)).2, z.data p hp⟩,
    ⟨fun p hp => (h1 _ (hsub p hp)).1, fun p hp => (h1 _ (hsub p hp)).2.1, fun p hp => (h1 _ (hsub p hp)).2.2.1, fun p hp => (h1 _ (hsub p hp)).2.2.2⟩⟩

section
variable {X : Cx} {H4 : Hp} {s4 : Shared} {scope : Scope} {N : List Str} {fp : List Addr} {code : Value} {A : Around}
variable {elt tg iter : Expr} {ifs : List Expr} {pos : Pos} {it : Addr} {J : It} {tn : Nat → Heap → Prop} {g : TG} {tt : TT} {te : TE} {vs : List Nat} {σg : L2.St} {post : TPost} {Fin : List V → Hp → Prop}
  {W : Nat → Nat → List V → Hp → Prop} {Pn : List V → List (Addr × Obj) → Prop}
theorem g_loop (hco : scope.isCoroutine = false) (hh : A.handled = none) (T : Turn X.prog X.w X.K tg J fp it tn)
    (pg : PG (gcx X N scope code A s4 H4 fp) tg g) (pt : PTs (gcx X N scope code A s4 H4 fp) ifs tt) (pe : PE (gcx X N scope code A s4 H4 fp) elt te)
    (turn : GTurn J g tt te vs σg post Fin W) :
    ∀ (m n i : Nat) (ys : List V) (H : Hp) (s₀ s : Shared) (pins : List (Addr × Obj)), m < n → W i m ys H → Inv (gcx X N scope code A s4 H4 fp) pins σg H s → PinsOk (gcx X N scope code A s4 H4 fp) fp pins → Pn ys pins → (∀ p ∈ pins, s₀.heap.get? p.1 = some p.2) →
      tn i s.heap → (∀ b ∈ fp, H b = none) →
      Seg (model X.prog X.w) A (fun n s₀ r s₁ => r = .ok .next ∧ GEx (gcx X N scope code A s4 H4 fp) fp Pn Fin s₀ s₁) (GYx (gcx X N scope code A s4 H4 fp) fp Pn post) n s₀
        (.compLoop (.GeneratorExp elt [⟨tg, iter, ifs, 0⟩] scope pos) 0 (.ref it) .none (genv X scope code s4.heap.objs.size))
        ((model X.prog X.w).den (.compLoop (.GeneratorExp elt [⟨tg, iter, ifs, 0⟩] scope pos) 0 (.ref it) .none (genv X scope code s4.heap.objs.size))) [] s := by
  intro m
  induction m using Nat.strongRecOn with
  | ind m ih =>
  intro n i ys H s₀ s pins hmn w I P hPn hs0 st nf
  have stat : ∀ {pins' : List (Addr × Obj)} {σ' : L2.St} {H' : Hp} {s' : Shared}, Inv (gcx X N scope code A s4 H4 fp) pins' σ' H' s' → PinsOk (gcx X N scope code A s4 H4 fp) fp pins' → (∀ b ∈ fp, H' b = none) → ∀ b ∈ fp, FpOk (gcx X N scope code A s4 H4 fp) pins' H' b := fun {pins' σ' H' s'} I' P' hn b hb =>
    ⟨hn b hb, (I'.ok.exf b hb).1, I'.ok.exfs b hb, .inl hb, fun x c e => (I'.ok.exf b hb).2 x c e, fun p hp => by
      have hp : p ∈ ([] : List (Addr × Obj)) ++ pins' := hp
      rw [List.nil_append] at hp
      intro e
      exact P'.nfp p hp (by rw [e]; exact hb)⟩
  show Seg _ A _ _ _ s₀ _ ((compTurn (.GeneratorExp elt [⟨tg, iter, ifs, 0⟩] scope pos) 0 (.ref it) .none (genv X scope code s4.heap.objs.size)).onRaise (leaving (genv X scope code s4.heap.objs.size))) [] s
  rw [compTurn_gen, Sem.onRaise_eq_wrap]
  refine seg_bind_wrap (wpAny_standAt ?_)
  rcases turn i m ys H w with ⟨stop, fin⟩ | ⟨go, step⟩
  · refine seg_bind_wrap ?_
    rw [over_gl]
    refine thnF (T.done (gcx X N scope code A s4 H4 fp) rfl rfl rfl rfl i pins s _ H (fun _ _ => False) I (stat I P nf) st stop) fun r s6 ⟨hr, I6⟩ => ?_
    subst hr
    exact seg_end (.ok .next) ⟨rfl, ys, _, H, pins, I6, P, hPn, hs0, fin⟩
  · refine seg_bind_wrap ?_
    rw [over_gl]
    refine thnF (T.item (gcx X N scope code A s4 H4 fp) rfl rfl rfl rfl i pins s _ H (fun _ _ => False) I (stat I P nf) st go) fun r s6 ⟨u, hr, h6⟩ => ?_
    subst hr
    refine seg_bind_wrap ?_
    rw [over_gl]
    refine thnF h6 fun _ s7 ⟨x, H7, I7, r7, y7, st7, n7⟩ => ?_
    have I7' := I7.pinned (stat I7 P n7) (T.obj _ _ st7)
    refine seg_bind_wrap ?_
    rw [over_gl]
    refine thnF (pg.run _ s7 _ H7 x u _ I7' r7 (step x H7 y7)) fun _ s8 ⟨σ8, H8, I8, hw8, q8⟩ => ?_
    refine seg_bind_wrap ?_
    rw [over_gl]
    refine thnF (pt.run _ s8 σ8 H8 _ I8 q8) fun b s9 ⟨H9, I9, q9⟩ => ?_
    -- the turn's end
    have fin : ∀ {s' : Shared} {H' : Hp}, Inv (gcx X N scope code A s4 H4 fp) (pins ++ pinsAt fp s7.heap) σ8 H' s' → Inv (gcx X N scope code A s4 H4 fp) pins σg H' s' ∧ tn (i + 1) s'.heap ∧ ∀ b ∈ fp, H' b = none := fun {s' H'} I' => by
      have pin' : ∀ b ∈ fp, ∀ o, s7.heap.get? b = some o → s'.heap.get? b = some o ∧ H' b = none := fun b hb o e =>
        let z := I'.pin (b, o) (List.mem_append_right _ (List.mem_append_right _ (mem_pinsAt hb e)))
        ⟨z.1, z.2.1⟩
      have hl : σg.length = σ8.length := by rw [← hw8, wipe_length]
      refine ⟨(I'.unpinned (pins := pins)).weak hl (fun j v e => ?_), T.keep _ _ _ st7 fun b hb o e => (pin' b hb o e).1, fun b hb => ?_⟩
      · rw [← hw8] at e
        exact (wipe_some e).1
      · obtain ⟨o, e, _⟩ := T.obj _ _ st7 b hb
        exact (pin' b hb o e).2
    cases b with
    | false =>
      simp only [Bool.false_eq_true, if_false] at q9 ⊢
      obtain ⟨m', hm, w'⟩ := q9
      obtain ⟨J1, J2, J3⟩ := fin I9
      exact seg_again rfl (ih m' hm n (i + 1) ys H9 s₀ s9 pins (by omega) w' J1 P hPn hs0 J2 J3)
    | true =>
      simp only [if_true] at q9 ⊢
      obtain ⟨n', rfl⟩ : ∃ n', n = n' + 1 := ⟨n - 1, by omega⟩
      have hy : ∀ v, yieldOut (genv X scope code s4.heap.objs.size) v = yieldValue v := fun v => by
        have hco' : (genv X scope code s4.heap.objs.size).scope.isCoroutine = false := hco
        simp only [yieldOut, hco', Bool.false_eq_true, if_false]
      simp only [hy]
      rw [Sem.bind_eq_wrap', Sem.bind_eq_wrap', Sem.wrap_wrap, Sem.wrap_wrap]
      refine seg_wrap ?_
      rw [over_gl]
      refine thnF (pe.run _ s9 σ8 H9 _ I9 q9) fun v s10 ⟨yv, H10, I10, r10, q10⟩ => ?_
      obtain ⟨J1, J2, J3⟩ := fin I10
      refine seg_at (seg_yield rfl rfl rfl ⟨yv, ys, _, H10, pins, _, r10, J1, P, hPn, hs0, q10, fun hC s' pins' hw hP' => ?_⟩)
      obtain ⟨m', hm, w'⟩ := hC
      obtain ⟨K1, K2⟩ := Gx.Inv.woke J1 rfl P hw
      refine seg_again rfl (ih m' hm n' (i + 1) (ys ++ [yv]) H10 s' s' pins' (by omega) w' K1 K2 hP' hw.at_ (T.keep _ _ _ J2 fun b hb o e => hw.keep b o (fun hm => ?_) e) J3)
      obtain ⟨p, hp, e⟩ := List.mem_map.mp hm
      exact P.nfp p hp (by rw [e]; exact hb)

theorem g_begin (hco : scope.isCoroutine = false) (hh : A.handled = none) (T : Turn X.prog X.w X.K tg J fp it tn)
    (pg : PG (gcx X N scope code A s4 H4 fp) tg g) (pt : PTs (gcx X N scope code A s4 H4 fp) ifs tt) (pe : PE (gcx X N scope code A s4 H4 fp) elt te)
    (turn : GTurn J g tt te vs σg post Fin W) {m n : Nat} {ys : List V} {H : Hp} {s₀ s : Shared} {pins : List (Addr × Obj)} (hmn : m < n) (w : W 0 m ys H) (I : Inv (gcx X N scope code A s4 H4 fp) pins σg H s) (P : PinsOk (gcx X N scope code A s4 H4 fp) fp pins) (hPn : Pn ys pins)
    (hs0 : ∀ p ∈ pins, s₀.heap.get? p.1 = some p.2) (st : tn 0 s.heap) (nf : ∀ b ∈ fp, H b = none) :
      Seg (model X.prog X.w) A (fun n s₀ r s₁ => r = .ok .next ∧ GEx (gcx X N scope code A s4 H4 fp) fp Pn Fin s₀ s₁) (GYx (gcx X N scope code A s4 H4 fp) fp Pn post) n s₀
        (.compStart (.GeneratorExp elt [⟨tg, iter, ifs, 0⟩] scope pos) 0 (.ref it) .none (genv X scope code s4.heap.objs.size))
        ((model X.prog X.w).den (.compStart (.GeneratorExp elt [⟨tg, iter, ifs, 0⟩] scope pos) 0 (.ref it) .none (genv X scope code s4.heap.objs.size))) [] s := by
  have loop := g_loop (elt := elt) (iter := iter) (ifs := ifs) (pos := pos) hco hh T pg pt pe turn m n 0 ys H s₀ s pins hmn w I P hPn hs0 st nf
  show Seg _ A _ _ _ s₀ _ ((compStart (.GeneratorExp elt [⟨tg, iter, ifs, 0⟩] scope pos) 0 (.ref it) .none (genv X scope code s4.heap.objs.size)).onRaise (leaving (genv X scope code s4.heap.objs.size))) [] s
  unfold compStart
  rw [Sem.onRaise_eq_wrap]
  show Seg _ A _ _ _ s₀ _ ((ask >>= _).wrap _ _ _ _) [] s
  refine seg_bind_wrap (wpAny_askSetting ?_)
  split
  · exact seg_again rfl loop
  · first
      | exact seg_bind_wrap (wpAny_rule (seg_bind_wrap (wpAny_standAt (seg_bind_wrap (T.self _ 0 s _ _ st (seg_again rfl loop))))))
      | (refine seg_bind_wrap (wpAny_rule ?_); show Seg _ A _ _ _ s₀ _ ((standAt iter.pos >>= _).wrap _ _ _ _) [] s; exact seg_bind_wrap (wpAny_standAt (seg_bind_wrap (T.self _ 0 s _ _ st (seg_again rfl loop)))))

/-! ### one step of a consumer -/
/-- back with the def: what its frame asks -/
structure Back (X : Cx) (H4 : Hp) (s4 : Shared) (fp : List Addr) (H : Hp) (s' : Shared) : Prop where
  os : s'.os = s4.os
  un : Un (frs X.stack) fp H4 H s4.heap s'.heap
  hok : HOk X.prog X.w H s'.heap
  bare : AllBare s'.gens
theorem Back.of {N : List Str} {scope : Scope} {code : Value} {A : Around} {pins : List (Addr × Obj)} {σ : L2.St} {H : Hp} {s1 : Shared} (I : Inv (gcx X N scope code A s4 H4 fp) pins σ H s1) : Back X H4 s4 fp H s1 := ⟨I.os, I.base, I.hok, I.bare⟩
theorem Back.setGen {H : Hp} {s1 : Shared} (b : Back X H4 s4 fp H s1) {g : Nat} {x : GenState} (hx : x.bare = true) : Back X H4 s4 fp H (s1.setGen g x) := ⟨b.os, b.un, b.hok, allBare_setGen b.bare hx⟩
theorem Back.kept {H : Hp} {s1 : Shared} (b : Back X H4 s4 fp H s1) {h' : Heap} {tk : Nat} (k : ∀ b o, s1.heap.get? b = some o → h'.get? b = some o) : Back X H4 s4 fp H { s1 with heap := h', toks := tk } :=
  ⟨b.os, b.un.trans (Un.kept k), b.hok.kept k, b.bare⟩
theorem Back.inv {pins : List (Addr × Obj)} {σ : L2.St} {H : Hp} {s' : Shared} (b : Back X H4 s4 fp H s') (I : Inv X pins σ H4 s4) (hfp : ∀ b ∈ fp, FpOk X pins H4 b) : Inv X pins σ H s' :=
  I.call' (ch := fp) b.os b.un b.hok b.bare fun b hb => ⟨(hfp b hb).2.2.2.1, (hfp b hb).2.1, (hfp b hb).2.2.2.2.1, (hfp b hb).2.2.2.2.2⟩

abbrev GR (G : Cx) (fp : List Addr) (Pn : List V → List (Addr × Obj) → Prop) (Fin : List V → Hp → Prop) : GenEnd := fun n s₀ r s₁ => r = .ok .next ∧ GEx G fp Pn Fin s₀ s₁
/-- the generator at a, number gi, ready to be asked within A -/
structure Rdy (M : Model) (A : Around) (R : GenEnd) (Y : Protocol) (a : Addr) (go : Obj) (gi n : Nat) (s : Shared) : Prop where
  obj : s.heap.get? a = some go
  lim : s.heap.NoLimit
  go : ∃ gs, s.gens[gi]? = some gs ∧ gs.Goes M A R Y n (.send .none) (s.setGen gi .running)
theorem g_next {B : Around} {G : Cx} {a : Addr} {go : Obj} {gi n : Nat} {s : Shared} {Q : Option Value → Shared → Prop} {E : Value → Shared → Prop} (hh : B.handled = none) (hd : B.depth < recursionLimit)
    (hgen : ∀ h : Heap, h.get? a = some go → h.IsGen a gi)
    (hr : Rdy (model X.prog X.w) B.in1 (GR G fp Pn Fin) (GYx G fp Pn post) a go gi n s)
    (hY : ∀ x v ys σ H pins C s1 gs', gs'.bare = true → RelV x v → Inv G pins σ H s1 → PinsOk G fp pins → Pn ys pins → (∀ p ∈ pins, s.heap.get? p.1 = some p.2) → post x ys H C → gi < s1.gens.size →
      (C → ∀ s' pins', Woke pins pins' s1 s' → Pn (ys ++ [x]) pins' → ∃ n', n = n' + 1 ∧ gs'.Goes (model X.prog X.w) B.in1 (GR G fp Pn Fin) (GYx G fp Pn post) n' (.send .none) s') → Q (some v) (s1.setGen gi gs'))
    (hP : ∀ s1 ys σ H pins h', Inv G pins σ H s1 → PinsOk G fp pins → Pn ys pins → (∀ p ∈ pins, s.heap.get? p.1 = some p.2) → Fin ys H → (∀ b o, s1.heap.get? b = some o → h'.get? b = some o) → Q none { s1.setGen gi .finished with heap := h' }) :
    wpAny (model X.prog X.w) B (pyNext (.ref a)) Q E s := by
  obtain ⟨gs, hgs, hgo⟩ := hr.go
  have hgl : gi < s.gens.size := (Array.getElem?_eq_some_iff.mp hgs).1
  refine wpAny_gsz (n := gi + 1) hgl (wpAny_pyNext_genexpQ (P := fun _ s₀ s₁ => GEx G fp Pn Fin s₀ s₁) hh hr.lim hd (hgen _ hr.obj) hgs hgo (fun v s₁ gs' hb hv => ?_) fun s₁ hp h' hk => ?_)
  · intro hsz
    obtain ⟨x, ys, σ, H, pins, C, r, I, P, hPn, hs0, hpost, hkap⟩ := hv
    have hsz1 : gi < s₁.gens.size := by
      have q : (s₁.setGen gi gs').gens.size = s₁.gens.size := setGen_size _ _ _
      have hsz' : gi + 1 ≤ (s₁.setGen gi gs').gens.size := hsz
      omega
    refine hY x v ys σ H pins C s₁ gs' hb r I P hPn hs0 hpost hsz1 fun hC s' pins' hw hP' => ?_
    have q := hkap hC s' pins' hw hP'
    cases n with
    | zero => exact q.elim
    | succ n' => exact ⟨n', rfl, q⟩
  · intro _
    obtain ⟨ys, σ, H, pins, I, P, hPn, hs0, hfin⟩ := hp
    exact hP s₁ ys σ H pins h' I P hPn hs0 hfin hk
end
end Gx

set_option Elab.async false
set_option linter.all false
set_option maxRecDepth 100000
set_option maxHeartbeats 4000000
/-! Gy: the consumers all, any, sum, tuple. -/
namespace Gx
open PySem PySem.Spec PyProof.Rows L2 GenW

section
variable {X : Cx} {H4 : Hp} {s4 : Shared} {scope : Scope} {N : List Str} {fp : List Addr} {code : Value} {AG A : Around} {a S : Addr} {go : Obj} {gi : Nat} {Fin : List V → Hp → Prop} {Qf : Hp → Prop} {R' : Result → Shared → Prop}

def pAll (Qf : Hp → Prop) : TPost := fun v _ H C => ∃ b, v = .bl b ∧ if b = true then C else Qf H
def pAny (Qt : Hp → Prop) : TPost := fun v _ H C => ∃ b, v = .bl b ∧ if b = true then Qt H else C
def nAll (a : Addr) (go : Obj) : List V → List (Addr × Obj) → Prop := fun _ pins => pins = [(a, go)]

theorem woke_same {G : Cx} {fp : List Addr} {pins : List (Addr × Obj)} {σ : L2.St} {H : Hp} {s1 : Shared} {gs' : GenState} (I : Inv G pins σ H s1) (hb : gs'.bare = true) : Woke pins pins s1 ((s1.setGen gi gs').setGen gi .running) where
  os := rfl
  bare := allBare_setGen (s := s1.setGen gi gs') (allBare_setGen I.bare hb) rfl
  keep := fun _ _ _ e => e
  same := rfl
  at_ := fun p hp => (I.pin p (List.mem_append_right _ hp)).1
  data := fun p hp => (I.pin p (List.mem_append_right _ hp)).2.2.2.2

theorem drain_all (hh : A.handled = none) (hd : A.depth < recursionLimit) (hgen : ∀ h : Heap, h.get? a = some go → h.IsGen a gi)
    (hT : ∀ s' ys H, Back X H4 s4 fp H s' → Fin ys H → R' (.ok (.ret (.bool true))) s') (hF : ∀ s' H, Back X H4 s4 fp H s' → Qf H → R' (.ok (.ret (.bool false))) s') :
    ∀ (n : Nat) (s : Shared), Rdy (model X.prog X.w) A.in1.in1 (GR (gcx X N scope code AG s4 H4 fp) fp (nAll a go) Fin) (GYx (gcx X N scope code AG s4 H4 fp) fp (nAll a go) (pAll Qf)) a go gi n s →
      codeAny (model X.prog X.w) A (.builtin "all.loop" ⟨[.ref a], []⟩) R' s := by
  intro n
  induction n using Nat.strongRecOn with
  | ind n ih =>
  intro s hr
  refine codeAny_builtin F.entry_all_loop ?_
  rw [Around.under_plainId F.plain_all_loop _]
  show wpAny _ A.in1 (pyNext (.ref a) >>= _) _ _ s
  refine wpAny_bind (g_next (B := A.in1) hh hd hgen hr (fun x v ys σ H pins C s1 gs' hb rv I P hPn hs0 hpost hsz hk => ?_) fun s1 ys σ H pins h' I P hPn hs0 hfin hkh => ?_)
  · obtain ⟨b, rfl, hpost⟩ := hpost
    cases rv
    refine wpAny_bind (wpAny_holding (wpAny_truthy_bool ?_))
    refine wpAny_bind (wpAny_letGo ?_)
    have hPn' : pins = [(a, go)] := hPn
    subst hPn'
    cases b with
    | true =>
      simp only [if_true] at hpost ⊢
      obtain ⟨n', rfl, hgo⟩ := hk hpost _ _ (woke_same (fp := fp) (gi := gi) I hb) rfl
      refine wpAny_pure ⟨plainId_quiet F.plain_all_loop _, ih n' (Nat.lt_succ_self _) _ ⟨?_, I.nolimit, gs', setGen_at hsz, hgo⟩⟩
      exact (I.pin (a, go) (List.mem_append_right _ List.mem_cons_self)).1
    | false =>
      simp only [Bool.false_eq_true, if_false] at hpost ⊢
      exact wpAny_bind (wpAny_rule (wpAny_pure (hF _ H ((Back.of I).setGen hb) hpost)))
  · exact wpAny_bind (wpAny_rule (wpAny_pure (hT _ ys H (Back.kept (tk := s1.toks) ((Back.of I).setGen (g := gi) (x := .finished) rfl) hkh) hfin)))
theorem drain_any {Qt : Hp → Prop} (hh : A.handled = none) (hd : A.depth < recursionLimit) (hgen : ∀ h : Heap, h.get? a = some go → h.IsGen a gi)
    (hF : ∀ s' ys H, Back X H4 s4 fp H s' → Fin ys H → R' (.ok (.ret (.bool false))) s') (hT : ∀ s' H, Back X H4 s4 fp H s' → Qt H → R' (.ok (.ret (.bool true))) s') :
    ∀ (n : Nat) (s : Shared), Rdy (model X.prog X.w) A.in1.in1 (GR (gcx X N scope code AG s4 H4 fp) fp (nAll a go) Fin) (GYx (gcx X N scope code AG s4 H4 fp) fp (nAll a go) (pAny Qt)) a go gi n s →
      codeAny (model X.prog X.w) A (.builtin "any.loop" ⟨[.ref a], []⟩) R' s := by
  intro n
  induction n using Nat.strongRecOn with
  | ind n ih =>
  intro s hr
  refine codeAny_builtin F.entry_any_loop ?_
  rw [Around.under_plainId F.plain_any_loop _]
  show wpAny _ A.in1 (pyNext (.ref a) >>= _) _ _ s
  refine wpAny_bind (g_next (B := A.in1) hh hd hgen hr (fun x v ys σ H pins C s1 gs' hb rv I P hPn hs0 hpost hsz hk => ?_) fun s1 ys σ H pins h' I P hPn hs0 hfin hkh => ?_)
  · obtain ⟨b, rfl, hpost⟩ := hpost
    cases rv
    refine wpAny_bind (wpAny_holding (wpAny_truthy_bool ?_))
    refine wpAny_bind (wpAny_letGo ?_)
    have hPn' : pins = [(a, go)] := hPn
    subst hPn'
    cases b with
    | false =>
      simp only [Bool.false_eq_true, if_false] at hpost ⊢
      obtain ⟨n', rfl, hgo⟩ := hk hpost _ _ (woke_same (fp := fp) (gi := gi) I hb) rfl
      refine wpAny_pure ⟨plainId_quiet F.plain_any_loop _, ih n' (Nat.lt_succ_self _) _ ⟨?_, I.nolimit, gs', setGen_at hsz, hgo⟩⟩
      exact (I.pin (a, go) (List.mem_append_right _ List.mem_cons_self)).1
    | true =>
      simp only [if_true] at hpost ⊢
      exact wpAny_bind (wpAny_rule (wpAny_pure (hT _ H ((Back.of I).setGen hb) hpost)))
  · exact wpAny_bind (wpAny_rule (wpAny_pure (hF _ ys H (Back.kept (tk := s1.toks) ((Back.of I).setGen (g := gi) (x := .finished) rfl) hkh) hfin)))

/-! ### tuple -/
def pTup : TPost := fun _ ys _ C => ys.length < sizeLine ∧ C
def nTup (a : Addr) (go : Obj) (S : Addr) : List V → List (Addr × Obj) → Prop := fun ys pins => ∃ acc c, Vals ys acc.toList ∧ ys.length ≤ sizeLine ∧ pins = [(a, go), (S, lstObj acc c)]
theorem drain_tup {res : Value} (hh : A.handled = none) (hd : A.depth < recursionLimit) (hgen : ∀ h : Heap, h.get? a = some go → h.IsGen a gi) (hSa : S ≠ a) (hSc : S ≠ cStatics)
    (hEnd : ∀ s' ys H acc c, Back X H4 s4 fp H s' → Fin ys H → Vals ys acc.toList → ys.length ≤ sizeLine → s'.heap.get? S = some (lstObj acc c) → R' (.ok (.ret res)) s') :
    ∀ (n : Nat) (s : Shared), Rdy (model X.prog X.w) A.in1.in1 (GR (gcx X N scope code AG s4 H4 fp) fp (nTup a go S) Fin) (GYx (gcx X N scope code AG s4 H4 fp) fp (nTup a go S) pTup) a go gi n s →
      codeAny (model X.prog X.w) A (.builtin "list.extend.loop" ⟨[.ref S, .ref a, res], []⟩) R' s := by
  intro n
  induction n using Nat.strongRecOn with
  | ind n ih =>
  intro s hr
  refine codeAny_builtin F.entry_extend_loop ?_
  rw [Around.under_plainId F.plain_extend_loop _]
  show wpAny _ A.in1 (pyNext (.ref a) >>= _) _ _ s
  refine wpAny_bind (g_next (B := A.in1) hh hd hgen hr (fun x v ys σ H pins C s1 gs' hb rv I P hPn hs0 hpost hsz hk => ?_) fun s1 ys σ H pins h' I P hPn hs0 hfin hkh => ?_)
  · obtain ⟨hlt, hC⟩ := hpost
    obtain ⟨acc, c, hv, hle, rfl⟩ := hPn
    have pa := I.pin (a, go) (List.mem_append_right _ List.mem_cons_self)
    have pS := I.pin (S, lstObj acc c) (List.mem_append_right _ (List.mem_cons_of_mem _ List.mem_cons_self))
    have hS1 : s1.heap.get? S = some (lstObj acc c) := pS.1
    have hasz : acc.size = ys.length := by
      have e1 := hv.length
      have e2 : acc.toList.length = acc.size := by simp
      omega
    show wpAny _ A.in1 (updateSeq S (·.push v) >>= _) _ _ _
    refine wpAny_bind ?_
    refine wpAny_updateSeq (s := s1.setGen gi gs') hS1 rfl (wpAny_pure ⟨plainId_quiet F.plain_extend_loop _, ?_⟩) (by omega) (by show (acc.push v).size ≤ sizeLine + 1; rw [Array.size_push]; omega)
    have keep3 : ∀ b o, b ≠ S → s1.heap.get? b = some o → (s1.heap.update S (Obj.mapSeq (·.push v))).get? b = some o := fun b o hbS e => (Heap.get?_update_other _ _ (Ne.symm hbS)).trans e
    have at3 : (s1.heap.update S (Obj.mapSeq (·.push v))).get? S = some (lstObj (acc.push v) (c + 1)) ∨ ∃ c', (s1.heap.update S (Obj.mapSeq (·.push v))).get? S = some (lstObj (acc.push v) c') := .inr ⟨_, Heap.get?_update_self _ hS1 rfl⟩
    obtain ⟨c', at4⟩ : ∃ c', (s1.heap.update S (Obj.mapSeq (·.push v))).get? S = some (lstObj (acc.push v) c') := by
      rcases at3 with z | z
      · exact ⟨_, z⟩
      · exact z
    have hk2 := hk hC ({ (s1.setGen gi gs').setGen gi .running with heap := s1.heap.update S (Obj.mapSeq (·.push v)) }) [(a, go), (S, lstObj (acc.push v) c')]
      { os := rfl
        bare := allBare_setGen (s := s1.setGen gi gs') (allBare_setGen I.bare hb) rfl
        keep := fun b o hb e => keep3 b o (fun z => hb (by rw [z]; simp)) e
        same := rfl
        at_ := fun p hp => by
          rcases List.mem_cons.mp hp with z | z
          · rw [z]
            exact keep3 a go (Ne.symm hSa) pa.1
          · rw [List.mem_singleton.mp z]
            exact at4
        data := fun p hp => by
          rcases List.mem_cons.mp hp with z | z
          · rw [z]
            exact pa.2.2.2.2
          · rw [List.mem_singleton.mp z]
            intro v q
            cases q }
      ⟨acc.push v, c', by rw [Array.toList_push]; exact hv.append (.cons rv .nil), by rw [List.length_append]; exact hlt, rfl⟩
    obtain ⟨n', rfl, hgo⟩ := hk2
    refine ih n' (Nat.lt_succ_self _) { s1.setGen gi gs' with heap := s1.heap.update S (Obj.mapSeq (·.push v)) } ⟨keep3 a go (Ne.symm hSa) pa.1, ?_, gs', setGen_at hsz, hgo⟩
    obtain ⟨mc, hns, hnn⟩ := I.nolimit
    exact ⟨mc, hns.at' fun o e => keep3 _ o (Ne.symm hSc) e, hnn⟩
  · obtain ⟨acc, c, hv, hle, rfl⟩ := hPn
    have hS1 : s1.heap.get? S = some (lstObj acc c) := (I.pin (S, lstObj acc c) (List.mem_append_right _ (List.mem_cons_of_mem _ List.mem_cons_self))).1
    exact wpAny_pure (hEnd _ ys H acc c (Back.kept (tk := s1.toks) ((Back.of I).setGen (g := gi) (x := .finished) rfl) hkh) hfin hv hle (hkh _ _ hS1))

/-! ### sum -/
def pSum : TPost := fun v _ _ C => (∃ j, v = .int j) ∧ C
abbrev sumObj (z : Int) (t : Tok) (c : Nat) : Obj := { cls := .type "list", dict := none, data := .seq #[.int z t] c, slots := #[] }
def nSum (a : Addr) (go : Obj) (S : Addr) : List V → List (Addr × Obj) → Prop := fun ys pins => ∃ (ns : List Int) (t : Tok) (c : Nat), ys = ns.map V.int ∧ pins = [(a, go), (S, sumObj ns.sum t c)]
theorem drain_sum (hh : A.handled = none) (hd : A.depth < recursionLimit) (hgen : ∀ h : Heap, h.get? a = some go → h.IsGen a gi) (hSa : S ≠ a) (hSc : S ≠ cStatics)
    (hEnd : ∀ s' (ns : List Int) H t, Back X H4 s4 fp H s' → Fin (ns.map V.int) H → R' (.ok (.ret (.int ns.sum t))) s') :
    ∀ (n : Nat) (s : Shared) (st z : Int) (tA : Tok) (c : Nat), (st = 0 ∨ st = 2) → s.heap.get? S = some (sumObj z tA c) →
      Rdy (model X.prog X.w) A.in1.in1 (GR (gcx X N scope code AG s4 H4 fp) fp (nSum a go S) Fin) (GYx (gcx X N scope code AG s4 H4 fp) fp (nSum a go S) pSum) a go gi n s →
      codeAny (model X.prog X.w) A (.builtin "sum.loop" ⟨[.ref a, .ref S, rawInt st, rawInt 0], []⟩) R' s := by
  intro n
  induction n using Nat.strongRecOn with
  | ind n ih =>
  intro s st z tA c hst hS hr
  refine codeAny_builtin F.entry_sum_loop ?_
  rw [Around.under_plainId F.plain_sum_loop _]
  show wpAny _ A.in1 (seqItems? (.ref S) >>= _) _ _ s
  refine wpAny_bind (wpAny_seqItems hS rfl ?_)
  show wpAny _ A.in1 (tryCatch (pyNext (.ref a)) _ >>= _) _ _ s
  refine wpAny_bind (wpAny_tryCatch (g_next (B := A.in1) hh hd hgen hr (fun x v ys σ H pins C s1 gs' hb rv I P hPn hs0 hpost hsz hk => ?_) fun s1 ys σ H pins h' I P hPn hs0 hfin hkh => ?_))
  · obtain ⟨⟨j, rfl⟩, hC⟩ := hpost
    obtain ⟨t, rfl⟩ := rv
    obtain ⟨ns, tB, cB, rfl, rfl⟩ := hPn
    have pa := I.pin (a, go) (List.mem_append_right _ List.mem_cons_self)
    have pS := I.pin (S, sumObj ns.sum tB cB) (List.mem_append_right _ (List.mem_cons_of_mem _ List.mem_cons_self))
    have e0 := hs0 (S, sumObj ns.sum tB cB) (List.mem_cons_of_mem _ List.mem_cons_self)
    have e1 : s.heap.get? S = some (sumObj ns.sum tB cB) := e0
    rw [hS] at e1
    have ez : z = ns.sum ∧ tA = tB := by
      have e2 := congrArg Obj.data (Option.some.inj e1)
      have e3 : Data.seq #[Value.int z tA] c = Data.seq #[Value.int ns.sum tB] cB := e2
      injection e3 with e4 _
      have e5 := congrArg Array.toList e4
      simp at e5
      exact e5
    obtain ⟨rfl, rfl⟩ := ez
    have hS1 : s1.heap.get? S = some (sumObj ns.sum tA cB) := pS.1
    -- what follows the write
    have next : ∀ (h2 : Heap) (tk c' : Nat) (t' : Tok) (st' : Int), (st' = 0 ∨ st' = 2) → (∀ b o, b ≠ S → s1.heap.get? b = some o → h2.get? b = some o) → h2.get? S = some (sumObj (ns.sum + j) t' c') →
        codeAny (model X.prog X.w) A (.builtin "sum.loop" ⟨[.ref a, .ref S, rawInt st', rawInt 0], []⟩) R' { s1.setGen gi gs' with heap := h2, toks := tk } := fun h2 tk c' t' st' hst' keep3 at3 => by
      have es : (ns ++ [j]).sum = ns.sum + j := by simp
      have hk2 := hk hC ({ (s1.setGen gi gs').setGen gi .running with heap := h2, toks := tk }) [(a, go), (S, sumObj (ns ++ [j]).sum t' c')]
        { os := rfl
          bare := allBare_setGen (s := s1.setGen gi gs') (allBare_setGen I.bare hb) rfl
          keep := fun b o hb e => keep3 b o (fun z => hb (by rw [z]; simp)) e
          same := rfl
          at_ := fun p hp => by
            rcases List.mem_cons.mp hp with z | z
            · rw [z]
              exact keep3 a go (Ne.symm hSa) pa.1
            · rw [List.mem_singleton.mp z, es]
              exact at3
          data := fun p hp => by
            rcases List.mem_cons.mp hp with z | z
            · rw [z]
              exact pa.2.2.2.2
            · rw [List.mem_singleton.mp z]
              intro v q
              cases q }
        ⟨ns ++ [j], t', c', by simp, rfl⟩
      obtain ⟨n', rfl, hgo⟩ := hk2
      refine ih n' (Nat.lt_succ_self _) _ st' _ t' c' hst' at3 ⟨keep3 a go (Ne.symm hSa) pa.1, ?_, gs', setGen_at hsz, hgo⟩
      obtain ⟨mc, hns, hnn⟩ := I.nolimit
      exact ⟨mc, hns.at' fun o e => keep3 _ o (Ne.symm hSc) e, hnn⟩
    have up : ∀ (h : Heap) (f : Obj → Obj) b o, b ≠ S → h.get? b = some o → (h.update S f).get? b = some o := fun h f b o hbS e => (Heap.get?_update_other _ _ (Ne.symm hbS)).trans e
    rcases hst with rfl | rfl
    · show wpAny _ A.in1 (if (_ : Bool) = true then (mkInt (ns.sum + j) >>= _) else _) _ _ _
      split
      · refine wpAny_bind (wpAny_mkInt ?_)
        show wpAny _ A.in1 (updateSeq S (fun _ => #[.int (ns.sum + j) (s1.setGen gi gs').toks]) >>= _) _ _ _
        refine wpAny_bind ?_
        refine wpAny_updateSeq (s := { s1.setGen gi gs' with toks := (s1.setGen gi gs').toks + 1 }) hS1 rfl (wpAny_pure ⟨plainId_quiet F.plain_sum_loop _, ?_⟩)
        exact next _ _ _ _ 0 (.inl rfl) (up _ _) (Heap.get?_update_self _ hS1 rfl)
      · refine wpAny_bind (wpAny_rule ?_)
        refine wpAny_bind (wpAny_attempt (wpAny_holding (wpAny_add_int ?_)))
        show wpAny _ A.in1 (updateSeq S (fun _ => #[.int (ns.sum + j) (s1.setGen gi gs').toks]) >>= _) _ _ _
        refine wpAny_bind (wpAny_updateSeq (s := { s1.setGen gi gs' with toks := (s1.setGen gi gs').toks + 1 }) hS1 rfl ?_)
        have hS2 := Heap.get?_update_self (Obj.mapSeq fun _ => #[Value.int (ns.sum + j) (s1.setGen gi gs').toks]) hS1 rfl
        refine wpAny_bind (wpAny_letGo ?_)
        refine wpAny_bind (wpAny_updateSeq hS2 rfl (wpAny_pure ⟨plainId_quiet F.plain_sum_loop _, ?_⟩))
        exact next _ _ _ _ 2 (.inr rfl) (fun b o hb e => up _ _ b o hb (up _ _ b o hb e)) (Heap.get?_update_self _ hS2 rfl)
    · show wpAny _ A.in1 ((holding [Value.int j t] (binaryOp .Add (.int ns.sum tA) (.int j t))).attempt >>= _) _ _ _
      refine wpAny_bind (wpAny_attempt (wpAny_holding (wpAny_add_int ?_)))
      show wpAny _ A.in1 (updateSeq S (fun _ => #[.int (ns.sum + j) (s1.setGen gi gs').toks]) >>= _) _ _ _
      refine wpAny_bind (wpAny_updateSeq (s := { s1.setGen gi gs' with toks := (s1.setGen gi gs').toks + 1 }) hS1 rfl ?_)
      have hS2 := Heap.get?_update_self (Obj.mapSeq fun _ => #[Value.int (ns.sum + j) (s1.setGen gi gs').toks]) hS1 rfl
      refine wpAny_bind (wpAny_letGo ?_)
      refine wpAny_bind (wpAny_updateSeq hS2 rfl (wpAny_pure ⟨plainId_quiet F.plain_sum_loop _, ?_⟩))
      exact next _ _ _ _ 2 (.inr rfl) (fun b o hb e => up _ _ b o hb (up _ _ b o hb e)) (Heap.get?_update_self _ hS2 rfl)
  · obtain ⟨ns, tB, cB, rfl, rfl⟩ := hPn
    have e1 : s.heap.get? S = some (sumObj ns.sum tB cB) := hs0 (S, sumObj ns.sum tB cB) (List.mem_cons_of_mem _ List.mem_cons_self)
    rw [hS] at e1
    have ez : z = ns.sum ∧ tA = tB := by
      have e2 := congrArg Obj.data (Option.some.inj e1)
      have e3 : Data.seq #[Value.int z tA] c = Data.seq #[Value.int ns.sum tB] cB := e2
      injection e3 with e4 _
      have e5 := congrArg Array.toList e4
      simp at e5
      exact e5
    obtain ⟨rfl, rfl⟩ := ez
    exact wpAny_pure (hEnd _ ns H tA (Back.kept (tk := s1.toks) ((Back.of I).setGen (g := gi) (x := .finished) rfl) hkh) hfin)
end
end Gx

set_option Elab.async false
set_option linter.all false
set_option maxRecDepth 100000
set_option maxHeartbeats 4000000
/-! Gz: a generator expression is made; the rules. -/
namespace Gx
open PySem PySem.Spec PyProof.Rows L2 GenW
abbrev TabG := GxR.TabG
abbrev Tabbed := GxR.Tabbed
abbrev TabB := LamX.TabB
section
variable {X : Cx} {pins : List (Addr × Obj)} {σ : L2.St} {H : Hp} {s : Shared} {scope : Scope} {N : List Str} {src : List (Option Nat)} {c P : Addr}
variable {elt tg iter : Expr} {ifs : List Expr} {gpos : Pos} {wi : TI} {R : It → Hp → Prop}
/-- the generator at a, just made in the state s4, number gi; s5: now -/
structure Made (X : Cx) (scope : Scope) (elt tg iter : Expr) (ifs : List Expr) (gpos : Pos) (s4 : Shared) (code : Value) (it a : Addr) (go : Obj) (gi : Nat) (s5 : Shared) : Prop where
  os : s5.os = s4.os
  bare : AllBare s5.gens
  keep : ∀ b o, s4.heap.get? b = some o → s5.heap.get? b = some o
  ns : s5.heap.Ns s4.heap.objs.size (fun y => if y = ".0" then some (.ref it) else none)
  obj : s5.heap.get? a = some go
  gen : ∀ h : Heap, h.get? a = some go → h.IsGen a gi
  dat : ∀ v, go.data ≠ .cell v
  lt : s4.heap.objs.size < a
  top : a < s5.heap.objs.size
  fresh : s5.gens[gi]? = some (.fresh (.compStart (.GeneratorExp elt [⟨tg, iter, ifs, 0⟩] scope gpos) 0 (.ref it) .none (genv X scope code s4.heap.objs.size)))

theorem gen_make {k : Nat} {Q' : Value → Shared → Prop} (hr : Room k X.A) (TB : TabB X.base X.mg c P) (hcode : X.env.code = .ref c) (ok : GOk X.N X.env.scope scope N src) (hi : PI X tg iter wi)
    (hs : ∀ v, genFold iter X.env v = pure v) (I : Inv X pins σ H s) (h : wi σ H fun J H1 => TabG H1 P ∧ R J H1)
    (hQ : ∀ it fp tn J H1 H2 s4 code a go gi s5, R J H1 → Tabbed P H1 H2 → Inv X pins σ H2 s4 → Turn X.prog X.w X.K tg J fp it tn → tn 0 s5.heap → (∀ b ∈ fp, FpOk X pins H2 b ∧ b < s4.heap.objs.size) →
      Made X scope elt tg iter ifs gpos s4 code it a go gi s5 → Q' (.ref a) s5) :
    wpAny (model X.prog X.w) X.A (eval (.GeneratorExp elt [⟨tg, iter, ifs, 0⟩] scope gpos) X.env) Q' X.xe s := by
  have hfree : ∀ y ∈ scope.names, y.2 = .free → ∃ c, X.env.cells.lookup y.1 = some c := fun y hy e => by
    rcases ok.free y hy e with k | k
    · exact I.ok.has _ (.inl k)
    · exact I.ok.has _ (.inr k)
  refine wpAny_GeneratorExp_make ok.co (closure_ok hfree) ok.cell ok.dot ok.kind (by have := hr.dp; omega) ?_ hs
  refine thn (hi.run pins s σ H _ I h) fun xv s1 hx => thn hx fun itv s2 h2 => ?_
  obtain ⟨it, fp, tn, J, H1, rfl, I1, T, st2, f2, ⟨ps, hP, ht⟩, q⟩ := h2
  refine ⟨I1.nolimit, ?_⟩
  have hPs : s2.heap.get? P = some { cls := .none, data := .fields ps } := I1.hok P _ hP
  have cd : PySem.W.CodeHd s2.heap c P := TB.code.keeps fun b u e => I1.bk b u e
  have fpP : ∀ b ∈ fp, b ≠ P := fun b hb z => by
    have q := (f2 b hb).1
    rw [z, hP] at q
    cases q
  have fpl : ∀ b ∈ fp, b < s2.heap.objs.size := fun b hb => by
    obtain ⟨o, e, _⟩ := T.obj _ _ st2 b hb
    exact Heap.lt_size e
  have cont : ∀ (code : Value) (h3 : Heap) (tk : Nat) (ps' : Array Value), Heap.ExtBut P s2.heap h3 → s2.heap.objs.size ≤ h3.objs.size → h3.get? P = some { cls := .none, data := .fields ps' } → (∃ more, ps' = ps ++ more) → TriplesOk ps'.toList →
      wpAny (model X.prog X.w) X.A (builtinsFor X.env.globals X.env.builtins) (fun bi s₄ =>
        ∀ h', h'.Ns s₄.heap.objs.size (fun y => if y = ".0" then some (.ref it) else none) → Heap.SameBut s₄.heap.objs.size (s₄.heap.push { cls := .type "frame", data := .dict #[] }) h' →
          Q' (.ref h'.objs.size) { s₄ with
            gens := s₄.gens.push (.fresh (.compStart (.GeneratorExp elt [⟨tg, iter, ifs, 0⟩] scope gpos) 0 (.ref it) .none (genEnv scope (cloFrom X.env.cells scope.names []) s₄.heap.objs.size code bi X.env))),
            toks := s₄.toks + 1 + 1 + 1,
            heap := h'.push { cls := .type "generator", data := .fields #[.int s₄.gens.size 0, .str "<genexpr>" (s₄.toks + 1), .str (X.env.qual ++ "<genexpr>") (s₄.toks + 1 + 1)] } }) X.xe { s2 with heap := h3, toks := tk } := by
    intro code h3 tk ps' hx hsz hP3 hmore ht3
    obtain ⟨bm, ob, e1, e2, e3, e4, e5, e6, e7, e8⟩ := TB.bm
    have keep3 : ∀ b u, b ≠ P → s2.heap.get? b = some u → h3.get? b = some u := fun b u hb e => hx b u hb e
    refine wpAny_builtinsFor (m := X.mg) (by rw [I1.ok.glob]; exact (I1.mod.glob.keeps I1.bk).extBut hx TB.gP) e1 e2 (keep3 _ _ e4 (I1.bk _ _ e5)) e6 e7 e8 ?_
    intro h' hn' hs'
    obtain ⟨more, em⟩ := hmore
    have J2 := GxR.inv_tab (more := more) (h' := h3) (g' := s2.gens) (d' := s2.drawn) (t' := tk) I1 hP keep3 (by rw [← em]; exact hP3) I1.bare
    have keep4 : ∀ b o, h3.get? b = some o → h'.get? b = some o := fun b o e => hs'.extBut b o (Nat.ne_of_lt (Heap.lt_size e)) (Heap.get?_push_of_some _ e)
    have sz' : h'.objs.size = h3.objs.size + 1 := by rw [hs'.1, Heap.size_push]
    refine hQ it fp tn J H1 (upd H1 P (.tbl (ps ++ more))) { s2 with heap := h3, toks := tk } code h'.objs.size { cls := .type "generator", data := .fields #[.int s2.gens.size 0, .str "<genexpr>" (tk + 1), .str (X.env.qual ++ "<genexpr>") (tk + 1 + 1)] } s2.gens.size _ q
      ⟨⟨ps ++ more, upd_same, by rw [← em]; exact ht3⟩, fun b hb => upd_ne hb⟩ J2 T ?_ (fun b hb => ?_) ⟨rfl, ?_, fun b o e => Heap.get?_push_of_some _ (keep4 b o e), hn'.push _, Heap.get?_push_size _ rfl, fun h e => ⟨_, _, _, e, rfl, rfl, rfl⟩, fun v q => (by cases q), ?_, ?_, Array.getElem?_push_size ..⟩
    · refine T.keep _ _ _ st2 fun b hb o e => ?_
      exact Heap.get?_push_of_some _ (keep4 b o (keep3 b o (fpP b hb) e))
    · obtain ⟨f0, f1⟩ := f2 b hb
      exact ⟨⟨by rw [upd_ne (fpP b hb)]; exact f0, f1⟩, Nat.lt_of_lt_of_le (fpl b hb) hsz⟩
    · exact AllBare.push I1.bare rfl
    · show h3.objs.size < h'.objs.size
      omega
    · show h'.objs.size < (h'.push _).objs.size
      rw [Heap.size_push]
      exact Nat.lt_succ_self _
  cases hf : codeAmong gpos ps.toList with
  | none =>
    refine wpAny_genexprCodeX hcode (cd.code hPs ht) (cd.tab hPs) hf fun c' h' tk hx hge hlt hco' _ htab' _ => ?_
    obtain ⟨o1, vs, f1, tf, fl, tg, inF, tx, tt, op, _, _, _, _, _, _, _, _, _, htr, _⟩ := hco'
    exact cont _ h' tk _ hx (Nat.le_trans hge (Nat.le_of_lt hlt)) htab'.2 ⟨_, rfl⟩ htr
  | some cv =>
    refine wpAny_genexprCode_hit hcode (cd.code hPs ht) hf ?_
    exact cont cv s2.heap s2.toks ps (Heap.ExtBut.refl _ _) (Nat.le_refl _) hPs ⟨#[], by simp⟩ ht

/-- the generator, ready for a consumer that runs within B and keeps pins -/
theorem Made.ready {s4 s5 s6 : Shared} {H2 : Hp} {code : Value} {it a : Addr} {go : Obj} {gi : Nat} {fp : List Addr} {tn : Nat → Heap → Prop} {J : It} {B : Around} {g : TG} {tt : TT} {te : TE} {vs : List Nat} {post : TPost} {Fin : List V → Hp → Prop}
    {W : Nat → Nat → List V → Hp → Prop} {Pn : List V → List (Addr × Obj) → Prop} {m n : Nat} {pl : List (Addr × Obj)}
    (M : Made X scope elt tg iter ifs gpos s4 code it a go gi s5) (ok : GOk X.N X.env.scope scope N src) (I : Inv X pins σ H2 s4) (T : Turn X.prog X.w X.K tg J fp it tn) (st : tn 0 s5.heap) (hfp : ∀ b ∈ fp, FpOk X pins H2 b ∧ b < s4.heap.objs.size)
    (hB : B.frames = some X.stack) (hh : B.handled = none)
    (pg : PG (gcx X N scope code B s4 H2 fp) tg g) (pt : PTs (gcx X N scope code B s4 H2 fp) ifs tt) (pe : PE (gcx X N scope code B s4 H2 fp) elt te)
    (turn : GTurn J g tt te vs (gsl σ src) post Fin W) (hmn : m < n) (w : W 0 m [] H2)
    (os : s6.os = s5.os) (bare : AllBare s6.gens) (keep : ∀ b o, s5.heap.get? b = some o → s6.heap.get? b = some o) (hg : s6.gens[gi]? = s5.gens[gi]?)
    (hpl : ∀ p ∈ pl, s5.heap.objs.size ≤ p.1 ∧ s6.heap.get? p.1 = some p.2 ∧ ∀ v, p.2.data ≠ .cell v) (hPn : Pn [] ((a, go) :: pl)) :
    Rdy (model X.prog X.w) B (GR (gcx X N scope code B s4 H2 fp) fp Pn Fin) (GYx (gcx X N scope code B s4 H2 fp) fp Pn post) a go gi n s6 := by
  have kp : ∀ b o, s4.heap.get? b = some o → s6.heap.get? b = some o := fun b o e => keep b o (M.keep b o e)
  have I5 : ∀ (s' : Shared), s'.os = s4.os → AllBare s'.gens → s'.heap = s6.heap → Inv (gcx X N scope code B s4 H2 fp) [] (gsl σ src) H2 s' := fun s' h1 h2 h3 =>
    g_start (m0 := fun y => if y = ".0" then some (.ref it) else none) I ok hfp hB hh h1 h2 (by rw [h3]; exact kp) (by rw [h3]; exact M.ns.keeps keep)
  have lt4 : ∀ b, s4.heap.objs.size < b → H2 b = none ∧ b ∉ frs X.stack ∧ b ≠ s4.heap.objs.size ∧ b ∉ fp ∧ ∀ x c, (cloFrom X.env.cells scope.names []).lookup x = some c → c ≠ b := fun b hb => by
    refine ⟨I.hok.fresh (Nat.le_of_lt hb), fun z => ?_, Nat.ne_of_gt hb, fun z => ?_, fun x c e z => ?_⟩
    · rcases List.mem_cons.mp (I.stkSub b z) with y | y
      · have := I.lt
        rw [← y] at this
        exact absurd (Nat.lt_trans hb this) (Nat.lt_irrefl _)
      · exact I.nofs (Nat.le_of_lt hb) y
    · exact absurd (Nat.lt_trans hb (hfp b z).2) (Nat.lt_irrefl _)
    · rcases cloFrom_mem (PySem.mem_of_lookup e) with hm | ⟨h1, h2⟩
      · cases hm
      · rcases ok.free _ h1 rfl with k | k
        all_goals
          obtain ⟨c', hc'⟩ := I.ok.has x (by first | exact .inl k | exact .inr k)
          rw [hc'] at h2
          have h2' : c = c' := h2
          obtain ⟨w', z'⟩ := I.cell x c' hc'
          have := z'.lt
          rw [← h2', z] at this
          exact absurd (Nat.lt_trans hb this) (Nat.lt_irrefl _)
  have each : ∀ p ∈ (a, go) :: pl, s4.heap.objs.size < p.1 ∧ s6.heap.get? p.1 = some p.2 ∧ ∀ v, p.2.data ≠ .cell v := fun p hp => by
    rcases List.mem_cons.mp hp with z | z
    · rw [z]
      exact ⟨M.lt, keep _ _ M.obj, M.dat⟩
    · obtain ⟨h1, h2, h3⟩ := hpl p z
      exact ⟨Nat.lt_of_lt_of_le (Nat.lt_trans M.lt M.top) h1, h2, h3⟩
  have PO : PinsOk (gcx X N scope code B s4 H2 fp) fp ((a, go) :: pl) := ⟨fun p hp => Nat.le_of_lt (each p hp).1, fun p hp => (lt4 _ (each p hp).1).2.2.1, fun p hp => (lt4 _ (each p hp).1).2.2.2.1, fun p hp => (lt4 _ (each p hp).1).2.2.2.2⟩
  have I6 : ∀ (s' : Shared), s'.os = s4.os → AllBare s'.gens → s'.heap = s6.heap → Inv (gcx X N scope code B s4 H2 fp) ((a, go) :: pl) (gsl σ src) H2 s' := fun s' h1 h2 h3 =>
    (I5 s' h1 h2 h3).pins_of fun p hp => ⟨by rw [h3]; exact (each p hp).2.1, (lt4 _ (each p hp).1).1, (lt4 _ (each p hp).1).2.2.1, (lt4 _ (each p hp).1).2.1, (each p hp).2.2⟩
  have e6 := hg.trans M.fresh
  refine ⟨keep _ _ M.obj, I.nolimit.keeps kp, _, e6, rfl, ?_⟩
  exact g_begin (elt := elt) (iter := iter) (ifs := ifs) (pos := gpos) ok.co hh T pg pt pe turn hmn w (I6 _ (os.trans M.os) (allBare_setGen (s := s6) bare rfl) rfl) PO hPn (fun p hp => (each p hp).2.1) (T.keep _ _ _ st fun b _ o e => keep b o e) fun b hb => (hfp b hb).1.1
end
end Gx

set_option Elab.async false
set_option linter.all false
set_option maxRecDepth 100000
set_option maxHeartbeats 4000000
/-! Gr: the rules: all(..), any(..), sum(..), tuple(..) of a generator expression. -/
namespace Gx
open PySem PySem.Spec PyProof.Rows L2 GenW
section
variable {X : Cx} {scope : Scope} {N : List Str} {src : List (Option Nat)} {c P : Addr}
variable {elt tg iter : Expr} {ifs : List Expr} {p pos gpos : Pos} {wi : TI} {g : TG} {tt : TT} {te : TE} {vs : List Nat} {k : Nat}
/-- the reading: the walked thing, then the turns -/
def tGen (P : Addr) (wi : TI) (g : TG) (tt : TT) (te : TE) (vs : List Nat) (src : List (Option Nat)) (post : VK → TPost) (fin : VK → List V → Hp → Prop) : TE := fun σ H Q => wi σ H fun J H1 => TabG H1 P ∧ ∀ H2, Tabbed P H1 H2 →
  ∃ W : Nat → Nat → List V → Hp → Prop, (∃ m, W 0 m [] H2) ∧ GTurn J g tt te vs (gsl σ src) (post Q) (fin Q) W
abbrev tGAll (P : Addr) (wi : TI) (g : TG) (tt : TT) (te : TE) (vs : List Nat) (src : List (Option Nat)) : TE := tGen P wi g tt te vs src (fun Q => pAll fun H => Q (.bl false) H) fun Q _ H => Q (.bl true) H
abbrev tGAny (P : Addr) (wi : TI) (g : TG) (tt : TT) (te : TE) (vs : List Nat) (src : List (Option Nat)) : TE := tGen P wi g tt te vs src (fun Q => pAny fun H => Q (.bl true) H) fun Q _ H => Q (.bl false) H
abbrev tGSum (P : Addr) (wi : TI) (g : TG) (tt : TT) (te : TE) (vs : List Nat) (src : List (Option Nat)) : TE := tGen P wi g tt te vs src (fun _ => pSum) fun Q ys H => ∀ ns : List Int, ys = ns.map V.int → Q (.int ns.sum) H
abbrev tGTup (P : Addr) (wi : TI) (g : TG) (tt : TT) (te : TE) (vs : List Nat) (src : List (Option Nat)) : TE := tGen P wi g tt te vs src (fun _ => pTup) fun Q ys H => ∀ p, H p = none → Q (.ref p) (upd H p (.tup ys))

/-- all that a rule asks of the generator expression's parts -/
structure GParts (X : Cx) (k : Nat) (scope : Scope) (N : List Str) (tg : Expr) (ifs : List Expr) (elt : Expr) (g : TG) (tt : TT) (te : TE) : Prop where
  tg : ∀ (B : Around) (s : Shared) (H : Hp) (fp : List Addr) (code : Value), Room k B → PG (gcx X N scope code B s H fp) tg g
  ifs : ∀ (B : Around) (s : Shared) (H : Hp) (fp : List Addr) (code : Value), Room k B → PTs (gcx X N scope code B s H fp) ifs tt
  elt : ∀ (B : Around) (s : Shared) (H : Hp) (fp : List Addr) (code : Value), Room k B → PE (gcx X N scope code B s H fp) elt te

theorem pe_gall (G : GParts X k scope N tg ifs elt g tt te) (hr : Room (k + 2) X.A) (hg : Gl X "all") (hm : X.mg "all" = none) (TB : TabB X.base X.mg c P) (hcode : X.env.code = .ref c) (ok : GOk X.N X.env.scope scope N src) (hi : PI X tg iter wi)
    (hs : ∀ v, genFold iter X.env v = pure v := by intro _; rfl) (hb : bootBuiltins "all" = some (.builtin "all") := by decide +kernel)
    (he : starEach [.GeneratorExp elt [⟨tg, iter, ifs, 0⟩] scope gpos] X.env = (false, eval (.GeneratorExp elt [⟨tg, iter, ifs, 0⟩] scope gpos) X.env) :: starEach [] X.env := by rfl) :
    PE X (.Call (.Name "all" p) [.GeneratorExp elt [⟨tg, iter, ifs, 0⟩] scope gpos] [] pos) (tGAll P wi g tt te vs src) := by
  refine ⟨fun pins s σ H Q I h => ?_⟩
  refine wpAny_Call_Name_kw (ld_blt I hg hm hb ?_)
  refine PyProof.Rows.callWith_builtin1 ?_ he (by rfl)
  rw [he]
  show wpAny _ _ (spliced ((false, eval (.GeneratorExp elt [⟨tg, iter, ifs, 0⟩] scope gpos) X.env) :: backTo pos (starEach [] X.env))) _ _ s
  refine Calls.spliced_cons (gen_make (gpos := gpos) (elt := elt) (ifs := ifs) hr TB hcode ok hi hs I h fun it fp tn J H1 H2 s4 code a go gi s5 q hT I4 T st hfp M => ?_)
  obtain ⟨W, ⟨m, w0⟩, turn⟩ := q H2 hT
  refine Calls.spliced_nil ?_
  have hB : Room k X.A.in1.in1 := hr.in1.in1
  refine call_function_tree F.kind_all F.plain_all F.entry_all (F.args_all1 _) ?_
  unfold Builtin.«all»
  refine wpAny_bind (m := oneArg "all" _) (wpAny_pure ?_)
  refine wpAny_bind (wpAny_pyIter_gen (M.gen _ M.obj) ?_)
  refine wpAny_pure ⟨plainId_quiet F.plain_all_loop _, drain_all (Fin := fun _ H => Q (.bl true) H) (Qf := fun H => Q (.bl false) H) hr.hd hr.depth M.gen (fun s' ys H b q => ?_) (fun s' H b q => ?_) (m + 1) s5
    (M.ready ok I4 T st hfp (show X.A.in1.in1.frames = some X.stack from I4.ok.frames) hB.hd (G.tg _ _ _ _ _ hB) (G.ifs _ _ _ _ _ hB) (G.elt _ _ _ _ _ hB) turn (Nat.lt_succ_self _) w0 rfl M.bare (fun _ _ e => e) rfl (pl := []) (fun p hp => by simp at hp) rfl)⟩
  · exact ⟨.bl true, H, b.inv I4 fun b hb => (hfp b hb).1, rfl, q⟩
  · exact ⟨.bl false, H, b.inv I4 fun b hb => (hfp b hb).1, rfl, q⟩

theorem pe_gany (G : GParts X k scope N tg ifs elt g tt te) (hr : Room (k + 2) X.A) (hg : Gl X "any") (hm : X.mg "any" = none) (TB : TabB X.base X.mg c P) (hcode : X.env.code = .ref c) (ok : GOk X.N X.env.scope scope N src) (hi : PI X tg iter wi)
    (hs : ∀ v, genFold iter X.env v = pure v := by intro _; rfl) (hb : bootBuiltins "any" = some (.builtin "any") := by decide +kernel)
    (he : starEach [.GeneratorExp elt [⟨tg, iter, ifs, 0⟩] scope gpos] X.env = (false, eval (.GeneratorExp elt [⟨tg, iter, ifs, 0⟩] scope gpos) X.env) :: starEach [] X.env := by rfl) :
    PE X (.Call (.Name "any" p) [.GeneratorExp elt [⟨tg, iter, ifs, 0⟩] scope gpos] [] pos) (tGAny P wi g tt te vs src) := by
  refine ⟨fun pins s σ H Q I h => ?_⟩
  refine wpAny_Call_Name_kw (ld_blt I hg hm hb ?_)
  refine PyProof.Rows.callWith_builtin1 ?_ he (by rfl)
  rw [he]
  show wpAny _ _ (spliced ((false, eval (.GeneratorExp elt [⟨tg, iter, ifs, 0⟩] scope gpos) X.env) :: backTo pos (starEach [] X.env))) _ _ s
  refine Calls.spliced_cons (gen_make (gpos := gpos) (elt := elt) (ifs := ifs) hr TB hcode ok hi hs I h fun it fp tn J H1 H2 s4 code a go gi s5 q hT I4 T st hfp M => ?_)
  obtain ⟨W, ⟨m, w0⟩, turn⟩ := q H2 hT
  refine Calls.spliced_nil ?_
  have hB : Room k X.A.in1.in1 := hr.in1.in1
  refine call_function_tree F.kind_any F.plain_any F.entry_any (F.args_any1 _) ?_
  unfold Builtin.«any»
  refine wpAny_bind (m := oneArg "any" _) (wpAny_pure ?_)
  refine wpAny_bind (wpAny_pyIter_gen (M.gen _ M.obj) ?_)
  refine wpAny_pure ⟨plainId_quiet F.plain_any_loop _, drain_any (Fin := fun _ H => Q (.bl false) H) (Qt := fun H => Q (.bl true) H) hr.hd hr.depth M.gen (fun s' ys H b q => ?_) (fun s' H b q => ?_) (m + 1) s5
    (M.ready ok I4 T st hfp (show X.A.in1.in1.frames = some X.stack from I4.ok.frames) hB.hd (G.tg _ _ _ _ _ hB) (G.ifs _ _ _ _ _ hB) (G.elt _ _ _ _ _ hB) turn (Nat.lt_succ_self _) w0 rfl M.bare (fun _ _ e => e) rfl (pl := []) (fun p hp => by simp at hp) rfl)⟩
  · exact ⟨.bl false, H, b.inv I4 fun b hb => (hfp b hb).1, rfl, q⟩
  · exact ⟨.bl true, H, b.inv I4 fun b hb => (hfp b hb).1, rfl, q⟩

theorem pe_gsum (G : GParts X k scope N tg ifs elt g tt te) (hr : Room (k + 2) X.A) (hg : Gl X "sum") (hm : X.mg "sum" = none) (TB : TabB X.base X.mg c P) (hcode : X.env.code = .ref c) (ok : GOk X.N X.env.scope scope N src) (hi : PI X tg iter wi)
    (hs : ∀ v, genFold iter X.env v = pure v := by intro _; rfl) (hb : bootBuiltins "sum" = some (.builtin "sum") := by decide +kernel)
    (he : starEach [.GeneratorExp elt [⟨tg, iter, ifs, 0⟩] scope gpos] X.env = (false, eval (.GeneratorExp elt [⟨tg, iter, ifs, 0⟩] scope gpos) X.env) :: starEach [] X.env := by rfl) :
    PE X (.Call (.Name "sum" p) [.GeneratorExp elt [⟨tg, iter, ifs, 0⟩] scope gpos] [] pos) (tGSum P wi g tt te vs src) := by
  refine ⟨fun pins s σ H Q I h => ?_⟩
  refine wpAny_Call_Name_kw (ld_blt I hg hm hb ?_)
  refine PyProof.Rows.callWith_builtin1 ?_ he (by rfl)
  rw [he]
  show wpAny _ _ (spliced ((false, eval (.GeneratorExp elt [⟨tg, iter, ifs, 0⟩] scope gpos) X.env) :: backTo pos (starEach [] X.env))) _ _ s
  refine Calls.spliced_cons (gen_make (gpos := gpos) (elt := elt) (ifs := ifs) hr TB hcode ok hi hs I h fun it fp tn J H1 H2 s4 code a go gi s5 q hT I4 T st hfp M => ?_)
  obtain ⟨W, ⟨m, w0⟩, turn⟩ := q H2 hT
  refine Calls.spliced_nil ?_
  have hB : Room k X.A.in1.in1 := hr.in1.in1
  refine call_function_tree F.kind_sum F.plain_sum F.entry_sum (F.args_sum1 _) ?_
  unfold Builtin.«sum»
  simp only [List.length_cons, List.length_nil]
  rw [if_neg (by decide)]
  refine wpAny_bind (wpAny_of_eq (show Builtin.Builtins.bindParams "sum" ["start"] 0 { } = pure [none] from rfl) ?_)
  refine wpAny_bind (wpAny_pyIter_gen (M.gen _ M.obj) ?_)
  refine wpAny_bind (wpAny_mkInt ?_)
  refine wpAny_bind (wpAny_pure ?_)
  simp only [List.forIn_cons, List.forIn_nil]
  refine wpAny_bind (wpAny_bind (wpAny_bind (wpAny_isInstance (T := "int") (b := false) (typeIs_int _ _ _) PySem.sub_int_str ?_)))
  simp only [Bool.false_eq_true, if_false]
  refine wpAny_pure (wpAny_bind (wpAny_bind (wpAny_isInstance (T := "int") (b := false) (typeIs_int _ _ _) PySem.sub_int_bytes ?_)))
  simp only [Bool.false_eq_true, if_false]
  refine wpAny_pure (wpAny_bind (wpAny_bind (wpAny_isInstance (T := "int") (b := false) (typeIs_int _ _ _) PySem.sub_int_bytearray ?_)))
  simp only [Bool.false_eq_true, if_false]
  refine wpAny_pure (wpAny_pure ?_)
  refine wpAny_bind (wpAny_newObj_type ?_)
  have hcl : cStatics < s5.heap.objs.size := by
    obtain ⟨_, hn, _⟩ := I4.nolimit.keeps M.keep
    exact hn.lt
  have hSobj : (s5.heap.push { cls := .type "list", data := .seq [Value.int 0 s5.toks].toArray }).get? s5.heap.objs.size = some (sumObj 0 s5.toks 0) := Heap.get?_push_size _ rfl
  refine wpAny_pure ⟨plainId_quiet F.plain_sum_loop _, drain_sum (S := s5.heap.objs.size) (Fin := fun ys H => ∀ ns : List Int, ys = ns.map V.int → Q (.int ns.sum) H) hr.hd hr.depth M.gen (Nat.ne_of_gt M.top) (Nat.ne_of_gt hcl) (fun s' ns H t b q => ?_) (m + 1) _ 0 0 s5.toks 0 (.inl rfl) hSobj
    (M.ready ok I4 T st hfp (show X.A.in1.in1.frames = some X.stack from I4.ok.frames) hB.hd (G.tg _ _ _ _ _ hB) (G.ifs _ _ _ _ _ hB) (G.elt _ _ _ _ _ hB) turn (Nat.lt_succ_self _) w0 rfl M.bare (fun _ _ e => Heap.get?_push_of_some _ e) rfl (pl := [(s5.heap.objs.size, sumObj 0 s5.toks 0)]) (fun p hp => ?_) ⟨[], s5.toks, 0, rfl, rfl⟩)⟩
  · exact ⟨.int ns.sum, H, b.inv I4 fun b hb => (hfp b hb).1, ⟨t, rfl⟩, q ns rfl⟩
  · rw [List.mem_singleton.mp hp]
    exact ⟨Nat.le_refl _, hSobj, fun v q => by cases q⟩

theorem collect_gx {B : Around} {pins : List (Addr × Obj)} {σ : L2.St} {H2 : Hp} {s4 s5 : Shared} {code : Value} {it a : Addr} {go : Obj} {gi m : Nat} {fp : List Addr} {tn : Nat → Heap → Prop} {J : It} {Fin : List V → Hp → Prop} {W : Nat → Nat → List V → Hp → Prop}
    {Q : List Value → Shared → Prop} {E : Value → Shared → Prop}
    (G : GParts X k scope N tg ifs elt g tt te) (M : Made X scope elt tg iter ifs gpos s4 code it a go gi s5) (ok : GOk X.N X.env.scope scope N src) (I4 : Inv X pins σ H2 s4) (T : Turn X.prog X.w X.K tg J fp it tn) (st : tn 0 s5.heap)
    (hfp : ∀ b ∈ fp, FpOk X pins H2 b ∧ b < s4.heap.objs.size) (hB : B.frames = some X.stack) (hr : Room (k + 2) B) (turn : GTurn J g tt te vs (gsl σ src) pTup Fin W) (w0 : W 0 m [] H2)
    (hQ : ∀ s' ys H acc, Back X H2 s4 fp H s' → Fin ys H → Vals ys acc → ys.length ≤ sizeLine → Q acc s') : wpAny (model X.prog X.w) B (collect (.ref a)) Q E s5 := by
  have hBr : Room k B.in1.in1 := hr.in1.in1
  have hSI : s5.heap.objs.size ≠ a := Nat.ne_of_gt M.top
  unfold collect
  refine wpAny_bind (wpAny_runValue (codeAny_builtin F.entry_proto_collect ?_))
  rw [Around.under_plainId F.plain_proto_collect _]
  show wpAny _ B.in1 (newList [] >>= fun l => again (.builtin "list.__iadd__" ⟨[l, .ref a], []⟩)) _ _ s5
  refine wpAny_bind (wpAny_newObj_type ?_)
  refine wpAny_pure ⟨plainId_quiet F.plain_list_iadd _, codeAny_builtin F.entry_list_iadd ?_⟩
  rw [Around.under_plainId F.plain_list_iadd _]
  have k1 : ∀ b o, s5.heap.get? b = some o → (s5.heap.push { cls := .type "list", data := .seq ([] : List Value).toArray }).get? b = some o := fun b o e => Heap.get?_push_of_some _ e
  have gty : ∀ {h : Heap}, (∀ b o, s5.heap.get? b = some o → h.get? b = some o) → h.IsGen a gi := fun {h} q => M.gen _ (q _ _ M.obj)
  show wpAny _ B.in1 (Builtin.List.listExtendWith (.ref s5.heap.objs.size) (.ref a) (.ref s5.heap.objs.size)) _ _ _
  unfold Builtin.List.listExtendWith
  refine wpAny_bind (wpAny_typeOf (Heap.IsGen.typeIs (s := { s5 with heap := _ }) (gty k1)) ?_)
  have h1 : Builtin.List.listSameRef (.ref s5.heap.objs.size) (.ref a) = false := by simp [Builtin.List.listSameRef, hSI]
  have h2 : (Value.type "generator" == Value.type "list") = false := by decide
  have h3 : (Value.type "generator" == Value.type "tuple") = false := by decide
  simp only [h1, h2, h3, Bool.or_false, Bool.false_eq_true, if_false]
  refine wpAny_bind (wpAny_pyIter_gen (s := { s5 with heap := _ }) (gty k1) ?_)
  refine wpAny_bind (wpAny_holding ?_)
  unfold Builtin.List.listLengthHint
  refine wpAny_bind (wpAny_specialOf (Heap.IsGen.typeIs (s := { s5 with heap := _ }) (gty k1)) F.gen_no_len ?_)
  show wpAny _ B.in1 (specialOf (Value.ref a) (Str.ofString "__length_hint__") >>= _) _ _ _
  refine wpAny_bind (wpAny_specialOf (Heap.IsGen.typeIs (s := { s5 with heap := _ }) (gty k1)) F.gen_no_hint ?_)
  refine wpAny_pure ?_
  show wpAny _ B.in1 (rule "list.extend.makes-room" >>= fun _ => Builtin.List.listTouch (.ref s5.heap.objs.size) >>= fun _ =>
    again (.builtin "list.extend.loop" ⟨[.ref s5.heap.objs.size, .ref a, .ref s5.heap.objs.size], []⟩)) _ _ _
  refine wpAny_bind (wpAny_rule ?_)
  have hS₁ : (s5.heap.push { cls := .type "list", data := .seq ([] : List Value).toArray }).get? s5.heap.objs.size = some { cls := .type "list", data := .seq ([] : List Value).toArray } := Heap.get?_push_size _ rfl
  refine wpAny_bind ?_
  show wpAny _ B.in1 (updateSeq s5.heap.objs.size (·.push .none) >>= fun _ => updateSeq s5.heap.objs.size (·.pop)) _ _ _
  refine wpAny_bind (wpAny_updateSeq hS₁ rfl ?_)
  have hS₂ := Heap.get?_update_self (Obj.mapSeq (·.push Value.none)) hS₁ rfl
  refine wpAny_updateSeq hS₂ rfl ?_
  have hS₃ := Heap.get?_update_self (Obj.mapSeq (·.pop)) hS₂ rfl
  obtain ⟨c0, hS4⟩ : ∃ c0, (((s5.heap.push { cls := .type "list", data := .seq ([] : List Value).toArray }).update s5.heap.objs.size (Obj.mapSeq (·.push Value.none))).update s5.heap.objs.size (Obj.mapSeq (·.pop))).get? s5.heap.objs.size = some (lstObj #[] c0) := ⟨_, hS₃⟩
  have oth : ∀ b o, s5.heap.get? b = some o →
      (((s5.heap.push { cls := .type "list", data := .seq ([] : List Value).toArray }).update s5.heap.objs.size (Obj.mapSeq (·.push Value.none))).update s5.heap.objs.size (Obj.mapSeq (·.pop))).get? b = some o :=
    fun b o e => (Heap.get?_update_other _ _ (Ne.symm (Nat.ne_of_lt (Heap.lt_size e)))).trans ((Heap.get?_update_other _ _ (Ne.symm (Nat.ne_of_lt (Heap.lt_size e)))).trans (k1 b o e))
  have hcl : cStatics < s5.heap.objs.size := by
    obtain ⟨_, hn, _⟩ := I4.nolimit.keeps M.keep
    exact hn.lt
  refine wpAny_pure ⟨plainId_quiet F.plain_extend_loop _, drain_tup (S := s5.heap.objs.size) (Fin := Fin) hr.hd hr.depth M.gen hSI (Nat.ne_of_gt hcl) (fun s' ys H acc c b q hv hle hS' => ?_) (m + 1) _
    (M.ready ok I4 T st hfp hB hBr.hd (G.tg _ _ _ _ _ hBr) (G.ifs _ _ _ _ _ hBr) (G.elt _ _ _ _ _ hBr) turn (Nat.lt_succ_self _) w0 rfl M.bare oth rfl (pl := [(s5.heap.objs.size, lstObj #[] c0)]) (fun p hp => ?_) ⟨#[], c0, .nil, Nat.zero_le _, rfl⟩)⟩
  · show wpAny _ B (load s5.heap.objs.size >>= _) _ _ s'
    refine wpAny_bind (wpAny_load hS' ?_)
    exact wpAny_pure (hQ s' ys H acc.toList b q hv hle)
  · rw [List.mem_singleton.mp hp]
    exact ⟨Nat.le_refl _, hS4, fun v q => by cases q⟩

theorem code_tuple_gx {B : Around} {pins : List (Addr × Obj)} {σ : L2.St} {H2 : Hp} {s4 s5 : Shared} {code : Value} {it a : Addr} {go : Obj} {gi m : Nat} {fp : List Addr} {tn : Nat → Heap → Prop} {J : It} {Fin : List V → Hp → Prop} {W : Nat → Nat → List V → Hp → Prop}
    {Q₁ : Value → Shared → Prop} {E : Value → Shared → Prop}
    (G : GParts X k scope N tg ifs elt g tt te) (M : Made X scope elt tg iter ifs gpos s4 code it a go gi s5) (ok : GOk X.N X.env.scope scope N src) (I4 : Inv X pins σ H2 s4) (T : Turn X.prog X.w X.K tg J fp it tn) (st : tn 0 s5.heap)
    (hfp : ∀ b ∈ fp, FpOk X pins H2 b ∧ b < s4.heap.objs.size) (hB : B.frames = some X.stack) (hr : Room (k + 3) B) (turn : GTurn J g tt te vs (gsl σ src) pTup Fin W) (w0 : W 0 m [] H2)
    (hQ : ∀ s' ys H (acc : List Value), Back X H2 s4 fp H s' → Fin ys H → Vals ys acc → ys.length ≤ sizeLine → Q₁ (.ref s'.heap.objs.size) { s' with heap := s'.heap.push { cls := .type "tuple", data := .seq acc.toArray } }) :
    codeAny (model X.prog X.w) B (.call (.builtin "tuple.__new__") ⟨[.type "tuple", .ref a], []⟩) (wants Q₁ E) s5 := by
  refine codeAny_of_tree ?_
  show wpAny _ B.in1 (do checkBuiltinCall "tuple.__new__" ⟨[.type "tuple", .ref a], []⟩; again (.builtin "tuple.__new__" ⟨[.type "tuple", .ref a], []⟩)) _ _ s5
  refine wpAny_bind (wpAny_of_eq (F.newCall_tuple_1 _) (wpAny_pure ⟨plainId_quiet F.plain_tuple_new _, codeAny_builtin F.entry_tuple_new ?_⟩))
  rw [Around.under_plainId F.plain_tuple_new _]
  have hsub := sub_tuple_self
  have hinit := init_tuple_lookup
  have hmh := madeHere_tuple
  have hTI : s5.TypeIs (.ref a) "generator" := Heap.IsGen.typeIs (s := s5) (M.gen _ M.obj)
  wp_walk using wpAny_typeOf hTI, collect_gx (B := B.in1) (Fin := Fin) G M ok I4 T st hfp hB hr.in1 turn w0
  intro s' ys H acc hb hf hv hle
  show wpAny _ _ (Builtin.Tuple.tupleExact acc.toArray >>= fun v => ret v) _ _ _
  unfold Builtin.Tuple.tupleExact
  have hl := hv.length
  refine wpAny_bind (wpAny_newObj_type ?_ (by show acc.toArray.size ≤ sizeLine; simp only [List.size_toArray]; omega))
  exact wpAny_pure (hQ s' ys H acc hb hf hv hle)

theorem pe_gtup (G : GParts X k scope N tg ifs elt g tt te) (hr : Room (k + 4) X.A) (hg : Gl X "tuple") (hm : X.mg "tuple" = none) (TB : TabB X.base X.mg c P) (hcode : X.env.code = .ref c) (ok : GOk X.N X.env.scope scope N src) (hi : PI X tg iter wi)
    (hs : ∀ v, genFold iter X.env v = pure v := by intro _; rfl) (hb : bootBuiltins "tuple" = some (.type "tuple") := by decide +kernel)
    (he : starEach [.GeneratorExp elt [⟨tg, iter, ifs, 0⟩] scope gpos] X.env = (false, eval (.GeneratorExp elt [⟨tg, iter, ifs, 0⟩] scope gpos) X.env) :: starEach [] X.env := by rfl) :
    PE X (.Call (.Name "tuple" p) [.GeneratorExp elt [⟨tg, iter, ifs, 0⟩] scope gpos] [] pos) (tGTup P wi g tt te vs src) := by
  refine ⟨fun pins s σ H Q I h => ?_⟩
  refine wpAny_Call_Name_kw (ld_blt I hg hm hb ?_)
  refine PyProof.Rows.callWith_type1 ?_ he (by rfl)
  rw [he]
  show wpAny _ _ (spliced ((false, eval (.GeneratorExp elt [⟨tg, iter, ifs, 0⟩] scope gpos) X.env) :: backTo pos (starEach [] X.env))) _ _ s
  refine Calls.spliced_cons (gen_make (gpos := gpos) (elt := elt) (ifs := ifs) hr TB hcode ok hi hs I h fun it fp tn J H1 H2 s4 code a go gi s5 q hT I4 T st hfp M => ?_)
  obtain ⟨W, ⟨m, w0⟩, turn⟩ := q H2 hT
  refine Calls.spliced_nil ?_
  refine callType_codes (Q₁ := fun obj s₁ => s₁.TypeIs obj "tuple" ∧ EP X pins σ Q obj s₁) F.called_tuple (F.typeCall_tuple_1 _) F.entry_object_init
    (code_tuple_gx (Fin := fun ys H => ∀ p, H p = none → Q (.ref p) (upd H p (.tup ys))) G M ok I4 T st hfp (show X.A.in1.frames = some X.stack from I4.ok.frames) hr.in1 turn w0 fun s' ys H acc b q hv hle => ⟨⟨_, Heap.get?_push_size _ rfl, rfl⟩, ?_⟩) fun obj s₁ h₁ => ?_
  · have I5 := b.inv I4 fun b hb => (hfp b hb).1
    exact ⟨.ref s'.heap.objs.size, _, I5.laid (t' := s'.toks) (fun b o e => Heap.get?_push_of_some _ e) (Nat.le_refl _) (show ObjOk X.prog X.w _ _ _ (.tup ys) from ⟨hle, acc, hv, IsTup.new _ _⟩), rfl, q _ (I5.hok.fresh (Nat.le_refl _))⟩
  · exact ⟨h₁.1, F.args_object_init_2 obj _, object_init_meets F.called_tuple.init.lookup F.called_tuple.made (by decide) X.prog X.w X.A.in1 _ s₁ ⟨h₁.1, rfl, h₁.2⟩⟩
end
end Gx

set_option Elab.async false
set_option linter.all false
set_option maxRecDepth 100000
set_option maxHeartbeats 4000000
/-! Bx: further small rules over the layer: == and != of types, xs[i] op= e, the heap up to tables. -/
namespace Bx
open PySem PySem.Spec PyProof.Rows L2

/-! ### == and != of two built-in types -/
theorem slot_type_ne : Slot "type" (cmpInfo .NotEq).2.1 "object.__ne__" :=
  .of (owner := "object") (n := "__ne__") (by rw [typeLookup_type, builtinLookup_eq_fast]; kernel_rfl) (by decide +kernel) (by decide +kernel) (by decide +kernel)
    (by first | exact .inl (by decide +kernel) | exact .inr (by decide +kernel)) (by rw [isSubtype_type]; kernel_rfl)
theorem slot_type_ne_refl : Slot "type" (cmpInfo .NotEq).2.2 "object.__ne__" :=
  .of (owner := "object") (n := "__ne__") (by rw [typeLookup_type, builtinLookup_eq_fast]; kernel_rfl) (by decide +kernel) (by decide +kernel) (by decide +kernel)
    (by first | exact .inl (by decide +kernel) | exact .inr (by decide +kernel)) (by rw [isSubtype_type]; kernel_rfl)
theorem slot_type_eq' : Slot "type" (Str.ofString "__eq__") "object.__eq__" := TypeEq.slot_type_eq
section
variable {prog : Program} {w : World} {A : Around} {E : Value → Shared → Prop} {s : Shared}
theorem call_ne_types {Y Z : String} {Q : Value → Shared → Prop} (hX : ∀ s' : Shared, s'.TypeIs (.type Y) "type")
    (hc : wpAny (model prog w) A.in1 (call (.builtin "object.__eq__") [.type Y, .type Z]) (fun v s' => (v = .notImplemented ∧ Q .notImplemented s') ∨ ∃ b, v = .bool b ∧ Q (.bool (!b)) s') E s) :
    wpAny (model prog w) A (call (.builtin "object.__ne__") [.type Y, .type Z]) Q E s := by
  refine wpAny_call (codeAny_call_builtin slot_type_ne.plain F.cmpEntry_ne (slot_type_ne.check _ _ _ _ _ _ _ _ (hX s) (F.cmpArgs_ne _ _) ?_))
  unfold Builtin.«object.__ne__»
  refine wpAny_bind (wpAny_pure ?_)
  show wpAny _ _ (cRoomFor "comparison" [.type Y, .type Z] >>= _) _ _ _
  refine wpAny_bind (wpAny_cRoomFor_byValue rfl ?_)
  refine wpAny_bind (wpAny_callSpecialIfBound?_slot (name := Str.ofString "__eq__") (hX s) slot_type_eq' (wpAny_mono hc (fun v s' h => ?_) fun _ _ e => e))
  rcases h with ⟨rfl, q⟩ | ⟨b, rfl, q⟩
  · exact wpAny_pure q
  · show wpAny _ _ (truthy (.bool b) >>= _) _ _ _
    exact wpAny_bind (wpAny_truthy_bool (wpAny_pure q))
theorem ne_type_same {Y : String} {Q : Value → Shared → Prop} (hX : ∀ s' : Shared, s'.TypeIs (.type Y) "type") (h : Q (.bool false) s) : wpAny (model prog w) A (compareOp .NotEq (.type Y) (.type Y)) Q E s := by
  show wpAny _ A (richCompare .NotEq _ _) Q E s
  refine wpAny_richCompare_same (T := "type") (hX s) (hX s) slot_type_ne (call_ne_types hX ?_)
  exact call_gives TypeEq.slot_type_eq (hX s) F.entry_object_eq (F.args_object_eq_2 _ _) (TypeEq.object_eq_same rfl (by simp)) (.inr ⟨true, rfl, (by intro e; cases e), h⟩)
theorem richCompare_ne_decline {a b : Value} {T id : String} {k : Bool} {Q : Value → Shared → Prop} (ha : ∀ s' : Shared, s'.TypeIs a T) (hb : ∀ s' : Shared, s'.TypeIs b T)
    (h1 : Slot T (cmpInfo .NotEq).2.1 id) (h2 : Slot T (cmpInfo .NotEq).2.2 id) (hv : [a, b].any Value.onHeap = false) (hk : isSame a b = pure k)
    (hc : wpAny (model prog w) A (call (.builtin id) [a, b]) (fun v s1 => v = .notImplemented ∧ wpAny (model prog w) A (call (.builtin id) [b, a]) (fun v s2 => v = .notImplemented ∧ Q (.bool (!k)) s2) E s1) E s) :
    wpAny (model prog w) A (richCompare .NotEq a b) Q E s := by
  rcases hi : cmpInfo CmpOp.NotEq with ⟨sym, f, r⟩
  rw [hi] at h1 h2
  simp only [richCompare, hi, (ha s).oneThing_none]
  try with_reducible refine wpAny_holding ?_
  refine wpAny_bind (wpAny_cRoomFor_or (.inl hv) ?_)
  refine wpAny_bind (wpAny_typeOf (ha s) (wpAny_bind (wpAny_typeOf (hb s) ?_)))
  simp only [bne_self_eq_false, Bool.false_eq_true, if_false, pure_bind, Bool.not_false, if_true]
  refine wpAny_bind (m := tryCompare a _ b) (wpAny_tryCompare_declines (ha s) h1 (wpAny_mono hc (fun v s1 h1 => ⟨h1.1, ?_⟩) fun _ _ x => x))
  refine wpAny_bind (m := tryCompare b _ a) (wpAny_tryCompare_declines (hb s1) h2 (wpAny_mono h1.2 (fun v s2 h2 => ⟨h2.1, ?_⟩) fun _ _ x => x))
  refine wpAny_bind (wpAny_rule (wpAny_bind (wpAny_of_eq hk (wpAny_pure h2.2))))
theorem ne_type_other {Y Z : String} {Q : Value → Shared → Prop} (hX : ∀ s' : Shared, s'.TypeIs (.type Y) "type") (hY : ∀ s' : Shared, s'.TypeIs (.type Z) "type") (hne : (Value.type Y == Value.type Z) = false) (h : Q (.bool true) s) :
    wpAny (model prog w) A (compareOp .NotEq (.type Y) (.type Z)) Q E s := by
  have hne' : (Value.type Z == Value.type Y) = false := by
    rw [Bool.eq_false_iff] at hne ⊢
    intro e
    exact hne (by rw [beq_iff_eq] at e ⊢; exact e.symm)
  show wpAny _ A (richCompare .NotEq _ _) Q E s
  refine richCompare_ne_decline (T := "type") (k := false) hX hY slot_type_ne slot_type_ne_refl rfl (by rw [isSame_plain rfl, hne]) (call_ne_types hX ?_)
  refine call_gives TypeEq.slot_type_eq (hX s) F.entry_object_eq (F.args_object_eq_2 _ _) (TypeEq.object_eq_other rfl hne) (.inl ⟨rfl, rfl, call_ne_types hY ?_⟩)
  exact call_gives TypeEq.slot_type_eq (hY s) F.entry_object_eq (F.args_object_eq_2 _ _) (TypeEq.object_eq_other rfl hne') (.inl ⟨rfl, rfl, h⟩)
end
/-- the kinds of plain values -/
def tyNames : List String := ["NoneType", "bool", "int", "str", "tuple", "list"]
theorem meta_of {n : String} (h : n ∈ tyNames) (s : Shared) : s.TypeIs (.type n) "type" := by
  simp only [tyNames, List.mem_cons, List.not_mem_nil, or_false] at h
  rcases h with rfl | rfl | rfl | rfl | rfl | rfl
  · exact TypeEq.meta_NoneType s
  · exact TypeEq.meta_bool s
  · exact TypeEq.meta_int s
  · exact TypeEq.meta_str s
  · exact TypeEq.meta_tuple s
  · exact TypeEq.meta_list s
def rTyC (f : Bool → Bool) : R2 := fun x y H Q => ∃ m n, x = .ty m ∧ y = .ty n ∧ m ∈ tyNames ∧ n ∈ tyNames ∧ Q (.bl (f (decide (m = n)))) H
section
variable {X : Cx}
theorem op_eqTy : OpR X (compareOp .Eq) (rTyC id) := by
  intro pins s σ H x y v u Q I rx ry h
  obtain ⟨m, n, rfl, rfl, hm, hn, q⟩ := h
  cases (show v = Value.type m from rx)
  cases (show u = Value.type n from ry)
  by_cases e : m = n
  · subst e
    rw [decide_eq_true rfl] at q
    exact TypeEq.eq_type_same (meta_of hm) ⟨.bl true, H, I, rfl, q⟩
  · rw [decide_eq_false e] at q
    exact TypeEq.eq_type_other (meta_of hm) (meta_of hn) (by simp [e]) ⟨.bl false, H, I, rfl, q⟩
theorem op_neTy : OpR X (compareOp .NotEq) (rTyC not) := by
  intro pins s σ H x y v u Q I rx ry h
  obtain ⟨m, n, rfl, rfl, hm, hn, q⟩ := h
  cases (show v = Value.type m from rx)
  cases (show u = Value.type n from ry)
  by_cases e : m = n
  · subst e
    rw [decide_eq_true rfl] at q
    exact ne_type_same (meta_of hm) ⟨.bl false, H, I, rfl, q⟩
  · rw [decide_eq_false e] at q
    exact ne_type_other (meta_of hm) (meta_of hn) (by simp [e]) ⟨.bl true, H, I, rfl, q⟩

/-! ### the read of xs[i] op= e -/
def gtList : V → V → Hp → VK → Prop := fun o i H Q => ∃ (l : Addr) (xs : List V) (j : Nat) (x : V), o = .ref l ∧ i = .int j ∧ H l = some (.lst xs) ∧ xs[j]? = some x ∧ Q x H
theorem get_list : PGet X gtList := by
  intro pins s σ H o i ov iv Q I ro ri h
  obtain ⟨l, xs, j, x, rfl, rfl, hl, hx, q⟩ := h
  cases (show ov = Value.ref l from ro)
  obtain ⟨t, rfl⟩ := (show ∃ t, iv = Value.int (j : Int) t from ri)
  obtain ⟨its, rv, p, hz⟩ := I.list (SqL.of hl)
  obtain ⟨u, hu, ru⟩ := rv.get hx
  have hlt : j < xs.length := (List.getElem?_eq_some_iff.mp hx).1
  have hls := rv.length
  refine wpAny_getItem_list p.isList (by omega) (by have : sizeLine < 2 ^ 62 := by decide
                                                    omega) ?_ ⟨x, H, I, ru, q⟩
  simpa using hu
def ipB (f : Int → Int → Int) : TIp := fun x y H Q => ∃ i j, x = .int i ∧ y = .int j ∧ Q (.int (f i j)) H
end

/-! ### heaps: what was tracked stands, tables may have grown -/
def isTbl : HO → Prop
  | .tbl _ => True
  | _ => False
structure Ext (H H' : Hp) : Prop where
  keep : ∀ b o, H b = some o → ¬ isTbl o → H' b = some o
  tabs : ∀ P, Gx.TabG H P → Gx.TabG H' P
  live : ∀ b o, H b = some o → ∃ o', H' b = some o'
theorem Ext.refl (H : Hp) : Ext H H := ⟨fun _ _ e _ => e, fun _ t => t, fun _ o e => ⟨o, e⟩⟩
theorem Ext.trans {H H1 H2 : Hp} (a : Ext H H1) (b : Ext H1 H2) : Ext H H2 := ⟨fun c o e n => b.keep c o (a.keep c o e n) n, fun P t => b.tabs P (a.tabs P t), fun c o e => let ⟨o1, e1⟩ := a.live c o e; b.live c o1 e1⟩
theorem Ext.tabbed {P : Addr} {H H' : Hp} (h : Gx.TabG H P) (t : Gx.Tabbed P H H') : Ext H H' := by
  obtain ⟨t1, t2⟩ := t
  refine ⟨fun b o e n => ?_, fun Q hQ => ?_, fun b o e => ?_⟩
  · by_cases hb : b = P
    · obtain ⟨ps, e2, _⟩ := h
      rw [hb, e2] at e
      cases e
      exact (n trivial).elim
    · rw [t2 b hb]
      exact e
  · by_cases hb : Q = P
    · rw [hb]
      exact t1
    · obtain ⟨ps, e, k⟩ := hQ
      exact ⟨ps, by rw [t2 Q hb]; exact e, k⟩
  · by_cases hb : b = P
    · obtain ⟨ps, e, _⟩ := t1
      exact ⟨_, by rw [hb]; exact e⟩
    · exact ⟨o, by rw [t2 b hb]; exact e⟩
theorem Ext.new {H : Hp} {p : Addr} {o : HO} (h : H p = none) : Ext H (upd H p o) :=
  ⟨fun b u e _ => by rw [upd_ne (ne_of_none e h)]; exact e, fun Q ⟨ps, e, k⟩ => ⟨ps, by rw [upd_ne (ne_of_none e h)]; exact e, k⟩, fun b u e => ⟨u, by rw [upd_ne (ne_of_none e h)]; exact e⟩⟩
/-- a list of ours is written: from the state ahead of its making nothing is seen -/
theorem Ext.write {H H' : Hp} {p : Addr} {o : HO} (x : Ext H H') (h : H p = none) : Ext H (upd H' p o) :=
  ⟨fun b u e n => by rw [upd_ne (ne_of_none e h)]; exact x.keep b u e n, fun Q hQ => by
    obtain ⟨ps, e, k⟩ := x.tabs Q hQ
    obtain ⟨ps0, e0, _⟩ := hQ
    exact ⟨ps, by rw [upd_ne (ne_of_none e0 h)]; exact e, k⟩, fun b u e => by
    obtain ⟨u', e'⟩ := x.live b u e
    exact ⟨u', by rw [upd_ne (ne_of_none e h)]; exact e'⟩⟩
theorem Ext.free {H H' : Hp} (x : Ext H H') {p : Addr} (h : H' p = none) : H p = none := by
  cases e : H p with
  | none => rfl
  | some o =>
    obtain ⟨o', e'⟩ := x.live p o e
    rw [h] at e'
    cases e'
theorem Ext.rd {H H' : Hp} (x : Ext H H') {a : Addr} {u : HO} (n : ¬ isTbl u) (h : Rd H a u) : Rd H' a u := by
  rcases h with h | ⟨o, h⟩
  · exact .inl (x.keep a u h n)
  · exact .inr ⟨o, x.keep a _ h fun z => z⟩
theorem Ext.sqT {K : PySem.W.Frag} {H H' : Hp} (x : Ext H H') {a : Addr} {xs : List V} (h : SqT K H a xs) : SqT K H' a xs := h.elim (fun z => .inl (x.rd (fun z => z) z)) .inr
theorem Ext.sqL {K : PySem.W.Frag} {H H' : Hp} (x : Ext H H') {a : Addr} {xs : List V} (h : SqL K H a xs) : SqL K H' a xs := h.elim (fun z => .inl (x.rd (fun z => z) z)) .inr
theorem Ext.lst {H H' : Hp} (x : Ext H H') {a : Addr} {xs : List V} (h : H a = some (.lst xs)) : H' a = some (.lst xs) := x.keep a _ h fun z => z
theorem Ext.tup {H H' : Hp} (x : Ext H H') {a : Addr} {xs : List V} (h : H a = some (.tup xs)) : H' a = some (.tup xs) := x.keep a _ h fun z => z
mutual
theorem dp_ext {K : PySem.W.Frag} {H H' : Hp} (x : Ext H H') : ∀ {v : V} {d : PyData}, Dp K H v d → Dp K H' v d
  | _, _, .non => .non
  | _, _, .bl b => .bl b
  | _, _, .int i => .int i
  | _, _, .str z => .str z
  | _, _, .lst h hs => .lst (x.sqL h) (dpAll_ext x hs)
  | _, _, .tup h hs => .tup (x.sqT h) (dpAll_ext x hs)
theorem dpAll_ext {K : PySem.W.Frag} {H H' : Hp} (x : Ext H H') : ∀ {vs : List V} {ds : List PyData}, DpAll K H vs ds → DpAll K H' vs ds
  | _, _, .nil => .nil
  | _, _, .cons h hs => .cons (dp_ext x h) (dpAll_ext x hs)
end
theorem dp_tup {K : PySem.W.Frag} {H : Hp} {v : V} {ds : List PyData} (h : Dp K H v (.tuple ds)) : ∃ a xs, v = .ref a ∧ SqT K H a xs ∧ DpAll K H xs ds := by
  cases h with
  | tup h hs => exact ⟨_, _, rfl, h, hs⟩
theorem dp_lst {K : PySem.W.Frag} {H : Hp} {v : V} {ds : List PyData} (h : Dp K H v (.list ds)) : ∃ a xs, v = .ref a ∧ SqL K H a xs ∧ DpAll K H xs ds := by
  cases h with
  | lst h hs => exact ⟨_, _, rfl, h, hs⟩
theorem dp_int {K : PySem.W.Frag} {H : Hp} {v : V} {i : Int} (h : Dp K H v (.int i)) : v = .int i := by cases h; rfl
theorem dpAll_len {K : PySem.W.Frag} {H : Hp} : ∀ {vs : List V} {ds : List PyData}, DpAll K H vs ds → vs.length = ds.length
  | _, _, .nil => rfl
  | _, _, .cons _ hs => congrArg (· + 1) (dpAll_len hs)
theorem dpAll_get {K : PySem.W.Frag} {H : Hp} : ∀ {vs : List V} {ds : List PyData} {i : Nat} {d : PyData}, DpAll K H vs ds → ds[i]? = some d → ∃ v, vs[i]? = some v ∧ Dp K H v d
  | _, _, _, _, .nil, e => by simp at e
  | _, _, 0, _, .cons h _, e => by simp at e; subst e; exact ⟨_, rfl, h⟩
  | _, _, i + 1, d, .cons _ hs, e => by
    obtain ⟨v, h1, h2⟩ := dpAll_get (i := i) (d := d) hs (by simpa using e)
    exact ⟨v, by simpa using h1, h2⟩
theorem dpAll_get' {K : PySem.W.Frag} {H : Hp} : ∀ {vs : List V} {ds : List PyData} {i : Nat} {v : V}, DpAll K H vs ds → vs[i]? = some v → ∃ d, ds[i]? = some d ∧ Dp K H v d
  | _, _, _, _, .nil, e => by simp at e
  | _, _, 0, _, .cons h _, e => by simp at e; subst e; exact ⟨_, rfl, h⟩
  | _, _, i + 1, v, .cons _ hs, e => by
    obtain ⟨d, h1, h2⟩ := dpAll_get' (i := i) (v := v) hs (by simpa using e)
    exact ⟨d, by simpa using h1, h2⟩
theorem dpAll_app {K : PySem.W.Frag} {H : Hp} : ∀ {vs us : List V} {ds es : List PyData}, DpAll K H vs ds → DpAll K H us es → DpAll K H (vs ++ us) (ds ++ es)
  | _, _, _, _, .nil, h => h
  | _, _, _, _, .cons a hs, h => .cons a (dpAll_app hs h)
theorem dpAll_ints {K : PySem.W.Frag} {H : Hp} : ∀ {vs : List V} {ns : List Int}, DpAll K H vs (ns.map .int) → vs = ns.map V.int
  | [], [], _ => rfl
  | _, _ :: _, .cons h hs => by rw [List.map_cons, dp_int h, dpAll_ints hs]
theorem dpAll_of_ints {K : PySem.W.Frag} {H : Hp} : ∀ (ns : List Int), DpAll K H (ns.map V.int) (ns.map .int)
  | [] => .nil
  | n :: ns => .cons (.int n) (dpAll_of_ints ns)
theorem dp_ints {K : PySem.W.Frag} {H : Hp} {v : V} {ns : List Int} (h : Dp K H v (.tuple (ns.map .int))) : ∃ a, v = .ref a ∧ SqT K H a (ns.map V.int) := by
  obtain ⟨a, xs, rfl, h1, h2⟩ := dp_tup h
  exact ⟨a, rfl, by rw [← dpAll_ints h2]; exact h1⟩
/-- a tuple just laid -/
theorem dp_new {K : PySem.W.Frag} {H : Hp} {p : Addr} {vs : List V} {ds : List PyData} (hp : H p = none) (h : DpAll K H vs ds) : Dp K (upd H p (.tup vs)) (.ref p) (.tuple ds) := .tup (SqT.of upd_same) (dpAll_ext (Ext.new hp) h)

/-! ### a def whose code object is known; a callee -/
structure FunC (K : PySem.W.Frag) (x qual : Str) (st : Stmt) (f : Addr) (fd : FuncData) (c : Addr) : Prop where
  ex : ∃ (oc : Value) (od : Option Addr) (kV doc pm : Value) (an : Option Addr) (ct : Value) (osl : Array (Option Value)),
    fd = PySem.W.fnOf x qual (defArgs st) (defBody st) (defScope st) .none kV doc pm an (.ref c) ct ∧ K.lookup f = some ⟨oc, od, .func fd, osl⟩ ∧ PySem.W.codeIn K (.ref c) qual = true
  kp : PySem.W.keepIn K (.ref f) = true
theorem FunC.fun {K : PySem.W.Frag} {x qual : Str} {st : Stmt} {f : Addr} {fd : FuncData} {c : Addr} (F : FunC K x qual st f fd c) : Fun K x qual st f fd :=
  ⟨let ⟨oc, od, kV, doc, pm, an, ct, osl, h⟩ := F.ex; ⟨oc, od, kV, doc, pm, an, .ref c, ct, osl, h⟩, F.kp⟩
section
variable {P : Program} {w : World} {K : PySem.W.Frag} {mg : Str → Option Value} {base : Heap}
theorem FunC.ok {x qual : Str} {st : Stmt} {f : Addr} {fd : FuncData} {c : Addr} {N ps : List Str} {k : Nat} {sp : Sp} (F : FunC K x qual st f fd c) (S : FnScope N ps (defScope st)) (len : ∀ vs H Q E, sp vs H Q E → vs.length = ps.length)
    (hbody : ∀ (A : Around) (outer : List Env) (s : Shared) (H : Hp) (vs : List V) (Q : VK) (E : XK), Room k (A.deeper (envOfC qual (defScope st) s.heap.objs.size f (.ref c))) → sp vs H Q E →
      ∃ t, PSs (cxOf CX0 P w K mg base N qual (defScope st) f (.ref c) A outer s H E).nox (defBody st) t ∧ t { nx := fun _ H' => Q .non H', rt := Q } (start N vs) H) : FnOk P w K mg base CX0 (k + 1) f fd ps sp := by
  obtain ⟨oc, od, kV, doc, pm, an, ct, osl, rfl, lk, hcd⟩ := F.ex
  refine fn_of lk hcd S len fun A outer s H vs Q E hr hsp => ?_
  obtain ⟨t, h, q⟩ := hbody A outer s H vs Q E hr hsp
  exact ⟨t, h.nox, q⟩
/-- a callee by its name: its promise, how its arguments bind -/
structure Cal (P : Program) (w : World) (K : PySem.W.Frag) (mg : Str → Option Value) (base : Heap) (k : Nat) (x : Str) (ps : List Str) (sp : Sp) : Prop where
  ex : ∃ (f : Addr) (fd : FuncData), FnOk P w K mg base CX0 k f fd ps sp ∧ mg x = some (.ref f) ∧ PySem.W.keepIn K (.ref f) = true ∧ Binds K fd ps []
theorem Cal.mono {j k : Nat} {x : Str} {ps : List Str} {sp : Sp} (C : Cal P w K mg base j x ps sp) (h : j ≤ k) : Cal P w K mg base k x ps sp :=
  ⟨let ⟨f, fd, h1, h2⟩ := C.ex; ⟨f, fd, h1.mono h, h2⟩⟩
end
section
variable {X : Cx} {k : Nat} {x : Str} {ps : List Str} {sp : Sp} {p pos : Pos} {e : Expr} {es : List Expr} {t : TA}
theorem pe_cal (C : Cal X.prog X.w X.K X.mg X.base k x ps sp) (hr : Room k X.A) (hg : Gl X x) (ha : PA X (e :: es) t) (hdb : (x == ("__debug__" : Str)) = false := by decide)
    (he : starEach (e :: es) X.env = (false, eval e X.env) :: starEach es X.env := by rfl) (hpl : (backTo pos (starEach es X.env)).any (·.1) = false := by rfl) :
    PE X (.Call (.Name x p) (e :: es) [] pos) (tCall sp [] E0 t) := by
  obtain ⟨f, fd, h1, h2, h3, h4⟩ := C.ex
  exact pe_call h1 hr hg h2 h3 h4 .nil pass0 ha hdb he hpl
end
/-- the built-in names that the text leaves as they are -/
structure Bl (mg : Str → Option Value) : Prop where
  type : mg "type" = none
  len : mg "len" = none
  all : mg "all" = none
  sum : mg "sum" = none
  tuple : mg "tuple" = none
  list : mg "list" = none
  range : mg "range" = none
  int : mg "int" = none
  bool : mg "bool" = none
  str : mg "str" = none
  min : mg "min" = none
  max : mg "max" = none
  sorted : mg "sorted" = none
  isinstance : mg "isinstance" = none
  set : mg "set" = none
abbrev Tabs (ts : List Addr) (H : Hp) : Prop := ∀ P ∈ ts, Gx.TabG H P
theorem Tabs.ext {ts : List Addr} {H H' : Hp} (t : Tabs ts H) (x : Ext H H') : Tabs ts H' := fun P hP => x.tabs P (t P hP)
end Bx

set_option Elab.async false
set_option linter.all false
set_option maxRecDepth 100000
set_option maxHeartbeats 1000000
/-! Mx: masks, lots, and what hangs together: plain mathematics. -/
namespace Mk
/-! ### masks -/
def bits (n m : Nat) : List Nat := (List.range n).filter fun i => m.testBit i
def mask (ps : List Nat) : Nat := (ps.map fun p => 2 ^ p).sum
theorem mem_bits {n m q : Nat} : q ∈ bits n m ↔ q < n ∧ m.testBit q = true := by
  unfold bits
  rw [List.mem_filter, List.mem_range]
theorem lt_of_bit {m n q : Nat} (h : m < 2 ^ n) (hq : m.testBit q = true) : q < n := by
  apply Classical.byContradiction
  intro z
  have := Nat.testBit_lt_two_pow (x := m) (i := q) (Nat.lt_of_lt_of_le h (Nat.pow_le_pow_right (by decide) (by omega)))
  rw [this] at hq
  cases hq
theorem range_pair (n : Nat) : (List.range n).Pairwise (· < ·) := List.pairwise_lt_range
theorem bits_pair (n m : Nat) : (bits n m).Pairwise (· < ·) := (range_pair n).filter _
theorem bits_len (n m : Nat) : (bits n m).length ≤ n := by
  have := List.length_filter_le (fun i => m.testBit i) (List.range n)
  rw [List.length_range] at this
  exact this
/-- ascending lists with the same members are the same -/
theorem asc_ext : ∀ {a b : List Nat}, a.Pairwise (· < ·) → b.Pairwise (· < ·) → (∀ q, q ∈ a ↔ q ∈ b) → a = b
  | [], [], _, _, _ => rfl
  | [], y :: b, _, _, h => absurd ((h y).mpr List.mem_cons_self) (by simp)
  | x :: a, [], _, _, h => absurd ((h x).mp List.mem_cons_self) (by simp)
  | x :: a, y :: b, ha, hb, h => by
    rw [List.pairwise_cons] at ha hb
    have e : x = y := by
      have h1 := (h x).mp List.mem_cons_self
      have h2 := (h y).mpr List.mem_cons_self
      rcases List.mem_cons.mp h1 with z | z
      · exact z
      · rcases List.mem_cons.mp h2 with u | u
        · exact u.symm
        · have := hb.1 x z
          have := ha.1 y u
          omega
    subst e
    congr 1
    refine asc_ext ha.2 hb.2 fun q => ⟨fun hq => ?_, fun hq => ?_⟩
    · rcases List.mem_cons.mp ((h q).mp (List.mem_cons_of_mem _ hq)) with z | z
      · have := ha.1 q hq
        omega
      · exact z
    · rcases List.mem_cons.mp ((h q).mpr (List.mem_cons_of_mem _ hq)) with z | z
      · have := hb.1 q hq
        omega
      · exact z
theorem mask_lt : ∀ {ps : List Nat} {n : Nat}, ps.Pairwise (· < ·) → (∀ p ∈ ps, p < n) → mask ps < 2 ^ n := by
  intro ps
  -- from the greatest on
  have key : ∀ (ps : List Nat) (n : Nat), ps.Pairwise (fun a b => b < a) → (∀ p ∈ ps, p < n) → mask ps < 2 ^ n := by
    intro ps
    induction ps with
    | nil => intro n _ _; exact Nat.two_pow_pos n
    | cons p r ih =>
      intro n hp hn
      rw [List.pairwise_cons] at hp
      have h1 := ih p hp.2 hp.1
      have h2 : p < n := hn p List.mem_cons_self
      have h3 : 2 ^ (p + 1) ≤ 2 ^ n := Nat.pow_le_pow_right (by decide) h2
      have h4 : mask (p :: r) = 2 ^ p + mask r := rfl
      rw [h4]
      rw [Nat.pow_succ] at h3
      omega
  intro n hp hn
  have e : mask ps = mask ps.reverse := by
    unfold mask
    rw [← List.sum_reverse, List.map_reverse]
  rw [e]
  refine key _ n ?_ fun p hq => hn p (List.mem_reverse.mp hq)
  rw [List.pairwise_reverse]
  exact hp
theorem bit_mask : ∀ {ps : List Nat}, ps.Pairwise (· < ·) → ∀ q, (mask ps).testBit q = decide (q ∈ ps) := by
  -- from the greatest on: 2 ^ p + (less)
  have key : ∀ (ps : List Nat), ps.Pairwise (fun a b => b < a) → ∀ q, (mask ps).testBit q = decide (q ∈ ps) := by
    intro ps
    induction ps with
    | nil => intro _ q; simp [mask]
    | cons p r ih =>
      intro hp q
      rw [List.pairwise_cons] at hp
      have hlt : mask r < 2 ^ p := by
        have e : mask r = mask r.reverse := by
          unfold mask
          rw [← List.sum_reverse, List.map_reverse]
        rw [e]
        exact mask_lt (by rw [List.pairwise_reverse]; exact hp.2) fun x hx => hp.1 x (List.mem_reverse.mp hx)
      have h4 : mask (p :: r) = 2 ^ p + mask r := rfl
      rw [h4]
      rcases Nat.lt_trichotomy q p with h | h | h
      · rw [Nat.testBit_two_pow_add_gt h, ih hp.2]
        have : q ≠ p := by omega
        simp [this]
      · subst h
        rw [Nat.testBit_two_pow_add_eq, Nat.testBit_lt_two_pow hlt]
        simp
      · have hlt2 : 2 ^ p + mask r < 2 ^ q := by
          have h3 : 2 ^ (p + 1) ≤ 2 ^ q := Nat.pow_le_pow_right (by decide) h
          rw [Nat.pow_succ] at h3
          omega
        rw [Nat.testBit_lt_two_pow hlt2]
        have h1 : q ≠ p := by omega
        have h2 : q ∉ r := fun z => by
          have := hp.1 q z
          omega
        simp [h1, h2]
  intro ps hp q
  have e : mask ps = mask ps.reverse := by
    unfold mask
    rw [← List.sum_reverse, List.map_reverse]
  rw [e, key _ (by rw [List.pairwise_reverse]; exact hp)]
  simp
theorem bits_mask {n : Nat} {ps : List Nat} (hp : ps.Pairwise (· < ·)) (hn : ∀ p ∈ ps, p < n) : bits n (mask ps) = ps := by
  refine asc_ext (bits_pair _ _) hp fun q => ?_
  rw [mem_bits, bit_mask hp]
  simp only [decide_eq_true_eq]
  exact ⟨fun h => h.2, fun h => ⟨hn q h, h⟩⟩
theorem eq_of_bits {a b : Nat} (h : ∀ q, a.testBit q = true ↔ b.testBit q = true) : a = b := Nat.eq_of_testBit_eq fun q => by
  have := h q
  cases e1 : a.testBit q <;> cases e2 : b.testBit q <;> simp_all
theorem mask_bits {n m : Nat} (h : m < 2 ^ n) : mask (bits n m) = m := eq_of_bits fun q => by
  rw [bit_mask (bits_pair _ _)]
  simp only [decide_eq_true_eq]
  rw [mem_bits]
  exact ⟨fun z => z.2, fun z => ⟨lt_of_bit h z, z⟩⟩
theorem bits_any {n k m : Nat} (h1 : m < 2 ^ n) (h2 : m < 2 ^ k) : bits n m = bits k m := asc_ext (bits_pair _ _) (bits_pair _ _) fun q => by
  rw [mem_bits, mem_bits]
  exact ⟨fun z => ⟨lt_of_bit h2 z.2, z.2⟩, fun z => ⟨lt_of_bit h1 z.2, z.2⟩⟩
theorem lt_of_sub {n r m : Nat} (h : m < 2 ^ n) (s : ∀ q, r.testBit q = true → m.testBit q = true) : r < 2 ^ n := by
  apply Nat.lt_pow_two_of_testBit
  intro i hi
  cases e : r.testBit i with
  | false => rfl
  | true => exact absurd (lt_of_bit h (s i e)) (by omega)
/-! ### the lowest bit -/
theorem and_neg (m : Nat) (h : 0 < m) : ∃ q, m.testBit q = true ∧ (∀ p, p < q → m.testBit p = false) ∧ PySem.Builtin.bitAnd (m : Int) (-(m : Int)) = ((2 ^ q : Nat) : Int) := by
  have key : ∀ (m : Nat), 0 < m → ∃ q, m.testBit q = true ∧ (∀ p, p < q → m.testBit p = false) ∧ m - (m &&& (m - 1)) = 2 ^ q ∧ (m &&& (m - 1)) ≤ m := by
    intro m
    induction m using Nat.strongRecOn with
    | ind m ih =>
    intro h
    rcases Nat.mod_two_eq_zero_or_one m with e | e
    · obtain ⟨k, rfl⟩ : ∃ k, m = 2 * k := ⟨m / 2, by omega⟩
      obtain ⟨q, h1, h2, h3, h4⟩ := ih k (by omega) (by omega)
      have ea : (2 * k &&& (2 * k - 1)) = 2 * (k &&& (k - 1)) := by
        apply Nat.eq_of_testBit_eq
        intro i
        cases i with
        | zero => simp [Nat.testBit_and]
        | succ i =>
          rw [Nat.testBit_and, Nat.testBit_succ, Nat.testBit_succ, Nat.testBit_succ]
          have e1 : 2 * k / 2 = k := by omega
          have e2 : (2 * k - 1) / 2 = k - 1 := by omega
          have e3 : 2 * (k &&& (k - 1)) / 2 = (k &&& (k - 1)) := by omega
          rw [e1, e2, e3, Nat.testBit_and]
      refine ⟨q + 1, ?_, fun p hp => ?_, ?_, ?_⟩
      · rw [Nat.testBit_succ]
        have e1 : 2 * k / 2 = k := by omega
        rw [e1]
        exact h1
      · cases p with
        | zero => simp
        | succ p =>
          rw [Nat.testBit_succ]
          have e1 : 2 * k / 2 = k := by omega
          rw [e1]
          exact h2 p (by omega)
      · rw [ea, Nat.pow_succ]
        omega
      · rw [ea]
        omega
    · refine ⟨0, by simp [Nat.testBit_zero, e], fun p hp => by omega, ?_, ?_⟩
      · have ea : (m &&& (m - 1)) = m - 1 := by
          apply Nat.eq_of_testBit_eq
          intro i
          rw [Nat.testBit_and]
          cases i with
          | zero =>
            have : (m - 1) % 2 = 0 := by omega
            simp [Nat.testBit_zero, this]
          | succ i =>
            rw [Nat.testBit_succ, Nat.testBit_succ]
            have e1 : (m - 1) / 2 = m / 2 := by omega
            rw [e1, Bool.and_self]
        rw [ea]
        omega
      · exact Nat.and_le_left
  obtain ⟨q, h1, h2, h3, h4⟩ := key m h
  refine ⟨q, h1, h2, ?_⟩
  unfold PySem.Builtin.bitAnd PySem.Builtin.bitNot
  have e1 : decide ((0 : Int) ≤ (m : Int)) = true := by simp
  have e2 : decide ((0 : Int) ≤ -(m : Int)) = false := by
    apply decide_eq_false
    omega
  rw [e1, e2]
  show (m : Int) - (((m : Int).toNat &&& (-(-(m : Int)) - 1).toNat : Nat) : Int) = _
  have e3 : (m : Int).toNat = m := Int.toNat_natCast m
  have e4 : (-(-(m : Int)) - 1).toNat = m - 1 := by omega
  rw [e3, e4, ← h3]
  omega

/-! ### graphs -/
def adj (bs : List (Nat × Nat)) (i j : Nat) : Bool := bs.contains (min i j, max i j)
theorem adj_comm (bs : List (Nat × Nat)) (i j : Nat) : adj bs i j = adj bs j i := by
  unfold adj
  rw [Nat.min_comm, Nat.max_comm]
/-- from p to q by borders, within S -/
inductive Conn (bs : List (Nat × Nat)) (S : Nat → Prop) : Nat → Nat → Prop
  | refl {p : Nat} : S p → Conn bs S p p
  | step {p q r : Nat} : Conn bs S p q → adj bs q r = true → S r → Conn bs S p r
section
variable {bs : List (Nat × Nat)} {S T : Nat → Prop} {p q r : Nat}
theorem Conn.fst (h : Conn bs S p q) : S p := by
  induction h with
  | refl h => exact h
  | step _ _ _ ih => exact ih
theorem Conn.snd (h : Conn bs S p q) : S q := by
  cases h with
  | refl h => exact h
  | step _ _ h => exact h
theorem Conn.trans (h1 : Conn bs S p q) (h2 : Conn bs S q r) : Conn bs S p r := by
  induction h2 with
  | refl _ => exact h1
  | step _ a s ih => exact .step ih a s
theorem Conn.one (h1 : S p) (h2 : S q) (a : adj bs p q = true) : Conn bs S p q := .step (.refl h1) a h2
theorem Conn.symm (h : Conn bs S p q) : Conn bs S q p := by
  induction h with
  | refl h => exact .refl h
  | step c a s ih => exact (Conn.one s c.snd (by rw [adj_comm]; exact a)).trans ih
theorem Conn.mono (h : Conn bs S p q) (k : ∀ x, S x → T x) : Conn bs T p q := by
  induction h with
  | refl h => exact .refl (k _ h)
  | step _ a s ih => exact .step ih a (k _ s)
/-- within a part that is closed nothing else is come to -/
theorem Conn.closed (h : Conn bs S p q) (hp : T p) (k : ∀ x y, T x → S y → adj bs x y = true → T y) : Conn bs T p q ∧ T q := by
  induction h with
  | refl _ => exact ⟨.refl hp, hp⟩
  | step _ a s ih =>
    have t := k _ _ ih.2 s a
    exact ⟨.step ih.1 a t, t⟩
end
abbrev In (m : Nat) : Nat → Prop := fun x => m.testBit x = true
/-- r: what is come to from start within m -/
def Rch (bs : List (Nat × Nat)) (m start r : Nat) : Prop := ∀ q, r.testBit q = true ↔ ∃ p, start.testBit p = true ∧ Conn bs (In m) p q
theorem Rch.uniq {bs : List (Nat × Nat)} {m start r r' : Nat} (h : Rch bs m start r) (h' : Rch bs m start r') : r = r' := eq_of_bits fun q => (h q).trans (h' q).symm
/-- the loop of reached: what holds between two turns -/
structure Walk (bs : List (Nat × Nat)) (m start seen fresh : Nat) : Prop where
  st : ∀ q, start.testBit q = true → seen.testBit q = true
  sub : ∀ q, fresh.testBit q = true → seen.testBit q = true
  sound : ∀ q, seen.testBit q = true → ∃ p, start.testBit p = true ∧ Conn bs (In m) p q
  done : ∀ q r, seen.testBit q = true → fresh.testBit q = false → adj bs q r = true → m.testBit r = true → seen.testBit r = true
theorem Walk.begin {bs : List (Nat × Nat)} {m start : Nat} (h : ∀ q, start.testBit q = true → m.testBit q = true) : Walk bs m start start start :=
  ⟨fun _ h => h, fun _ h => h, fun q hq => ⟨q, hq, .refl (h q hq)⟩, fun q r h1 h2 => by rw [h1] at h2; cases h2⟩
theorem Walk.fin {bs : List (Nat × Nat)} {m start seen : Nat} (w : Walk bs m start seen 0) : Rch bs m start seen := fun q => by
  refine ⟨w.sound q, fun h => ?_⟩
  obtain ⟨p, hp, c⟩ := h
  induction c with
  | refl _ => exact w.st _ hp
  | step c a s ih => exact w.done _ _ ih (Nat.zero_testBit _) a s
theorem Walk.turn {bs : List (Nat × Nat)} {m start seen fresh around : Nat} (w : Walk bs m start seen fresh) (ha : ∀ r, around.testBit r = true ↔ ∃ q, fresh.testBit q = true ∧ adj bs q r = true) :
    Walk bs m start (seen ||| (around &&& (m ^^^ seen))) (around &&& (m ^^^ seen)) := by
  have sm : ∀ q, seen.testBit q = true → m.testBit q = true := fun q hq => by
    obtain ⟨p, _, c⟩ := w.sound q hq
    exact c.snd
  have hn : ∀ r, (around &&& (m ^^^ seen)).testBit r = true ↔ around.testBit r = true ∧ m.testBit r = true ∧ seen.testBit r = false := fun r => by
    rw [Nat.testBit_and, Nat.testBit_xor]
    have := sm r
    cases h1 : around.testBit r <;> cases h2 : m.testBit r <;> cases h3 : seen.testBit r <;> simp_all
  refine ⟨fun q hq => ?_, fun q hq => ?_, fun q hq => ?_, fun q r h1 h2 a hr => ?_⟩
  · rw [Nat.testBit_or, w.st q hq]; rfl
  · rw [Nat.testBit_or, hq, Bool.or_true]
  · rw [Nat.testBit_or, Bool.or_eq_true] at hq
    rcases hq with hq | hq
    · exact w.sound q hq
    · obtain ⟨h1, h2, _⟩ := (hn q).mp hq
      obtain ⟨x, h3, h4⟩ := (ha q).mp h1
      obtain ⟨p, hp, c⟩ := w.sound x (w.sub x h3)
      exact ⟨p, hp, .step c h4 h2⟩
  · rw [Nat.testBit_or, h2, Bool.or_false] at h1
    rw [Nat.testBit_or, Bool.or_eq_true]
    cases e : seen.testBit r with
    | true => exact .inl rfl
    | false =>
      right
      rw [hn]
      refine ⟨(ha r).mpr ⟨q, ?_, a⟩, hr, e⟩
      cases ef : fresh.testBit q with
      | true => rfl
      | false =>
        have := w.done q r h1 ef a hr
        rw [this] at e
        cases e
theorem Walk.le {bs : List (Nat × Nat)} {m start seen fresh : Nat} (w : Walk bs m start seen fresh) : seen ≤ m := by
  apply Nat.le_of_testBit
  intro i hi
  obtain ⟨p, _, c⟩ := w.sound i hi
  exact c.snd
theorem or_gt {a b : Nat} (h : a &&& b = 0) (hb : b ≠ 0) : a < a ||| b := by
  have h1 : a ≤ a ||| b := Nat.left_le_or
  rcases Nat.lt_or_eq_of_le h1 with z | z
  · exact z
  · exfalso
    apply hb
    apply eq_of_bits
    intro q
    rw [Nat.zero_testBit]
    refine ⟨fun hq => ?_, fun z => by cases z⟩
    have e1 : (a ||| b).testBit q = true := by rw [Nat.testBit_or, hq, Bool.or_true]
    rw [← z] at e1
    have e2 : (a &&& b).testBit q = true := by rw [Nat.testBit_and, e1, hq]; rfl
    rw [h, Nat.zero_testBit] at e2
    exact e2

/-! ### links -/
theorem bit_or_pow (x b j : Nat) : (x ||| 2 ^ b).testBit j = (x.testBit j || decide (b = j)) := by
  rw [Nat.testBit_or, Nat.testBit_two_pow]
/-- lk: for each of n places the mask of its neighbours -/
structure Lk (n : Nat) (bs : List (Nat × Nat)) (lk : List Nat) : Prop where
  len : lk.length = n
  bit : ∀ i j, i < n → (lk.getD i 0).testBit j = adj bs i j
theorem Lk.nil (n : Nat) : Lk n [] (List.replicate n 0) := ⟨by simp, fun i j hi => by
  rw [List.getD_eq_getElem?_getD, List.getElem?_replicate, if_pos hi]
  simp [adj]⟩
theorem getD_set {l : List Nat} {a i x : Nat} (ha : a < l.length) : (l.set a x).getD i 0 = if i = a then x else l.getD i 0 := by
  rw [List.getD_eq_getElem?_getD, List.getD_eq_getElem?_getD, List.getElem?_set]
  by_cases h : a = i
  · subst h
    rw [if_pos rfl, if_pos rfl, if_pos ha]
    rfl
  · rw [if_neg h, if_neg (fun z => h z.symm)]
theorem Lk.add {n : Nat} {bs : List (Nat × Nat)} {lk : List Nat} (h : Lk n bs lk) {a b : Nat} (hab : a < b) (hb : b < n) :
    Lk n (bs ++ [(a, b)]) ((lk.set a (lk.getD a 0 ||| 2 ^ b)).set b (lk.getD b 0 ||| 2 ^ a)) := by
  have hl := h.len
  refine ⟨by simp [h.len], fun i j hi => ?_⟩
  have e : adj (bs ++ [(a, b)]) i j = (adj bs i j || decide (min i j = a ∧ max i j = b)) := by
    unfold adj
    rw [List.contains_eq_mem, List.contains_eq_mem]
    simp only [List.mem_append, List.mem_singleton, Prod.mk.injEq]
    by_cases h1 : (min i j, max i j) ∈ bs <;> simp [h1]
  rw [e, getD_set (by simp; omega)]
  by_cases h1 : i = b
  · subst h1
    rw [if_pos rfl, bit_or_pow, h.bit _ _ hi]
    congr 1
    apply decide_eq_decide.mpr
    omega
  · rw [if_neg h1, getD_set (by omega)]
    by_cases h2 : i = a
    · subst h2
      rw [if_pos rfl, bit_or_pow, h.bit _ _ hi]
      congr 1
      apply decide_eq_decide.mpr
      omega
    · rw [if_neg h2, h.bit _ _ hi]
      have : decide (min i j = a ∧ max i j = b) = false := by
        apply decide_eq_false
        omega
      rw [this, Bool.or_false]
/-- the borders of a land of n places -/
def Bs (n : Nat) (bs : List (Nat × Nat)) : Prop := ∀ b ∈ bs, b.1 < b.2 ∧ b.2 < n
theorem adj_lt {n : Nat} {bs : List (Nat × Nat)} (h : Bs n bs) {i j : Nat} (a : adj bs i j = true) : i < n ∧ j < n ∧ i ≠ j := by
  unfold adj at a
  rw [List.contains_eq_mem, decide_eq_true_eq] at a
  have := h _ a
  simp only at this
  omega
/-- all that a mask has as neighbours, gathered by its bits -/
theorem around_bits {n : Nat} {bs : List (Nat × Nat)} {lk : List Nat} (h : Lk n bs lk) {m : Nat} (hm : m < 2 ^ n) (r : Nat) :
    ((bits n m).foldl (fun a p => a ||| lk.getD p 0) 0).testBit r = true ↔ ∃ q, m.testBit q = true ∧ adj bs q r = true := by
  have key : ∀ (l : List Nat) (a : Nat), (l.foldl (fun a p => a ||| lk.getD p 0) a).testBit r = true ↔ a.testBit r = true ∨ ∃ q ∈ l, (lk.getD q 0).testBit r = true := by
    intro l
    induction l with
    | nil => intro a; simp
    | cons p l ih =>
      intro a
      rw [List.foldl_cons, ih, Nat.testBit_or, Bool.or_eq_true]
      constructor
      · rintro ((z | z) | ⟨q, hq, z⟩)
        · exact .inl z
        · exact .inr ⟨p, List.mem_cons_self, z⟩
        · exact .inr ⟨q, List.mem_cons_of_mem _ hq, z⟩
      · rintro (z | ⟨q, hq, z⟩)
        · exact .inl (.inl z)
        · rcases List.mem_cons.mp hq with e | hq
          · rw [e] at z
            exact .inl (.inr z)
          · exact .inr ⟨q, hq, z⟩
  rw [key]
  constructor
  · rintro (z | ⟨q, hq, z⟩)
    · simp at z
    · obtain ⟨h1, h2⟩ := mem_bits.mp hq
      exact ⟨q, h2, by rw [← h.bit q r h1]; exact z⟩
  · rintro ⟨q, hq, a⟩
    have hqn := lt_of_bit hm hq
    exact .inr ⟨q, mem_bits.mpr ⟨hqn, hq⟩, by rw [h.bit q r hqn]; exact a⟩
theorem fold_lt {n : Nat} {bs : List (Nat × Nat)} {lk : List Nat} (h : Lk n bs lk) (hb : Bs n bs) {m : Nat} (hm : m < 2 ^ n) : (bits n m).foldl (fun a p => a ||| lk.getD p 0) 0 < 2 ^ n := by
  apply Nat.lt_pow_two_of_testBit
  intro i hi
  cases e : ((bits n m).foldl (fun a p => a ||| lk.getD p 0) 0).testBit i with
  | false => rfl
  | true =>
    obtain ⟨q, _, a⟩ := (around_bits h hm i).mp e
    have := (adj_lt hb a).2.1
    omega
/-- the pieces of a mask, from the lowest bit on -/
inductive Pcs (bs : List (Nat × Nat)) : Nat → List Nat → Prop
  | nil : Pcs bs 0 []
  | cons {m q p : Nat} {l : List Nat} : m.testBit q = true → (∀ x, x < q → m.testBit x = false) → Rch bs m (2 ^ q) p → Pcs bs (m ^^^ p) l → Pcs bs m (p :: l)
theorem Rch.sub {bs : List (Nat × Nat)} {m start p : Nat} (h : Rch bs m start p) : ∀ q, p.testBit q = true → m.testBit q = true := fun q hq => by
  obtain ⟨x, _, c⟩ := (h q).mp hq
  exact c.snd
theorem xor_sub {m p : Nat} (h : ∀ q, p.testBit q = true → m.testBit q = true) (q : Nat) : (m ^^^ p).testBit q = true ↔ m.testBit q = true ∧ p.testBit q = false := by
  rw [Nat.testBit_xor]
  have := h q
  cases h1 : m.testBit q <;> cases h2 : p.testBit q <;> simp_all
theorem xor_lt {m p q : Nat} (h : ∀ q, p.testBit q = true → m.testBit q = true) (hq : p.testBit q = true) : m ^^^ p < m := by
  have e : (m ^^^ p) ||| p = m := eq_of_bits fun x => by
    rw [Nat.testBit_or, Bool.or_eq_true, xor_sub h]
    have := h x
    cases h1 : m.testBit x <;> cases h2 : p.testBit x <;> simp_all
  have a : (m ^^^ p) &&& p = 0 := eq_of_bits fun x => by
    rw [Nat.testBit_and, Bool.and_eq_true, xor_sub h, Nat.zero_testBit]
    simp_all
  have hp : p ≠ 0 := fun z => by rw [z, Nat.zero_testBit] at hq; cases hq
  have := or_gt a hp
  rw [e] at this
  exact this

theorem low_uniq {m q q' : Nat} (h : m.testBit q = true) (l : ∀ x, x < q → m.testBit x = false) (h' : m.testBit q' = true) (l' : ∀ x, x < q' → m.testBit x = false) : q = q' := by
  rcases Nat.lt_trichotomy q q' with z | z | z
  · rw [l' q z] at h; cases h
  · exact z
  · rw [l q' z] at h'; cases h'
theorem Pcs.uniq {bs : List (Nat × Nat)} {m : Nat} {l : List Nat} (h : Pcs bs m l) : ∀ {l' : List Nat}, Pcs bs m l' → l = l' := by
  induction h with
  | nil =>
    intro l' h'
    cases h' with
    | nil => rfl
    | cons hq _ _ _ => simp at hq
  | @cons m q p l hq hl hR _ ih =>
    intro l' h'
    cases h' with
    | nil => simp at hq
    | @cons _ q' p' l2 hq' hl' hR' hP' =>
      have e := low_uniq hq hl hq' hl'
      subst e
      have e2 := hR.uniq hR'
      subst e2
      rw [ih hP']
open Classical in
/-- the pieces -/
noncomputable def pcs (bs : List (Nat × Nat)) (m : Nat) : List Nat := if h : ∃ l, Pcs bs m l then h.choose else []
theorem Pcs.eq {bs : List (Nat × Nat)} {m : Nat} {l : List Nat} (h : Pcs bs m l) : pcs bs m = l := by
  unfold pcs
  rw [dif_pos ⟨l, h⟩]
  exact (Exists.choose_spec (⟨l, h⟩ : ∃ l, Pcs bs m l)).uniq h
end Mk

set_option Elab.async false
set_option linter.all false
set_option maxRecDepth 100000
set_option maxHeartbeats 4000000
/-! Bs: the turns of a generator expression over a source of known length; scopes by a look. -/
namespace Gx
open PySem PySem.Spec PyProof.Rows L2 Bx

/-- the scopes of the names, by a look -/
def gChk (ND : List Str) (sc scope : Scope) (N : List Str) (src : List (Option Nat)) : Bool :=
  decide (scope.kind = .function) && !scope.isCoroutine && (scope.names.all fun y => decide (y.2 ≠ .cell)) && decide (scope.names.lookup (".0" : Str) = some NameKind.local) &&
  (scope.names.all fun y => decide (y.2 = .free → sc.names.lookup y.1 = some .cell ∨ sc.names.lookup y.1 = some .free)) && decide (src.length = N.length) &&
  (List.range src.length).all fun i => match src[i]? with
    | some (some j) => match N[i]?, ND[j]? with
      | some x, some z => decide (x = z) && decide (scope.names.lookup x = some .free)
      | _, _ => false
    | _ => true
theorem gOk {ND : List Str} {sc scope : Scope} {N : List Str} {src : List (Option Nat)} (h : gChk ND sc scope N src = true) : GOk ND sc scope N src := by
  unfold gChk at h
  simp only [Bool.and_eq_true, decide_eq_true_eq, Bool.not_eq_true', List.all_eq_true] at h
  obtain ⟨⟨⟨⟨⟨⟨h1, h2⟩, h3⟩, h4⟩, h5⟩, h6⟩, h7⟩ := h
  refine ⟨h1, h2, h3, h4, h5, h6, fun i j e => ?_⟩
  have hi : i < src.length := (List.getElem?_eq_some_iff.mp e).1
  have q := h7 i (List.mem_range.mpr hi)
  rw [e] at q
  cases e1 : N[i]? with
  | none => simp [e1] at q
  | some x =>
    cases e2 : ND[j]? with
    | none => simp [e1, e2] at q
    | some z =>
      simp only [e1, e2, Bool.and_eq_true, decide_eq_true_eq] at q
      exact ⟨x, rfl, by rw [q.1], q.2⟩

/-- a source: n items, it i the i-th one, while Ph stands -/
structure Src (J : It) (n : Nat) (it : Nat → V) (Ph : Hp → Prop) : Prop where
  go : ∀ i H, Ph H → i < n → J.go i H
  stop : ∀ H, Ph H → J.stop n H
  yld : ∀ i H x H', Ph H → i < n → J.yld i H x H' → H' = H ∧ x = it i
theorem src_range {lo : Int} {n : Nat} {Ph : Hp → Prop} : Src (Itr lo n) n (fun i => .int (lo + i)) Ph := ⟨fun _ _ _ h => h, fun _ _ => Nat.le_refl _, fun _ _ _ _ _ _ h => h⟩
theorem src_tup {K : PySem.W.Frag} {a : Addr} {xs : List V} {Ph : Hp → Prop} (h : ∀ H, Ph H → SqT K H a xs) : Src (Itt K a) xs.length (fun i => xs.getD i .non) Ph where
  go := fun i H p hi => ⟨xs, xs[i], h H p, List.getElem?_eq_getElem hi⟩
  stop := fun H p => ⟨xs, h H p, Nat.le_refl _⟩
  yld := fun i H x H' p hi y => ⟨y.1, by rw [List.getD_eq_getElem?_getD, y.2 xs (h H p)]; rfl⟩
theorem src_lst {K : PySem.W.Frag} {a : Addr} {xs : List V} {Ph : Hp → Prop} (h : ∀ H, Ph H → SqL K H a xs) : Src (Itl K a) xs.length (fun i => xs.getD i .non) Ph where
  go := fun i H p hi => ⟨xs, xs[i], h H p, List.getElem?_eq_getElem hi⟩
  stop := fun H p => ⟨xs, h H p, Nat.le_refl _⟩
  yld := fun i H x H' p hi y => ⟨y.1, by rw [List.getD_eq_getElem?_getD, y.2 xs (h H p)]; rfl⟩

section
variable {J : It} {n : Nat} {it : Nat → V} {Ph : Hp → Prop} {g : TG} {tt : TT} {te : TE} {vs : List Nat} {σg : L2.St} {H : Hp} {Q : VK}
theorem g_all {Qt Qf : Hp → Prop} (S : Src J n it Ph) (p : Nat → Bool) (h0 : Ph H)
    (step : ∀ i H (C : V → Hp → Prop), Ph H → i < n → (∀ H4, Ph H4 → C (.bl (p i)) H4) → g (it i) σg H fun σ2 H2 => wipe σ2 vs = σg ∧ te σ2 H2 C)
    (fin : ∀ H, Ph H → (List.range n).all p = true → Qt H) (finF : ∀ H, Ph H → (List.range n).all p = false → Qf H) :
    ∃ W : Nat → Nat → List V → Hp → Prop, (∃ m, W 0 m [] H) ∧ GTurn J g tYes te vs σg (pAll Qf) (fun _ H => Qt H) W := by
  refine ⟨fun i m _ H => Ph H ∧ i ≤ n ∧ m = n - i ∧ ∀ j, j < i → p j = true, ⟨n, h0, Nat.zero_le _, by omega, fun j hj => by omega⟩, fun i m ys H ⟨hp, hi, hm, ha⟩ => ?_⟩
  by_cases hn : i = n
  · subst hn
    exact .inl ⟨S.stop H hp, fin H hp (List.all_eq_true.mpr fun j hj => ha j (List.mem_range.mp hj))⟩
  · have hlt : i < n := by omega
    refine .inr ⟨S.go i H hp hlt, fun x H' y => ?_⟩
    obtain ⟨rfl, rfl⟩ := S.yld i H x H' hp hlt y
    refine step i H' _ hp hlt fun H4 hp4 => ⟨p i, rfl, ?_⟩
    cases e : p i with
    | true => exact iteT ⟨n - (i + 1), by omega, hp4, hlt, rfl, fun j hj => by
        by_cases z : j = i
        · rw [z]; exact e
        · exact ha j (by omega)⟩
    | false =>
      refine iteF (finF H4 hp4 ?_)
      rw [Bool.eq_false_iff]
      intro z
      rw [List.all_eq_true.mp z i (List.mem_range.mpr hlt)] at e
      cases e
theorem g_sum (S : Src J n it Ph) (f : Nat → Int) (h0 : Ph H)
    (step : ∀ i H (C : V → Hp → Prop), Ph H → i < n → (∀ H4, Ph H4 → C (.int (f i)) H4) → g (it i) σg H fun σ2 H2 => wipe σ2 vs = σg ∧ te σ2 H2 C)
    (fin : ∀ H, Ph H → Q (.int ((List.range n).map f).sum) H) :
    ∃ W : Nat → Nat → List V → Hp → Prop, (∃ m, W 0 m [] H) ∧ GTurn J g tYes te vs σg pSum (fun ys H => ∀ ns : List Int, ys = ns.map V.int → Q (.int ns.sum) H) W := by
  refine ⟨fun i m ys H => Ph H ∧ i ≤ n ∧ m = n - i ∧ ys = ((List.range i).map f).map V.int, ⟨n, h0, Nat.zero_le _, by omega, rfl⟩, fun i m ys H ⟨hp, hi, hm, hy⟩ => ?_⟩
  by_cases hn : i = n
  · subst hn
    refine .inl ⟨S.stop H hp, fun ns e => ?_⟩
    rw [hy] at e
    have e2 : (List.range i).map f = ns := by
      have inj : ∀ (a b : List Int), a.map V.int = b.map V.int → a = b := fun a => by
        induction a with
        | nil => intro b h; cases b with
          | nil => rfl
          | cons y b => cases h
        | cons x a ih => intro b h; cases b with
          | nil => cases h
          | cons y b =>
            injection h with h1 h2
            injection h1 with h1
            rw [h1, ih b h2]
      exact inj _ _ e
    rw [← e2]
    exact fin H hp
  · have hlt : i < n := by omega
    refine .inr ⟨S.go i H hp hlt, fun x H' y => ?_⟩
    obtain ⟨rfl, rfl⟩ := S.yld i H x H' hp hlt y
    refine step i H' _ hp hlt fun H4 hp4 => ⟨⟨f i, rfl⟩, n - (i + 1), by omega, hp4, hlt, rfl, ?_⟩
    rw [hy, List.range_succ, List.map_append, List.map_append]
    rfl
/-- tuple(.. if ..), the target a name; kp i: whether the i-th item is kept; Pw: by the turn and what is out -/
theorem g_tup {o : Nat} {Pw : Nat → List V → Hp → Prop} (S : ∀ i ys, Src J n it (Pw i ys)) (hn : n ≤ sizeLine) (kp : Nat → Bool) (hw : ∀ x, wipe (σg.set o (some x)) vs = σg) (h0 : Pw 0 [] H)
    (len : ∀ i ys H, Pw i ys H → ys.length ≤ i)
    (test : ∀ i ys H (C : Bool → Hp → Prop), Pw i ys H → i < n → (∀ H2, Pw i ys H2 → C (kp i) H2) → tt (σg.set o (some (it i))) H C)
    (skip : ∀ i ys H, Pw i ys H → i < n → kp i = false → Pw (i + 1) ys H)
    (elt : ∀ i ys H (C : V → Hp → Prop), Pw i ys H → i < n → kp i = true → (∀ v H4, Pw (i + 1) (ys ++ [v]) H4 → C v H4) → te (σg.set o (some (it i))) H C)
    (fin : ∀ ys H, Pw n ys H → ∀ p, H p = none → Q (.ref p) (upd H p (.tup ys))) :
    ∃ W : Nat → Nat → List V → Hp → Prop, (∃ m, W 0 m [] H) ∧ GTurn J (gName o) tt te vs σg pTup (fun ys H => ∀ p, H p = none → Q (.ref p) (upd H p (.tup ys))) W := by
  refine ⟨fun i m ys H => Pw i ys H ∧ i ≤ n ∧ m = n - i, ⟨n, h0, Nat.zero_le _, by omega⟩, fun i m ys H ⟨hp, hi, hm⟩ => ?_⟩
  by_cases e : i = n
  · subst e
    exact .inl ⟨(S i ys).stop H hp, fin ys H hp⟩
  · have hlt : i < n := by omega
    refine .inr ⟨(S i ys).go i H hp hlt, fun x H' y => ?_⟩
    obtain ⟨rfl, rfl⟩ := (S i ys).yld i H x H' hp hlt y
    refine ⟨hw _, test i ys H' _ hp hlt fun H2 h2 => ?_⟩
    cases hk : kp i with
    | true => exact iteT (elt i ys H2 _ h2 hlt hk fun v H4 h4 => ⟨by have := len i ys H2 h2; omega, n - (i + 1), by omega, h4, hlt, rfl⟩)
    | false => exact iteF ⟨n - (i + 1), by omega, skip i ys H2 h2 hlt hk, hlt, rfl⟩
end
end Gx
namespace Bx
open PySem PySem.Spec PyProof.Rows L2
theorem ix_tupK {X : Cx} {K : PySem.W.Frag} (h : X.K = K) : IxR X (rIxT K) := h ▸ ix_tup
theorem pt_truthK {X : Cx} {K : PySem.W.Frag} {a : Expr} {ta : TE} (h : X.K = K) (ha : PE X a ta) (he : ∀ whole, isTrue a X.env whole = (do let v ← whole; standAt a.pos; holding [v] (truthy v))) :
    PT X a (fun σ H Q => ta σ H fun x H' => ∃ k, TruV K x H' k ∧ Q k H') := h ▸ pt_truth ha he
theorem call_lenK {X : Cx} {K : PySem.W.Frag} (h : X.K = K) : CallR X (.builtin "len") (fun xs H Q => ∃ x n, xs = [x] ∧ LenV K x H n ∧ Q (.int n) H) := h ▸ call_len
theorem ix_lstK {X : Cx} {K : PySem.W.Frag} (h : X.K = K) : IxR X (rIxL K) := h ▸ ix_list
end Bx

set_option Elab.async false
set_option linter.all false
set_option maxRecDepth 100000
set_option maxHeartbeats 4000000
namespace Wd
open PySem PySem.Spec PyProof.Rows L2 Bx Gx
def topS (i : Nat) : Stmt := PySem.Challenge.pw_wardsdrawn_k24_wishes_by_all_servings.main.body.getD i (.Pass ⟨0, 0, 0, 0⟩)
abbrev st_WardError : Stmt := topS 1
abbrev st_InvalidPart : Stmt := topS 2
abbrev st_InvalidLand : Stmt := topS 3
abbrev st_is_integer : Stmt := topS 8
abbrev st_is_ascending : Stmt := topS 9
abbrev st_is_place : Stmt := topS 10
abbrev st_is_lot : Stmt := topS 11
abbrev st_mask_of : Stmt := topS 12
abbrev st_lot_of : Stmt := topS 13
abbrev st_links_of : Stmt := topS 14
abbrev st_reached : Stmt := topS 15
abbrev st_hangs_together : Stmt := topS 16
abbrev st_fault_of_land : Stmt := topS 17
abbrev st_fault_of_folk : Stmt := topS 18
abbrev st_fault_of_borders : Stmt := topS 19
abbrev st_is_border : Stmt := topS 20
abbrev st_check_land : Stmt := topS 21
abbrev st_wished : Stmt := topS 25
abbrev st_is_serving : Stmt := topS 26
abbrev st_are_cases : Stmt := topS 27
abbrev st_check_wish : Stmt := topS 28
abbrev st_are_heads : Stmt := topS 29
abbrev st_are_sizes : Stmt := topS 30
abbrev st_is_ward : Stmt := topS 31
abbrev st_first_state : Stmt := topS 32
abbrev st_given : Stmt := topS 33
abbrev st_free_of : Stmt := topS 34
abbrev st_come_to : Stmt := topS 35
abbrev st_count_of : Stmt := topS 36
abbrev st_is_over : Stmt := topS 37
abbrev st_is_shut_in : Stmt := topS 38
abbrev st_is_lost : Stmt := topS 39
abbrev st_has_place : Stmt := topS 40
abbrev st_are_cases_of : Stmt := topS 41
abbrev st_is_split : Stmt := topS 42
abbrev st_answer_of : Stmt := topS 43
abbrev st_short_cases : Stmt := topS 44
abbrev st_heads_to : Stmt := topS 45
abbrev st_narrowest : Stmt := topS 46
abbrev st__law_well : Stmt := topS 48
abbrev st__law_dip : Stmt := topS 49
abbrev st__law_same : Stmt := topS 50
abbrev st__law_land : Stmt := topS 51
abbrev st__law_beside : Stmt := topS 52
abbrev st__law_come : Stmt := topS 53
abbrev st__law_hangs : Stmt := topS 54
abbrev st__law_wish : Stmt := topS 55
abbrev st__law_is_serving : Stmt := topS 56
abbrev st__law_reach : Stmt := topS 57
abbrev st__law_first : Stmt := topS 58
abbrev st__law_is_index : Stmt := topS 59
abbrev st__law_are_cases : Stmt := topS 60
abbrev st__law_fault : Stmt := topS 61
abbrev st__law_search : Stmt := topS 62
abbrev st__law_servings : Stmt := topS 63
abbrev st_law : Stmt := topS 64
/-! ### plain data -/
def isIntD (lo hi : Int) : PyData → Bool
  | .int i => decide (lo ≤ i ∧ i ≤ hi)
  | _ => false
theorem tyB_dp {K : PySem.W.Frag} {H : Hp} {v : V} {d : PyData} (h : Dp K H v d) : (∃ i, v = .int i ∧ d = .int i ∧ TyB K H v "int") ∨ ∃ T, T ∈ tyNames ∧ TyB K H v T ∧ T ≠ "int" ∧ ∀ lo hi, isIntD lo hi d = false := by
  cases h with
  | non => exact .inr ⟨"NoneType", by decide, .non, by decide, fun _ _ => rfl⟩
  | bl b => exact .inr ⟨"bool", by decide, .bl b, by decide, fun _ _ => rfl⟩
  | int i => exact .inl ⟨i, rfl, rfl, .int i⟩
  | str x => exact .inr ⟨"str", by decide, .str x, by decide, fun _ _ => rfl⟩
  | lst h _ => exact .inr ⟨"list", by decide, .lst h, by decide, fun _ _ => rfl⟩
  | tup h _ => exact .inr ⟨"tuple", by decide, .tup h, by decide, fun _ _ => rfl⟩
section
variable {P : Program} {w : World} {K : PySem.W.Frag} {mg : Str → Option Value} {base : Heap}
/-! ### is_integer -/
def spIsInteger (K : PySem.W.Frag) : Sp := fun vs H Q _ => ∃ (v : V) (d : PyData) (lo hi : Int), vs = [v, .int lo, .int hi] ∧ Dp K H v d ∧ Q (.bl (isIntD lo hi d)) H
theorem sc_is_integer : FnScope ["value", "low", "high"] ["value", "low", "high"] (defScope st_is_integer) := ⟨rfl, rfl, rfl, by decide +kernel, rfl, by decide +kernel, by decide +kernel⟩
theorem ok_is_integer {f : Addr} {fd : FuncData} (F : Fun K "is_integer" "is_integer" st_is_integer f fd) (B : Bl mg) : FnOk P w K mg base CX0 1 f fd ["value", "low", "high"] (spIsInteger K) := by
  refine F.ok sc_is_integer (fun vs H Q E h => ?_) (fun cdv A outer s H vs Q E hr h => ?_)
  · obtain ⟨v, d, lo, hi, rfl, _⟩ := h
    rfl
  · obtain ⟨v, d, lo, hi, rfl, hd, k⟩ := h
    refine ⟨_, pss_one (ps_ret (pe_and (pe_cmpR op_eqTy (pe_callTy call_type1 rfl B.type (by decide +kernel) (pa_cons (pv 0) pa_nil)) (pe_bltn rfl B.int (by decide +kernel) (v := .ty "int") rfl) (nomark _)) (pe_one (pe_chain op_le op_le (pv 1) (pv 0) (pv 2))))), ?_⟩
    rcases tyB_dp hd with ⟨i, rfl, rfl, ht⟩ | ⟨T, hT, ht, hne, hf⟩
    · refine ⟨_, rfl, _, "int", rfl, ht, "int", "int", rfl, rfl, by decide, by decide, true, rfl, ?_⟩
      simp only [tVar, tC, t2I, tAdd, tSub, tCmp, tIsN, tNotN, tB, tAnd, tOr, tNot, tAndV, tOrV, tNotV, tIf, tNext, tSeq, tDrop, tRet, tRetN, tIfS, tAsg, gName, gNil, gCons, gTup, gSub, tPar, tAug, tAugS, iList, iTup, iRng1, iRng2, tOp, tUn, rI, rI0, rU, rEq, rNe, tTest, tChain, tNil, tCons, tTup, tLst, tCall, tCB, rTyp, r1, kTyp, rTyC, tSl, tNoPart, tPart, tBM0, tBM, tYes, rIxL, rIxT, rIx, rSetL, gtList, L2.start, Ends.nx, Ends.rt, List.map, List.length, List.replicate, List.append, List.append_nil, List.cons_append, List.nil_append, List.set, List.getElem?_cons_zero, List.getElem?_cons_succ, Option.some.injEq, exists_and_left, exists_eq_left', exists_eq_left, V.int.injEq, V.ty.injEq, V.bl.injEq, V.ref.injEq, List.cons.injEq, and_true, true_and, decide_eq_true_eq, Bool.false_eq_true, if_false, if_true, id]
      by_cases h1 : lo ≤ i
      · rw [if_pos h1]
        by_cases h2 : i ≤ hi
        · have e : isIntD lo hi (.int i) = true := decide_eq_true ⟨h1, h2⟩
          rw [e] at k
          simpa [h2] using k
        · have e : isIntD lo hi (.int i) = false := decide_eq_false fun z => h2 z.2
          rw [e] at k
          simpa [h2] using k
      · have e : isIntD lo hi (.int i) = false := decide_eq_false fun z => h1 z.1
        rw [e] at k
        rw [if_neg h1]
        exact k
    · rw [hf] at k
      refine ⟨_, rfl, _, T, rfl, ht, T, "int", rfl, rfl, hT, by decide, false, ?_, k⟩
      rw [decide_eq_false hne]
      rfl
/-! ### is_place -/
def spIsPlace (K : PySem.W.Frag) : Sp := fun vs H Q _ => ∃ (l v : V) (fs : List Int) (bd d : PyData), vs = [l, v] ∧ Dp K H l (.tuple [.tuple (fs.map .int), bd]) ∧ fs.length ≤ 100 ∧ Dp K H v d ∧ Q (.bl (isIntD 0 ((fs.length : Int) - 1) d)) H
theorem sc_is_place : FnScope ["land", "value"] ["land", "value"] (defScope st_is_place) := ⟨rfl, rfl, rfl, by decide +kernel, rfl, by decide +kernel, by decide +kernel⟩
theorem ok_is_place {f : Addr} {fd : FuncData} (F : Fun K "is_place" "is_place" st_is_place f fd) (B : Bl mg) (c1 : Cal P w K mg base 1 "is_integer" ["value", "low", "high"] (spIsInteger K)) : FnOk P w K mg base CX0 2 f fd ["land", "value"] (spIsPlace K) := by
  refine F.ok sc_is_place (fun vs H Q E h => ?_) (fun cdv A outer s H vs Q E hr h => ?_)
  · obtain ⟨l, v, fs, bd, d, rfl, _⟩ := h
    rfl
  · obtain ⟨l, v, fs, bd, d, rfl, hl, hn, hd, k⟩ := h
    refine ⟨_, pss_one (ps_ret (pe_cal c1 hr rfl (pa_cons (pv 1) (pa_cons pe_int (pa_cons (pe_op op_sub (pe_callB call_len (by rfl) B.len PySem.boot_len (pa_cons (pe_ix ix_tup (pv 0) pe_int (fun _ _ => rfl)) pa_nil)) pe_int) pa_nil))))), ?_⟩
    obtain ⟨a, xs, rfl, h1, h2⟩ := dp_tup hl
    obtain ⟨v0, h3, h4⟩ := dpAll_get (i := 0) h2 rfl
    obtain ⟨b, rfl, h5⟩ := dp_ints h4
    refine ⟨_, rfl, _, rfl, _, _, _, _, rfl, rfl, h1, atI_nat h3, _, fs.length, rfl, .inr ⟨_, h5, by simp⟩, _, _, rfl, rfl, _, d, 0, _, rfl, hd, k⟩
end
section
variable {P : Program} {w : World} {K : PySem.W.Frag} {mg : Str → Option Value} {base : Heap}
/-! ### is_ascending: of a tuple of ints -/
def asc : List Int → Bool
  | a :: b :: r => decide (a < b) && asc (b :: r)
  | _ => true
theorem asc_range (ns : List Int) : (List.range (ns.length - 1)).all (fun i => decide (ns.getD i 0 < ns.getD (i + 1) 0)) = asc ns := by
  induction ns with
  | nil => rfl
  | cons a r ih =>
    cases r with
    | nil => rfl
    | cons b r =>
      have e : (a :: b :: r).length - 1 = (b :: r).length - 1 + 1 := by simp
      rw [e, List.range_succ_eq_map, List.all_cons, List.all_map]
      show _ = (decide (a < b) && asc (b :: r))
      rw [← ih]
      rfl
def spIsAscending (K : PySem.W.Frag) (Pt : Addr) : Sp := fun vs H Q _ => ∃ (v : V) (ns : List Int), vs = [v] ∧ Dp K H v (.tuple (ns.map .int)) ∧ ns.length ≤ 6000 ∧ TabG H Pt ∧ ∀ H', Ext H H' → Q (.bl (asc ns)) H'
theorem sc_is_ascending : FnScope ["row"] ["row"] (defScope st_is_ascending) := ⟨rfl, rfl, rfl, by decide +kernel, rfl, by decide +kernel, by decide +kernel⟩
theorem ok_is_ascending {f c Pt : Addr} {fd : FuncData} (F : FunC K "is_ascending" "is_ascending" st_is_ascending f fd c) (TB : TabB base mg c Pt) (B : Bl mg) : FnOk P w K mg base CX0 4 f fd ["row"] (spIsAscending K Pt) := by
  refine F.ok sc_is_ascending (fun vs H Q E h => ?_) (fun A outer s H vs Q E hr h => ?_)
  · obtain ⟨v, ns, rfl, _⟩ := h
    rfl
  · obtain ⟨v, ns, rfl, hd, hl, hT, k⟩ := h
    refine ⟨_, pss_one (ps_ret (pe_gall (k := 0) (N := ["k", "row"]) (src := [none, some 0]) (vs := [0])
      ⟨fun B s H fp code hB => pg_name (i := 0) (by decide +kernel : (["k", "row"] : List Str).Nodup) rfl (Or.inl rfl), fun B s H fp code hB => pts_nil, fun B s H fp code hB => pe_cmpR op_lt (pe_ix (ix_tupK (K := K) rfl) (pv 1) (pv 0) (fun _ _ => rfl)) (pe_ix (ix_tupK (K := K) rfl) (pv 1) (pe_op op_add (pv 0) pe_int) (fun _ _ => rfl)) (nomark _)⟩
      (hr.mono (by decide)) rfl B.all TB rfl (gOk (ND := ["row"]) (sc := defScope st_is_ascending) (by decide +kernel)) (pi_range1 rfl B.range (pa_cons (pe_op op_sub (pe_callB call_len (by rfl) B.len PySem.boot_len (pa_cons (pv 0) pa_nil)) pe_int) pa_nil)))), ?_⟩
    obtain ⟨a, rfl, h1⟩ := dp_ints hd
    refine ⟨_, rfl, _, ns.length, rfl, .inr ⟨_, h1, by simp⟩, _, _, rfl, rfl, _, rfl, by omega, by omega, hT, fun H2 hT2 => ?_⟩
    have x2 : Ext H H2 := Ext.tabbed hT hT2
    have e : ((ns.length : Int) - 1).toNat = ns.length - 1 := by omega
    rw [e]
    refine g_all (Ph := fun H4 => H4 = H2) src_range (fun i => decide (ns.getD i 0 < ns.getD (i + 1) 0)) rfl (fun i H C hp hi k2 => ?_) (fun H hp ea => ?_) fun H hp ea => ?_
    · subst hp
      have g1 : (ns.map V.int)[i]? = some (V.int (ns.getD i 0)) := by
        rw [List.getElem?_map, List.getElem?_eq_getElem (by omega), List.getD_eq_getElem?_getD, List.getElem?_eq_getElem (by omega)]
        rfl
      have g2 : (ns.map V.int)[i + 1]? = some (V.int (ns.getD (i + 1) 0)) := by
        rw [List.getElem?_map, List.getElem?_eq_getElem (by omega), List.getD_eq_getElem?_getD, List.getElem?_eq_getElem (by omega)]
        rfl
      refine ⟨rfl, _, rfl, _, rfl, _, _, _, _, rfl, rfl, x2.sqT h1, by rw [Int.zero_add]; exact atI_nat g1, _, rfl, _, rfl, _, _, rfl, rfl, _, _, _, _, rfl, rfl, x2.sqT h1, (by
        have e2 : (0 : Int) + (i : Int) + 1 = ((i + 1 : Nat) : Int) := by omega
        rw [e2]; exact atI_nat g2), _, _, rfl, rfl, k2 H rfl⟩
    all_goals
      subst hp
      rw [asc_range] at ea
      have q := k _ x2
      rw [ea] at q
      exact q
end
section
variable {P : Program} {w : World} {K : PySem.W.Frag} {mg : Str → Option Value} {base : Heap}
def lotD (ps : List Nat) : PyData := .tuple (ps.map fun (p : Nat) => .int (p : Int))
theorem dp_lot {H : Hp} {v : V} {ps : List Nat} (h : Dp K H v (lotD ps)) : ∃ a, v = .ref a ∧ SqT K H a (ps.map fun (p : Nat) => V.int (p : Int)) := by
  have h2 : Dp K H v (.tuple ((ps.map fun (p : Nat) => (p : Int)).map .int)) := by
    rw [List.map_map]
    exact h
  obtain ⟨a, e, h3⟩ := dp_ints h2
  rw [List.map_map] at h3
  exact ⟨a, e, h3⟩
theorem dpAll_lot {H : Hp} (ps : List Nat) : DpAll K H (ps.map fun (p : Nat) => V.int (p : Int)) (ps.map fun (p : Nat) => .int (p : Int)) := by
  have h := dpAll_of_ints (K := K) (H := H) (ps.map fun (p : Nat) => (p : Int))
  rw [List.map_map, List.map_map] at h
  exact h
theorem getD_lot {ps : List Nat} {i : Nat} (hi : i < (ps.map fun (p : Nat) => V.int (p : Int)).length) : (ps.map fun (p : Nat) => V.int (p : Int)).getD i .non = V.int ((ps.getD i 0 : Nat) : Int) := by
  rw [List.length_map] at hi
  rw [List.getD_eq_getElem?_getD, List.getElem?_map, List.getElem?_eq_getElem hi, List.getD_eq_getElem?_getD, List.getElem?_eq_getElem hi]
  rfl
theorem all_range_getD (ps : List Nat) (f : Nat → Bool) : (List.range ps.length).all (fun i => f (ps.getD i 0)) = ps.all f := by
  induction ps with
  | nil => rfl
  | cons p r ih =>
    rw [List.length_cons, List.range_succ_eq_map, List.all_cons, List.all_map, List.all_cons, ← ih]
    rfl
theorem map_range_getD {α : Type} (ps : List Nat) (f : Nat → α) : (List.range ps.length).map (fun i => f (ps.getD i 0)) = ps.map f := by
  induction ps with
  | nil => rfl
  | cons p r ih =>
    rw [List.length_cons, List.range_succ_eq_map, List.map_cons, List.map_map, List.map_cons, ← ih]
    rfl
/-! ### is_lot: of a tuple of places -/
def isLot (n : Nat) (ps : List Nat) : Bool := !ps.isEmpty && (ps.all fun p => decide (p < n)) && asc (ps.map fun (p : Nat) => (p : Int))
def spIsLot (K : PySem.W.Frag) (T1 T2 : Addr) : Sp := fun vs H Q _ => ∃ (l v : V) (fs : List Int) (bd : PyData) (ps : List Nat), vs = [l, v] ∧ Dp K H l (.tuple [.tuple (fs.map .int), bd]) ∧ fs.length ≤ 100 ∧ Dp K H v (lotD ps) ∧ ps.length ≤ 6000 ∧
  TabG H T1 ∧ TabG H T2 ∧ ∀ H', Ext H H' → Q (.bl (isLot fs.length ps)) H'
theorem sc_is_lot : FnScope ["land", "value"] ["land", "value"] (defScope st_is_lot) := ⟨rfl, rfl, rfl, by decide +kernel, rfl, by decide +kernel, by decide +kernel⟩
theorem ok_is_lot {f c T1 T2 : Addr} {fd : FuncData} (F : FunC K "is_lot" "is_lot" st_is_lot f fd c) (TB : TabB base mg c T1) (B : Bl mg) (c1 : Cal P w K mg base 2 "is_place" ["land", "value"] (spIsPlace K))
    (c2 : Cal P w K mg base 4 "is_ascending" ["row"] (spIsAscending K T2)) : FnOk P w K mg base CX0 6 f fd ["land", "value"] (spIsLot K T1 T2) := by
  refine F.ok sc_is_lot (fun vs H Q E h => ?_) (fun A outer s H vs Q E hr h => ?_)
  · obtain ⟨l, v, fs, bd, ps, rfl, _⟩ := h
    rfl
  · obtain ⟨l, v, fs, bd, ps, rfl, hl, hn, hd, hz, hT1, hT2, k⟩ := h
    refine ⟨_, pss_cons (ps_if (PW.pt (pw_or (pt_cmpR op_neTy (pe_callTy call_type1 rfl B.type (by decide +kernel) (pa_cons (pv 1) pa_nil)) (pe_bltn rfl B.tuple (by decide +kernel) (v := .ty "tuple") rfl) (nomark _))
        (pw_or1 (pt_cmpR op_eq (pe_callB call_len (by rfl) B.len PySem.boot_len (pa_cons (pv 1) pa_nil)) pe_int (nomark _))))) (pss_one (ps_ret pe_bl)) pss_nil)
      (pss_one (ps_ret (pe_and (pe_gall (k := 3) (N := ["place", "land"]) (src := [none, some 0]) (vs := [0])
        ⟨fun B s H fp code hB => pg_name (i := 0) (by decide +kernel : (["place", "land"] : List Str).Nodup) rfl (Or.inl rfl), fun B s H fp code hB => pts_nil, fun B s H fp code hB => pe_cal c1 (hB.deeper _) rfl (pa_cons (pv 1) (pa_cons (pv 0) pa_nil))⟩
        hr rfl B.all TB rfl (gOk (ND := ["land", "value"]) (sc := defScope st_is_lot) (by decide +kernel)) (pi_tup (pv 1)))
        (pe_one (pe_cal c2 (hr.mono (by decide)) rfl (pa_cons (pv 1) pa_nil)))))), ?_⟩
    obtain ⟨a, rfl, h1⟩ := dp_lot hd
    refine ⟨_, rfl, _, "tuple", rfl, .tup h1, "tuple", "tuple", rfl, rfl, by decide, by decide, false, rfl, ?_⟩
    refine iteF ⟨_, rfl, _, ps.length, rfl, .inr ⟨_, h1, by simp⟩, rfl, _, rfl, ?_⟩
    by_cases he : ps = []
    · subst he
      refine iteT ?_
      exact k H (Ext.refl H)
    · have hne : decide (V.int (ps.length : Int) = V.int 0) = false := by
        apply decide_eq_false
        intro z
        injection z with z
        exact he (List.length_eq_zero_iff.mp (by omega))
      rw [hne]
      refine iteF ?_
      refine ⟨_, rfl, a, rfl, ⟨_, h1⟩, hT1, fun H2 hT => ?_⟩
      have x2 : Ext H H2 := Ext.tabbed hT1 hT
      refine g_all (Ph := fun H4 => H4 = H2) (src_tup fun H4 e => by rw [e]; exact x2.sqT h1) (fun i => decide (ps.getD i 0 < fs.length)) rfl (fun i H C hp hi k2 => ?_) (fun H4 hp ea => ?_) fun H4 hp ea => ?_
      · subst hp
        refine ⟨rfl, _, rfl, _, rfl, _, _, fs, bd, .int (ps.getD i 0 : Nat), rfl, dp_ext x2 hl, hn, (by rw [getD_lot hi]; exact .int _), ?_⟩
        have e : isIntD 0 ((fs.length : Int) - 1) (.int (ps.getD i 0 : Nat)) = decide (ps.getD i 0 < fs.length) := by
          show decide (_ ∧ _) = _
          apply decide_eq_decide.mpr
          omega
        rw [e]
        exact k2 H rfl
      · subst hp
        rw [List.length_map, all_range_getD ps fun p => decide (p < fs.length)] at ea
        refine ⟨_, rfl, iteT ⟨_, rfl, _, ps.map fun (p : Nat) => (p : Int), rfl, ?_, by rw [List.length_map]; exact hz, x2.tabs _ hT2, fun H5 x5 => ?_⟩⟩
        · rw [List.map_map]
          exact dp_ext x2 hd
        · have q := k H5 (x2.trans x5)
          unfold isLot at q
          rw [ea] at q
          have e0 : ps.isEmpty = false := by cases ps with
            | nil => exact absurd rfl he
            | cons _ _ => rfl
          rw [e0] at q
          exact q
      · subst hp
        rw [List.length_map, all_range_getD ps fun p => decide (p < fs.length)] at ea
        refine ⟨_, rfl, iteF ?_⟩
        have q := k H4 x2
        unfold isLot at q
        rw [ea] at q
        simpa using q
/-! ### mask_of -/
def spMaskOf (K : PySem.W.Frag) (T1 : Addr) : Sp := fun vs H Q _ => ∃ (v : V) (ps : List Nat), vs = [v] ∧ Dp K H v (lotD ps) ∧ (∀ p ∈ ps, p ≤ 1000) ∧ TabG H T1 ∧ ∀ H', Ext H H' → Q (.int (Mk.mask ps : Nat)) H'
theorem sc_mask_of : FnScope ["lot"] ["lot"] (defScope st_mask_of) := ⟨rfl, rfl, rfl, by decide +kernel, rfl, by decide +kernel, by decide +kernel⟩
theorem sum_cast (ps : List Nat) : (ps.map fun (p : Nat) => ((2 ^ p : Nat) : Int)).sum = ((Mk.mask ps : Nat) : Int) := by
  induction ps with
  | nil => rfl
  | cons p r ih =>
    have e : Mk.mask (p :: r) = 2 ^ p + Mk.mask r := rfl
    rw [List.map_cons, List.sum_cons, ih, e]
    omega
theorem ok_mask_of {f c T1 : Addr} {fd : FuncData} (F : FunC K "mask_of" "mask_of" st_mask_of f fd c) (TB : TabB base mg c T1) (B : Bl mg) : FnOk P w K mg base CX0 4 f fd ["lot"] (spMaskOf K T1) := by
  refine F.ok sc_mask_of (fun vs H Q E h => ?_) (fun A outer s H vs Q E hr h => ?_)
  · obtain ⟨v, ps, rfl, _⟩ := h
    rfl
  · obtain ⟨v, ps, rfl, hd, hp, hT, k⟩ := h
    refine ⟨_, pss_one (ps_ret (pe_gsum (k := 0) (N := ["place"]) (src := [none]) (vs := [0])
        ⟨fun B s H fp code hB => pg_name (i := 0) (by decide +kernel : (["place"] : List Str).Nodup) rfl (Or.inl rfl), fun B s H fp code hB => pts_nil, fun B s H fp code hB => pe_op op_shl pe_int (pv 0)⟩
        (hr.mono (by decide)) rfl B.sum TB rfl (gOk (ND := ["lot"]) (sc := defScope st_mask_of) (by decide +kernel)) (pi_tup (pv 0)))), ?_⟩
    obtain ⟨a, rfl, h1⟩ := dp_lot hd
    refine ⟨_, rfl, a, rfl, ⟨_, h1⟩, hT, fun H2 hT2 => ?_⟩
    have x2 : Ext H H2 := Ext.tabbed hT hT2
    refine g_sum (Ph := fun H4 => H4 = H2) (src_tup fun H4 e => by rw [e]; exact x2.sqT h1) (fun i => ((2 ^ ps.getD i 0 : Nat) : Int)) rfl (fun i H C hp2 hi k2 => ?_) fun H4 hp2 => ?_
    · subst hp2
      rw [getD_lot hi]
      rw [List.length_map] at hi
      have hb : ps.getD i 0 ≤ 1000 := by
        rw [List.getD_eq_getElem?_getD, List.getElem?_eq_getElem hi]
        exact hp _ (List.getElem_mem hi)
      refine ⟨rfl, _, rfl, 1, _, rfl, rfl, ⟨by omega, by omega, by decide⟩, ?_⟩
      have e : (1 : Int) * 2 ^ ((ps.getD i 0 : Nat) : Int).toNat = ((2 ^ ps.getD i 0 : Nat) : Int) := by
        rw [Int.toNat_natCast, Int.one_mul]
        simp
      show C (V.int ((1 : Int) * 2 ^ ((ps.getD i 0 : Nat) : Int).toNat)) H
      rw [e]
      exact k2 H rfl
    · subst hp2
      rw [List.length_map, map_range_getD ps fun (p : Nat) => ((2 ^ p : Nat) : Int), sum_cast]
      exact k H4 x2
/-! ### lot_of -/
def spLotOf (K : PySem.W.Frag) (T1 : Addr) : Sp := fun vs H Q _ => ∃ (m n : Nat), vs = [.int (m : Int)] ∧ m < 2 ^ n ∧ n ≤ 1000 ∧ TabG H T1 ∧ ∀ p H', Ext H H' → H p = none → Dp K H' (.ref p) (lotD (Mk.bits n m)) → H' p = some (.tup ((Mk.bits n m).map fun (p : Nat) => V.int (p : Int))) → Q (.ref p) H'
theorem sc_lot_of : FnScope ["mask"] ["mask"] (defScope st_lot_of) := ⟨rfl, rfl, rfl, by decide +kernel, rfl, by decide +kernel, by decide +kernel⟩
theorem intBits_lt (m : Nat) : m < 2 ^ Builtin.Int.intBits (m : Int) := by
  unfold Builtin.Int.intBits
  by_cases h : m = 0
  · subst h; decide
  · have e : ((m : Int) == 0) = false := by simp; omega
    rw [e]
    exact Nat.lt_log2_self
theorem intBits_le {m n : Nat} (h : m < 2 ^ n) : Builtin.Int.intBits (m : Int) ≤ n := by
  unfold Builtin.Int.intBits
  by_cases e0 : m = 0
  · subst e0; simp
  · have e : ((m : Int) == 0) = false := by simp; omega
    rw [e]
    have := (Nat.log2_lt e0).mpr h
    exact this
theorem shr_and (m i : Nat) : Builtin.bitAnd ((m : Int) / 2 ^ i) 1 = (if m.testBit i then 1 else 0 : Int) := by
  have e0 : ((m : Int) / 2 ^ i) = ((m / 2 ^ i : Nat) : Int) := by simp
  have e1 : Builtin.bitAnd ((m / 2 ^ i : Nat) : Int) 1 = (((m / 2 ^ i) &&& 1 : Nat) : Int) := rfl
  rw [e0, e1, Nat.and_one_is_mod]
  have e2 := Nat.testBit_eq_decide_div_mod_eq (x := m) (i := i)
  rw [e2]
  rcases Nat.mod_two_eq_zero_or_one (m / 2 ^ i) with z | z <;> simp [z]
theorem ok_lot_of {f c T1 : Addr} {fd : FuncData} (F : FunC K "lot_of" "lot_of" st_lot_of f fd c) (TB : TabB base mg c T1) (B : Bl mg) : FnOk P w K mg base CX0 6 f fd ["mask"] (spLotOf K T1) := by
  refine F.ok sc_lot_of (fun vs H Q E h => ?_) (fun A outer s H vs Q E hr h => ?_)
  · obtain ⟨m, n, rfl, _⟩ := h
    rfl
  · obtain ⟨m, n, rfl, hm, hn, hT, k⟩ := h
    refine ⟨_, pss_one (ps_ret (pe_gtup (k := 0) (N := ["place", "mask"]) (src := [none, some 0]) (vs := [0])
        ⟨fun B s H fp code hB => pg_name (i := 0) (by decide +kernel : (["place", "mask"] : List Str).Nodup) rfl (Or.inl rfl), fun B s H fp code hB => pts_one (pt_truthK (K := K) rfl (pe_op op_and (pe_op op_shr (pv 1) (pv 0)) pe_int) (by intro _; rfl)), fun B s H fp code hB => pv 0⟩
        (hr.mono (by decide)) rfl B.tuple TB rfl (gOk (ND := ["mask"]) (sc := defScope st_lot_of) (by decide +kernel)) (pi_range1 rfl B.range (pa_cons (pe_bits (pv 0)) pa_nil)))), ?_⟩
    have hb := intBits_lt m
    have hb2 := intBits_le hm
    generalize hN : Builtin.Int.intBits (m : Int) = N at hb hb2
    refine ⟨_, rfl, _, rfl, _, by rw [hN], by omega, by omega, hT, fun H2 hT2 => ?_⟩
    have x2 : Ext H H2 := Ext.tabbed hT hT2
    have eN : ((N : Nat) : Int).toNat = N := Int.toNat_natCast N
    rw [eN]
    refine g_tup (Pw := fun i ys H4 => H4 = H2 ∧ ys = ((List.range i).filter fun q => m.testBit q).map fun (p : Nat) => V.int (p : Int)) (fun _ _ => src_range) (Nat.le_trans (Nat.le_trans hb2 hn) (by decide)) (fun i => m.testBit i) (fun _ => rfl) ⟨rfl, rfl⟩
      (fun i ys H4 ⟨_, e⟩ => ?_) (fun i ys H4 C ⟨e1, e2⟩ hi k2 => ?_) (fun i ys H4 ⟨e1, e2⟩ hi hk => ⟨e1, ?_⟩) (fun i ys H4 C ⟨e1, e2⟩ hi hk k2 => ?_) fun ys H4 ⟨e1, e2⟩ p hp => ?_
    · rw [e, List.length_map]
      have := List.length_filter_le (fun q => m.testBit q) (List.range i)
      rw [List.length_range] at this
      exact this
    · refine ⟨_, rfl, _, rfl, _, _, rfl, rfl, (by show (0 : Int) ≤ 0 + (i : Int); omega), _, _, rfl, rfl, m.testBit i, ?_, k2 H4 ⟨e1, e2⟩⟩
      show m.testBit i = (Builtin.bitAnd ((m : Int) / 2 ^ ((0 : Int) + (i : Int)).toNat) 1 != 0)
      have e : ((0 : Int) + (i : Int)).toNat = i := by omega
      rw [e, shr_and]
      cases m.testBit i <;> rfl
    · rw [e2, List.range_succ, List.filter_append, List.filter_cons_of_neg (by simp [hk])]
      simp
    · refine ⟨_, rfl, k2 _ H4 ⟨e1, ?_⟩⟩
      rw [e2, List.range_succ, List.filter_append, List.filter_cons_of_pos (by simp [hk]), List.map_append, Int.zero_add]
      rfl
    · subst e1
      have eb : ((List.range N).filter fun q => m.testBit q) = Mk.bits n m := Mk.bits_any hb hm
      rw [eb] at e2
      subst e2
      exact k p _ (x2.trans (Ext.new hp)) (x2.free hp) (dp_new hp (dpAll_lot _)) upd_same
end
section
variable {P : Program} {w : World} {K : PySem.W.Frag} {mg : Str → Option Value} {base : Heap}
def bordD (bs : List (Nat × Nat)) : PyData := .tuple (bs.map fun (b : Nat × Nat) => .tuple [.int (b.1 : Int), .int (b.2 : Int)])
def landD (fs : List Int) (bs : List (Nat × Nat)) : PyData := .tuple [.tuple (fs.map .int), bordD bs]
abbrev vsN (l : List Nat) : List V := l.map fun (m : Nat) => V.int (m : Int)
theorem vsN_get {l : List Nat} {i : Nat} (h : i < l.length) : (vsN l)[i]? = some (V.int ((l.getD i 0 : Nat) : Int)) := by
  rw [List.getElem?_map, List.getElem?_eq_getElem h, List.getD_eq_getElem?_getD, List.getElem?_eq_getElem h]
  rfl
theorem vsN_set (l : List Nat) (i x : Nat) : (vsN l).set i (V.int (x : Int)) = vsN (l.set i x) := by
  rw [← List.map_set]
theorem ixN_nat {n j : Nat} (h : j < n) : ixN n (j : Int) = some j := by
  unfold ixN
  rw [if_pos (by omega), if_pos (by omega)]
  simp
theorem or_pp (a b : Nat) : Builtin.bitOr (a : Int) (b : Int) = ((a ||| b : Nat) : Int) := by
  rw [Bits.bitOr_pp (by omega) (by omega), Int.toNat_natCast, Int.toNat_natCast]
theorem xor_pp (a b : Nat) : Builtin.bitXor (a : Int) (b : Int) = ((a ^^^ b : Nat) : Int) := by
  rw [Bits.bitXor_pp (by omega) (by omega), Int.toNat_natCast, Int.toNat_natCast]
theorem and_pp (a b : Nat) : Builtin.bitAnd (a : Int) (b : Int) = ((a &&& b : Nat) : Int) := by
  rw [PyProof.Rows.bitAnd_pp (by omega) (by omega), Int.toNat_natCast, Int.toNat_natCast]
theorem shl_pp (b : Nat) : (1 : Int) * 2 ^ ((b : Nat) : Int).toNat = ((2 ^ b : Nat) : Int) := by
  rw [Int.toNat_natCast, Int.one_mul]
  simp
/-! ### links_of -/
def spLinksOf (K : PySem.W.Frag) : Sp := fun vs H Q _ => ∃ (l : V) (fs : List Int) (bs : List (Nat × Nat)), vs = [l] ∧ Dp K H l (landD fs bs) ∧ fs.length ≤ 12 ∧ Mk.Bs fs.length bs ∧
  ∀ p H' lk, Ext H H' → H p = none → H' p = some (.lst (vsN lk)) → Mk.Lk fs.length bs lk → Q (.ref p) H'
theorem sc_links_of : FnScope ["land", "links", "low", "high"] ["land"] (defScope st_links_of) := ⟨rfl, rfl, rfl, by decide +kernel, rfl, by decide +kernel, by decide +kernel⟩
theorem ok_links_of {f : Addr} {fd : FuncData} (F : Fun K "links_of" "links_of" st_links_of f fd) (B : Bl mg) : FnOk P w K mg base CX0 1 f fd ["land"] (spLinksOf K) := by
  refine F.ok sc_links_of (fun vs H Q E h => ?_) (fun cdv A outer s H vs Q E hr h => ?_)
  · obtain ⟨l, fs, bs, rfl, _⟩ := h
    rfl
  · obtain ⟨l, fs, bs, rfl, hd, hn, hb, k⟩ := h
    refine ⟨_, pss_cons (ps_set (i := 1) sc_links_of.nd rfl (Or.inl rfl) (pe_op op_rep (pe_lst (pa_cons pe_int pa_nil)) (pe_callB call_len (by rfl) B.len PySem.boot_len (pa_cons (pe_ix ix_tup (pv 0) pe_int (fun _ _ => rfl)) pa_nil))))
      (pss_cons (ps_for PassesOwn.never rfl (pi_tup (pe_ix ix_tup (pv 0) pe_int (fun _ _ => rfl))) (pg_tup rfl (pgs_cons (pg_name (i := 2) sc_links_of.nd rfl (Or.inl rfl)) (pgs_cons (pg_name (i := 3) sc_links_of.nd rfl (Or.inl rfl)) pgs_nil)))
        (pss_cons (ps_augS (pv 1) (pv 2) get_list (pe_op op_shl pe_int (pv 3)) iop_or set_list)
        (pss_one (ps_augS (pv 1) (pv 3) get_list (pe_op op_shl pe_int (pv 2)) iop_or set_list))))
      (pss_one (ps_ret (pv 1)))), ?_⟩
    obtain ⟨a, xs, rfl, h1, h2⟩ := dp_tup hd
    obtain ⟨v0, h3, h4⟩ := dpAll_get (i := 0) h2 rfl
    obtain ⟨b, rfl, h5⟩ := dp_ints h4
    obtain ⟨v1, h6, h7⟩ := dpAll_get (i := 1) h2 rfl
    obtain ⟨c, ys, rfl, h8, h9⟩ := dp_tup h7
    -- [0] * len(land[0])
    refine ⟨by decide, fun q hq => ?_⟩
    have x1 : Ext H (upd H q (.lst [.int 0])) := Ext.new hq
    refine ⟨_, rfl, _, _, _, _, rfl, rfl, x1.sqT h1, atI_nat h3, _, fs.length, rfl, .inr ⟨_, x1.sqT h5, by simp⟩, q, fs.length, _, rfl, rfl, upd_same, by omega, by omega, ?_, fun p hp => ?_⟩
    · have e : ((fs.length : Nat) : Int).toNat = fs.length := Int.toNat_natCast _
      rw [e]
      have : 12 ≤ sizeLine := by decide
      simp only [List.length_cons, List.length_nil]
      omega
    have x2 : Ext H (upd (upd H q (.lst [.int 0])) p (.lst (List.replicate ((fs.length : Nat) : Int).toNat [V.int 0]).flatten)) := x1.trans (Ext.new hp)
    have hp0 : H p = none := x1.free hp
    have e0 : (List.replicate ((fs.length : Nat) : Int).toNat [V.int 0]).flatten = vsN (List.replicate fs.length 0) := by
      rw [Int.toNat_natCast]
      generalize fs.length = n
      induction n with
      | zero => rfl
      | succ n ih => rw [List.replicate_succ, List.flatten_cons, ih]; rfl
    -- for low, high in land[1]
    refine ⟨_, rfl, _, _, _, _, rfl, rfl, x2.sqT h1, atI_nat h6, c, rfl, ⟨_, x2.sqT h8⟩, for_tup (K := K) (a := c) (xs := ys) (fun i σ H2 => ∃ (lk : List Nat) (o1 o2 : Option V), σ = [some (.ref a), some (.ref p), o1, o2] ∧ Ext H H2 ∧ H2 p = some (.lst (vsN lk)) ∧ Mk.Lk fs.length (bs.take i) lk)
      ⟨_, none, none, rfl, x2, by rw [upd_same, e0], by rw [List.take_zero]; exact Mk.Lk.nil _⟩ (fun i σ H2 _ ⟨_, _, _, _, x, _⟩ => x.sqT h8) ?_ ?_⟩
    · rintro i x σ H2 hx ⟨lk, o1, o2, rfl, x3, hl3, L⟩
      obtain ⟨d, hd1, hd2⟩ := dpAll_get' h9 hx
      rw [List.getElem?_map] at hd1
      cases eb : bs[i]? with
      | none => rw [eb] at hd1; cases hd1
      | some be =>
        rw [eb] at hd1
        cases hd1
        obtain ⟨b1, b2⟩ := be
        obtain ⟨hb1, hb2⟩ := hb (b1, b2) (List.mem_of_getElem? eb)
        simp only at hb1 hb2
        obtain ⟨t, zs, rfl, h10, h11⟩ := dp_tup hd2
        have ez : zs = [V.int (b1 : Int), V.int (b2 : Int)] := by
          cases h11 with
          | cons z1 zr =>
            cases zr with
            | cons z2 zr =>
              cases zr
              rw [dp_int z1, dp_int z2]
        subst ez
        have hl := L.len
        have g1 : (vsN lk)[b1]? = some (V.int ((lk.getD b1 0 : Nat) : Int)) := vsN_get (by omega)
        refine ⟨t, _, rfl, x3.sqT h10, rfl, _, _, rfl, _, _, rfl, rfl, ?_⟩
        refine ⟨_, rfl, _, rfl, p, _, b1, _, rfl, rfl, hl3, g1, _, rfl, 1, (b2 : Int), rfl, rfl, ⟨by omega, by omega, by decide⟩, _, _, rfl, rfl, p, vsN lk, _, b1, rfl, rfl, hl3, by simp [ixN_nat (show b1 < lk.length by omega)], ?_⟩
        have e1 : V.int (Builtin.bitOr ((lk.getD b1 0 : Nat) : Int) (1 * 2 ^ ((b2 : Nat) : Int).toNat)) = V.int ((lk.getD b1 0 ||| 2 ^ b2 : Nat) : Int) := by rw [shl_pp, or_pp]
        dsimp only
        rw [e1, vsN_set]
        have g2 : (vsN (lk.set b1 (lk.getD b1 0 ||| 2 ^ b2)))[b2]? = some (V.int ((lk.getD b2 0 : Nat) : Int)) := by
          rw [vsN_get (by simp; omega), Mk.getD_set (by omega), if_neg (by omega)]
        refine ⟨_, rfl, _, rfl, p, _, b2, _, rfl, rfl, upd_same, g2, _, rfl, 1, (b1 : Int), rfl, rfl, ⟨by omega, by omega, by decide⟩, _, _, rfl, rfl, p, vsN (lk.set b1 (lk.getD b1 0 ||| 2 ^ b2)), _, b2, rfl, rfl, upd_same, by simp [ixN_nat (show b2 < lk.length by omega)], ?_⟩
        have e2 : V.int (Builtin.bitOr ((lk.getD b2 0 : Nat) : Int) (1 * 2 ^ ((b1 : Nat) : Int).toNat)) = V.int ((lk.getD b2 0 ||| 2 ^ b1 : Nat) : Int) := by rw [shl_pp, or_pp]
        dsimp only
        rw [e2, vsN_set]
        refine ⟨_, _, _, rfl, ?_, upd_same, ?_⟩
        · exact (x3.write hp0).write hp0
        · have et : bs.take (i + 1) = bs.take i ++ [(b1, b2)] := by
            rw [List.take_add_one, eb]
            rfl
          rw [et]
          exact L.add hb1 hb2
    · rintro σ H2 ⟨lk, o1, o2, rfl, x3, hl3, L⟩
      have el : ys.length = bs.length := by
        have := dpAll_len h9
        rw [List.length_map] at this
        exact this
      rw [el, List.take_length] at L
      exact ⟨_, rfl, k p H2 lk x3 hp0 hl3 L⟩
/-! ### reached -/
def spReached (K : PySem.W.Frag) (T1 : Addr) : Sp := fun vs H Q _ => ∃ (l : Addr) (lk : List Nat) (n start m : Nat) (bs : List (Nat × Nat)), vs = [.ref l, .int (start : Int), .int (m : Int)] ∧ H l = some (.lst (vsN lk)) ∧ Mk.Lk n bs lk ∧ Mk.Bs n bs ∧ n ≤ 12 ∧ m < 2 ^ n ∧
  (∀ q, start.testBit q = true → m.testBit q = true) ∧ TabG H T1 ∧ ∀ r H', Ext H H' → Mk.Rch bs m start r → Q (.int ((r : Nat) : Int)) H'
theorem sc_reached : FnScope ["links", "start", "mask", "seen", "fresh", "around", "place"] ["links", "start", "mask"] (defScope st_reached) := ⟨rfl, rfl, rfl, by decide +kernel, rfl, by decide +kernel, by decide +kernel⟩
theorem ok_reached {f T1 : Addr} {fd : FuncData} (F : Fun K "reached" "reached" st_reached f fd) (B : Bl mg) (c1 : Cal P w K mg base 6 "lot_of" ["mask"] (spLotOf K T1)) : FnOk P w K mg base CX0 7 f fd ["links", "start", "mask"] (spReached K T1) := by
  refine F.ok sc_reached (fun vs H Q E h => ?_) (fun cdv A outer s H vs Q E hr h => ?_)
  · obtain ⟨l, lk, n, start, m, bs, rfl, _⟩ := h
    rfl
  · obtain ⟨l, lk, n, start, m, bs, rfl, hl, L, hb, hn, hm, hs, hT, k⟩ := h
    refine ⟨_, pss_cons (ps_set (i := 3) sc_reached.nd rfl (Or.inl rfl) (pv 1)) (pss_cons (ps_set (i := 4) sc_reached.nd rfl (Or.inl rfl) (pv 1))
      (pss_cons (ps_while PassesOwn.never (pt_truth (pv 4) (by intro _; rfl))
        (pss_cons (ps_set (i := 5) sc_reached.nd rfl (Or.inl rfl) pe_int)
        (pss_cons (ps_for PassesOwn.never rfl (pi_tup (pe_cal c1 hr rfl (pa_cons (pv 4) pa_nil))) (pg_name (i := 6) sc_reached.nd rfl (Or.inl rfl))
          (pss_one (ps_aug (i := 5) sc_reached.nd rfl (Or.inl rfl) (pe_ix ix_list (pv 0) (pv 6) (fun _ _ => rfl)) iop_or)))
        (pss_cons (ps_set (i := 4) sc_reached.nd rfl (Or.inl rfl) (pe_op op_and (pv 5) (pe_op op_xor (pv 2) (pv 3))))
        (pss_one (ps_aug (i := 3) sc_reached.nd rfl (Or.inl rfl) (pv 4) iop_or))))))
      (pss_one (ps_ret (pv 3))))), ?_⟩
    refine ⟨_, rfl, _, rfl, ?_⟩
    dsimp only [gName, tSeq]
    refine while_by (fun σ H2 => ∃ (seen fresh : Nat) (o1 o2 : Option V), σ = [some (.ref l), some (.int (start : Int)), some (.int (m : Int)), some (.int (seen : Int)), some (.int (fresh : Int)), o1, o2] ∧ Ext H H2 ∧ Mk.Walk bs m start seen fresh)
      (fun σ _ => match σ with
        | [_, _, _, some (.int a), some (.int b), _, _] => 2 * (m - a.toNat) + (if b = 0 then 0 else 1)
        | _ => 0) ⟨start, start, none, none, rfl, Ext.refl H, Mk.Walk.begin hs⟩ ?_ ?_
    · rintro σ H2 ⟨seen, fresh, o1, o2, rfl, x2, W⟩
      refine ⟨_, rfl, decide (fresh ≠ 0), ?_, ?_⟩
      · show decide (fresh ≠ 0) = (((fresh : Nat) : Int) != 0)
        by_cases e : fresh = 0
        · subst e; rfl
        · have e2 : ((fresh : Int) != 0) = true := by simp; omega
          rw [e2]
          exact decide_eq_true e
      by_cases e : fresh = 0
      · rw [decide_eq_false (by simp [e])]
        subst e
        exact iteF ⟨_, rfl, k seen H2 x2 W.fin⟩
      · rw [decide_eq_true e]
        refine iteT ?_
        have hf : fresh < 2 ^ n := Mk.lt_of_sub hm fun q hq => by
          obtain ⟨_, _, c⟩ := W.sound q (W.sub q hq)
          exact c.snd
        refine ⟨_, rfl, fresh, n, rfl, hf, by omega, x2.tabs _ hT, fun p H3 x3 hp hd3 hp3 => ?_⟩
        have x13 := x2.trans x3
        refine ⟨p, rfl, ⟨_, SqT.of hp3⟩, for_tup (K := K) (a := p) (xs := vsN (Mk.bits n fresh)) (fun i σ H4 => ∃ (o2 : Option V), σ = [some (.ref l), some (.int (start : Int)), some (.int (m : Int)), some (.int (seen : Int)), some (.int (fresh : Int)), some (.int ((((Mk.bits n fresh).take i).foldl (fun a q => a ||| lk.getD q 0) 0 : Nat) : Int)), o2] ∧ H4 = H3)
          ⟨_, rfl, rfl⟩ (fun i σ H4 _ ⟨_, _, e4⟩ => by rw [e4]; exact SqT.of hp3) ?_ ?_⟩
        · rintro i x σ H4 hx ⟨o2, rfl, rfl⟩
          rw [List.getElem?_map] at hx
          cases eb : (Mk.bits n fresh)[i]? with
          | none => rw [eb] at hx; cases hx
          | some q =>
            rw [eb] at hx
            cases hx
            have hq := (Mk.mem_bits.mp (List.mem_of_getElem? eb)).1
            have hll := L.len
            refine ⟨_, rfl, _, rfl, _, rfl, _, _, _, _, rfl, rfl, SqL.of (x13.lst hl), atI_nat (vsN_get (show q < lk.length by omega)), _, _, rfl, rfl, some (V.int (q : Int)), ?_, rfl⟩
            have et : (Mk.bits n fresh).take (i + 1) = (Mk.bits n fresh).take i ++ [q] := by
              rw [List.take_add_one, eb]
              rfl
            dsimp only [List.set]
            rw [et, List.foldl_append, or_pp]
            rfl
        · rintro σ H4 ⟨o2, rfl, rfl⟩
          have elen : (vsN (Mk.bits n fresh)).length = (Mk.bits n fresh).length := List.length_map ..
          rw [elen, List.take_length]
          generalize har : (Mk.bits n fresh).foldl (fun a q => a ||| lk.getD q 0) 0 = around
          have ha : ∀ r, around.testBit r = true ↔ ∃ q, fresh.testBit q = true ∧ Mk.adj bs q r = true := fun r => by
            rw [← har]
            exact Mk.around_bits L hf r
          have W2 := W.turn ha
          refine ⟨_, rfl, _, rfl, _, rfl, _, _, rfl, rfl, _, _, rfl, rfl, ?_⟩
          refine ⟨_, rfl, _, rfl, _, _, rfl, rfl, ?_⟩
          have e1 : Builtin.bitAnd (around : Int) (Builtin.bitXor (m : Int) (seen : Int)) = ((around &&& (m ^^^ seen) : Nat) : Int) := by rw [xor_pp, and_pp]
          have e2 : Builtin.bitOr (seen : Int) (Builtin.bitAnd (around : Int) (Builtin.bitXor (m : Int) (seen : Int))) = ((seen ||| (around &&& (m ^^^ seen)) : Nat) : Int) := by rw [e1, or_pp]
          refine ⟨⟨_, _, some (V.int (around : Int)), o2, by dsimp only [List.set]; rw [e2, e1], x13, W2⟩, ?_⟩
          show 2 * (m - (Builtin.bitOr (seen : Int) (Builtin.bitAnd (around : Int) (Builtin.bitXor (m : Int) (seen : Int)))).toNat) + (if Builtin.bitAnd (around : Int) (Builtin.bitXor (m : Int) (seen : Int)) = 0 then 0 else 1) < 2 * (m - ((seen : Nat) : Int).toNat) + (if ((fresh : Nat) : Int) = 0 then 0 else 1)
          rw [e2, e1, Int.toNat_natCast, Int.toNat_natCast, if_neg (show ¬ ((fresh : Nat) : Int) = 0 by omega)]
          have hle := W2.le
          by_cases hz : around &&& (m ^^^ seen) = 0
          · rw [hz, if_pos (show ((0 : Nat) : Int) = 0 from rfl), Nat.or_zero]
            omega
          · rw [if_neg (by omega)]
            have hdj : seen &&& (around &&& (m ^^^ seen)) = 0 := Mk.eq_of_bits fun q => by
              rw [Nat.testBit_and, Nat.testBit_and, Nat.testBit_xor, Nat.zero_testBit]
              have hsm : seen.testBit q = true → m.testBit q = true := fun hq => by
                obtain ⟨_, _, c⟩ := W.sound q hq
                exact c.snd
              cases h1 : seen.testBit q <;> cases h2 : m.testBit q <;> simp_all
            have := Mk.or_gt hdj hz
            omega
    · rintro σ H2 Q1 Q2 hq ⟨v, e, kk, ht, q⟩
      exact ⟨v, e, kk, ht, hq _ _ q⟩
end
section
variable {P : Program} {w : World} {K : PySem.W.Frag} {mg : Str → Option Value} {base : Heap}
/-! ### is_border: of a right border -/
def spIsBorder (K : PySem.W.Frag) : Sp := fun vs H Q _ => ∃ (v : V) (b1 b2 n : Nat), vs = [v, .int (n : Int)] ∧ Dp K H v (.tuple [.int (b1 : Int), .int (b2 : Int)]) ∧ b1 < b2 ∧ b2 < n ∧ Q (.bl true) H
theorem sc_is_border : FnScope ["value", "many", "low", "high"] ["value", "many"] (defScope st_is_border) := ⟨rfl, rfl, rfl, by decide +kernel, rfl, by decide +kernel, by decide +kernel⟩
theorem ok_is_border {f : Addr} {fd : FuncData} (F : Fun K "is_border" "is_border" st_is_border f fd) (B : Bl mg) (c1 : Cal P w K mg base 1 "is_integer" ["value", "low", "high"] (spIsInteger K)) : FnOk P w K mg base CX0 2 f fd ["value", "many"] (spIsBorder K) := by
  refine F.ok sc_is_border (fun vs H Q E h => ?_) (fun cdv A outer s H vs Q E hr h => ?_)
  · obtain ⟨v, b1, b2, n, rfl, _⟩ := h
    rfl
  · obtain ⟨v, b1, b2, n, rfl, hd, h12, h2n, k⟩ := h
    refine ⟨_, pss_cons (ps_if (PW.pt (pw_or (pt_cmpR op_neTy (pe_callTy call_type1 rfl B.type (by decide +kernel) (pa_cons (pv 0) pa_nil)) (pe_bltn rfl B.tuple (by decide +kernel) (v := .ty "tuple") rfl) (nomark _))
        (pw_or1 (pt_cmpR op_ne (pe_callB call_len (by rfl) B.len PySem.boot_len (pa_cons (pv 0) pa_nil)) pe_int (nomark _))))) (pss_one (ps_ret pe_bl)) pss_nil)
      (pss_cons (ps_asg (pv 0) (pg_tup rfl (pgs_cons (pg_name (i := 2) sc_is_border.nd rfl (Or.inl rfl)) (pgs_cons (pg_name (i := 3) sc_is_border.nd rfl (Or.inl rfl)) pgs_nil))))
      (pss_one (ps_ret (pe_and (pe_cal c1 hr rfl (pa_cons (pv 3) (pa_cons pe_int (pa_cons (pe_op op_sub (pv 1) pe_int) pa_nil)))) (pe_one (pe_cal c1 hr rfl (pa_cons (pv 2) (pa_cons pe_int (pa_cons (pe_op op_sub (pv 3) pe_int) pa_nil))))))))), ?_⟩
    obtain ⟨t, zs, rfl, h1, h2⟩ := dp_tup hd
    have ez : zs = [V.int (b1 : Int), V.int (b2 : Int)] := by
      cases h2 with
      | cons z1 zr =>
        cases zr with
        | cons z2 zr =>
          cases zr
          rw [dp_int z1, dp_int z2]
    subst ez
    refine ⟨_, rfl, _, "tuple", rfl, .tup h1, "tuple", "tuple", rfl, rfl, by decide, by decide, false, rfl, ?_⟩
    refine iteF ⟨_, rfl, _, 2, rfl, .inr ⟨_, h1, rfl⟩, rfl, false, rfl, iteF ?_⟩
    refine ⟨_, rfl, t, _, rfl, h1, rfl, _, _, rfl, _, _, rfl, rfl, ?_⟩
    refine ⟨_, rfl, _, rfl, _, _, rfl, rfl, _, .int (b2 : Int), 0, (n : Int) - 1, rfl, .int _, true, ?_, iteT ?_⟩
    · show V.bl (decide (_ ∧ _)) = _
      rw [decide_eq_true (by omega)]
    · refine ⟨_, rfl, _, rfl, _, _, rfl, rfl, _, .int (b1 : Int), 0, (b2 : Int) - 1, rfl, .int _, ?_⟩
      show Q (V.bl (decide (_ ∧ _))) H
      rw [decide_eq_true (by omega)]
      exact k
end
theorem lex2_false {a b c d : Int} (h : c < a ∨ (c = a ∧ d < b)) :
    Ob.lexAt (fun j => decide ([a, b].getD j 0 = [c, d].getD j 0)) (fun j => decide ([a, b].getD j 0 ≤ [c, d].getD j 0)) (decide ([a, b].length ≤ [c, d].length)) 0 (min [a, b].length [c, d].length) = false := by
  show (if decide (a = c) = true then (if decide (b = d) = true then _ else decide (b ≤ d)) else decide (a ≤ c)) = false
  by_cases e1 : a = c
  · rw [decide_eq_true e1, if_pos rfl]
    have e2 : ¬ b = d := by omega
    rw [decide_eq_false e2, if_neg Bool.false_ne_true]
    apply decide_eq_false
    omega
  · rw [decide_eq_false e1, if_neg Bool.false_ne_true]
    apply decide_eq_false
    omega
/-- the three numbers of the module -/
structure Nums (mg : Str → Option Value) : Prop where
  fp : ∃ t, mg "FEWEST_PLACES" = some (.int 2 t)
  mp : ∃ t, mg "MOST_PLACES" = some (.int 12 t)
  mf : ∃ t, mg "MOST_FOLK" = some (.int 1000000 t)
def ltP (a b : Nat × Nat) : Prop := a.1 < b.1 ∨ (a.1 = b.1 ∧ a.2 < b.2)
structure LandOk (fs : List Int) (bs : List (Nat × Nat)) : Prop where
  few : 2 ≤ fs.length
  most : fs.length ≤ 12
  folk : ∀ z ∈ fs, 0 ≤ z ∧ z ≤ 1000000
  bord : Mk.Bs fs.length bs
  asc : bs.Pairwise ltP
theorem bs_len {n : Nat} (hn : n ≤ 12) {bs : List (Nat × Nat)} (hb : Mk.Bs n bs) (h : bs.Pairwise ltP) : bs.length ≤ 1000 := by
  -- coded by one number below 13 * 13, ascending
  have key : ∀ (l : List Nat) (m : Nat), l.Pairwise (· < ·) → (∀ x ∈ l, x < m) → l.length ≤ m := by
    intro l
    induction l with
    | nil => intro m _ _; exact Nat.zero_le _
    | cons a r ih =>
      intro m hp hm
      rw [List.pairwise_cons] at hp
      have h1 := ih (m - a - 1) |> fun _ => hm a List.mem_cons_self
      have h2 : ∀ (r : List Nat) (lo m : Nat), r.Pairwise (· < ·) → (∀ x ∈ r, lo ≤ x ∧ x < m) → r.length ≤ m - lo := by
        intro r
        induction r with
        | nil => intro lo m _ _; exact Nat.zero_le _
        | cons b r ih =>
          intro lo m hp hm
          rw [List.pairwise_cons] at hp
          have h3 := hm b List.mem_cons_self
          have := ih (b + 1) m hp.2 fun x hx => ⟨hp.1 x hx, (hm x (List.mem_cons_of_mem _ hx)).2⟩
          rw [List.length_cons]
          omega
      have h3 := h2 r (a + 1) m hp.2 fun x hx => ⟨hp.1 x hx, hm x (List.mem_cons_of_mem _ hx)⟩
      rw [List.length_cons]
      omega
  have h2 := key (bs.map fun (b : Nat × Nat) => 13 * b.1 + b.2) 169 (by
    rw [List.pairwise_map]
    refine List.Pairwise.imp_of_mem (fun {a b} ha hb' z => ?_) h
    have := hb a ha
    have := hb b hb'
    rcases z with z | z
    · omega
    · omega) fun x hx => by
    obtain ⟨b, h1, rfl⟩ := List.mem_map.mp hx
    have := hb b h1
    omega
  rw [List.length_map] at h2
  omega
section
variable {P : Program} {w : World} {K : PySem.W.Frag} {mg : Str → Option Value} {base : Heap}
theorem dp_pair {H : Hp} {v : V} {b : Nat × Nat} (h : Dp K H v (.tuple [.int (b.1 : Int), .int (b.2 : Int)])) : ∃ t, v = .ref t ∧ SqT K H t [V.int (b.1 : Int), V.int (b.2 : Int)] := by
  obtain ⟨t, zs, rfl, h1, h2⟩ := dp_tup h
  cases h2 with
  | cons z1 zr =>
    cases zr with
    | cons z2 zr =>
      cases zr
      rw [dp_int z1, dp_int z2] at h1
      exact ⟨t, rfl, h1⟩
theorem dp_bord {H : Hp} {v : V} {bs : List (Nat × Nat)} (h : Dp K H v (bordD bs)) : ∃ c ys, v = .ref c ∧ SqT K H c ys ∧ ys.length = bs.length ∧ ∀ (i : Nat) (b : Nat × Nat), bs[i]? = some b → ∃ u, ys[i]? = some u ∧ Dp K H u (.tuple [.int (b.1 : Int), .int (b.2 : Int)]) := by
  obtain ⟨c, ys, rfl, h1, h2⟩ := dp_tup h
  refine ⟨c, ys, rfl, h1, by have := dpAll_len h2; rw [List.length_map] at this; exact this, fun i b e => ?_⟩
  exact dpAll_get h2 (by rw [List.getElem?_map, e]; rfl)
/-! ### fault_of_folk, fault_of_borders, fault_of_land, check_land: of right lands -/
def spFaultFolk (K : PySem.W.Frag) : Sp := fun vs H Q _ => ∃ (v : V) (fs : List Int), vs = [v] ∧ Dp K H v (.tuple (fs.map .int)) ∧ 2 ≤ fs.length ∧ fs.length ≤ 12 ∧ (∀ z ∈ fs, 0 ≤ z ∧ z ≤ 1000000) ∧ Q .non H
theorem sc_fault_of_folk : FnScope ["folk", "k"] ["folk"] (defScope st_fault_of_folk) := ⟨rfl, rfl, rfl, by decide +kernel, rfl, by decide +kernel, by decide +kernel⟩
theorem ok_fault_of_folk {f : Addr} {fd : FuncData} (F : Fun K "fault_of_folk" "fault_of_folk" st_fault_of_folk f fd) (B : Bl mg) (N : Nums mg) (c1 : Cal P w K mg base 1 "is_integer" ["value", "low", "high"] (spIsInteger K)) : FnOk P w K mg base CX0 2 f fd ["folk"] (spFaultFolk K) := by
  refine F.ok sc_fault_of_folk (fun vs H Q E h => ?_) (fun cdv A outer s H vs Q E hr h => ?_)
  · obtain ⟨v, fs, rfl, _⟩ := h
    rfl
  · obtain ⟨v, fs, rfl, hd, h2, h12, hf, k⟩ := h
    obtain ⟨⟨t1, e1⟩, ⟨t2, e2⟩, ⟨t3, e3⟩⟩ := N
    refine ⟨_, pss_cons (ps_if (PW.pt (pw_or (pt_cmpR op_neTy (pe_callTy call_type1 rfl B.type (by decide +kernel) (pa_cons (pv 0) pa_nil)) (pe_bltn rfl B.tuple (by decide +kernel) (v := .ty "tuple") rfl) (nomark _))
        (pw_or1 (pt_not (pt_chain op_le op_le (pe_glob rfl e1 (v := .int 2) ⟨_, rfl⟩) (pe_callB call_len (by rfl) B.len PySem.boot_len (pa_cons (pv 0) pa_nil)) (pe_glob rfl e2 (v := .int 12) ⟨_, rfl⟩)))))) pss_never pss_nil)
      (pss_cons (ps_for PassesOwn.never rfl (pi_range1 rfl B.range (pa_cons (pe_callB call_len (by rfl) B.len PySem.boot_len (pa_cons (pv 0) pa_nil)) pa_nil)) (pg_name (i := 1) sc_fault_of_folk.nd rfl (Or.inl rfl))
        (pss_one (ps_if (pt_not (pt_val (pe_cal c1 hr rfl (pa_cons (pe_ix ix_tup (pv 0) (pv 1) (fun _ _ => rfl)) (pa_cons pe_int (pa_cons (pe_glob rfl e3 (v := .int 1000000) ⟨_, rfl⟩) pa_nil)))) (by intro _; rfl))) pss_never pss_nil)))
      (pss_one (ps_ret pe_non))), ?_⟩
    obtain ⟨a, rfl, h1⟩ := dp_ints hd
    refine ⟨_, rfl, _, "tuple", rfl, .tup h1, "tuple", "tuple", rfl, rfl, by decide, by decide, false, rfl, ?_⟩
    refine iteF ⟨_, rfl, _, fs.length, rfl, .inr ⟨_, h1, by simp⟩, _, _, rfl, rfl, true, ?_, iteT ⟨_, _, rfl, rfl, true, ?_, iteF ?_⟩⟩
    · show V.bl (decide _) = _
      rw [decide_eq_true (by omega)]
    · show V.bl (decide _) = _
      rw [decide_eq_true (by omega)]
    refine ⟨_, rfl, _, fs.length, rfl, .inr ⟨_, h1, by simp⟩, _, rfl, by omega, by omega, ?_⟩
    rw [Int.toNat_natCast]
    refine for_range (n := fs.length) (fun i σ H2 => ∃ o, σ = [some (.ref a), o] ∧ H2 = H) ⟨_, rfl, rfl⟩ ?_ ?_
    · rintro i σ H2 hi ⟨o, rfl, rfl⟩
      have g1 : (fs.map V.int)[i]? = some (V.int fs[i]) := by rw [List.getElem?_map, List.getElem?_eq_getElem hi]; rfl
      refine ⟨_, rfl, _, rfl, _, _, _, _, rfl, rfl, h1, by rw [Int.zero_add]; exact atI_nat g1, _, .int fs[i], 0, 1000000, rfl, .int _, true, ?_, iteF ⟨_, rfl, rfl⟩⟩
      show V.bl (decide _) = _
      rw [decide_eq_true (hf _ (List.getElem_mem hi))]
    · rintro σ H2 ⟨o, rfl, rfl⟩
      exact k
def spFaultBord (K : PySem.W.Frag) : Sp := fun vs H Q _ => ∃ (v : V) (bs : List (Nat × Nat)) (n : Nat), vs = [v, .int (n : Int)] ∧ Dp K H v (bordD bs) ∧ n ≤ 12 ∧ Mk.Bs n bs ∧ bs.Pairwise ltP ∧ Q .non H
theorem sc_fault_of_borders : FnScope ["borders", "many", "k"] ["borders", "many"] (defScope st_fault_of_borders) := ⟨rfl, rfl, rfl, by decide +kernel, rfl, by decide +kernel, by decide +kernel⟩
theorem ok_fault_of_borders {f : Addr} {fd : FuncData} (F : Fun K "fault_of_borders" "fault_of_borders" st_fault_of_borders f fd) (B : Bl mg) (c1 : Cal P w K mg base 2 "is_border" ["value", "many"] (spIsBorder K)) : FnOk P w K mg base CX0 3 f fd ["borders", "many"] (spFaultBord K) := by
  refine F.ok sc_fault_of_borders (fun vs H Q E h => ?_) (fun cdv A outer s H vs Q E hr h => ?_)
  · obtain ⟨v, bs, n, rfl, _⟩ := h
    rfl
  · obtain ⟨v, bs, n, rfl, hd, hn, hb, ha, k⟩ := h
    refine ⟨_, pss_cons (ps_if (pt_cmpR op_neTy (pe_callTy call_type1 rfl B.type (by decide +kernel) (pa_cons (pv 0) pa_nil)) (pe_bltn rfl B.tuple (by decide +kernel) (v := .ty "tuple") rfl) (nomark _)) pss_never pss_nil)
      (pss_cons (ps_for PassesOwn.never rfl (pi_range1 rfl B.range (pa_cons (pe_callB call_len (by rfl) B.len PySem.boot_len (pa_cons (pv 0) pa_nil)) pa_nil)) (pg_name (i := 2) sc_fault_of_borders.nd rfl (Or.inl rfl))
        (pss_cons (ps_if (pt_not (pt_val (pe_cal c1 hr rfl (pa_cons (pe_ix ix_tup (pv 0) (pv 2) (fun _ _ => rfl)) (pa_cons (pv 1) pa_nil))) (by intro _; rfl))) pss_never pss_nil)
        (pss_one (ps_if (PW.pt (pw_and (pt_cmpR op_gt (pv 2) pe_int (nomark _)) (pw_and1 (pt_cmpR (op_leT hr.units0) (pe_ix ix_tup (pv 0) (pv 2) (fun _ _ => rfl)) (pe_ix ix_tup (pv 0) (pe_op op_sub (pv 2) pe_int) (fun _ _ => rfl)) (nomark _))))) pss_never pss_nil))))
      (pss_one (ps_ret pe_non))), ?_⟩
    obtain ⟨c, ys, rfl, h1, hl, hg⟩ := dp_bord hd
    have hbl := bs_len hn hb ha
    refine ⟨_, rfl, _, "tuple", rfl, .tup h1, "tuple", "tuple", rfl, rfl, by decide, by decide, false, rfl, iteF ?_⟩
    refine ⟨_, rfl, _, bs.length, rfl, .inr ⟨_, h1, hl.symm⟩, _, rfl, by omega, by omega, ?_⟩
    rw [Int.toNat_natCast]
    refine for_range (n := bs.length) (fun i σ H2 => ∃ o, σ = [some (.ref c), some (.int (n : Int)), o] ∧ H2 = H) ⟨_, rfl, rfl⟩ ?_ ?_
    · rintro i σ H2 hi ⟨o, rfl, rfl⟩
      obtain ⟨u, hu, hu2⟩ := hg i _ (List.getElem?_eq_getElem hi)
      have hbi := hb _ (List.getElem_mem hi)
      refine ⟨_, rfl, _, rfl, _, _, _, _, rfl, rfl, h1, by rw [Int.zero_add]; exact atI_nat hu, _, rfl, _, bs[i].1, bs[i].2, n, rfl, hu2, hbi.1, hbi.2, true, rfl, iteF ?_⟩
      refine ⟨_, rfl, _, _, rfl, rfl, decide (0 < i), ?_, ?_⟩
      · show V.bl (decide ((0 : Int) < (0 : Int) + (i : Int))) = _
        congr 1
        apply decide_eq_decide.mpr
        omega
      by_cases hi0 : 0 < i
      · rw [decide_eq_true hi0]
        refine iteT ?_
        obtain ⟨u', hu', hu2'⟩ := hg (i - 1) _ (List.getElem?_eq_getElem (show i - 1 < bs.length by omega))
        obtain ⟨t, rfl, q1⟩ := dp_pair hu2
        obtain ⟨t', rfl, q2⟩ := dp_pair hu2'
        have hlt : ltP bs[i - 1] bs[i] := List.pairwise_iff_getElem.mp ha _ _ _ _ (by omega)
        refine ⟨_, rfl, _, rfl, _, _, _, _, rfl, rfl, h1, by rw [Int.zero_add]; exact atI_nat hu, _, rfl, _, rfl, _, _, rfl, rfl, _, _, _, _, rfl, rfl, h1, (by
          have e : (0 : Int) + (i : Int) - 1 = ((i - 1 : Nat) : Int) := by omega
          rw [e]; exact atI_nat hu'), t, t', [(bs[i].1 : Int), (bs[i].2 : Int)], [(bs[i - 1].1 : Int), (bs[i - 1].2 : Int)], rfl, rfl, q1, q2, false, ?_, iteF ⟨_, rfl, rfl⟩⟩
        congr 1
        unfold ltP at hlt
        apply lex2_false
        omega
      · rw [decide_eq_false hi0]
        exact iteF (iteF ⟨_, rfl, rfl⟩)
    · rintro σ H2 ⟨o, rfl, rfl⟩
      exact k
def spFaultLand (K : PySem.W.Frag) : Sp := fun vs H Q _ => ∃ (v : V) (fs : List Int) (bs : List (Nat × Nat)), vs = [v] ∧ Dp K H v (landD fs bs) ∧ LandOk fs bs ∧ Q .non H
theorem sc_fault_of_land : FnScope ["value", "folk", "borders", "place"] ["value"] (defScope st_fault_of_land) := ⟨rfl, rfl, rfl, by decide +kernel, rfl, by decide +kernel, by decide +kernel⟩
theorem ok_fault_of_land {f : Addr} {fd : FuncData} (F : Fun K "fault_of_land" "fault_of_land" st_fault_of_land f fd) (B : Bl mg) (c1 : Cal P w K mg base 2 "fault_of_folk" ["folk"] (spFaultFolk K)) (c2 : Cal P w K mg base 3 "fault_of_borders" ["borders", "many"] (spFaultBord K)) : FnOk P w K mg base CX0 4 f fd ["value"] (spFaultLand K) := by
  refine F.ok sc_fault_of_land (fun vs H Q E h => ?_) (fun cdv A outer s H vs Q E hr h => ?_)
  · obtain ⟨v, fs, bs, rfl, _⟩ := h
    rfl
  · obtain ⟨v, fs, bs, rfl, hd, ok, k⟩ := h
    refine ⟨_, pss_cons (ps_if (PW.pt (pw_or (pt_cmpR op_neTy (pe_callTy call_type1 rfl B.type (by decide +kernel) (pa_cons (pv 0) pa_nil)) (pe_bltn rfl B.tuple (by decide +kernel) (v := .ty "tuple") rfl) (nomark _))
        (pw_or1 (pt_cmpR op_ne (pe_callB call_len (by rfl) B.len PySem.boot_len (pa_cons (pv 0) pa_nil)) pe_int (nomark _))))) pss_never pss_nil)
      (pss_cons (ps_asg (pv 0) (pg_tup rfl (pgs_cons (pg_name (i := 1) sc_fault_of_land.nd rfl (Or.inl rfl)) (pgs_cons (pg_name (i := 2) sc_fault_of_land.nd rfl (Or.inl rfl)) pgs_nil))))
      (pss_cons (ps_set (i := 3) sc_fault_of_land.nd rfl (Or.inl rfl) (pe_cal c1 (hr.mono (by decide)) rfl (pa_cons (pv 1) pa_nil)))
      (pss_cons (ps_if (pt_cmpR op_isN (pv 3) pe_non (nomark _)) (pss_one (ps_set (i := 3) sc_fault_of_land.nd rfl (Or.inl rfl) (pe_cal c2 hr rfl (pa_cons (pv 2) (pa_cons (pe_callB call_len (by rfl) B.len PySem.boot_len (pa_cons (pv 1) pa_nil)) pa_nil))))) pss_nil)
      (pss_one (ps_ret (pv 3)))))), ?_⟩
    obtain ⟨a, xs, rfl, h1, h2⟩ := dp_tup hd
    have ez : ∃ v0 v1, xs = [v0, v1] ∧ Dp K H v0 (.tuple (fs.map .int)) ∧ Dp K H v1 (bordD bs) := by
      cases h2 with
      | cons z1 zr =>
        cases zr with
        | cons z2 zr =>
          cases zr
          exact ⟨_, _, rfl, z1, z2⟩
    obtain ⟨v0, v1, rfl, d0, d1⟩ := ez
    obtain ⟨b, rfl, h5⟩ := dp_ints d0
    refine ⟨_, rfl, _, "tuple", rfl, .tup h1, "tuple", "tuple", rfl, rfl, by decide, by decide, false, rfl, ?_⟩
    refine iteF ⟨_, rfl, _, 2, rfl, .inr ⟨_, h1, rfl⟩, rfl, false, rfl, iteF ?_⟩
    refine ⟨_, rfl, a, _, rfl, h1, rfl, _, _, rfl, _, _, rfl, rfl, ?_⟩
    refine ⟨_, rfl, _, fs, rfl, d0, ok.few, ok.most, ok.folk, ?_⟩
    refine ⟨_, rfl, rfl, true, rfl, iteT ?_⟩
    refine ⟨_, rfl, _, rfl, _, fs.length, rfl, .inr ⟨_, h5, by simp⟩, _, bs, fs.length, rfl, d1, ok.most, ok.bord, ok.asc, ?_⟩
    exact ⟨_, rfl, k⟩
def spCheckLand (K : PySem.W.Frag) : Sp := spFaultLand K
theorem sc_check_land : FnScope ["land", "place"] ["land"] (defScope st_check_land) := ⟨rfl, rfl, rfl, by decide +kernel, rfl, by decide +kernel, by decide +kernel⟩
theorem ok_check_land {f : Addr} {fd : FuncData} (F : Fun K "check_land" "check_land" st_check_land f fd) (c1 : Cal P w K mg base 4 "fault_of_land" ["value"] (spFaultLand K)) : FnOk P w K mg base CX0 5 f fd ["land"] (spFaultLand K) := by
  refine F.ok sc_check_land (fun vs H Q E h => ?_) (fun cdv A outer s H vs Q E hr h => ?_)
  · obtain ⟨v, fs, bs, rfl, _⟩ := h
    rfl
  · obtain ⟨v, fs, bs, rfl, hd, ok, k⟩ := h
    refine ⟨_, pss_cons (ps_set (i := 1) sc_check_land.nd rfl (Or.inl rfl) (pe_cal c1 hr rfl (pa_cons (pv 0) pa_nil))) (pss_one (ps_if (pt_cmpR op_notN (pv 1) pe_non (nomark _)) pss_never pss_nil)), ?_⟩
    exact ⟨_, rfl, v, fs, bs, rfl, hd, ok, _, rfl, rfl, false, rfl, iteF k⟩
/-! ### check_lot -/
def spCheckLot (K : PySem.W.Frag) (T1 T2 : Addr) : Sp := fun vs H Q _ => ∃ (l v : V) (fs : List Int) (bd : PyData) (ps : List Nat), vs = [l, v] ∧ Dp K H l (.tuple [.tuple (fs.map .int), bd]) ∧ fs.length ≤ 12 ∧ Dp K H v (lotD ps) ∧ isLot fs.length ps = true ∧ ps.length ≤ 12 ∧
  TabG H T1 ∧ TabG H T2 ∧ ∀ H', Ext H H' → Q .non H'
end
section
variable {P : Program} {w : World} {K : PySem.W.Frag} {mg : Str → Option Value} {base : Heap}
/-! ### cut_places -/
theorem asc_pair : ∀ {ns : List Int}, asc ns = true → ns.Pairwise (· < ·)
  | [], _ => .nil
  | [_], _ => by simp
  | a :: b :: r, h => by
    have h2 : (decide (a < b) && asc (b :: r)) = true := h
    rw [Bool.and_eq_true, decide_eq_true_eq] at h2
    have ih := asc_pair h2.2
    rw [List.pairwise_cons] at ih ⊢
    refine ⟨fun x hx => ?_, by rw [List.pairwise_cons]; exact ih⟩
    rcases List.mem_cons.mp hx with e | e
    · rw [e]; exact h2.1
    · have := ih.1 x e
      omega
structure LotOk (n : Nat) (ps : List Nat) : Prop where
  ne : ps ≠ []
  lt : ∀ p ∈ ps, p < n
  asc : ps.Pairwise (· < ·)
theorem pair_asc : ∀ {ns : List Int}, ns.Pairwise (· < ·) → asc ns = true
  | [], _ => rfl
  | [_], _ => rfl
  | a :: b :: r, h => by
    rw [List.pairwise_cons] at h
    show (decide (a < b) && asc (b :: r)) = true
    rw [pair_asc h.2, decide_eq_true (h.1 b List.mem_cons_self)]
    rfl
theorem LotOk.is {n : Nat} {ps : List Nat} (h : LotOk n ps) : isLot n ps = true := by
  unfold isLot
  have e1 : ps.isEmpty = false := by cases ps with
    | nil => exact absurd rfl h.ne
    | cons _ _ => rfl
  have e2 : (ps.all fun p => decide (p < n)) = true := List.all_eq_true.mpr fun p hp => decide_eq_true (h.lt p hp)
  have e3 : Wd.asc (ps.map fun (p : Nat) => (p : Int)) = true := Wd.pair_asc (by
    rw [List.pairwise_map]
    exact h.asc.imp fun z => by omega)
  rw [e1, e2, e3]
  rfl
theorem LotOk.len {n : Nat} {ps : List Nat} (h : LotOk n ps) : ps.length ≤ n := by
  have e := Mk.bits_mask h.asc h.lt
  rw [← e]
  exact Mk.bits_len _ _
end
end Wd

set_option Elab.async false
set_option linter.all false
set_option maxRecDepth 100000
set_option maxHeartbeats 4000000
/-! Ly: what the laws' own steps want: heaps that change at some lists alone; membership in tuples of data. -/
namespace Bx
open PySem PySem.Spec PyProof.Rows L2
section
variable {X : Cx}
def rInDT (K : PySem.W.Frag) (neg : Bool) : R2 := fun x y H Q => ∃ d ds, Dp K H x d ∧ Dp K H y (.tuple ds) ∧ SeqAt.shaped d = true ∧ SeqAt.shaped (.tuple ds) = true ∧ Q (.bl (neg ^^ (ds.any fun z => PyData.eqv z d))) H
theorem op_inDT (hu : X.A.units + 65 < cLine) : OpR X (compareOp .In) (rInDT X.K false) := by
  intro pins s σ H x y v u Q I rx ry h
  obtain ⟨d, ds, hd, he, sd, se, q⟩ := h
  obtain ⟨as, r1⟩ := Dp.reads I d x v hd rx
  obtain ⟨bs, r2⟩ := Dp.reads I (.tuple ds) y u he ry
  refine SeqAt.in_tuple_reads r2 r1 (SeqAt.canLay_of_shaped se) (SeqAt.canLay_of_shaped sd) (PyProof.Rows.room_in_shaped sd hu) ⟨.bl (ds.any fun y => y.eqv d), H, I, rfl, ?_⟩
  rw [Bool.false_xor] at q
  exact q
end
def isLs : HO → Prop
  | .lst _ => True
  | _ => False
/-- the heap has grown, tables and the lists at S may hold other things -/
structure ExtS (S : List Addr) (H H' : Hp) : Prop where
  keep : ∀ b o, H b = some o → ¬ isTbl o → (isLs o → b ∉ S) → H' b = some o
  tabs : ∀ P, Gx.TabG H P → Gx.TabG H' P
  live : ∀ b o, H b = some o → ∃ o', H' b = some o'
theorem ExtS.of {S : List Addr} {H H' : Hp} (x : Ext H H') : ExtS S H H' := ⟨fun b o e n _ => x.keep b o e n, x.tabs, x.live⟩
theorem ExtS.refl (S : List Addr) (H : Hp) : ExtS S H H := .of (.refl H)
theorem ExtS.trans {S : List Addr} {H H1 H2 : Hp} (a : ExtS S H H1) (b : ExtS S H1 H2) : ExtS S H H2 :=
  ⟨fun c o e n m => b.keep c o (a.keep c o e n m) n m, fun P t => b.tabs P (a.tabs P t), fun c o e => let ⟨o1, e1⟩ := a.live c o e; b.live c o1 e1⟩
theorem ExtS.new {S : List Addr} {H : Hp} {p : Addr} {o : HO} (h : H p = none) : ExtS S H (upd H p o) := .of (.new h)
theorem ExtS.free {S : List Addr} {H H' : Hp} (x : ExtS S H H') {p : Addr} (h : H' p = none) : H p = none := by
  cases e : H p with
  | none => rfl
  | some o =>
    obtain ⟨o', e'⟩ := x.live p o e
    rw [h] at e'
    cases e'
/-- a list of S, or one that was not there ahead, is written -/
theorem ExtS.write {S : List Addr} {H H' : Hp} {p : Addr} {o : HO} (x : ExtS S H H') (h : H p = none ∨ (p ∈ S ∧ ∃ xs, H p = some (.lst xs))) : ExtS S H (upd H' p o) := by
  refine ⟨fun b u e n m => ?_, fun Q hQ => ?_, fun b u e => ?_⟩
  · by_cases hb : b = p
    · subst hb
      rcases h with h | ⟨h1, xs, h2⟩
      · rw [h] at e; cases e
      · rw [h2] at e
        cases e
        exact absurd h1 (m trivial)
    · rw [upd_ne hb]
      exact x.keep b u e n m
  · obtain ⟨ps, e, k⟩ := x.tabs Q hQ
    obtain ⟨ps0, e0, _⟩ := hQ
    have hb : Q ≠ p := by
      intro e1
      subst e1
      rcases h with h | ⟨_, xs, h2⟩
      · rw [h] at e0; cases e0
      · rw [h2] at e0; cases e0
    exact ⟨ps, by rw [upd_ne hb]; exact e, k⟩
  · by_cases hb : b = p
    · exact ⟨o, by rw [hb, upd_same]⟩
    · rw [upd_ne hb]
      exact x.live b u e
theorem ExtS.rd {S : List Addr} {H H' : Hp} (x : ExtS S H H') {a : Addr} {u : HO} (n : ¬ isTbl u) (l : ¬ isLs u) (h : Rd H a u) : Rd H' a u := by
  rcases h with h | ⟨o, h⟩
  · exact .inl (x.keep a u h n fun z => absurd z l)
  · exact .inr ⟨o, x.keep a _ h (fun z => z) fun z => z.elim⟩
theorem ExtS.sqT {S : List Addr} {K : PySem.W.Frag} {H H' : Hp} (x : ExtS S H H') {a : Addr} {xs : List V} (h : SqT K H a xs) : SqT K H' a xs := h.elim (fun z => .inl (x.rd (fun z => z) (fun z => z) z)) .inr
theorem ExtS.lst {S : List Addr} {H H' : Hp} (x : ExtS S H H') {a : Addr} {xs : List V} (n : a ∉ S) (h : H a = some (.lst xs)) : H' a = some (.lst xs) := x.keep a _ h (fun z => z) fun _ => n
theorem ExtS.tup {S : List Addr} {H H' : Hp} (x : ExtS S H H') {a : Addr} {xs : List V} (h : H a = some (.tup xs)) : H' a = some (.tup xs) := x.keep a _ h (fun z => z) fun z => z.elim
theorem ExtS.dT {S : List Addr} {H H' : Hp} (x : ExtS S H H') {a : Addr} {xs : List (List L2.Key × V)} (h : H a = some (.dT xs)) : H' a = some (.dT xs) := x.keep a _ h (fun z => z) fun z => z.elim
mutual
/-- data without a list in it -/
def noL : PyData → Bool
  | .list _ => false
  | .tuple ds => noLs ds
  | _ => true
def noLs : List PyData → Bool
  | [] => true
  | d :: ds => noL d && noLs ds
end
theorem noLs_map {α : Type} (f : α → PyData) (h : ∀ x, noL (f x) = true) : ∀ xs : List α, noLs (xs.map f) = true
  | [] => rfl
  | x :: xs => by rw [List.map_cons, noLs, h, noLs_map f h xs]; rfl
mutual
theorem dp_extS {S : List Addr} {K : PySem.W.Frag} {H H' : Hp} (x : ExtS S H H') : ∀ {v : V} {d : PyData}, noL d = true → Dp K H v d → Dp K H' v d
  | _, _, _, .non => .non
  | _, _, _, .bl b => .bl b
  | _, _, _, .int i => .int i
  | _, _, _, .str z => .str z
  | _, _, n, .lst h hs => absurd n (by simp [noL])
  | _, _, n, .tup h hs => .tup (x.sqT h) (dpAll_extS x (by simpa [noL] using n) hs)
theorem dpAll_extS {S : List Addr} {K : PySem.W.Frag} {H H' : Hp} (x : ExtS S H H') : ∀ {vs : List V} {ds : List PyData}, noLs ds = true → DpAll K H vs ds → DpAll K H' vs ds
  | _, _, _, .nil => .nil
  | _, _, n, .cons h hs => .cons (dp_extS x (Bool.and_eq_true_iff.mp (by simpa [noLs] using n)).1 h) (dpAll_extS x (Bool.and_eq_true_iff.mp (by simpa [noLs] using n)).2 hs)
end
theorem depthAll_le {n : Nat} : ∀ {ds : List PyData}, (∀ d ∈ ds, d.depth ≤ n) → PyData.depthAll ds ≤ n
  | [], _ => by simp [PyData.depthAll]
  | d :: ds, h => by
    have ih := depthAll_le (n := n) (ds := ds) fun x hx => h x (List.mem_cons_of_mem _ hx)
    have h1 := h d List.mem_cons_self
    simp [PyData.depthAll]
    omega
theorem canLayAll_of : ∀ {ds : List PyData}, (∀ d ∈ ds, d.canLay0 = true) → PyData.canLayAll0 ds = true
  | [], _ => by simp [PyData.canLayAll0]
  | d :: ds, h => by
    have ih := canLayAll_of (ds := ds) fun x hx => h x (List.mem_cons_of_mem _ hx)
    have h1 := h d List.mem_cons_self
    simp [PyData.canLayAll0, ih, h1]
structure Sh (n : Nat) (d : PyData) : Prop where
  lay : d.canLay0 = true
  dep : d.depth ≤ n
theorem Sh.int (n : Nat) (i : Int) : Sh (n + 1) (.int i) := ⟨by simp [PyData.canLay0], by simp [PyData.depth]⟩
theorem Sh.tup {n : Nat} {ds : List PyData} (h : ∀ d ∈ ds, Sh n d) : Sh (n + 1) (.tuple ds) := ⟨by
  have := canLayAll_of fun d hd => (h d hd).lay
  simp [PyData.canLay0, this], by
  have := depthAll_le fun d hd => (h d hd).dep
  simp [PyData.depth]; omega⟩
theorem Sh.lst {n : Nat} {ds : List PyData} (h : ∀ d ∈ ds, Sh n d) : Sh (n + 1) (.list ds) := ⟨by
  have := canLayAll_of fun d hd => (h d hd).lay
  simp [PyData.canLay0, this], by
  have := depthAll_le fun d hd => (h d hd).dep
  simp [PyData.depth]; omega⟩
theorem Sh.shaped {n : Nat} {d : PyData} (h : Sh n d) (hn : n ≤ 64) : SeqAt.shaped d = true := by
  unfold SeqAt.shaped
  rw [h.lay, decide_eq_true (by have := h.dep; omega)]
  rfl
theorem Sh.ints {n : Nat} (xs : List Int) : Sh (n + 2) (.list (xs.map .int)) := .lst fun d hd => by
  obtain ⟨i, _, rfl⟩ := List.mem_map.mp hd
  exact .int _ i
theorem Sh.intsT {n : Nat} (xs : List Int) : Sh (n + 2) (.tuple (xs.map .int)) := .tup fun d hd => by
  obtain ⟨i, _, rfl⟩ := List.mem_map.mp hd
  exact .int _ i
theorem eqv_nil (xs : List PyData) : PyData.eqv (.list xs) (.list []) = xs.isEmpty := by
  cases xs <;> simp [PyData.eqv, PyData.eqvAll]
theorem eqv_nilT (xs : List PyData) : PyData.eqv (.tuple xs) (.tuple []) = xs.isEmpty := by
  cases xs <;> simp [PyData.eqv, PyData.eqvAll]
theorem via {T : TS} {D : L2.Ends} {σ : L2.St} {H : Hp} (Pz : L2.St → Hp → Prop) (h1 : ∀ σ H, Pz σ H → D.nx σ H) (h2 : ∀ nx : L2.St → Hp → Prop, (∀ σ H, Pz σ H → nx σ H) → T { D with nx := nx } σ H) : T D σ H := h2 D.nx h1
theorem u65 {k : Nat} {A : Around} (h : Room k A) : A.units + 65 < cLine := by
  have := h.un
  omega
theorem op_inDTK {X : Cx} {K : PySem.W.Frag} (h : X.K = K) (hu : X.A.units + 65 < cLine) : OpR X (compareOp .In) (rInDT K false) := h ▸ op_inDT hu
theorem op_inK {X : Cx} {K : PySem.W.Frag} (h : X.K = K) : OpR X (compareOp .In) (rIn K false) := h ▸ op_in_seq
theorem op_notInK {X : Cx} {K : PySem.W.Frag} (h : X.K = K) : OpR X (compareOp .NotIn) (rIn K true) := h ▸ op_notIn_seq
theorem op_neDK {X : Cx} {K : PySem.W.Frag} (h : X.K = K) (hu : X.A.units + 64 < cLine) : OpR X (compareOp .NotEq) (rNeD K) := h ▸ op_neD hu
theorem op_eqDK {X : Cx} {K : PySem.W.Frag} (h : X.K = K) (hu : X.A.units + 64 < cLine) : OpR X (compareOp .Eq) (rEqD K) := h ▸ op_eqD hu
theorem cr_sortedK {X : Cx} {K : PySem.W.Frag} (h : X.K = K) : CallR X (.builtin "sorted") (rSorted K) := h ▸ cr_sorted
theorem pe_tupleOfK {X : Cx} {K : PySem.W.Frag} {a : Expr} {ta : TE} {p pos : Pos} (h : X.K = K) (hg : Gl X "tuple") (hm : X.mg "tuple" = none) (ha : PE X a ta) (na : starEach [a] X.env = (false, eval a X.env) :: starEach [] X.env := by rfl) : PE X (.Call (.Name "tuple" p) [a] [] pos) (tThen ta (kTup K)) := h ▸ pe_tupleOf hg hm ha na
theorem pg_tupK {X : Cx} {K : PySem.W.Frag} {pos : Pos} {es : List Expr} {k : Nat} {t : TGs} {n : Nat} (h : X.K = K) (hc : X.calm = true) (ht : PGs X es t) (h1 : (assignEach es X.env).length = n := by rfl) (h2 : List.findIdx? (fun x => x.fst) (assignEach es X.env) = none := by rfl) : PG X (.Tuple es k pos) (L2.gTup K n t) := h ▸ pg_tup hc ht h1 h2
end Bx

set_option Elab.async false
set_option linter.all false
set_option maxRecDepth 100000
set_option maxHeartbeats 4000000
namespace Wd
open PySem PySem.Spec PyProof.Rows L2 Bx Gx

























































section
variable {P : Program} {w : World} {K : PySem.W.Frag} {mg : Str → Option Value} {base : Heap}
theorem tup_dp {H : Hp} {v : V} {d : PyData} (h : Dp K H v d) : (∃ ds a xs, d = .tuple ds ∧ v = .ref a ∧ SqT K H a xs ∧ DpAll K H xs ds) ∨ (∃ T, T ∈ tyNames ∧ TyB K H v T ∧ T ≠ "tuple" ∧ ∀ ds, d ≠ .tuple ds) := by
  cases h with
  | non => exact .inr ⟨"NoneType", by decide, .non, by decide, fun _ z => nomatch z⟩
  | bl b => exact .inr ⟨"bool", by decide, .bl b, by decide, fun _ z => nomatch z⟩
  | int i => exact .inr ⟨"int", by decide, .int i, by decide, fun _ z => nomatch z⟩
  | str x => exact .inr ⟨"str", by decide, .str x, by decide, fun _ z => nomatch z⟩
  | lst h _ => exact .inr ⟨"list", by decide, .lst h, by decide, fun _ z => nomatch z⟩
  | tup h hs => exact .inl ⟨_, _, _, rfl, rfl, h, hs⟩
/-- the int that a value is -/
def intD : PyData → Int
  | .int i => i
  | _ => 0
theorem ints_of_all {lo hi : Int} : ∀ {ds : List PyData}, (ds.all fun x => isIntD lo hi x) = true → ds = (ds.map intD).map .int
  | [], _ => rfl
  | d :: ds, h => by
    rw [List.all_cons, Bool.and_eq_true] at h
    rw [List.map_cons, List.map_cons, ← ints_of_all h.2]
    cases d with
    | int i => rfl
    | _ => cases h.1
def lotB (n : Nat) : PyData → Bool
  | .tuple ds => !ds.isEmpty && (ds.all fun x => isIntD 0 ((n : Int) - 1) x) && asc (ds.map intD)
  | _ => false
theorem lotB_not {n : Nat} {d : PyData} (h : ∀ ds, d ≠ .tuple ds) : lotB n d = false := by
  cases d with
  | tuple ds => exact absurd rfl (h ds)
  | _ => rfl
theorem all_range_getD' (ds : List PyData) (f : PyData → Bool) : (List.range ds.length).all (fun i => f (ds.getD i .none)) = ds.all f := by
  induction ds with
  | nil => rfl
  | cons p r ih =>
    rw [List.length_cons, List.range_succ_eq_map, List.all_cons, List.all_map, List.all_cons, ← ih]
    rfl
/-- a lot's places -/
def natsD : PyData → List Nat
  | .tuple ds => ds.map fun x => (intD x).toNat
  | _ => []
theorem lotB_ok {n : Nat} {d : PyData} (h : lotB n d = true) : d = lotD (natsD d) ∧ LotOk n (natsD d) := by
  cases d with
  | tuple ds =>
    have h' : (!ds.isEmpty && (ds.all fun x => isIntD 0 ((n : Int) - 1) x) && asc (ds.map intD)) = true := h
    rw [Bool.and_eq_true, Bool.and_eq_true] at h'
    obtain ⟨⟨h1, h2⟩, h3⟩ := h'
    have hmem : ∀ x ∈ ds, ∃ i : Int, x = .int i ∧ 0 ≤ i ∧ i ≤ (n : Int) - 1 := fun x hx => by
      have := List.all_eq_true.mp h2 x hx
      cases x with
      | int i => exact ⟨i, rfl, (of_decide_eq_true this).1, (of_decide_eq_true this).2⟩
      | _ => cases this
    refine ⟨?_, ?_, ?_, ?_⟩
    · show PyData.tuple ds = .tuple ((ds.map fun x => (intD x).toNat).map fun (p : Nat) => .int (p : Int))
      rw [List.map_map]
      congr 1
      refine (List.map_id ds).symm.trans (List.map_congr_left fun x hx => ?_)
      obtain ⟨i, rfl, h0, _⟩ := hmem x hx
      show PyData.int i = .int ((i.toNat : Nat) : Int)
      rw [Int.toNat_of_nonneg h0]
    · intro e
      have e : (ds.map fun x => (intD x).toNat) = [] := e
      rw [List.map_eq_nil_iff] at e
      rw [e] at h1
      cases h1
    · intro p hp
      obtain ⟨x, hx, rfl⟩ := List.mem_map.mp (show p ∈ ds.map fun x => (intD x).toNat from hp)
      obtain ⟨i, rfl, h0, hi⟩ := hmem x hx
      show i.toNat < n
      omega
    · show (ds.map fun x => (intD x).toNat).Pairwise (· < ·)
      have h4 := asc_pair h3
      rw [List.pairwise_map] at h4 ⊢
      refine h4.imp_of_mem fun {x y} hx hy z => ?_
      obtain ⟨i, rfl, h0, _⟩ := hmem x hx
      obtain ⟨j, rfl, h5, _⟩ := hmem y hy
      have z : i < j := z
      show i.toNat < j.toNat
      omega
  | _ => cases h
theorem lotB_is {n : Nat} {ps : List Nat} (h : LotOk n ps) : lotB n (lotD ps) = true := by
  show (!(ps.map fun (p : Nat) => PyData.int (p : Int)).isEmpty && ((ps.map fun (p : Nat) => PyData.int (p : Int)).all fun x => isIntD 0 ((n : Int) - 1) x) && asc ((ps.map fun (p : Nat) => PyData.int (p : Int)).map intD)) = true
  have e1 : (ps.map fun (p : Nat) => PyData.int (p : Int)).isEmpty = false := by
    cases ps with
    | nil => exact absurd rfl h.ne
    | cons _ _ => rfl
  have e2 : ((ps.map fun (p : Nat) => PyData.int (p : Int)).all fun x => isIntD 0 ((n : Int) - 1) x) = true := List.all_eq_true.mpr fun x hx => by
    obtain ⟨p, hp, rfl⟩ := List.mem_map.mp hx
    have := h.lt p hp
    exact decide_eq_true (by omega)
  have e3 : asc ((ps.map fun (p : Nat) => PyData.int (p : Int)).map intD) = true := pair_asc (by
    rw [List.map_map, List.pairwise_map]
    exact h.asc.imp fun z => by show ((_ : Nat) : Int) < ((_ : Nat) : Int); omega)
  rw [e1, e2, e3]
  rfl
def spIsLotA (K : PySem.W.Frag) (T1 T2 : Addr) : Sp := fun vs H Q _ => ∃ (l v : V) (fs : List Int) (bd d : PyData), vs = [l, v] ∧ Dp K H l (.tuple [.tuple (fs.map .int), bd]) ∧ fs.length ≤ 100 ∧ Dp K H v d ∧ (∀ ds, d = .tuple ds → ds.length ≤ 6000) ∧
  TabG H T1 ∧ TabG H T2 ∧ ∀ H', Ext H H' → Q (.bl (lotB fs.length d)) H'
theorem ok_is_lotA {f c T1 T2 : Addr} {fd : FuncData} (F : FunC K "is_lot" "is_lot" st_is_lot f fd c) (TB : TabB base mg c T1) (B : Bl mg) (c1 : Cal P w K mg base 2 "is_place" ["land", "value"] (spIsPlace K))
    (c2 : Cal P w K mg base 4 "is_ascending" ["row"] (spIsAscending K T2)) : FnOk P w K mg base CX0 6 f fd ["land", "value"] (spIsLotA K T1 T2) := by
  refine F.ok sc_is_lot (fun vs H Q E h => ?_) (fun A outer s H vs Q E hr h => ?_)
  · obtain ⟨l, v, fs, bd, d, rfl, _⟩ := h
    rfl
  · obtain ⟨l, v, fs, bd, d, rfl, hl, hn, hd, hz, hT1, hT2, k⟩ := h
    refine ⟨_, pss_cons (ps_if (PW.pt (pw_or (pt_cmpR op_neTy (pe_callTy call_type1 rfl B.type (by decide +kernel) (pa_cons (pv 1) pa_nil)) (pe_bltn rfl B.tuple (by decide +kernel) (v := .ty "tuple") rfl) (nomark _))
        (pw_or1 (pt_cmpR op_eq (pe_callB call_len (by rfl) B.len PySem.boot_len (pa_cons (pv 1) pa_nil)) pe_int (nomark _))))) (pss_one (ps_ret pe_bl)) pss_nil)
      (pss_one (ps_ret (pe_and (pe_gall (k := 3) (N := ["place", "land"]) (src := [none, some 0]) (vs := [0])
        ⟨fun B s H fp code hB => pg_name (i := 0) (by decide +kernel : (["place", "land"] : List Str).Nodup) rfl (Or.inl rfl), fun B s H fp code hB => pts_nil, fun B s H fp code hB => pe_cal c1 (hB.deeper _) rfl (pa_cons (pv 1) (pa_cons (pv 0) pa_nil))⟩
        hr rfl B.all TB rfl (gOk (ND := ["land", "value"]) (sc := defScope st_is_lot) (by decide +kernel)) (pi_tup (pv 1)))
        (pe_one (pe_cal c2 (hr.mono (by decide)) rfl (pa_cons (pv 1) pa_nil)))))), ?_⟩
    rcases tup_dp hd with ⟨ds, a, xs, rfl, rfl, h1, h2⟩ | ⟨T, hT, ht, hne, hno⟩
    · have hlen := dpAll_len h2
      have hz := hz ds rfl
      refine ⟨_, rfl, _, "tuple", rfl, .tup h1, "tuple", "tuple", rfl, rfl, by decide, by decide, false, rfl, ?_⟩
      refine iteF ⟨_, rfl, _, ds.length, rfl, .inr ⟨_, h1, hlen.symm⟩, rfl, _, rfl, ?_⟩
      have ek : lotB fs.length (.tuple ds) = (!ds.isEmpty && (ds.all fun x => isIntD 0 ((fs.length : Int) - 1) x) && asc (ds.map intD)) := rfl
      rw [ek] at k
      by_cases he : ds = []
      · subst he
        refine iteT ?_
        exact k H (Ext.refl H)
      · have hne : decide (V.int (ds.length : Int) = V.int 0) = false := by
          apply decide_eq_false
          intro z
          injection z with z
          exact he (List.length_eq_zero_iff.mp (by omega))
        rw [hne]
        have e0 : ds.isEmpty = false := by cases ds with
          | nil => exact absurd rfl he
          | cons _ _ => rfl
        rw [e0] at k
        refine iteF ?_
        refine ⟨_, rfl, a, rfl, ⟨_, h1⟩, hT1, fun H2 hT => ?_⟩
        have x2 : Ext H H2 := Ext.tabbed hT1 hT
        refine g_all (Ph := fun H4 => H4 = H2) (src_tup fun H4 e => by rw [e]; exact x2.sqT h1) (fun i => isIntD 0 ((fs.length : Int) - 1) (ds.getD i .none)) rfl (fun i H C hp hi k2 => ?_) (fun H4 hp ea => ?_) fun H4 hp ea => ?_
        · subst hp
          have hi' : i < ds.length := by omega
          obtain ⟨vi, g1, g2⟩ := dpAll_get h2 (List.getElem?_eq_getElem hi')
          have egi : ds.getD i .none = ds[i] := by rw [List.getD_eq_getElem?_getD, List.getElem?_eq_getElem hi']; rfl
          have evi : xs.getD i .non = vi := by rw [List.getD_eq_getElem?_getD, g1]; rfl
          refine ⟨rfl, _, rfl, _, rfl, _, _, fs, bd, ds[i], rfl, dp_ext x2 hl, hn, (by rw [evi]; exact dp_ext x2 g2), ?_⟩
          rw [egi] at k2
          exact k2 H rfl
        · subst hp
          rw [hlen, all_range_getD' ds fun x => isIntD 0 ((fs.length : Int) - 1) x] at ea
          have ei := ints_of_all ea
          refine ⟨_, rfl, iteT ⟨_, rfl, _, ds.map intD, rfl, ?_, by rw [List.length_map]; exact hz, x2.tabs _ hT2, fun H5 x5 => ?_⟩⟩
          · rw [← ei]
            exact dp_ext x2 hd
          · have q := k H5 (x2.trans x5)
            rw [ea] at q
            exact q
        · subst hp
          rw [hlen, all_range_getD' ds fun x => isIntD 0 ((fs.length : Int) - 1) x] at ea
          refine ⟨_, rfl, iteF ?_⟩
          have q := k H4 x2
          rw [ea] at q
          exact q
    · rw [lotB_not hno] at k
      refine ⟨_, rfl, _, T, rfl, ht, T, "tuple", rfl, rfl, hT, by decide, true, ?_, ?_⟩
      · rw [decide_eq_false hne]
        rfl
      · exact iteT (iteT (k H (.refl H)))
end
section
variable {P : Program} {w : World} {K : PySem.W.Frag} {mg : Str → Option Value} {base : Heap}
/-! ### the well that a law draws from; N: as many draws at most have been made -/
def WellAt (N : Nat) (H : Hp) (p : Addr) : Prop := ∃ a b c : Int, H p = some (.lst [.int a, .int b, .int c]) ∧ 0 ≤ a ∧ 0 ≤ b ∧ b < 2147483648 ∧ 0 ≤ c ∧ c ≤ (N : Int)
theorem WellAt.mono {N M : Nat} {H : Hp} {p : Addr} (h : WellAt N H p) (z : N ≤ M) : WellAt M H p := by
  obtain ⟨a, b, c, h1, h2, h3, h4, h5, h6⟩ := h
  exact ⟨a, b, c, h1, h2, h3, h4, h5, by omega⟩
theorem WellAt.ext {N : Nat} {H H' : Hp} {p : Addr} (h : WellAt N H p) (x : Ext H H') : WellAt N H' p := by
  obtain ⟨a, b, c, h1, h2⟩ := h
  exact ⟨a, b, c, x.lst h1, h2⟩
theorem WellAt.notin {N : Nat} {H : Hp} {p q : Addr} (h : WellAt N H p) (hq : H q = none) : q ∉ [p] := fun e => by
  rw [List.mem_singleton] at e
  obtain ⟨a, b, c, h1, _⟩ := h
  rw [e, h1] at hq
  cases hq
theorem WellAt.upd {N : Nat} {H : Hp} {p q : Addr} {o : HO} (h : WellAt N H p) (hq : q ∉ [p]) : WellAt N (upd H q o) p := by
  obtain ⟨a, b, c, h1, h2⟩ := h
  exact ⟨a, b, c, by rw [upd_ne (fun e => hq (by simp [e]))]; exact h1, h2⟩
def spWell (K : PySem.W.Frag) : Sp := fun vs H Q _ => ∃ c : Int, vs = [.int c] ∧ ∀ (p : Addr) (H' : Hp), Ext H H' → H p = none → WellAt 0 H' p → Q (.ref p) H'
theorem sc_well : FnScope ["cell"] ["cell"] (defScope st__law_well) := ⟨rfl, rfl, rfl, by decide +kernel, rfl, by decide +kernel, by decide +kernel⟩
theorem ok_well {f : Addr} {fd : FuncData} (F : Fun K "_law_well" "_law_well" st__law_well f fd) (B : Bl mg) : FnOk P w K mg base CX0 1 f fd ["cell"] (spWell K) := by
  refine F.ok sc_well (fun vs H Q E h => ?_) (fun cdv A outer s H vs Q E hr h => ?_)
  · obtain ⟨c, rfl, _⟩ := h
    rfl
  · obtain ⟨c, rfl, k⟩ := h
    have nd := sc_well.nd
    refine ⟨_, pss_cons (ps_set (i := 0) nd rfl (Or.inl rfl) (pe_callTy call_int1 rfl B.int (by decide +kernel) (pa_cons (pv 0) pa_nil)))
      (pss_one (ps_ret (pe_lst (pa_cons (pe_ifExp (pt_cmpR op_ge (pv 0) (pe_op op_pow pe_int pe_int) (nomark _)) (pe_op op_sub (pv 0) (pe_op op_pow pe_int pe_int)) pe_int) (pa_cons (pe_op op_add (pe_op op_mod (pv 0) pe_int) pe_int) (pa_cons pe_int pa_nil)))))), ?_⟩
    refine ⟨_, rfl, .inl ⟨_, rfl, ?_⟩⟩
    dsimp only [gName, List.set, L2.start]
    have fin : ∀ a : Int, 0 ≤ a → ∀ p, H p = none → Q (.ref p) (upd H p (.lst [.int a, .int (c % 1999999973 + 17), .int 0])) := fun a ha p hp => by
      have h0 := Int.emod_nonneg c (show (1999999973 : Int) ≠ 0 by decide)
      have h1 := Int.emod_lt_of_pos c (show (0 : Int) < 1999999973 by decide)
      exact k p _ (.new hp) hp ⟨a, _, _, upd_same, ha, by omega, by omega, by decide, by decide⟩
    refine ⟨_, rfl, _, _, rfl, rfl, ⟨by decide, by decide, by decide⟩, _, _, rfl, rfl, _, rfl, ?_⟩
    refine ite2 (fun h => ?_) (fun _ => ?_)
    · have h := of_decide_eq_true h
      refine ⟨_, rfl, _, _, rfl, rfl, ⟨by decide, by decide, by decide⟩, _, _, rfl, rfl, _, rfl, _, _, rfl, rfl, (by show (0 : Int) < 1999999973; decide), _, _, rfl, rfl, (by show 3 ≤ sizeLine; decide), fun p hp => fin _ ?_ p hp⟩
      have h : (10 : Int) ^ Int.toNat 18 ≤ c := h
      omega
    · exact ⟨_, rfl, _, _, rfl, rfl, (by show (0 : Int) < 1999999973; decide), _, _, rfl, rfl, (by show 3 ≤ sizeLine; decide), fun p hp => fin 0 (by decide) p hp⟩
def spDip (K : PySem.W.Frag) : Sp := fun vs H Q _ => ∃ (N : Nat) (p : Addr) (many : Nat), vs = [.ref p, .int (many : Int)] ∧ WellAt N H p ∧ N < 100000000 ∧ 0 < many ∧ many < 100000000 ∧ ∀ (n : Nat) H', n < many → ExtS [p] H H' → WellAt (N + 1) H' p → Q (.int (n : Int)) H'
abbrev ldipN : List Str := ["well", "many", "drop"]
theorem sc_dip : FnScope ldipN ["well", "many"] (defScope st__law_dip) := ⟨rfl, rfl, rfl, by decide +kernel, rfl, by decide +kernel, by decide +kernel⟩
theorem nat_of {i : Int} {m : Nat} (h0 : 0 ≤ i) (h1 : i < (m : Int)) : ∃ n : Nat, i = (n : Int) ∧ n < m := ⟨i.toNat, by omega, by omega⟩
theorem ok_dip {f : Addr} {fd : FuncData} (F : Fun K "_law_dip" "_law_dip" st__law_dip f fd) (B : Bl mg) : FnOk P w K mg base CX0 1 f fd ["well", "many"] (spDip K) := by
  refine F.ok sc_dip (fun vs H Q E h => ?_) (fun cdv A outer s H vs Q E hr h => ?_)
  · obtain ⟨N, p, many, rfl, _⟩ := h
    rfl
  · obtain ⟨N, p, many, rfl, ⟨a, b, c, hp, h0, hb0, hb1, hc0, hcN⟩, hN, hm0, hm1, k⟩ := h
    have nd := sc_dip.nd
    have nop : ∀ o, ExtS [p] H (upd H p o) := fun o => (ExtS.refl _ _).write (.inr ⟨by simp, _, hp⟩)
    refine ⟨_, pss_cons (ps_if (pt_cmpR op_gt (pe_ix ix_list (pv 0) pe_int (fun _ _ => rfl)) pe_int (nomark _)) (pss_cons (ps_set (i := 2) nd rfl (Or.inl rfl) (pe_op op_mod (pe_callTy call_int1 rfl B.int (by decide +kernel) (pa_cons (pe_ix ix_list (pv 0) pe_int (fun _ _ => rfl)) pa_nil)) (pv 1)))
        (pss_cons (ps_asg (pe_op op_fdiv (pe_callTy call_int1 rfl B.int (by decide +kernel) (pa_cons (pe_ix ix_list (pv 0) pe_int (fun _ _ => rfl)) pa_nil)) (pv 1)) (pg_sub (pv 0) pe_int set_list))
        (pss_one (ps_ret (pv 2))))) pss_nil)
      (pss_cons (ps_asg (pe_op op_add (pe_ix ix_list (pv 0) pe_int (fun _ _ => rfl)) pe_int) (pg_sub (pv 0) pe_int set_list))
      (pss_cons (ps_asg (pe_op op_mod (pe_callTy call_int1 rfl B.int (by decide +kernel) (pa_cons (pe_op op_add (pe_op op_add (pe_op op_mul (pe_ix ix_list (pv 0) pe_int (fun _ _ => rfl)) pe_int) (pe_op op_mul (pe_op op_mul (pe_ix ix_list (pv 0) pe_int (fun _ _ => rfl)) (pe_ix ix_list (pv 0) pe_int (fun _ _ => rfl))) pe_int)) pe_int) pa_nil)) pe_int) (pg_sub (pv 0) pe_int set_list))
      (pss_one (ps_ret (pe_op op_mod (pe_op op_fdiv (pe_op op_mod (pe_callTy call_int1 rfl B.int (by decide +kernel) (pa_cons (pe_op op_mul (pe_ix ix_list (pv 0) pe_int (fun _ _ => rfl)) (pe_ix ix_list (pv 0) pe_int (fun _ _ => rfl))) pa_nil)) pe_int) pe_int) (pv 1)))))), ?_⟩
    refine ⟨_, rfl, p, _, _, _, rfl, rfl, SqL.of hp, atI_nat (j := 0) rfl, _, _, rfl, rfl, _, rfl, ?_⟩
    by_cases ha : (0 : Int) < a
    · rw [decide_eq_true ha]
      refine iteT ⟨_, rfl, p, _, _, _, rfl, rfl, SqL.of hp, atI_nat (j := 0) rfl, .inl ⟨_, rfl, _, rfl, _, _, rfl, rfl, (by omega), ?_⟩⟩
      refine ⟨_, rfl, p, _, _, _, rfl, rfl, SqL.of hp, atI_nat (j := 0) rfl, .inl ⟨_, rfl, _, rfl, _, _, rfl, rfl, ⟨by omega, by omega⟩, ?_⟩⟩
      dsimp only [gName, List.set, L2.start, List.map, List.replicate, List.append, List.length]
      refine ⟨_, rfl, p, _, 0, 0, rfl, rfl, hp, rfl, ?_⟩
      obtain ⟨n, hn, hlt⟩ := nat_of (Int.emod_nonneg a (show (many : Int) ≠ 0 by omega)) (Int.emod_lt_of_pos a (show (0 : Int) < (many : Int) by omega))
      rw [hn]
      refine ⟨_, rfl, k n _ hlt (nop _) ⟨_, b, c, upd_same, Int.ediv_nonneg h0 (by omega), hb0, hb1, hc0, by omega⟩⟩
    · rw [decide_eq_false ha]
      refine iteF ?_
      dsimp only [tNext, tSeq]
      refine ⟨_, rfl, p, _, _, _, rfl, rfl, SqL.of hp, atI_nat (j := 2) rfl, _, _, rfl, rfl, _, rfl, p, _, 2, 2, rfl, rfl, hp, rfl, ?_⟩
      dsimp only [gName, List.set, gSub]
      have hp2 : (upd H p (.lst [.int a, .int b, .int (c + 1)])) p = some (.lst [.int a, .int b, .int (c + 1)]) := upd_same
      have x2 := nop (.lst [.int a, .int b, .int (c + 1)])
      generalize upd H p (.lst [.int a, .int b, .int (c + 1)]) = H2 at hp2 x2 ⊢
      refine ⟨_, rfl, p, _, _, _, rfl, rfl, SqL.of hp2, atI_nat (j := 1) rfl, _, _, rfl, rfl, .inr ⟨by decide, by decide⟩, _, rfl, p, _, _, _, rfl, rfl, SqL.of hp2, atI_nat (j := 2) rfl, _, rfl, p, _, _, _, rfl, rfl, SqL.of hp2, atI_nat (j := 2) rfl, _, _, rfl, rfl, .inl ⟨by omega, by omega⟩, _, _, rfl, rfl, .inr ⟨by decide, by decide⟩, _, _, rfl, rfl, _, _, rfl, rfl, .inl ⟨_, rfl, _, _, rfl, rfl, (by show (0 : Int) < 2147483629; decide), ?_⟩⟩
      dsimp only [gName, List.set, gSub]
      have hd0 := Int.emod_nonneg (b * 44497 + (c + 1) * (c + 1) * 7001 + 13) (show (2147483629 : Int) ≠ 0 by decide)
      have hd1 := Int.emod_lt_of_pos (b * 44497 + (c + 1) * (c + 1) * 7001 + 13) (show (0 : Int) < 2147483629 by decide)
      generalize (b * 44497 + (c + 1) * (c + 1) * 7001 + 13) % 2147483629 = d at hd0 hd1 ⊢
      refine ⟨_, rfl, p, _, 1, 1, rfl, rfl, hp2, rfl, ?_⟩
      dsimp only [gName, List.set, gSub]
      have x3 : ExtS [p] H (upd H2 p (.lst [.int a, .int d, .int (c + 1)])) := x2.write (.inr ⟨by simp, _, hp⟩)
      have hp3 : (upd H2 p (.lst [.int a, .int d, .int (c + 1)])) p = some (.lst [.int a, .int d, .int (c + 1)]) := upd_same
      generalize upd H2 p (.lst [.int a, .int d, .int (c + 1)]) = H3 at hp3 x3 ⊢
      refine ⟨_, rfl, p, _, _, _, rfl, rfl, SqL.of hp3, atI_nat (j := 1) rfl, _, rfl, p, _, _, _, rfl, rfl, SqL.of hp3, atI_nat (j := 1) rfl, _, _, rfl, rfl, .inl ⟨by omega, by omega⟩, .inl ⟨_, rfl, _, _, rfl, rfl, (by show (0 : Int) < 2147483587; decide), _, _, rfl, rfl, ⟨by decide, by decide⟩, _, rfl, _, _, rfl, rfl, (by show (0 : Int) < (many : Int); omega), ?_⟩⟩
      obtain ⟨n, hn, hlt⟩ := nat_of (Int.emod_nonneg (d * d % 2147483587 / 64) (show (many : Int) ≠ 0 by omega)) (Int.emod_lt_of_pos (d * d % 2147483587 / 64) (show (0 : Int) < (many : Int) by omega))
      dsimp only
      rw [hn]
      exact k n _ hlt x3 ⟨a, d, c + 1, hp3, h0, hd0, by omega, by omega, by omega⟩
end
end Wd

set_option Elab.async false
set_option linter.all false
set_option maxRecDepth 100000
set_option maxHeartbeats 4000000
/-! My: places reached one by one. -/
namespace Mk
theorem nodup_le : ∀ (n : Nat) (l : List Nat), l.Nodup → (∀ x ∈ l, x < n) → l.length ≤ n
  | 0, [], _, _ => Nat.le_refl _
  | 0, x :: _, _, h => by have := h x List.mem_cons_self; omega
  | n + 1, l, nd, h => by
    by_cases e : n ∈ l
    · have ih := nodup_le n (l.erase n) (nd.erase n) fun x hx => by
        have h1 := (List.Nodup.mem_erase_iff nd).mp hx
        have h2 := h x h1.2
        have := h1.1
        omega
      rw [List.length_erase_of_mem e] at ih
      omega
    · have ih := nodup_le n l nd fun x hx => by
        have h2 := h x hx
        have : x ≠ n := fun z => e (z ▸ hx)
        omega
      omega
/-- places reached from p within ps, the first at_ of them gone through -/
structure Rw (bs : List (Nat × Nat)) (ps : List Nat) (p : Nat) (fnd : List Nat) (at_ : Nat) : Prop where
  nd : fnd.Nodup
  sound : ∀ x, x ∈ fnd → Conn bs (· ∈ ps) p x
  here : p ∈ fnd
  done : ∀ j x, j < at_ → fnd[j]? = some x → ∀ y, y ∈ ps → adj bs x y = true → y ∈ fnd
  le : at_ ≤ fnd.length
theorem Rw.begin {bs : List (Nat × Nat)} {ps : List Nat} {p : Nat} (h : p ∈ ps) : Rw bs ps p [p] 0 :=
  ⟨by simp, fun x hx => by rw [List.mem_singleton.mp hx]; exact .refl h, by simp, fun j x hj => by omega, by simp⟩
theorem Rw.turn {bs : List (Nat × Nat)} {n : Nat} {ps fnd : List Nat} {p at_ x : Nat} (w : Rw bs ps p fnd at_) (hx : fnd[at_]? = some x) (hb : Bs n bs) :
    Rw bs ps p (fnd ++ ((List.range n).filter fun k => adj bs k x).filter fun k => decide (k ∈ ps) && decide (k ∉ fnd)) (at_ + 1) := by
  have hlt : at_ < fnd.length := (List.getElem?_eq_some_iff.mp hx).1
  have hmem : ∀ y, y ∈ (((List.range n).filter fun k => adj bs k x).filter fun k => decide (k ∈ ps) && decide (k ∉ fnd)) ↔ y < n ∧ adj bs y x = true ∧ y ∈ ps ∧ y ∉ fnd := fun y => by
    rw [List.mem_filter, List.mem_filter, List.mem_range, Bool.and_eq_true, decide_eq_true_eq, decide_eq_true_eq]
    constructor
    · rintro ⟨⟨a, b⟩, c, d⟩; exact ⟨a, b, c, d⟩
    · rintro ⟨a, b, c, d⟩; exact ⟨⟨a, b⟩, c, d⟩
  refine ⟨?_, fun y hy => ?_, List.mem_append_left _ w.here, fun j z hj hz y hy ha => ?_, by rw [List.length_append]; omega⟩
  · refine List.nodup_append.mpr ⟨w.nd, (List.nodup_range.filter _).filter _, fun a ha b hb2 e => ?_⟩
    subst e
    exact ((hmem a).mp hb2).2.2.2 ha
  · rcases List.mem_append.mp hy with h | h
    · exact w.sound y h
    · obtain ⟨_, a, b, _⟩ := (hmem y).mp h
      exact .step (w.sound x (List.mem_of_getElem? hx)) (by rw [adj_comm]; exact a) b
  · by_cases hin : y ∈ fnd
    · exact List.mem_append_left _ hin
    · rw [List.getElem?_append_left (by omega)] at hz
      by_cases e : j = at_
      · subst e
        rw [hx] at hz
        cases hz
        exact List.mem_append_right _ ((hmem y).mpr ⟨(adj_lt hb ha).2.1, by rw [adj_comm]; exact ha, hy, hin⟩)
      · exact absurd (w.done j z (by omega) hz y hy ha) hin
theorem Rw.fin {bs : List (Nat × Nat)} {ps fnd : List Nat} {p at_ : Nat} (w : Rw bs ps p fnd at_) (h : fnd.length ≤ at_) (x : Nat) : x ∈ fnd ↔ Conn bs (· ∈ ps) p x := by
  refine ⟨w.sound x, fun c => ?_⟩
  refine (c.closed (T := (· ∈ fnd)) w.here fun y z hy hz a => ?_).2
  obtain ⟨j, hj, e⟩ := List.getElem_of_mem hy
  exact w.done j y (by omega) (by rw [List.getElem?_eq_getElem hj, e]) z hz a
/-- the pieces gone through so far, and what is left -/
structure Pw (bs : List (Nat × Nat)) (ps left : List Nat) (rs : List (List Nat)) : Prop where
  asc : left.Pairwise (· < ·)
  sub : ∀ x, x ∈ left → x ∈ ps
  clo : ∀ x, x ∈ left → ∀ y, Conn bs (· ∈ ps) x y → y ∈ left
  pcs : ∀ qs, Pcs bs (mask left) qs → Pcs bs (mask ps) (rs.map mask ++ qs)
  good : ∀ r, r ∈ rs → r.Pairwise (· < ·) ∧ ∀ x, x ∈ r → x ∈ ps
  len : rs.length + left.length ≤ ps.length
theorem Pw.begin {bs : List (Nat × Nat)} {ps : List Nat} (h : ps.Pairwise (· < ·)) : Pw bs ps ps [] :=
  ⟨h, fun _ h => h, fun x _ y c => c.snd, fun qs h => h, fun r hr => (nomatch hr), by simp⟩
theorem Pw.fin {bs : List (Nat × Nat)} {ps : List Nat} {rs : List (List Nat)} (w : Pw bs ps [] rs) : Pcs bs (mask ps) (rs.map mask) := by
  have := w.pcs [] .nil
  rwa [List.append_nil] at this
theorem Pw.turn {bs : List (Nat × Nat)} {ps tl r : List Nat} {rs : List (List Nat)} {x0 : Nat} (w : Pw bs ps (x0 :: tl) rs) (ha : r.Pairwise (· < ·)) (hr : ∀ x, x ∈ r ↔ Conn bs (· ∈ ps) x0 x) :
    Pw bs ps ((x0 :: tl).filter fun x => decide (x ∉ r)) (rs ++ [r]) ∧ ((x0 :: tl).filter fun x => decide (x ∉ r)).length < (x0 :: tl).length := by
  have h0 : x0 ∈ x0 :: tl := List.mem_cons_self
  have h0r : x0 ∈ r := (hr x0).mpr (.refl (w.sub _ h0))
  have hsub : ∀ x, x ∈ r → x ∈ x0 :: tl := fun x hx => w.clo x0 h0 x ((hr x).mp hx)
  have hasc := w.asc
  have hrch : Rch bs (mask (x0 :: tl)) (2 ^ x0) (mask r) := fun q => by
    rw [bit_mask ha, decide_eq_true_eq, hr]
    constructor
    · intro c
      refine ⟨x0, by simp [Nat.testBit_two_pow], ?_⟩
      have c2 := (c.closed (T := (· ∈ x0 :: tl)) h0 fun x y hx hy a => w.clo x hx y (.one (w.sub x hx) hy a)).1
      exact c2.mono fun x hx => by
        show (mask (x0 :: tl)).testBit x = true
        rw [bit_mask hasc]
        exact decide_eq_true hx
    · rintro ⟨p, hp, c⟩
      rw [Nat.testBit_two_pow, decide_eq_true_eq] at hp
      subst hp
      exact c.mono fun x hx => by
        have hx : (mask (x0 :: tl)).testBit x = true := hx
        rw [bit_mask hasc, decide_eq_true_eq] at hx
        exact w.sub x hx
  have hfa : ((x0 :: tl).filter fun x => decide (x ∉ r)).Pairwise (· < ·) := hasc.filter _
  have hmem : ∀ x, x ∈ ((x0 :: tl).filter fun x => decide (x ∉ r)) ↔ x ∈ x0 :: tl ∧ x ∉ r := fun x => by
    rw [List.mem_filter, decide_eq_true_eq]
  have hmask : mask ((x0 :: tl).filter fun x => decide (x ∉ r)) = mask (x0 :: tl) ^^^ mask r := eq_of_bits fun q => by
    rw [xor_sub (fun q hq => by
      rw [bit_mask ha, decide_eq_true_eq] at hq
      rw [bit_mask hasc]
      exact decide_eq_true (hsub q hq)), bit_mask hfa, bit_mask hasc, bit_mask ha, decide_eq_true_eq, decide_eq_true_eq, decide_eq_false_iff_not]
    exact hmem q
  have hlt : ((x0 :: tl).filter fun x => decide (x ∉ r)).length < (x0 :: tl).length := by
    rw [List.filter_cons_of_neg (by simp [h0r])]
    have := List.length_filter_le (fun x => decide (x ∉ r)) tl
    rw [List.length_cons]
    omega
  refine ⟨⟨hfa, fun x hx => w.sub x ((hmem x).mp hx).1, fun x hx y c => ?_, fun qs hq => ?_, fun s hs => ?_, ?_⟩, hlt⟩
  · obtain ⟨h1, h2⟩ := (hmem x).mp hx
    refine (hmem y).mpr ⟨w.clo x h1 y c, fun hy => h2 ?_⟩
    exact (hr x).mpr (((hr y).mp hy).trans c.symm)
  · rw [hmask] at hq
    rw [List.map_append, List.append_assoc]
    refine w.pcs _ (.cons ?_ (fun x hx => ?_) hrch hq)
    · rw [bit_mask hasc]
      exact decide_eq_true h0
    · rw [bit_mask hasc]
      refine decide_eq_false fun hm => ?_
      rcases List.mem_cons.mp hm with e | e
      · omega
      · have := List.rel_of_pairwise_cons hasc e
        omega
  · rcases List.mem_append.mp hs with e | e
    · exact w.good s e
    · rw [List.mem_singleton.mp e]
      exact ⟨ha, fun x hx => w.sub x (hsub x hx)⟩
  · have := w.len
    rw [List.length_append, List.length_singleton]
    omega
end Mk

set_option Elab.async false
set_option linter.all false
set_option maxRecDepth 100000
set_option maxHeartbeats 4000000
namespace Wd
open PySem PySem.Spec PyProof.Rows L2 Bx Gx

























































section
variable {P : Program} {w : World} {K : PySem.W.Frag} {mg : Str → Option Value} {base : Heap}
/-! ### a drawn sequence -/
theorem rgV_nat (n : Nat) : rgV 0 (n : Int) = vsN (List.range n) := by
  unfold rgV vsN
  simp
theorem vsN_len (l : List Nat) : (vsN l).length = l.length := List.length_map ..
theorem vsN_at {l : List Nat} {n : Nat} (h : n < l.length) : (vsN l)[n]? = some (.int ((l[n] : Nat) : Int)) := by
  rw [List.getElem?_map, List.getElem?_eq_getElem h]
  rfl
theorem erase_map {α β : Type} (f : α → β) : ∀ (l : List α) (n : Nat), (l.map f).eraseIdx n = (l.eraseIdx n).map f
  | [], _ => rfl
  | _ :: _, 0 => rfl
  | x :: l, n + 1 => by
    show f x :: (l.map f).eraseIdx n = f x :: (l.eraseIdx n).map f
    rw [erase_map f l n]
theorem erase_perm : ∀ {l : List Nat} {n : Nat} (h : n < l.length), (l[n] :: l.eraseIdx n).Perm l
  | _ :: _, 0, _ => .refl _
  | x :: l, n + 1, h => by
    have h2 : n < l.length := by simpa using h
    have ih := erase_perm (l := l) (n := n) h2
    exact (List.Perm.swap x (l[n]'h2) (l.eraseIdx n)).trans (ih.cons x)
end
section
variable {P : Program} {w : World} {K : PySem.W.Frag} {mg : Str → Option Value} {base : Heap}
/-! ### all pairs of places -/
def pairsTo (n : Nat) : List (Nat × Nat) := (List.range n).flatMap fun j => (List.range j).map fun i => (i, j)
theorem pairsTo_succ (n : Nat) : pairsTo (n + 1) = pairsTo n ++ (List.range n).map fun i => (i, n) := by
  unfold pairsTo
  rw [List.range_succ, List.flatMap_append]
  simp
theorem pairsTo_mem {n : Nat} {b : Nat × Nat} (h : b ∈ pairsTo n) : b.1 < b.2 ∧ b.2 < n := by
  unfold pairsTo at h
  obtain ⟨j, hj, h2⟩ := List.mem_flatMap.mp h
  obtain ⟨i, hi, rfl⟩ := List.mem_map.mp h2
  exact ⟨List.mem_range.mp hi, List.mem_range.mp hj⟩
theorem pairsTo_len : ∀ n, (pairsTo n).length ≤ n * n
  | 0 => Nat.le_refl _
  | n + 1 => by
    rw [pairsTo_succ, List.length_append, List.length_map, List.length_range]
    have := pairsTo_len n
    rw [Nat.succ_mul, Nat.mul_succ]
    omega
abbrev pairD (b : Nat × Nat) : PyData := .tuple [.int (b.1 : Int), .int (b.2 : Int)]
def spPairs (K : PySem.W.Frag) : Sp := fun vs H Q _ => ∃ (n : Nat), vs = [.int (n : Int)] ∧ n ≤ 12 ∧ ∀ q xs H', Ext H H' → H q = none → H' q = some (.lst xs) → DpAll K H' xs ((pairsTo n).map pairD) → Q (.ref q) H'
abbrev prN : List Str := ["many", "found", "j", "i"]
theorem noL_pairs (l : List (Nat × Nat)) : noLs (l.map pairD) = true := noLs_map pairD (fun _ => rfl) l
end
section
variable {P : Program} {w : World} {K : PySem.W.Frag} {mg : Str → Option Value} {base : Heap}
/-! ### the neighbours of a place -/
theorem filt_snoc (f : Nat → Bool) (l : List Nat) (i : Nat) : (l ++ [i]).filter f = l.filter f ++ (if f i = true then [i] else []) := by
  rw [List.filter_append]
  congr 1
  by_cases z : f i = true
  · rw [if_pos z, List.filter_cons_of_pos z]; rfl
  · rw [if_neg z, List.filter_cons_of_neg z]; rfl
def nearL (n : Nat) (bs : List (Nat × Nat)) (p : Nat) : List Nat := (List.range n).filter fun k => Mk.adj bs k p
theorem sh_pair (n : Nat) (a b : Int) : Bx.Sh (n + 2) (.tuple [.int a, .int b]) := .tup fun d hd => by
  rcases List.mem_cons.mp hd with e | e
  · rw [e]; exact .int _ _
  · rw [List.mem_singleton.mp e]; exact .int _ _
theorem sh_bord (n : Nat) (bs : List (Nat × Nat)) : Bx.Sh (n + 3) (bordD bs) := .tup fun d hd => by
  obtain ⟨b, _, rfl⟩ := List.mem_map.mp hd
  exact sh_pair _ _ _
theorem any_adj (bs : List (Nat × Nat)) (k p : Nat) :
    ((bs.map fun (b : Nat × Nat) => PyData.tuple [.int (b.1 : Int), .int (b.2 : Int)]).any fun z => PyData.eqv z (.tuple [.int (if (p : Int) < (k : Int) then (p : Int) else (k : Int)), .int (if (p : Int) > (k : Int) then (p : Int) else (k : Int))])) = Mk.adj bs k p := by
  unfold Mk.adj
  have e1 : (if (p : Int) < (k : Int) then (p : Int) else (k : Int)) = ((min k p : Nat) : Int) := by
    split <;> omega
  have e2 : (if (p : Int) > (k : Int) then (p : Int) else (k : Int)) = ((max k p : Nat) : Int) := by
    split <;> omega
  rw [e1, e2, List.any_map]
  induction bs with
  | nil => rfl
  | cons b r ih =>
    rw [List.any_cons, ih, List.contains_cons]
    congr 1
    obtain ⟨x, y⟩ := b
    rw [Bool.eq_iff_iff]
    simp [PyData.eqv, PyData.eqvAll]
    omega
def spNear (K : PySem.W.Frag) : Sp := fun vs H Q _ => ∃ (l : V) (fs : List Int) (bs : List (Nat × Nat)) (p : Nat), vs = [l, .int (p : Int)] ∧ Dp K H l (landD fs bs) ∧ fs.length ≤ 12 ∧ ∀ q H', Ext H H' → H q = none → H' q = some (.lst (vsN (nearL fs.length bs p))) → Q (.ref q) H'
theorem dp_land {H : Hp} {l : V} {fs : List Int} {bs : List (Nat × Nat)} (h : Dp K H l (landD fs bs)) : ∃ (a af : Addr) (vb : V), l = .ref a ∧ SqT K H a [.ref af, vb] ∧ SqT K H af (fs.map V.int) ∧ Dp K H vb (bordD bs) := by
  obtain ⟨a, xs, rfl, h1, h2⟩ := dp_tup h
  cases h2 with
  | cons hf h3 =>
    cases h3 with
    | cons hb h4 =>
      cases h4
      obtain ⟨af, rfl, h5⟩ := dp_ints hf
      exact ⟨a, af, _, rfl, h1, h5, hb⟩
end
end Wd

set_option Elab.async false
set_option linter.all false
set_option maxRecDepth 100000
set_option maxHeartbeats 4000000
namespace Mk
theorem sub_le : ∀ {l m : List Nat}, l.Nodup → (∀ x, x ∈ l → x ∈ m) → l.length ≤ m.length
  | [], m, _, _ => Nat.zero_le _
  | x :: l, m, nd, h => by
    rw [List.nodup_cons] at nd
    have hx := h x List.mem_cons_self
    have ih := sub_le (l := l) (m := m.erase x) nd.2 fun y hy => by
      have hne : y ≠ x := fun e => nd.1 (e ▸ hy)
      exact (List.mem_erase_of_ne hne).mpr (h y (List.mem_cons_of_mem _ hy))
    rw [List.length_erase_of_mem hx] at ih
    have := List.length_pos_of_mem hx
    rw [List.length_cons]
    omega
theorem filt_sum (f : Nat → Bool) : ∀ l : List Nat, l.length = (l.filter f).length + (l.filter fun x => !f x).length
  | [] => rfl
  | x :: l => by
    have ih := filt_sum f l
    by_cases h : f x = true
    · rw [List.filter_cons_of_pos h, List.filter_cons_of_neg (by simp [h]), List.length_cons, List.length_cons]
      omega
    · rw [List.filter_cons_of_neg h, List.filter_cons_of_pos (by simp [h]), List.length_cons, List.length_cons]
      omega
/-- what hangs together is one piece, and back -/
theorem pcs_one {bs : List (Nat × Nat)} {ps : List Nat} {p : Nat} (ha : ps.Pairwise (· < ·)) (hp : p ∈ ps) (hc : ∀ x, x ∈ ps → Conn bs (· ∈ ps) p x) : Pcs bs (mask ps) [mask ps] := by
  cases ps with
  | nil => cases hp
  | cons q r =>
    have hb := bit_mask ha
    refine .cons (q := q) (by rw [hb]; simp) (fun x hx => ?_) (fun x => ?_) (by rw [Nat.xor_self]; exact .nil)
    · rw [hb]
      refine decide_eq_false fun hm => ?_
      rcases List.mem_cons.mp hm with e | e
      · omega
      · have := List.rel_of_pairwise_cons ha e
        omega
    · rw [hb, decide_eq_true_eq]
      have mono : ∀ {a b : Nat}, Conn bs (· ∈ q :: r) a b → Conn bs (In (mask (q :: r))) a b := fun c => c.mono fun y hy => by
        show (mask (q :: r)).testBit y = true
        rw [hb]
        exact decide_eq_true hy
      constructor
      · intro hx
        refine ⟨q, by simp [Nat.testBit_two_pow], mono ?_⟩
        exact (hc q List.mem_cons_self).symm.trans (hc x hx)
      · rintro ⟨_, _, c⟩
        have := c.snd
        have h2 : (mask (q :: r)).testBit x = true := this
        rwa [hb, decide_eq_true_eq] at h2
theorem Pcs.none {bs : List (Nat × Nat)} {m : Nat} {l : List Nat} (h : Pcs bs m l) (e : l = []) : m = 0 := by
  cases h with
  | nil => rfl
  | cons _ _ _ _ => cases e
theorem Pcs.len1 {bs : List (Nat × Nat)} {m : Nat} {l : List Nat} (h : Pcs bs m l) (e : l.length = 1) : ∃ q, Rch bs m (2 ^ q) m := by
  cases h with
  | nil => cases e
  | @cons _ q p l2 hq hlow hR hP =>
    have e2 : l2 = [] := List.length_eq_zero_iff.mp (by rw [List.length_cons] at e; omega)
    have h0 := hP.none e2
    have : m = p := by
      have h1 : (m ^^^ p) ^^^ p = m := by rw [Nat.xor_assoc, Nat.xor_self, Nat.xor_zero]
      rw [h0, Nat.zero_xor] at h1
      exact h1.symm
    subst this
    exact ⟨q, hR⟩
theorem one_pcs {bs : List (Nat × Nat)} {ps : List Nat} (ha : ps.Pairwise (· < ·)) {l : List Nat} (hl : Pcs bs (mask ps) l) (h : l.length = 1) {p x : Nat} (hp : p ∈ ps) (hx : x ∈ ps) : Conn bs (· ∈ ps) p x := by
  obtain ⟨q, hR⟩ := hl.len1 h
  have hb := bit_mask ha
  have key : ∀ y, y ∈ ps → Conn bs (· ∈ ps) q y := fun y hy => by
    obtain ⟨z, hz, c⟩ := (hR y).mp (by rw [hb]; exact decide_eq_true hy)
    rw [Nat.testBit_two_pow, decide_eq_true_eq] at hz
    subst hz
    exact c.mono fun w hw => by
      have hw : (mask ps).testBit w = true := hw
      rwa [hb, decide_eq_true_eq] at hw
  exact (key p hp).symm.trans (key x hx)
/-- every part that hangs together can be grown place by place -/
theorem grown {bs : List (Nat × Nat)} {ps : List Nat} {p : Nat} (hp : p ∈ ps) (nd : ps.Nodup) (hc : ∀ x, x ∈ ps → Conn bs (· ∈ ps) p x) : ∀ k, k < ps.length → ∃ l : List Nat, l.length = k + 1 ∧ l.Nodup ∧ (∀ x, x ∈ l → x ∈ ps) ∧ p ∈ l ∧ ∀ x, x ∈ l → Conn bs (· ∈ l) p x
  | 0, _ => ⟨[p], rfl, by simp, fun x hx => by rw [List.mem_singleton.mp hx]; exact hp, by simp, fun x hx => by rw [List.mem_singleton.mp hx]; exact .refl (by simp)⟩
  | k + 1, hk => by
    obtain ⟨l, h1, h2, h3, h4, h5⟩ := grown hp nd hc k (by omega)
    -- a place beside it
    have hex : ∃ y z, y ∈ l ∧ z ∈ ps ∧ z ∉ l ∧ adj bs y z = true := by
      refine Classical.byContradiction fun hno => ?_
      have hall : ∀ x, x ∈ ps → x ∈ l := fun x hx => ((hc x hx).closed (T := (· ∈ l)) h4 fun y z hy hz a => Classical.byContradiction fun hz2 => hno ⟨y, z, hy, hz, hz2, a⟩).2
      have := sub_le nd hall
      omega
    obtain ⟨y, z, hy, hz, hzl, a⟩ := hex
    have hm : ∀ x, x ∈ l → x ∈ z :: l := fun x hx => List.mem_cons_of_mem _ hx
    refine ⟨z :: l, by rw [List.length_cons, h1], List.nodup_cons.mpr ⟨hzl, h2⟩, fun x hx => ?_, hm p h4, fun x hx => ?_⟩
    · rcases List.mem_cons.mp hx with e | e
      · rw [e]; exact hz
      · exact h3 x e
    · rcases List.mem_cons.mp hx with e | e
      · rw [e]
        exact .step ((h5 y hy).mono hm) a List.mem_cons_self
      · exact (h5 x e).mono hm
theorem mask_less {ps : List Nat} (ha : ps.Pairwise (· < ·)) {p : Nat} (hp : p ∈ ps) : mask (ps.filter fun x => decide (x ≠ p)) = mask ps ^^^ 2 ^ p := eq_of_bits fun q => by
  rw [bit_mask (ha.filter _), Nat.testBit_xor, bit_mask ha, Nat.testBit_two_pow, decide_eq_true_eq, List.mem_filter, decide_eq_true_eq]
  by_cases h1 : q ∈ ps <;> by_cases h2 : p = q
  · simp [h1, h2]
  · simp [h1, h2]; exact fun z => h2 z.symm
  · exact absurd (h2 ▸ hp) h1
  · simp [h1, h2]
/-- a lot that hangs together has a place, another than p, without which it hangs together -/
theorem other {bs : List (Nat × Nat)} {ps : List Nat} {p : Nat} (ha : ps.Pairwise (· < ·)) (hp : p ∈ ps) (hc : ∀ x, x ∈ ps → Conn bs (· ∈ ps) p x) (h2 : 2 ≤ ps.length) : ∃ v, v ∈ ps ∧ v ≠ p ∧ ∃ l, Pcs bs (mask ps ^^^ 2 ^ v) l ∧ l.length = 1 := by
  have nd : ps.Nodup := ha.imp fun h e => by omega
  obtain ⟨l, h1, hnd, h3, h4, h5⟩ := grown hp nd hc (ps.length - 2) (by omega)
  have hex : ∃ v, v ∈ ps ∧ v ∉ l := Classical.byContradiction fun hno => by
    have hall : ∀ x, x ∈ ps → x ∈ l := fun x hx => Classical.byContradiction fun h => hno ⟨x, hx, h⟩
    have := sub_le nd hall
    omega
  obtain ⟨v, hv, hvl⟩ := hex
  have hvp : v ≠ p := fun e => hvl (e ▸ h4)
  -- the others are l
  have hmem : ∀ x, x ∈ ps.filter (fun x => decide (x ≠ v)) → x ∈ l := fun x hx => Classical.byContradiction fun hxl => by
    rw [List.mem_filter, decide_eq_true_eq] at hx
    have nd3 : (x :: v :: l).Nodup := List.nodup_cons.mpr ⟨fun h => by
      rcases List.mem_cons.mp h with e | e
      · exact hx.2 e
      · exact hxl e, List.nodup_cons.mpr ⟨hvl, hnd⟩⟩
    have hall : ∀ y, y ∈ x :: v :: l → y ∈ ps := fun y hy => by
      rcases List.mem_cons.mp hy with e | e
      · rw [e]; exact hx.1
      · rcases List.mem_cons.mp e with e | e
        · rw [e]; exact hv
        · exact h3 y e
    have := sub_le nd3 hall
    simp only [List.length_cons] at this
    omega
  have hm2 : ∀ x, x ∈ l → x ∈ ps.filter (fun x => decide (x ≠ v)) := fun x hx => by
    rw [List.mem_filter, decide_eq_true_eq]
    exact ⟨h3 x hx, fun e => hvl (e ▸ hx)⟩
  refine ⟨v, hv, hvp, [mask (ps.filter fun x => decide (x ≠ v))], ?_, rfl⟩
  rw [← mask_less ha hv]
  exact pcs_one (ha.filter _) (hm2 p h4) fun x hx => (h5 x (hmem x hx)).mono hm2
theorem two_le {l : List Nat} {u v : Nat} (hu : u ∈ l) (hv : v ∈ l) (h : u ≠ v) : 2 ≤ l.length := by
  match l, hu, hv with
  | [], hu, _ => cases hu
  | [x], hu, hv => exact absurd ((List.mem_singleton.mp hu).trans (List.mem_singleton.mp hv).symm) h
  | _ :: _ :: _, _, _ => simp
/-- of a lot of two places at least that hangs together, two places at least are no cut places -/
theorem two_free {bs : List (Nat × Nat)} {ps l : List Nat} (ha : ps.Pairwise (· < ·)) (hl : Pcs bs (mask ps) l) (h1 : l.length = 1) (h2 : 2 ≤ ps.length) :
    2 ≤ ps.length - (ps.filter fun p => decide ((pcs bs (mask ps)).length < (pcs bs (mask ps ^^^ 2 ^ p)).length)).length := by
  have hn : ∃ p, p ∈ ps := by
    cases ps with
    | nil => cases h2
    | cons p r => exact ⟨p, List.mem_cons_self⟩
  obtain ⟨p, hp⟩ := hn
  obtain ⟨u, hu, _, lu, hlu, hlu1⟩ := other ha hp (fun x hx => one_pcs ha hl h1 hp hx) h2
  obtain ⟨v, hv, hvu, lv, hlv, hlv1⟩ := other ha hu (fun x hx => one_pcs ha hl h1 hu hx) h2
  have hsum := filt_sum (fun p => decide ((pcs bs (mask ps)).length < (pcs bs (mask ps ^^^ 2 ^ p)).length)) ps
  have m1 : ∀ w lw, w ∈ ps → Pcs bs (mask ps ^^^ 2 ^ w) lw → lw.length = 1 → w ∈ ps.filter (fun p => !decide ((pcs bs (mask ps)).length < (pcs bs (mask ps ^^^ 2 ^ p)).length)) := fun w lw hw hlw e => by
    rw [List.mem_filter]
    refine ⟨hw, ?_⟩
    rw [hl.eq, hlw.eq, h1, e]
    rfl
  have := two_le (m1 u lu hu hlu hlu1) (m1 v lv hv hlv hlv1) (fun e => hvu e.symm)
  omega
end Mk

set_option Elab.async false
set_option linter.all false
set_option maxRecDepth 100000
set_option maxHeartbeats 4000000
/-! My3: what pieces are: apart, all, each of them hanging together, by their least places. -/
namespace Mk
structure Parted (bs : List (Nat × Nat)) (m : Nat) (qs : List Nat) : Prop where
  all : ∀ x, m.testBit x = true ↔ ∃ q, q ∈ qs ∧ q.testBit x = true
  apart : qs.Pairwise fun a b => ∀ x, a.testBit x = true → b.testBit x = true → False
  asc : qs.Pairwise fun a b => ∃ x, a.testBit x = true ∧ ∀ y, b.testBit y = true → x < y
  one : ∀ q, q ∈ qs → ∃ x, q.testBit x = true ∧ ∀ y, q.testBit y = true → Conn bs (In q) x y
theorem Pcs.parted {bs : List (Nat × Nat)} {m : Nat} {qs : List Nat} (h : Pcs bs m qs) : Parted bs m qs := by
  induction h with
  | nil => exact ⟨fun x => by simp, .nil, .nil, fun q hq => nomatch hq⟩
  | @cons m q p l hq hlow hR hP ih =>
    have hsub := hR.sub
    have hqp : p.testBit q = true := (hR q).mpr ⟨q, by simp [Nat.testBit_two_pow], .refl hq⟩
    have hx := fun z => xor_sub hsub z
    have hin : ∀ r, r ∈ l → ∀ z, r.testBit z = true → m.testBit z = true ∧ p.testBit z = false := fun r hr z hz => (hx z).mp ((ih.all z).mpr ⟨r, hr, hz⟩)
    refine ⟨fun x => ?_, ?_, ?_, fun r hr => ?_⟩
    · constructor
      · intro hm
        cases hp : p.testBit x with
        | true => exact ⟨p, List.mem_cons_self, hp⟩
        | false =>
          obtain ⟨r, hr, hrx⟩ := (ih.all x).mp ((hx x).mpr ⟨hm, hp⟩)
          exact ⟨r, List.mem_cons_of_mem _ hr, hrx⟩
      · rintro ⟨r, hr, hrx⟩
        rcases List.mem_cons.mp hr with e | e
        · rw [e] at hrx; exact hsub x hrx
        · exact (hin r e x hrx).1
    · rw [List.pairwise_cons]
      refine ⟨fun r hr z h1 h2 => ?_, ih.apart⟩
      have := (hin r hr z h2).2
      rw [h1] at this
      cases this
    · rw [List.pairwise_cons]
      refine ⟨fun r hr => ⟨q, hqp, fun y hy => ?_⟩, ih.asc⟩
      obtain ⟨h1, h2⟩ := hin r hr y hy
      rcases Nat.lt_trichotomy q y with e | e | e
      · exact e
      · rw [← e, hqp] at h2; cases h2
      · rw [hlow y e] at h1; cases h1
    · rcases List.mem_cons.mp hr with e | e
      · subst e
        refine ⟨q, hqp, fun y hy => ?_⟩
        obtain ⟨z, hz, c⟩ := (hR y).mp hy
        rw [Nat.testBit_two_pow, decide_eq_true_eq] at hz
        subst hz
        refine (c.closed (T := In r) hqp fun a b ha hb2 ad => ?_).1
        obtain ⟨z, hz, c2⟩ := (hR a).mp ha
        exact (hR b).mpr ⟨z, hz, .step c2 ad hb2⟩
      · exact ih.one r e
/-- more borders, what hangs together still does -/
theorem Conn.more {bs bs' : List (Nat × Nat)} {S : Nat → Prop} {p q : Nat} (k : ∀ b, b ∈ bs → b ∈ bs') (h : Conn bs S p q) : Conn bs' S p q := by
  induction h with
  | refl h => exact .refl h
  | step _ a h2 ih =>
    refine .step ih ?_ h2
    unfold adj at a ⊢
    rw [List.contains_iff_mem] at a ⊢
    exact k _ a
end Mk

set_option Elab.async false
set_option linter.all false
set_option maxRecDepth 100000
set_option maxHeartbeats 4000000
/-! Tu: sets of tuples of ints as large as a table of 128 slots holds them (76): the library's own rule ends below 64. Hashes of the keys are unlike: a search asks one entry. -/
namespace Tu
open PySem PySem.Spec PyProof.Rows L2
section
variable {P : Program} {w : World} {A : Around} {E : Value → Shared → Prop} {s : Shared}
/-- a set of tuples on a heap, the tuples' objects aside -/
structure Lies (P : Program) (w : World) (h : Heap) (a : Addr) (L : List (Addr × List Int)) (es : Array (Int × Value)) (ep : Nat) (t : SetTable) : Prop where
  obj : ∃ o, h.get? a = some o ∧ o.ExactSet ∧ o.data = .set es ep t
  row : es.toList = rowsOf P w L
  tbl : TabOk t (L.map fun p => thash P w p.2)
  one : (L.map (·.2)).Nodup
  pln : t.plain = true
  ord : w.params.followText "set-order" = true ∨ t.led = true
  gap : L.length * 5 < t.mask * 3
theorem rows_num {L : List (Addr × List Int)} {es : Array (Int × Value)} (e : es.toList = rowsOf P w L) : es.size = L.length := by
  rw [← Array.length_toList, e, rowsOf, List.length_map]
theorem rows_ent {L : List (Addr × List Int)} {es : Array (Int × Value)} (e : es.toList = rowsOf P w L) {i : Nat} {p : Addr × List Int} (h : L[i]? = some p) : es[i]? = some (thash P w p.2, Value.ref p.1) := by
  rw [← Array.getElem?_toList, e, rowsOf, List.getElem?_map, h]
  rfl
variable {a : Addr} {L : List (Addr × List Int)} {es : Array (Int × Value)} {ep : Nat} {t : SetTable}
theorem fits_of (hz : t.place.size = es.size) (hd : t.dummies = #[]) (hm : es.size ≤ t.mask) : t.fits es.size = true := by
  unfold SetTable.fits SetTable.fill
  rw [hd, hz]
  simp [hm]
theorem Lies.plc (Z : Lies P w s.heap a L es ep t) : t.place.size = es.size := by
  rw [Z.tbl.sz, List.length_map, rows_num Z.row]
theorem Lies.num (Z : Lies P w s.heap a L es ep t) : L.length ≤ 76 := by
  have g := Z.gap
  rcases Z.tbl.mok with e | e | e <;> rw [e] at g <;> omega
theorem Lies.fit (Z : Lies P w s.heap a L es ep t) : t.fits es.size = true :=
  fits_of Z.plc Z.tbl.dm (by have := Z.gap; have := rows_num Z.row; omega)

/-! ### a search -/
theorem seek (Z : Lies P w s.heap a L es ep t) (tt : ∀ p ∈ L, IsT P w s.heap p.2 p.1) {x : Addr} {k : List Int} (hx : IsT P w s.heap k x) (hu : A.units < cLine)
    (inj : ∀ p ∈ L, thash P w p.2 = thash P w k → p.2 = k) {Q : SetFound → Shared → Prop} (yes : k ∈ L.map (·.2) → Q (.there none) s)
    (no : ∀ K, k ∉ L.map (·.2) → way t.mask (thash P w k) K ∉ t.place.toList → (∀ c, c < K → way t.mask (thash P w k) c ∈ t.place.toList) → Q (.free (way t.mask (thash P w k) K) false) s) :
    wpAny (model P w) A (setSearch a (.ref x) (thash P w k) true) Q E s := by
  obtain ⟨o, ho, hex, hd⟩ := Z.obj
  obtain ⟨K, f1, f2, f3⟩ := Z.tbl.first (by have := Z.gap; rw [List.length_map]; omega) (thash P w k)
  unfold setSearch
  show wpAny (model P w) A (setSearchFrom a (.ref x) (thash P w k) true (99999 + 1) none) Q E s
  rw [setSearchFrom_succ]
  refine wpAny_bind (wpAny_setState_of ho hd Z.fit ?_)
  dsimp only
  refine wp_if_neg (by unfold SetTable.gaveWay; rw [mask_odd Z.tbl.mok]; decide) ?_
  try refine wpAny_bind (wpAny_pure ?_)
  have word := go_spec t Z.tbl.ris Z.tbl.dm (fun i => (es[i]?.map (·.1)).getD 0) (thash P w k) (10 * SetTable.turns t.mask) K (t.probeStart (thash P w k)) rfl f1 f3 f2
  rcases word with ⟨q, i, hq, hi, hh, -, pr⟩ | ⟨hn, pr⟩
  · have pr2 : t.probe (fun i => (es[i]?.map (·.1)).getD 0) (thash P w k) ((none : Option SetTable.Probe).getD (t.probeStart (thash P w k))) = _ := pr
    rw [pr2]
    dsimp only
    have hil : i < L.length := by
      have z := (List.getElem?_eq_some_iff.mp hi).1
      rw [Array.length_toList, Z.plc, rows_num Z.row] at z
      exact z
    have hL := List.getElem?_eq_getElem hil
    have hmem := List.getElem_mem hil
    generalize L[i] = p at hL hmem
    have hent := rows_ent Z.row hL
    have hkey : p.2 = k := inj p hmem (by
      simp only [hent] at hh
      exact hh)
    have last : wpAny (model P w) A (searchRest a (.ref x) (thash P w k) true 99999 es t (nth t.mask (t.probeStart (thash P w k)) q).j i (nth t.mask (t.probeStart (thash P w k)) (q + 1))) Q E s := by
      unfold searchRest
      rw [hent]
      refine wpAny_bind (wpAny_holding (wpAny_eqBool_tuple hu (tt p hmem) hx ?_))
      refine wpAny_bind (wpAny_setState_of ho hd Z.fit ?_)
      exact wp_if_pos (by simp [hkey]) (wpAny_pure (yes (List.mem_map.mpr ⟨p, hmem, hkey⟩)))
    cases hl : t.led with
    | true =>
      refine wp_if_neg (by simp) ?_
      try refine wpAny_bind (wpAny_pure ?_)
      exact last
    | false =>
      refine wp_if_pos (by simp) (wpAny_bind (seen_tup hx (fun y hy => ?_) ?_))
      · obtain ⟨e, he, rfl⟩ := List.mem_map.mp hy
        have h1 : e ∈ es.toList := by
          have z : e ∈ es ∧ e.1 = thash P w k := by simpa using he
          simpa using z.1
        rw [Z.row] at h1
        obtain ⟨p2, hp2, rfl⟩ := List.mem_map.mp h1
        exact ⟨p2.2, p2.1, rfl, tt p2 hp2⟩
      · refine wp_if_neg Bool.false_ne_true ?_
        try refine wpAny_bind (wpAny_pure ?_)
        exact last
  · have pr2 : t.probe (fun i => (es[i]?.map (·.1)).getD 0) (thash P w k) ((none : Option SetTable.Probe).getD (t.probeStart (thash P w k))) = _ := pr
    rw [pr2]
    refine wpAny_pure (no K (fun hm => ?_) f2 f3)
    obtain ⟨p, hp, hk⟩ := List.mem_map.mp hm
    obtain ⟨i, hi, rfl⟩ := List.getElem_of_mem hp
    have hL := List.getElem?_eq_getElem hi
    have hil : i < t.place.toList.length := by
      rw [Array.length_toList, Z.plc, rows_num Z.row]
      exact hi
    have hj := List.getElem?_eq_getElem hil
    obtain ⟨c, hc, e⟩ := Z.tbl.before f2 (h := thash P w k) (by rw [List.getElem?_map, hL, ← hk]; rfl) hj
    refine hn c i hc (by rw [hj, ← e]; rfl) ?_
    simp only [rows_ent Z.row hL]
    exact congrArg (thash P w) hk

/-! ### a larger table -/
theorem regrow {o : Obj} (ho : s.heap.get? a = some o) (hex : o.ExactSet) (hd : o.data = .set es ep t) (hr : es.toList = rowsOf P w L) (hz : t.place.size = es.size) (hdm : t.dummies = #[]) (hm : es.size ≤ t.mask)
    (nd : (L.map (·.2)).Nodup) (hp : t.plain = true) (hl : w.params.followText "set-order" = true ∨ t.led = true) {want M : Nat} (hw : SetTable.sizeAbove want = M + 1) (hM : MaskOk M) (hg : L.length * 5 < M * 3) {Q : Unit → Shared → Prop}
    (hQ : ∀ h' L' es' ep' t', Heap.SameBut a s.heap h' → Lies P w h' a L' es' ep' t' → L'.Perm L → Q () { s with heap := h' }) : wpAny (model P w) A (setRelay a want) Q E s := by
  have hn := rows_num hr
  have hM2 : M ≤ 127 := by rcases hM with e | e | e <;> omega
  obtain ⟨t', order, e1, e2, e3, e4, e5, e6, -⟩ := relaid_ok t (hs := es.map (·.1)) (wanted := want) (by rw [hw]; rfl) hM (by rw [Array.size_map, hn]; omega)
  rw [Array.size_map, hn] at e2
  obtain ⟨N, r1, r2, r3⟩ := order_rows L es order hr e2
  rw [← r3] at e3
  have hs2 : (order.filterMap (es[·]?)).size = es.size := by rw [rows_num r1, r2.length_eq, hn]
  rw [setRelay_eq]
  refine wpAny_bind (wpAny_setState_of ho hd (fits_of hz hdm hm) ?_)
  dsimp only
  refine wp_if_neg (by rw [hw, sizeLine_eq]; omega) ?_
  try refine wpAny_bind (wpAny_pure ?_)
  rw [e1]
  dsimp only
  refine wpAny_bind (wp_if_neg (by rw [hs2]; simp) ?_)
  try refine wpAny_bind (wpAny_pure ?_)
  refine wpAny_pure (wpAny_storeSet_of ho hd ?_ (by rw [hs2, hn, sizeLine_eq]; omega))
  refine hQ _ N (order.filterMap (es[·]?)) (ep + 1) t' (Heap.SameBut.update ..) ⟨⟨_, store_at ho hd, ⟨hex.1, hex.2.1, hex.2.2⟩, rfl⟩, r1, e3, (r2.map (·.2)).nodup_iff.mpr nd, by rw [e6]; exact hp, by rw [e5]; exact hl, ?_⟩ r2
  rw [r2.length_eq, e4]
  exact hg

/-! ### one more -/
theorem put_in (Z : Lies P w s.heap a L es ep t) (tt : ∀ p ∈ L, IsT P w s.heap p.2 p.1) {x : Addr} {k : List Int} (hx : IsT P w s.heap k x) (hu : A.units < cLine)
    (inj : ∀ p ∈ L, thash P w p.2 = thash P w k → p.2 = k) (few : k ∉ L.map (·.2) → L.length < 76) {Q : Bool → Shared → Prop}
    (old : k ∈ L.map (·.2) → Q false s) (new : k ∉ L.map (·.2) → ∀ h' N es' ep' t', Heap.SameBut a s.heap h' → Lies P w h' a N es' ep' t' → N.Perm ((x, k) :: L) → Q true { s with heap := h' }) :
    wpAny (model P w) A (setAddHashed a (.ref x) (thash P w k)) Q E s := by
  obtain ⟨o, ho, hex, hd⟩ := Z.obj
  have hn := rows_num Z.row
  unfold setAddHashed
  refine wpAny_holding ?_
  show wpAny (model P w) A (setAddHashedIn a (.ref x) (thash P w k) (99999 + 1)) Q E s
  rw [setAddHashedIn_succ]
  refine wpAny_bind (wpAny_setState_of ho hd Z.fit ?_)
  dsimp only
  refine wp_if_neg (by simp [byScan, Value.scannable]) ?_
  try refine wpAny_bind (wpAny_pure ?_)
  refine wpAny_bind (seek Z tt hx hu inj (fun h => wpAny_pure (old h)) fun K hk n1 n2 => ?_)
  have few := few hk
  have put := Z.tbl.put n1 n2
  generalize way t.mask (thash P w k) K = at_ at put ⊢
  dsimp only
  refine wpAny_bind (wpAny_setState_of ho hd Z.fit ?_)
  dsimp only
  obtain ⟨u1, u2, u3, u4, u5, u6, -, -, u9⟩ := put
  have pl : (t.put at_).1.plain = true := by rw [u6]; exact Z.pln
  have od : w.params.followText "set-order" = true ∨ (t.put at_).1.led = true := by rw [u5]; exact Z.ord
  have h1 : (SetTable.insertAt es (SetTable.below t.place at_) (thash P w k, Value.ref x)).toList = rowsOf P w (L.take (SetTable.below t.place at_) ++ (x, k) :: L.drop (SetTable.below t.place at_)) := by
    rw [SetTable.toList_insertAt, rows_put, Z.row]
  have h2 := put_perm L (SetTable.below t.place at_) (x, k)
  have h3 : (L.map fun p => thash P w p.2).take (SetTable.below t.place at_) ++ thash P w k :: (L.map fun p => thash P w p.2).drop (SetTable.below t.place at_) = (L.take (SetTable.below t.place at_) ++ (x, k) :: L.drop (SetTable.below t.place at_)).map fun p => thash P w p.2 := by
    simp [List.map_take, List.map_drop]
  rw [h3] at u3
  clear h3
  rw [List.length_map] at u9
  generalize t.put at_ = pt at u1 u3 u4 u5 u6 u9 pl od ⊢
  obtain ⟨t1, b⟩ := pt
  dsimp only at u1 u3 u4 u5 u6 u9 pl od ⊢
  subst u1
  generalize SetTable.insertAt es (SetTable.below t.place at_) (thash P w k, Value.ref x) = es1 at h1 ⊢
  generalize L.take (SetTable.below t.place at_) ++ (x, k) :: L.drop (SetTable.below t.place at_) = N at h1 h2 u3
  have hN : N.length = L.length + 1 := h2.length_eq
  have he1 : es1.size = L.length + 1 := by rw [rows_num h1, hN]
  have nd : (N.map (·.2)).Nodup := by
    rw [(h2.map (·.2)).nodup_iff]
    exact List.nodup_cons.mpr ⟨hk, Z.one⟩
  first
    | (refine wpAny_bind ?_; refine wp_if_pos pl ?_; refine hashBy_tup hx ?_)
    | refine wp_if_pos pl (wpAny_bind (hashBy_tup hx ?_))
  simp only [if_true]
  refine wpAny_bind (wpAny_storeSet_of ho hd ?_ (by rw [he1, sizeLine_eq]; omega))
  have sb : Heap.SameBut a s.heap (s.heap.update a (Obj.putSet es1 t1)) := Heap.SameBut.update ..
  have ho1 := store_at (es' := es1) (t' := t1) ho hd
  generalize s.heap.update a (Obj.putSet es1 t1) = g1 at sb ho1 ⊢
  have gap := Z.gap
  cases hf : t1.tooFull with
  | false =>
    first
      | refine wp_if_neg (by simp) ?_
      | (refine wpAny_bind ?_; refine wp_if_neg (by simp) ?_; refine wpAny_pure ?_)
    refine wpAny_pure (new hk g1 N es1 (ep + 1) t1 sb ⟨⟨_, ho1, ⟨hex.1, hex.2.1, hex.2.2⟩, rfl⟩, h1, u3, nd, pl, od, ?_⟩ h2)
    unfold SetTable.tooFull at hf
    rw [decide_eq_false_iff_not, u9] at hf
    omega
  | true =>
    unfold SetTable.tooFull at hf
    rw [decide_eq_true_eq, u9, u4] at hf
    have two : (t.mask = 7 ∧ L.length = 4) ∨ (t.mask = 31 ∧ L.length = 18) := by
      rcases Z.tbl.mok with e | e | e
      · exact .inl ⟨e, by omega⟩
      · exact .inr ⟨e, by omega⟩
      · omega
    have hz1 : t1.place.size = es1.size := by rw [u3.sz, List.length_map, hN, he1]
    have grow : ∃ M, SetTable.sizeAbove (SetTable.grown (es.size + 1)) = M + 1 ∧ MaskOk M ∧ N.length * 5 < M * 3 := by
      rw [hn, hN]
      rcases two with ⟨_, e⟩ | ⟨_, e⟩ <;> rw [e]
      · exact ⟨31, size_20, .inr (.inl rfl), by decide⟩
      · exact ⟨127, size_76, .inr (.inr rfl), by decide⟩
    obtain ⟨M, g2, g3, g4⟩ := grow
    have go : wpAny (model P w) A (setRelay a (SetTable.grown (es.size + 1))) (fun _ s' => wpAny (model P w) A (pure true) Q E s') E { s with heap := g1 } :=
      regrow (s := { s with heap := g1 }) ho1 ⟨hex.1, hex.2.1, hex.2.2⟩ rfl h1 hz1 u3.dm (by rw [he1, u4]; rcases two with ⟨e, e2⟩ | ⟨e, e2⟩ <;> omega) nd pl od g2 g3 g4 fun h' N' es' ep' t' sb2 Z2 pm =>
        wpAny_pure (new hk h' N' es' ep' t' (sb.trans sb2) Z2 (pm.trans h2))
    first
      | (refine wpAny_bind ?_; refine wp_if_pos (by simp) ?_; exact go)
      | (refine wp_if_pos (by simp) ?_; refine wpAny_bind ?_; exact go)
end
end Tu

set_option Elab.async false
set_option linter.all false
set_option maxRecDepth 100000
set_option maxHeartbeats 4000000
/-! Tu2: set(xs) of a list of tuples, sorted of it. -/
namespace Tu
open PySem PySem.Spec PyProof.Rows L2
/-- the keys that may come: not too many, of unlike hashes -/
structure Dom (P : Program) (w : World) (D : List (List Int)) : Prop where
  few : D.length ≤ 76
  inj : ∀ k, k ∈ D → ∀ m, m ∈ D → thash P w k = thash P w m → k = m
theorem len_sub {α : Type} [DecidableEq α] : ∀ {l D : List α}, l.Nodup → (∀ x, x ∈ l → x ∈ D) → l.length ≤ D.length
  | [], _, _, _ => Nat.zero_le _
  | x :: l, D, n, h => by
    have n' := List.nodup_cons.mp n
    have hx := h x List.mem_cons_self
    have q := len_sub (D := D.erase x) n'.2 fun y hy => (List.mem_erase_of_ne (fun e => n'.1 (by rw [← e]; exact hy))).mpr (h y (List.mem_cons_of_mem _ hy))
    rw [List.length_erase_of_mem hx] at q
    have := List.length_pos_of_mem hx
    rw [List.length_cons]
    omega
section
variable {P : Program} {w : World} {A : Around} {E : Value → Shared → Prop} {s : Shared}
theorem Lies.on {h h' : Heap} {a : Addr} {L : List (Addr × List Int)} {es : Array (Int × Value)} {ep : Nat} {t : SetTable} (Z : Lies P w h a L es ep t) (k : ∀ o, h.get? a = some o → h'.get? a = some o) : Lies P w h' a L es ep t :=
  ⟨let ⟨o, h1, h2⟩ := Z.obj; ⟨o, k o h1, h2⟩, Z.row, Z.tbl, Z.one, Z.pln, Z.ord, Z.gap⟩
/-- the set at S has what the first i items of ks are; what stood at h0 stands -/
structure Stage (P : Program) (w : World) (D : List (List Int)) (ks : List (Addr × List Int)) (S : Addr) (h0 : Heap) (i : Nat) (h : Heap) : Prop where
  old : ∀ b o, h0.get? b = some o → h.get? b = some o
  set_ : ∃ L es ep t, Lies P w h S L es ep t ∧ Got ks i L
/-- what stays over all steps -/
structure Base (P : Program) (w : World) (D : List (List Int)) (ks : List (Addr × List Int)) (S : Addr) (h0 : Heap) : Prop where
  dom : Dom P w D
  tup : ∀ p ∈ ks, IsT P w h0 p.2 p.1
  sub : ∀ p ∈ ks, p.2 ∈ D
  new : h0.get? S = none
variable {D : List (List Int)} {ks : List (Addr × List Int)} {S : Addr} {h0 : Heap} {i : Nat}
theorem Stage.moved {h h' : Heap} (B : Base P w D ks S h0) (Z : Stage P w D ks S h0 i h) (k1 : ∀ o, h.get? S = some o → h'.get? S = some o) (k2 : ∀ b o, h0.get? b = some o → h.get? b = some o → h'.get? b = some o) : Stage P w D ks S h0 i h' :=
  ⟨fun b o e => k2 b o e (Z.old b o e), let ⟨L, es, ep, t, z, g⟩ := Z.set_; ⟨L, es, ep, t, z.on k1, g⟩⟩
theorem stage_add (B : Base P w D ks S h0) (Z : Stage P w D ks S h0 i s.heap) {p : Addr × List Int} (hp : ks[i]? = some p) (hu : A.units < cLine) {Q : Bool → Shared → Prop}
    (hQ : ∀ b h' tk, Heap.SameBut S s.heap h' → Stage P w D ks S h0 (i + 1) h' → s.toks ≤ tk → Q b { s with heap := h', toks := tk }) : wpAny (model P w) A (setAdd S (.ref p.1)) Q E s := by
  obtain ⟨L, es, ep, t, z, g⟩ := Z.set_
  have hin := List.mem_of_getElem? hp
  have up : ∀ {k b}, IsT P w h0 k b → IsT P w s.heap k b := fun x => isT_keep x Z.old
  have inL : ∀ q ∈ L, q ∈ ks := fun q hq => List.mem_of_mem_take (g.sub q hq)
  have hx := up (B.tup p hin)
  have keep : ∀ h', Heap.SameBut S s.heap h' → ∀ b o, h0.get? b = some o → h'.get? b = some o := fun h' sb b o e => by
    refine (sb.2 b fun q => ?_).trans (Z.old b o e)
    rw [q, B.new] at e
    cases e
  unfold setAdd
  refine wpAny_holding (wpAny_bind (wpAny_pyHash_tuple hu hx ?_))
  refine put_in (s := { s with toks := s.toks + (p.2.length + 1) }) z (fun q hq => up (B.tup q (inL q hq))) hx hu (fun q hq e => B.dom.inj _ (B.sub q (inL q hq)) _ (B.sub p hin) e) (fun hm => ?_) (fun hm => ?_) fun hm h' N es' ep' t' sb z' pm => ?_
  · have q := len_sub (l := p.2 :: L.map (·.2)) (D := D) (List.nodup_cons.mpr ⟨hm, z.one⟩) fun k hk => by
      rcases List.mem_cons.mp hk with e | e
      · exact e ▸ B.sub p hin
      · obtain ⟨r, hr, e2⟩ := List.mem_map.mp e
        exact e2 ▸ B.sub r (inL r hr)
    have := B.dom.few
    rw [List.length_cons, List.length_map] at q
    omega
  · exact hQ false s.heap _ (.refl S s.heap) ⟨Z.old, L, es, ep, t, z, g.same hp hm⟩ (Nat.le_add_right _ _)
  · exact hQ true h' _ sb ⟨keep h' sb, N, es', ep', t', z', g.more hp pm⟩ (Nat.le_add_right _ _)

/-! ### the loop of set.update -/
theorem fill {I : Addr} {fp wr : List Addr} {G : Array GenState → Array GenState → Prop} {Pv : Nat → Value → Prop} {St : Nat → Shared → Prop} {R : Result → Shared → Prop}
    (W : WalksS P w A.in1 I fp wr G ks.length Pv St) (B : Base P w D ks S h0) (hS : S ∉ fp) (val : ∀ i v, Pv i v → ∃ p, ks[i]? = some p ∧ v = .ref p.1) (hw : ∀ b ∈ wr, h0.get? b = none) (hu : A.in1.units < cLine) (m : Nat) :
    ∀ (i : Nat) (s : Shared), i + m = ks.length → St i s → Stage P w D ks S h0 i s.heap → (∀ s', Moved (S :: wr) G s s' → Stage P w D ks S h0 ks.length s'.heap → R (.ok (.ret .none)) s') →
      codeAny (model P w) A (.builtin "set.update.loop" ⟨[.ref S, .ref I], []⟩) R s := by
  have nS : S ∉ wr := fun h => hS (W.sub _ h)
  have wide : ∀ b ∈ wr, b ∈ S :: wr := fun b => List.mem_cons_of_mem S
  have over : ∀ {s s' : Shared} {i : Nat}, Moved wr G s s' → Stage P w D ks S h0 i s.heap → Stage P w D ks S h0 i s'.heap := fun mv z =>
    z.moved B (fun o e => mv.heap S o nS e) fun b o e1 e2 => mv.heap b o (fun hb => by rw [hw b hb] at e1; cases e1) e2
  induction m with
  | zero =>
    intro i s hm hst z hR
    obtain rfl : i = ks.length := by omega
    refine codeAny_builtin F.entry_set_update_loop (by
      rw [Around.under_plainId F.plain_set_update_loop _]
      exact (show wpAny _ A.in1 (pyNext (.ref I) >>= _) _ _ s from wpAny_bind (W.done s _ _ hst fun s' mv => wpAny_pure (hR s' (mv.mono wide) (over mv z)))))
  | succ m ih =>
    intro i s hm hst z hR
    refine codeAny_builtin F.entry_set_update_loop ?_
    rw [Around.under_plainId F.plain_set_update_loop _]
    refine (show wpAny _ A.in1 (pyNext (.ref I) >>= _) _ _ s from wpAny_bind (W.item i s _ _ (by omega) hst fun v s' hv hst' mv => ?_))
    obtain ⟨p, hp, rfl⟩ := val i v hv
    refine (show wpAny _ A.in1 (holding [Value.ref p.1] (setAdd S (.ref p.1)) >>= _) _ _ s' from wpAny_bind (wpAny_holding (stage_add B (over mv z) hp hu fun b h' tk sb z' ht => ?_)))
    have other : ∀ c, c ≠ S → h'.get? c = s'.heap.get? c := fun c hc => sb.2 c hc
    refine wpAny_pure ⟨plainId_quiet F.plain_set_update_loop _, ih (i + 1) _ (by omega) (W.frame _ s' _ _ hst' ht fun c hc o e => ?_) z' fun s'' mv2 z2 => hR s'' (Moved.trans W.gtrans ((mv.mono wide).then_heap ht fun c o hc e => ?_) mv2) z2⟩
    · exact (other c fun q => hS (q ▸ hc)).trans e
    · exact (other c fun q => hc (q ▸ List.mem_cons_self)).trans e
end
end Tu

set_option Elab.async false
set_option linter.all false
set_option maxRecDepth 100000
set_option maxHeartbeats 4000000
/-! Tu3: the call set(xs) and sorted of that set, as rules of the layer. -/
namespace Tu
open PySem PySem.Spec PyProof.Rows L2
section
variable {P : Program} {w : World} {A : Around} {E : Value → Shared → Prop} {s : Shared} {D : List (List Int)} {ks : List (Addr × List Int)}
/-- a set as it is made -/
abbrev bare (w : World) : Obj := { cls := .type "set", dict := none, data := .set #[] 0 (.fresh 0 0 (!w.params.followText "set-order")) }
theorem bare_lies {h : Heap} {a : Addr} (e : h.get? a = some (bare w)) : Lies P w h a [] #[] 0 (.fresh 0 0 (!w.params.followText "set-order")) := by
  refine ⟨⟨_, e, ⟨rfl, rfl, rfl⟩, rfl⟩, rfl, ⟨.nil, rfl, rfl, .inl rfl, (fun x hx => nomatch hx), (fun i h j hi => nomatch hi)⟩, .nil, rfl, ?_, by show 0 * 5 < 7 * 3; decide⟩
  show _ ∨ (!w.params.followText "set-order") = true
  cases w.params.followText "set-order"
  · exact .inr rfl
  · exact .inl rfl
theorem val_at {items : Array Value} (e : items.toList = ks.map fun p => Value.ref p.1) (i : Nat) (v : Value) (h : items[i]? = some v) : ∃ p, ks[i]? = some p ∧ v = .ref p.1 := by
  rw [← Array.getElem?_toList, e, List.getElem?_map, Option.map_eq_some_iff] at h
  obtain ⟨p, h1, h2⟩ := h
  exact ⟨p, h1, h2.symm⟩
theorem beyond {h : Heap} {b : Addr} (hb : h.objs.size ≤ b) : h.get? b = none := by
  cases q : h.get? b with
  | none => rfl
  | some o => exact absurd (Heap.lt_size q) (Nat.not_lt.mpr hb)
/-- set.__init__ of the list, the bare set at the heap's end -/
theorem init_list {l : Addr} {items : Array Value} (hh : A.handled = none) (hl : s.heap.IsList l items) (hit : items.toList = ks.map fun p => Value.ref p.1) (hk : ∀ p ∈ ks, IsT P w s.heap p.2 p.1) (dm : Dom P w D) (hD : ∀ p ∈ ks, p.2 ∈ D) (hu : A.units + 1 < cLine)
    {R : PySem.Fin → Shared → Prop} (h : ∀ h' tk, Stage P w D ks s.heap.objs.size s.heap ks.length h' → R (.done (.ret .none)) { s with heap := h', toks := tk }) :
    wpAny (model P w) A (Builtin.«set.__init__» ⟨[.ref s.heap.objs.size, .ref l], []⟩) R E { s with heap := s.heap.push (bare w) } := by
  have fresh : s.heap.get? s.heap.objs.size = none := beyond (Nat.le_refl _)
  have at0 : (s.heap.push (bare w)).get? s.heap.objs.size = some (bare w) := Heap.get?_push_size _ rfl
  have size : (s.heap.push (bare w)).objs.size = s.heap.objs.size + 1 := Heap.size_push ..
  have kind : Shared.TypeIs { s with heap := s.heap.push (bare w) } (.ref s.heap.objs.size) "set" := ⟨_, at0, rfl⟩
  obtain ⟨⟨cl, dc, dt, sl⟩, lo, rfl, n, rfl⟩ := hl
  have llt := Heap.lt_size lo
  have lo1 := Heap.get?_push_of_some (bare w) lo
  have list1 : (s.heap.push (bare w)).IsList l items := ⟨_, lo1, rfl, n, rfl⟩
  have no1 := F.sub_list_set
  have no2 := F.sub_list_frozenset
  have no3 : (Value.type "list" == Value.type "dict") = false := by decide
  unfold Builtin.«set.__init__» noKeywords Builtin.Frozenset.updateFrom
  generalize eI : pyIter = it
  wp_walk
  subst eI
  refine wpAny_pyIter_list list1 (wpAny_bind (wpAny_runValue ?_))
  have ne1 : l ≠ (s.heap.push (bare w)).objs.size := by rw [size]; exact Nat.ne_of_lt (Nat.lt_succ_of_lt llt)
  have num : items.size = ks.length := by rw [← Array.length_toList, hit, List.length_map]
  have W := (Walks.list (prog := P) (w := w) (A := A.in1) (by simp [hh]) (s.heap.push (bare w)).objs.size l ne1 items).toS
  rw [num] at W
  have B : Base P w D ks s.heap.objs.size s.heap := ⟨dm, hk, hD, fresh⟩
  refine fill W B (fun q => by rw [size] at q; rcases List.mem_cons.mp q with q | q; exact absurd q (Nat.ne_of_lt (Nat.lt_succ_self _)); exact absurd (List.mem_singleton.mp q) (Nat.ne_of_gt llt)) (val_at hit) (fun b hb => beyond (by rw [List.mem_singleton.mp hb, size]; exact Nat.le_succ _)) hu ks.length 0 _ (Nat.zero_add _) ⟨⟨_, Heap.get?_push_size _ rfl, rfl, rfl⟩, list1.push _⟩
    ⟨fun b o e => Heap.get?_push_of_some _ (Heap.get?_push_of_some _ e), _, _, _, _, bare_lies (Heap.get?_push_of_some _ at0), .zero ks⟩ fun s' mv z => ?_
  obtain ⟨h', g', d', tk', os'⟩ := s'
  obtain rfl : g' = s.gens := mv.gens
  obtain rfl : d' = s.drawn := mv.drawn
  obtain rfl : os' = s.os := mv.os
  exact wpAny_pure (wpAny_pure (h h' tk' z))
/-- set(xs) -/
theorem made {l : Addr} {items : Array Value} {Q : Value → Shared → Prop} (hh : A.handled = none) (hl : s.heap.IsList l items) (hit : items.toList = ks.map fun p => Value.ref p.1) (hk : ∀ p ∈ ks, IsT P w s.heap p.2 p.1) (dm : Dom P w D) (hD : ∀ p ∈ ks, p.2 ∈ D) (hu : A.units + 4 < cLine)
    (h : ∀ h' tk, Stage P w D ks s.heap.objs.size s.heap ks.length h' → Q (.ref s.heap.objs.size) { s with heap := h', toks := tk }) : wpAny (model P w) A (call (.type "set") [.ref l]) Q E s := by
  have ⟨cl, tl, mro⟩ := F.called_set.mro
  have f1 := F.called_set.made
  have f2 := F.called_set.sub
  have f3 := F.called_set.notType
  have f4 := F.called_set.canCreate
  have f5 := F.typeCall_set_1 (.ref l)
  refine wpAny_call (codeAny_of_tree (show wpAny _ _ (callAny (.type "set") _) _ _ _ from wpAny_pure ⟨Code.quiet_builtin _ (by decide +kernel), codeAny_builtin F.entry_type_call ?_⟩))
  rw [Around.under_plain (weight_type_call_type "set" [.ref l] []) rfl]
  repeat' first
    | assumption
    | wp_step
  refine codeAny_mono (code_set_led1 (.ref l) (E := E) (Q₁ := fun v s1 => v = .ref s.heap.objs.size ∧ s1 = { s with heap := s.heap.push (bare w) }) ⟨rfl, rfl⟩) fun r s1 hr => ?_
  rcases r with e | fl
  · exact hr
  · cases fl with
    | ret v =>
      obtain ⟨rfl, rfl⟩ := hr
      have at0 : (s.heap.push (bare w)).get? s.heap.objs.size = some (bare w) := Heap.get?_push_size _ rfl
      have kind : Shared.TypeIs { s with heap := s.heap.push (bare w) } (.ref s.heap.objs.size) "set" := ⟨_, at0, rfl⟩
      have g1 := F.called_set.init.lookup
      have g2 := F.called_set.init.bind (.ref s.heap.objs.size)
      repeat' first
        | assumption
        | wp_step
      refine codeAny_mono (codeAny_call_builtin (R := wants (fun r s2 => r = .none ∧ ∃ h' tk, s2 = { s with heap := h', toks := tk } ∧ Stage P w D ks s.heap.objs.size s.heap ks.length h') E) F.called_set.init.plain F.entry_set_init (check_set_init_1 kind
        (init_list (by simp [hh]) hl hit hk dm hD (by simp; omega) fun h' tk z => ⟨rfl, h', tk, rfl, z⟩))) fun r s2 hr => ?_
      rcases r with e | fl
      · exact hr
      · cases fl with
        | ret v =>
          obtain ⟨rfl, h', tk, rfl, z⟩ := hr
          repeat' first
            | assumption
            | wp_step
          exact h h' tk z
        | _ => exact hr.elim
    | _ => exact hr.elim
end
end Tu

set_option Elab.async false
set_option linter.all false
set_option maxRecDepth 100000
set_option maxHeartbeats 4000000
/-! Tu4: sorted of a set of pairs; both calls as rules of the layer. -/
namespace Tu
open PySem PySem.Spec PyProof.Rows L2
/-- one pair of ints ahead of another -/
def ahead (x y : List Int) : Prop := x.getD 0 0 < y.getD 0 0 ∨ (x.getD 0 0 = y.getD 0 0 ∧ x.getD 1 0 < y.getD 1 0)
section
variable {P : Program} {w : World} {A : Around} {E : Value → Shared → Prop} {s : Shared}
/-- the two ints that stand at an address, by a list that tells -/
def told (L : List (Addr × List Int)) (v : Value) : Int × Int := match v with
  | .ref b => match L.find? (fun p => decide (p.1 = b)) with
    | some p => (p.2.getD 0 0, p.2.getD 1 0)
    | none => (0, 0)
  | _ => (0, 0)
theorem told_at {h : Heap} {L : List (Addr × List Int)} (tt : ∀ p ∈ L, IsT P w h p.2 p.1) {p : Addr × List Int} (hp : p ∈ L) : told L (.ref p.1) = (p.2.getD 0 0, p.2.getD 1 0) := by
  show (match L.find? (fun q => decide (q.1 = p.1)) with | some q => (q.2.getD 0 0, q.2.getD 1 0) | none => (0, 0)) = _
  cases e : L.find? (fun q => decide (q.1 = p.1)) with
  | none => exact absurd (List.find?_eq_none.mp e p hp) (by simp)
  | some q =>
    have h1 : q.1 = p.1 := by simpa using List.find?_some e
    have h2 := tt q (List.mem_of_find?_eq_some e)
    rw [h1] at h2
    show (q.2.getD 0 0, q.2.getD 1 0) = _
    rw [h2.inj (tt p hp)]
theorem isPair_of {h : Heap} {k : List Int} {b : Addr} (x : IsT P w h k b) (h2 : k.length = 2) : Srt.IsPair h (.ref b) (k.getD 0 0) (k.getD 1 0) := by
  obtain ⟨o, items, n, ho, hc, hd, hi⟩ := x
  match k, h2 with
  | [i, j], _ =>
    cases hi' : items.toList with
    | nil => rw [hi'] at hi; cases hi
    | cons u us =>
      rw [hi'] at hi
      cases hi with
      | cons a1 r1 =>
        cases r1 with
        | cons a2 r2 =>
          cases r2
          obtain ⟨t1, rfl⟩ := Value.isInt_shape a1
          obtain ⟨t2, rfl⟩ := Value.isInt_shape a2
          have e : items = #[Value.int i t1, Value.int j t2] := by
            apply Array.toList_inj.mp
            rw [hi']
          exact ⟨b, o, t1, t2, n, rfl, ho, hc, by rw [hd, e]; rfl⟩
/-- lists of addresses out of others -/
theorem back {L : List (Addr × List Int)} : ∀ {vs : List Value}, (∀ v ∈ vs, ∃ p ∈ L, v = Value.ref p.1) → ∃ N : List (Addr × List Int), vs = N.map (fun p => Value.ref p.1) ∧ ∀ p ∈ N, p ∈ L
  | [], _ => ⟨[], rfl, fun _ h => nomatch h⟩
  | v :: vs, h => by
    obtain ⟨p, hp, rfl⟩ := h v List.mem_cons_self
    obtain ⟨N, rfl, hN⟩ := back (vs := vs) fun u hu => h u (List.mem_cons_of_mem _ hu)
    exact ⟨p :: N, rfl, fun q hq => by
      rcases List.mem_cons.mp hq with e | e
      · exact e ▸ hp
      · exact hN q e⟩
theorem addr_one {h : Heap} {L : List (Addr × List Int)} (tt : ∀ p ∈ L, IsT P w h p.2 p.1) {p q : Addr × List Int} (hp : p ∈ L) (hq : q ∈ L) (e : p.1 = q.1) : p = q := by
  have h1 := tt p hp
  rw [e] at h1
  exact Prod.ext e (h1.inj (tt q hq))
theorem perm_back {h : Heap} {L N : List (Addr × List Int)} (tt : ∀ p ∈ L, IsT P w h p.2 p.1) (one : (L.map (·.2)).Nodup) (hN : ∀ p ∈ N, p ∈ L) (pm : (N.map fun p => Value.ref p.1).Perm (L.map fun p => Value.ref p.1)) : N.Perm L := by
  have nL : L.Nodup := List.Pairwise.of_map (·.2) (fun _ _ hne e => hne (congrArg _ e)) one
  have nA : (L.map fun p => Value.ref p.1).Nodup := List.pairwise_map.mpr (nL.imp_of_mem fun hp hq hne e => hne (addr_one tt hp hq (Value.ref.inj e)))
  have nN : N.Nodup := List.Pairwise.of_map (fun p : Addr × List Int => Value.ref p.1) (fun a b hne e => hne (by rw [e])) (pm.nodup_iff.mpr nA)
  refine (List.perm_ext_iff_of_nodup nN nL).mpr fun p => ⟨hN p, fun hp => ?_⟩
  obtain ⟨q, hq, e⟩ := List.mem_map.mp (pm.mem_iff.mpr (List.mem_map.mpr ⟨p, hp, rfl⟩))
  rw [← addr_one tt (hN q hq) hp (Value.ref.inj e)]
  exact hq
theorem sort_set {a : Addr} {L : List (Addr × List Int)} {es : Array (Int × Value)} {ep : Nat} {t : SetTable} {Q : Value → Shared → Prop} (Z : Lies P w s.heap a L es ep t) (tt : ∀ p ∈ L, IsT P w s.heap p.2 p.1) (hh : A.handled = none) (two : ∀ p ∈ L, p.2.length = 2)
    (hQ : ∀ s' b (out : Array Value) (c : Nat) (N : List (Addr × List Int)), (∀ d o, s.heap.get? d = some o → s'.heap.get? d = some o) → s'.gens = s.gens → s'.os = s.os → s.heap.objs.size ≤ b → s'.heap.get? b = some (seqObj "list" out c) →
      out.toList = N.map (fun q => Value.ref q.1) → N.Perm L → N.Pairwise (fun p q => ahead p.2 q.2) → Q (.ref b) s') : wpAny (model P w) A (call (.builtin "sorted") [.ref a]) Q E s := by
  obtain ⟨o, ho, hex, hd⟩ := Z.obj
  have num := Z.num
  have num2 := rows_num Z.row
  apply Calls.call_function_entry kind_sorted plain_sorted entry_sorted (args_sorted1 _)
  unfold Builtin.«sorted»
  apply wpAny_bind (m := checkCount "sorted" 1 1 _)
  apply wpAny_pure
  refine wpAny_bind (collect_set (A := A.in1) hh ⟨o, ho, hex.1, hd⟩ Z.fit (by unfold scanBound; omega) Z.tbl.ris Z.ord fun s1 vs kp hz hg hos pm => ?_)
  have refs : es.toList.map (·.2) = L.map fun q => Value.ref q.1 := by
    rw [Z.row, rowsOf, List.map_map]
    rfl
  rw [refs] at pm
  have inL : ∀ v ∈ vs, ∃ p ∈ L, v = Value.ref p.1 := fun v hv => by
    obtain ⟨p, hp, e⟩ := List.mem_map.mp (pm.mem_iff.mp hv)
    exact ⟨p, hp, e.symm⟩
  have len : vs.length ≤ 76 := by rw [pm.length_eq, List.length_map]; exact num
  refine wpAny_bind (wpAny_newList ?_ (by rw [sizeLine_eq]; omega))
  have oL : (s1.heap.push (seqObj "list" vs.toArray 0)).get? s1.heap.objs.size = some (seqObj "list" vs.toArray 0) := Heap.get?_push_size _ rfl
  have up : ∀ d o, s.heap.get? d = some o → (s1.heap.push (seqObj "list" vs.toArray 0)).get? d = some o := fun d o e => Heap.get?_push_of_some _ (kp d o e)
  have tup : ∀ v ∈ vs, Srt.IsPair (s1.heap.push (seqObj "list" vs.toArray 0)) v (told L v).1 (told L v).2 := fun v hv => by
    obtain ⟨p, hp, rfl⟩ := inL v hv
    rw [told_at tt hp]
    exact isPair_of (isT_keep (tt p hp) up) (two p hp)
  refine wpAny_bind (wpAny_holding (wpAny_call_entry (s := { s1 with heap := s1.heap.push (seqObj "list" vs.toArray 0) }) slot_list_sort ⟨_, oL, rfl⟩ entry_list_sort
    (SrtO.list_sort_ord (ltv := fun v u => SrtO.lexB (told L v) (told L u)) (SrtO.swo_lex (told L)) oL (by rw [sizeLine_eq]; omega) (fun h2 => SrtO.pairs_sortableO (by omega) tup fun o e => ?_) fun out sr sb => ⟨_, rfl, ?_⟩) (args_list_sort _)))
  · obtain rfl := Option.some.inj (oL.symm.trans e)
    exact fun c => absurd (Value.type.inj c) (by decide)
  obtain ⟨c, hc⟩ := sortedHeap_at (vs := vs) (out := out.toArray) oL
  obtain ⟨N, e1, e2⟩ := back (L := L) (vs := out) fun v hv => inL v (sb.perm.mem_iff.mp hv)
  have pN : N.Perm L := perm_back tt Z.one e2 (by rw [← e1]; exact sb.perm.trans pm)
  have pw : N.Pairwise fun p q => ahead p.2 q.2 := by
    have nd : (N.map (·.2)).Nodup := (pN.map (·.2)).nodup_iff.mpr Z.one
    unfold SrtO.Srtd at sr
    rw [e1, List.pairwise_map] at sr
    refine List.Pairwise.imp_of_mem (fun {p q} hp hq h => ?_) (sr.and (List.pairwise_map.mp nd))
    obtain ⟨h1, h2⟩ := h
    have h1 : SrtO.lexB (told L (.ref q.1)) (told L (.ref p.1)) = false := h1
    rw [told_at tt (e2 p hp), told_at tt (e2 q hq)] at h1
    have h3 := SrtO.lexB_no.mp h1
    have p2 := two p (e2 p hp)
    have q2 := two q (e2 q hq)
    generalize p.2 = x at h2 h3 p2
    generalize q.2 = y at h2 h3 q2
    match x, p2 with
    | [x0, x1], _ =>
      match y, q2 with
      | [y0, y1], _ =>
        have h4 : ¬ (x0 = y0 ∧ x1 = y1) := fun z => h2 (by rw [z.1, z.2])
        have h5 : ¬ (y0 < x0 ∨ (y0 = x0 ∧ y1 < x1)) := h3
        show x0 < y0 ∨ (x0 = y0 ∧ x1 < y1)
        omega
  refine wpAny_pure ⟨_, rfl, hQ _ s1.heap.objs.size out.toArray c N (fun d u e => ?_) hg hos hz hc (by simpa using e1) pN pw⟩
  have q := kp d u e
  have lt := Heap.lt_size q
  refine (sortedHeap_old (Nat.ne_of_lt lt) (by rw [size_push']; exact Nat.lt_succ_of_lt lt)).trans ?_
  exact Heap.get?_push_of_some _ q
end
/-! ### the rules -/
def SetO (P : Program) (w : World) (a : Addr) (L : List (Addr × List Int)) : HO := .ext fun h => ∃ es ep t, Lies P w h a L es ep t
theorem setO_ok {P : Program} {w : World} {H : Hp} {h : Heap} {a : Addr} {L : List (Addr × List Int)} (z : ∃ es ep t, Lies P w h a L es ep t) : ObjOk P w H h a (SetO P w a L) :=
  ⟨z, let ⟨_, _, _, z⟩ := z; let ⟨o, ho, _⟩ := z.obj; ⟨o, ho⟩, fun h1 h2 ⟨es, ep, t, z⟩ k => ⟨es, ep, t, z.on k⟩⟩
section
variable {X : Cx}
/-- set(xs) of a list of tuples with keys in D -/
def rSetD (K : PySem.W.Frag) (P : Program) (w : World) (D : List (List Int)) : List V → Hp → VK → Prop := fun xs H Q => ∃ (l : Addr) (ks : List (Addr × List Int)), xs = [V.ref l] ∧ SqL K H l (ks.map fun p => V.ref p.1) ∧ (∀ p ∈ ks, SqT K H p.1 (p.2.map V.int)) ∧ (∀ p ∈ ks, p.2 ∈ D) ∧
  ∀ a L, H a = none → (∀ p ∈ L, p ∈ ks) → (∀ p ∈ ks, p.2 ∈ L.map (·.2)) → (L.map (·.2)).Nodup → Q (.ref a) (upd H a (SetO P w a L))
theorem cr_setD {D : List (List Int)} (dm : Dom X.prog X.w D) (hc : X.calm = true) (hu : X.A.units + 64 < cLine) : CallR X (.type "set") (rSetD X.K X.prog X.w D) := by
  intro pins s σ H xs us Q I r h
  obtain ⟨l, ks, rfl, hl, hk, hD, q⟩ := h
  rw [Vals.ref1 r]
  obtain ⟨its, rv, pl, hz⟩ := I.list hl
  refine made (P := X.prog) (w := X.w) (D := D) (ks := ks) (I.ok.hd hc) pl.isList (by simpa using refs_of_vals rv) (fun p hp => I.isT (hk p hp)) dm hD (by omega) fun h' tk z => ?_
  obtain ⟨L, es, ep, t, z1, g⟩ := z.set_
  refine ⟨.ref s.heap.objs.size, upd H s.heap.objs.size (SetO X.prog X.w s.heap.objs.size L), I.laid (t' := tk) z.old (Nat.le_refl _) (setO_ok ⟨es, ep, t, z1⟩), rfl, q _ L (I.hok.fresh (Nat.le_refl _)) (fun p hp => List.mem_of_mem_take (g.sub p hp)) (fun p hp => ?_) z1.one⟩
  exact g.all p (by rw [List.take_length]; exact hp)
/-- sorted(set) of pairs -/
def rSortD (K : PySem.W.Frag) (P : Program) (w : World) : List V → Hp → VK → Prop := fun vs H Q => ∃ (a : Addr) (L : List (Addr × List Int)), vs = [V.ref a] ∧ H a = some (SetO P w a L) ∧ (∀ p ∈ L, SqT K H p.1 (p.2.map V.int)) ∧ (∀ p ∈ L, p.2.length = 2) ∧
  ∀ (N : List (Addr × List Int)) (b : Addr), N.Perm L → N.Pairwise (fun p q => ahead p.2 q.2) → H b = none → Q (.ref b) (upd H b (.lst (N.map fun q => V.ref q.1)))
theorem cr_sortD (hc : X.calm = true) : CallR X (.builtin "sorted") (rSortD X.K X.prog X.w) := by
  intro pins s σ H vs us Q I r h
  obtain ⟨a, L, rfl, ha, hk, two, q⟩ := h
  obtain ⟨es, ep, t, Z⟩ : ∃ es ep t, Lies X.prog X.w s.heap a L es ep t := (I.hok a _ ha).1
  rw [Vals.ref1 r]
  refine sort_set Z (fun p hp => I.isT (hk p hp)) (I.ok.hd hc) two fun s' b out c N k g o hb hg hout pm pw => ?_
  have len : (N.map fun q => V.ref q.1).length ≤ sizeLine := by
    have := Z.num
    rw [List.length_map, pm.length_eq, sizeLine_eq]
    omega
  have hn : H b = none := I.hok.fresh hb
  have J := I.call (ch := []) (h' := s'.heap) (g' := s'.gens) (d' := s'.drawn) (t' := s'.toks) (H' := upd H b (.lst (N.map fun q => V.ref q.1))) (Un.laid k hb hn) (I.hok.laid k hb ⟨len, out.toList, c, by rw [hout]; exact vals_of_refs N, hg⟩) (by rw [g]; exact I.bare) (fun _ z => nomatch z)
  have e : s' = { s with heap := s'.heap, gens := s'.gens, drawn := s'.drawn, toks := s'.toks } := by
    cases s'; cases s; cases o; rfl
  rw [e]
  exact ⟨.ref b, _, J, rfl, q N b pm pw hn⟩
end
end Tu

set_option Elab.async false
set_option linter.all false
set_option maxRecDepth 100000
set_option maxHeartbeats 4000000
/-! Tu5: pairs of places i < j < 12: their hashes are unlike; a list of pairs and its set, sorted. -/
namespace Tu
open PySem PySem.Spec PyProof.Rows L2
def hsh (k : List Int) : Int := reduceHash (Builtin.Tuple.tupleHashOf (k.map hashInt))
theorem hsh_eq (P : Program) (w : World) (k : List Int) : thash P w k = hsh k := rfl
/-- all pairs of places -/
def pairs12 : List (List Int) := (List.range 12).flatMap fun (j : Nat) => (List.range j).map fun (i : Nat) => [(i : Int), (j : Int)]
theorem pairs_few : pairs12.length ≤ 76 := by decide +kernel
theorem pairs_hash : (pairs12.map hsh).Nodup := by decide +kernel
theorem inj_of_nodup {α β : Type} {f : α → β} : ∀ {l : List α}, (l.map f).Nodup → ∀ x, x ∈ l → ∀ y, y ∈ l → f x = f y → x = y
  | [], _, x, hx, _, _, _ => nomatch hx
  | a :: l, n, x, hx, y, hy, e => by
    rw [List.map_cons, List.nodup_cons] at n
    rcases List.mem_cons.mp hx with e1 | h1
    · rcases List.mem_cons.mp hy with e2 | h2
      · rw [e1, e2]
      · exact absurd (List.mem_map.mpr ⟨y, h2, by rw [← e, e1]⟩) n.1
    · rcases List.mem_cons.mp hy with e2 | h2
      · exact absurd (List.mem_map.mpr ⟨x, h1, by rw [e, e2]⟩) n.1
      · exact inj_of_nodup n.2 x h1 y h2 e
theorem pairs_dom (P : Program) (w : World) : Dom P w pairs12 := ⟨pairs_few, fun k hk m hm e => inj_of_nodup pairs_hash k hk m hm e⟩
theorem pairs_mem {i j : Nat} (h1 : i < j) (h2 : j < 12) : [(i : Int), (j : Int)] ∈ pairs12 :=
  List.mem_flatMap.mpr ⟨j, List.mem_range.mpr h2, List.mem_map.mpr ⟨i, List.mem_range.mpr h1, rfl⟩⟩
/-- pairs of places as the rules have them -/
def keyN (b : Nat × Nat) : List Int := [(b.1 : Int), (b.2 : Int)]
/-- ascending pairs -/
def AscP (bs : List (Nat × Nat)) : Prop := bs.Pairwise fun a b => a.1 < b.1 ∨ (a.1 = b.1 ∧ a.2 < b.2)
theorem ahead_keyN {a b : Nat × Nat} : ahead (keyN a) (keyN b) ↔ a.1 < b.1 ∨ (a.1 = b.1 ∧ a.2 < b.2) := by
  show ((a.1 : Int) < (b.1 : Int) ∨ ((a.1 : Int) = (b.1 : Int) ∧ (a.2 : Int) < (b.2 : Int))) ↔ _
  omega
theorem ascP_nodup {bs : List (Nat × Nat)} (h : AscP bs) : bs.Nodup := List.Pairwise.imp (fun {a b} h e => by subst e; omega) h
/-- two ascending lists of the same pairs are one -/
theorem ascP_uniq : ∀ {as bs : List (Nat × Nat)}, AscP as → AscP bs → (∀ p, p ∈ as ↔ p ∈ bs) → as = bs
  | [], [], _, _, _ => rfl
  | [], b :: bs, _, _, h => nomatch (h b).mpr List.mem_cons_self
  | a :: as, [], _, _, h => nomatch (h a).mp List.mem_cons_self
  | a :: as, b :: bs, ha, hb, h => by
    have ha' := List.pairwise_cons.mp ha
    have hb' := List.pairwise_cons.mp hb
    have e : a = b := by
      rcases List.mem_cons.mp ((h a).mp List.mem_cons_self) with e | e
      · exact e
      · rcases List.mem_cons.mp ((h b).mpr List.mem_cons_self) with f | f
        · exact f.symm
        · have z1 := hb'.1 a e
          have z2 := ha'.1 b f
          omega
    subst e
    rw [ascP_uniq ha'.2 hb'.2 fun p => ⟨fun hp => ?_, fun hp => ?_⟩]
    · rcases List.mem_cons.mp ((h p).mp (List.mem_cons_of_mem _ hp)) with e | e
      · have := ha'.1 p hp
        subst e
        omega
      · exact e
    · rcases List.mem_cons.mp ((h p).mpr (List.mem_cons_of_mem _ hp)) with e | e
      · have := hb'.1 p hp
        subst e
        omega
      · exact e
/-- what the set and sorted leave of a list of pairs: its ascending list -/
theorem out_pairs {bs : List (Nat × Nat)} {as : List Addr} (hl : as.length = bs.length) {L N : List (Addr × List Int)} (sub : ∀ p ∈ L, p ∈ as.zip (bs.map keyN)) (all : ∀ p ∈ as.zip (bs.map keyN), p.2 ∈ L.map (·.2)) (pm : N.Perm L) (pw : N.Pairwise fun p q => ahead p.2 q.2) :
    ∃ cs : List (Nat × Nat), N.map (·.2) = cs.map keyN ∧ AscP cs ∧ ∀ p, p ∈ cs ↔ p ∈ bs := by
  have key : ∀ {M : List (Addr × List Int)}, (∀ p ∈ M, ∃ b ∈ bs, p.2 = keyN b) → ∃ cs : List (Nat × Nat), M.map (·.2) = cs.map keyN ∧ ∀ c ∈ cs, c ∈ bs := by
    intro M
    induction M with
    | nil => exact fun _ => ⟨[], rfl, fun _ h => nomatch h⟩
    | cons p M ih =>
      intro h
      obtain ⟨b, hb, e⟩ := h p List.mem_cons_self
      obtain ⟨cs, e1, e2⟩ := ih fun q hq => h q (List.mem_cons_of_mem _ hq)
      refine ⟨b :: cs, by rw [List.map_cons, List.map_cons, e, e1], fun c hc => ?_⟩
      rcases List.mem_cons.mp hc with rfl | hc
      · exact hb
      · exact e2 c hc
  have inj : ∀ {a b : Nat × Nat}, keyN a = keyN b → a = b := fun {a b} e => by
    injection e with e1 e2
    injection e2 with e2
    exact Prod.ext (by omega) (by omega)
  obtain ⟨cs, e1, e2⟩ := key (M := N) fun p hp => by
    have h := (List.of_mem_zip (sub p (pm.mem_iff.mp hp))).2
    obtain ⟨b, hb, e⟩ := List.mem_map.mp h
    exact ⟨b, hb, e.symm⟩
  refine ⟨cs, e1, ?_, fun p => ⟨e2 p, fun hp => ?_⟩⟩
  · have h : (N.map fun p : Addr × List Int => p.2).Pairwise ahead := List.pairwise_map.mpr pw
    rw [e1, List.pairwise_map] at h
    exact h.imp fun {a b} z => ahead_keyN.mp z
  · obtain ⟨i, hi, rfl⟩ := List.getElem_of_mem hp
    have hz : (as[i]'(by omega), keyN bs[i]) ∈ as.zip (bs.map keyN) := by
      refine List.mem_of_getElem? (i := i) ?_
      rw [List.getElem?_zip_eq_some]
      exact ⟨List.getElem?_eq_getElem (by omega), by rw [List.getElem?_map, List.getElem?_eq_getElem hi]; rfl⟩
    have h := all _ hz
    rw [← (pm.map (·.2)).mem_iff, e1] at h
    obtain ⟨c, hc, e⟩ := List.mem_map.mp h
    rw [← inj e]
    exact hc
end Tu

set_option Elab.async false
set_option linter.all false
set_option maxRecDepth 100000
set_option maxHeartbeats 4000000
/-! Lz: a call with all arguments by name. -/
namespace Bx
open PySem PySem.Spec PyProof.Rows L2
section
variable {X : Cx} {CX : CXT} {k : Nat} {f : Addr} {fd : FuncData} {ps ks : List Str} {sp : Sp} {E : XK} {x : Str} {p pos : Pos} {kws : List Keyword} {tk : TA} {g : List Value → List Value → List Value} {gV : List V → List V → List V}
/-- f(k = v, ..) -/
theorem pe_callKO (F : FnOk X.prog X.w X.K X.mg X.base CX k f fd ps sp) (hr : Room k X.A) (hg : Gl X x) (hm : X.mg x = some (.ref f)) (hk : PySem.W.keepIn X.K (.ref f) = true) (hb : KBinds X.K fd ps ks g gV) (hx : Passes CX X E)
    (hkw : PK X kws tk) (hall : (backToKw pos (keywordEach kws X.env)).all (·.1.isSome) = true := by rfl) (hks : (backToKw pos (keywordEach kws X.env)).filterMap (·.1) = ks := by rfl)
    (hdb : (x == ("__debug__" : Str)) = false := by decide)
    (hpl : ((backTo pos (starEach [] X.env)).any (·.1) || (backToKw pos (keywordEach kws X.env)).any (·.1.isNone)) = false := by rfl) :
    PE X (.Call (.Name x p) [] kws pos) (tCallK sp gV E tNil tk) := by
  refine ⟨fun pins s σ H Q I h => ?_⟩
  refine wpAny_Call_Name_kw (ld_glob I hg hm ?_ hdb)
  refine PySem.W.callWith_KW0 (h₀ := X.base) I.ok.mod.kin hk hall ?_ hpl
  refine thn (hkw.run pos pins s σ H _ I h) fun ws s2 ⟨zs, H2, I2, rz, q2⟩ => ⟨I2.kIn, ?_⟩
  rw [hks]
  exact run_fnk F hr hb hx I2 .nil rz q2
end
structure CalK (P : Program) (w : World) (K : PySem.W.Frag) (mg : Str → Option Value) (base : Heap) (k : Nat) (x : Str) (ps ks : List Str) (g : {α : Type} → List α → List α → List α) (sp : Sp) : Prop where
  ex : ∃ (f : Addr) (fd : FuncData), FnOk P w K mg base CX0 k f fd ps sp ∧ mg x = some (.ref f) ∧ PySem.W.keepIn K (.ref f) = true ∧ KBinds K fd ps ks g g
section
variable {X : Cx} {k : Nat} {x : Str} {ps ks : List Str} {sp : Sp} {p pos : Pos} {kws : List Keyword} {tk : TA} {g : {α : Type} → List α → List α → List α}
theorem pe_calK (C : CalK X.prog X.w X.K X.mg X.base k x ps ks g sp) (hr : Room k X.A) (hg : Gl X x) (hkw : PK X kws tk) (hall : (backToKw pos (keywordEach kws X.env)).all (·.1.isSome) = true := by rfl) (hks : (backToKw pos (keywordEach kws X.env)).filterMap (·.1) = ks := by rfl)
    (hdb : (x == ("__debug__" : Str)) = false := by decide)
    (hpl : ((backTo pos (starEach [] X.env)).any (·.1) || (backToKw pos (keywordEach kws X.env)).any (·.1.isNone)) = false := by rfl) : PE X (.Call (.Name x p) [] kws pos) (tCallK sp g E0 tNil tk) := by
  obtain ⟨f, fd, h1, h2, h3, h4⟩ := C.ex
  exact pe_callKO h1 hr hg h2 h3 h4 pass0 hkw hall hks hdb hpl
end
/-- two arguments, named the other way about -/
def swp {α : Type} : List α → List α → List α
  | [], [b, a] => [a, b]
  | _, _ => []
theorem swp_rel {vs zs : List V} {us ws : List Value} (h1 : Vals vs us) (h2 : Vals zs ws) : Vals (swp vs zs) (swp us ws) := by
  cases h1 with
  | cons _ _ => exact .nil
  | nil =>
    cases h2 with
    | nil => exact .nil
    | cons a h3 =>
      cases h3 with
      | nil => exact .nil
      | cons b h4 =>
        cases h4 with
        | nil => exact .cons b (.cons a .nil)
        | cons _ _ => exact .nil
theorem pi_tupK {X : Cx} {K : PySem.W.Frag} {tg e : Expr} {td : TE} (h : X.K = K) (hd : PE X e td) : PI X tg e (iTup K td) := h ▸ pi_tup hd
theorem pi_listK {X : Cx} {K : PySem.W.Frag} {tg e : Expr} {td : TE} (h : X.K = K) (hd : PE X e td) : PI X tg e (iList K td) := h ▸ pi_list hd
end Bx

set_option Elab.async false
set_option linter.all false
set_option maxRecDepth 100000
set_option maxHeartbeats 4000000
namespace Wd
open PySem PySem.Spec PyProof.Rows L2 Bx Gx

























































section
variable {P : Program} {w : World} {K : PySem.W.Frag} {mg : Str → Option Value} {base : Heap}
/-! ### pairs as data, sorted without twins -/
theorem pl_addr {H : Hp} : ∀ {vs : List V} {ps : List (Nat × Nat)}, DpAll K H vs (ps.map pairD) → ∃ as : List Addr, vs = as.map V.ref ∧ as.length = ps.length ∧ ∀ p ∈ as.zip (ps.map Tu.keyN), SqT K H p.1 (p.2.map V.int)
  | _, [], .nil => ⟨[], rfl, rfl, fun p hp => nomatch hp⟩
  | _, b :: ps, .cons h hs => by
    obtain ⟨as, e1, e2, e3⟩ := pl_addr hs
    obtain ⟨t, rfl, ht⟩ := dp_ints (ns := [(b.1 : Int), (b.2 : Int)]) h
    refine ⟨t :: as, by rw [e1]; rfl, by rw [List.length_cons, List.length_cons, e2], fun p hp => ?_⟩
    rw [List.map_cons, List.zip_cons_cons] at hp
    rcases List.mem_cons.mp hp with rfl | hp
    · exact ht
    · exact e3 p hp
theorem zip_fst {α β : Type} {as : List α} {bs : List β} (h : as.length = bs.length) : (as.zip bs).map (·.1) = as := List.map_fst_zip (Nat.le_of_eq h)
theorem dp_pairsS {H : Hp} : ∀ {N : List (Addr × List Int)} {cs : List (Nat × Nat)}, (∀ p ∈ N, SqT K H p.1 (p.2.map V.int)) → N.map (·.2) = cs.map Tu.keyN → DpAll K H (N.map fun q => V.ref q.1) (cs.map fun (b : Nat × Nat) => .tuple [.int (b.1 : Int), .int (b.2 : Int)])
  | [], [], _, _ => .nil
  | [], _ :: _, _, e => nomatch e
  | _ :: _, [], _, e => nomatch e
  | p :: N, c :: cs, tn, e => by
    rw [List.map_cons, List.map_cons] at e
    injection e with h1 h2
    have h3 := tn p List.mem_cons_self
    rw [h1] at h3
    exact .cons (.tup h3 (.cons (.int _) (.cons (.int _) .nil))) (dp_pairsS (fun q hq => tn q (List.mem_cons_of_mem _ hq)) h2)
/-- tuple(sorted(set(xs))) of pairs of places -/
theorem set_sortS {H : Hp} {l : Addr} {vs : List V} {ps : List (Nat × Nat)} (hl : SqL K H l vs) (hP : DpAll K H vs (ps.map pairD)) (hb : ∀ p ∈ ps, p.1 < p.2 ∧ p.2 < 12) {Q : VK}
    (hQ : ∀ (cs : List (Nat × Nat)) q H', Ext H H' → H q = none → Tu.AscP cs → (∀ p, p ∈ cs ↔ p ∈ ps) → Dp K H' (.ref q) (bordD cs) → Q (.ref q) H') :
    Tu.rSetD K P w Tu.pairs12 [.ref l] H fun x1 H1 => Tu.rSortD K P w [x1] H1 fun x2 H2 => kTup K x2 H2 Q := by
  obtain ⟨as, rfl, ea, ht⟩ := pl_addr hP
  have ez : ((as.zip (ps.map Tu.keyN)).map fun p => V.ref p.1) = as.map V.ref := by
    rw [← zip_fst (as := as) (bs := ps.map Tu.keyN) (by rw [List.length_map]; exact ea), List.map_map, zip_fst (by rw [List.length_map]; exact ea)]
    rfl
  have ek : ∀ p ∈ as.zip (ps.map Tu.keyN), ∃ b ∈ ps, p.2 = Tu.keyN b := fun p hp => by
    obtain ⟨b, hb, e⟩ := List.mem_map.mp (List.of_mem_zip hp).2
    exact ⟨b, hb, e.symm⟩
  refine ⟨l, as.zip (ps.map Tu.keyN), rfl, by rw [ez]; exact hl, fun p hp => ht p hp, fun p hp => ?_, fun a L ha hsub hall hnd => ?_⟩
  · obtain ⟨b, hbm, e⟩ := ek p hp
    rw [e]
    exact Tu.pairs_mem (hb b hbm).1 (hb b hbm).2
  · have x1 : Ext H (upd H a (Tu.SetO P w a L)) := .new ha
    have tu : ∀ p ∈ L, SqT K (upd H a (Tu.SetO P w a L)) p.1 (p.2.map V.int) := fun p hp => x1.sqT (ht p (hsub p hp))
    refine ⟨a, L, rfl, upd_same, fun p hp => tu p hp, fun p hp => ?_, fun N b pm pw hbn => ?_⟩
    · obtain ⟨c, _, e⟩ := ek p (hsub p hp)
      rw [e]
      rfl
    · obtain ⟨cs, e1, e2, e3⟩ := Tu.out_pairs ea hsub hall pm pw
      refine .inl ⟨b, _, rfl, SqL.of upd_same, fun q hq => ?_⟩
      have x2 : Ext (upd H a (Tu.SetO P w a L)) (upd (upd H a (Tu.SetO P w a L)) b (.lst (N.map fun q => V.ref q.1))) := .new hbn
      refine hQ cs q _ (x1.trans (x2.trans (.new hq))) (x1.free (x2.free hq)) e2 e3 (dp_new hq ?_)
      have tn : ∀ p ∈ N, SqT K (upd (upd H a (Tu.SetO P w a L)) b (.lst (N.map fun q => V.ref q.1))) p.1 (p.2.map V.int) := fun p hp => x2.sqT (tu p (pm.mem_iff.mp hp))
      generalize upd (upd H a (Tu.SetO P w a L)) b (.lst (N.map fun q => V.ref q.1)) = H9 at tn
      exact dp_pairsS tn e1
end
section
variable {P : Program} {w : World} {K : PySem.W.Frag} {mg : Str → Option Value} {base : Heap}
/-- a list of pairs of places -/
structure PairL (K : PySem.W.Frag) (n L : Nat) (H : Hp) (p : Addr) : Prop where
  ex : ∃ (xs : List V) (bs : List (Nat × Nat)), H p = some (.lst xs) ∧ DpAll K H xs (bs.map pairD) ∧ (∀ b ∈ bs, b.1 < b.2 ∧ b.2 < n) ∧ bs.length ≤ L
theorem PairL.extS {S : List Addr} {n L : Nat} {H H' : Hp} {p : Addr} (h : PairL K n L H p) (hp : p ∉ S) (x : ExtS S H H') : PairL K n L H' p := by
  obtain ⟨xs, bs, h1, h2, h3, h4⟩ := h.ex
  exact ⟨xs, bs, x.lst hp h1, dpAll_extS x (noL_pairs bs) h2, h3, h4⟩
theorem PairL.ext {n L : Nat} {H H' : Hp} {p : Addr} (h : PairL K n L H p) (x : Ext H H') : PairL K n L H' p := h.extS (S := []) (by simp) (.of x)
theorem PairL.up {n L L' : Nat} {H : Hp} {p : Addr} (h : PairL K n L H p) (z : L ≤ L') : PairL K n L' H p := by
  obtain ⟨xs, bs, h1, h2, h3, h4⟩ := h.ex
  exact ⟨xs, bs, h1, h2, h3, Nat.le_trans h4 z⟩
theorem PairL.nil {n : Nat} {H : Hp} {p : Addr} (h : H p = some (.lst [])) : PairL K n 0 H p := ⟨[], [], h, .nil, (fun b hb => nomatch hb), Nat.le_refl _⟩
/-- one pair more at the end of a list under way -/
theorem PairL.push {n L : Nat} {H : Hp} {D : Addr} {y : V} {b : Nat × Nat} (h : PairL K n L H D) (hy : Dp K H y (pairD b)) (hb : b.1 < b.2 ∧ b.2 < n) : ∃ as, H D = some (.lst as) ∧ as.length ≤ L ∧ PairL K n (L + 1) (upd H D (.lst (as ++ [y]))) D := by
  obtain ⟨xs, bs, h1, h2, h3, h4⟩ := h.ex
  have hl := dpAll_len h2
  rw [List.length_map] at hl
  have xd : ExtS [D] H (upd H D (.lst (xs ++ [y]))) := (ExtS.refl _ _).write (.inr ⟨by simp, _, h1⟩)
  refine ⟨xs, h1, by omega, xs ++ [y], bs ++ [b], upd_same, ?_, fun c hc => ?_, by rw [List.length_append]; exact Nat.add_le_add_right h4 1⟩
  · rw [List.map_append]
    exact dpAll_app (dpAll_extS xd (noL_pairs bs) h2) (.cons (dp_extS xd rfl hy) .nil)
  · rcases List.mem_append.mp hc with z | z
    · exact h3 c z
    · rw [List.mem_singleton.mp z]; exact hb
theorem PairL.cat {n L L' : Nat} {H : Hp} {a b : Addr} {Q : VK} (h : PairL K n L H a) (h' : PairL K n L' H b) (hL : L + L' ≤ 1000) (k : ∀ p H', Ext H H' → H p = none → PairL K n (L + L') H' p → Q (.ref p) H') : rCat (.ref a) (.ref b) H Q := by
  obtain ⟨xs, bs, h1, h2, h3, h4⟩ := h.ex
  obtain ⟨ys, cs, g1, g2, g3, g4⟩ := h'.ex
  have hl := dpAll_len h2
  have gl := dpAll_len g2
  rw [List.length_map] at hl gl
  refine ⟨a, b, xs, ys, rfl, rfl, h1, g1, by have : 1000 ≤ sizeLine := by decide
                                             omega, fun p hp => k p _ (.new hp) hp ⟨xs ++ ys, bs ++ cs, upd_same, ?_, fun c hc => ?_, by rw [List.length_append]; omega⟩⟩
  · rw [List.map_append]
    exact dpAll_app (dpAll_ext (.new hp) h2) (dpAll_ext (.new hp) g2)
  · rcases List.mem_append.mp hc with z | z
    · exact h3 c z
    · exact g3 c z
end
section
variable {P : Program} {w : World} {K : PySem.W.Frag} {mg : Str → Option Value} {base : Heap}
/-! ### a drawn land -/
def spLandW (K : PySem.W.Frag) : Sp := fun vs H Q _ => ∃ (N : Nat) (p : Addr) (lm most : Nat), vs = [.ref p, .int (lm : Int), .int (most : Int)] ∧ WellAt N H p ∧ N < 50000000 ∧ 2 ≤ lm ∧ lm ≤ most ∧ most ≤ 12 ∧
  ∀ q (fs : List Int) (bs : List (Nat × Nat)) H', ExtS [p] H H' → WellAt (N + 100) H' p → H q = none → Dp K H' (.ref q) (landD fs bs) → LandOk fs bs → lm ≤ fs.length → fs.length ≤ most → Q (.ref q) H'
theorem PairL.notNone {n L : Nat} {H : Hp} {p q : Addr} (h : PairL K n L H p) (hq : H q = none) : p ≠ q := fun e => by
  obtain ⟨xs, bs, h1, _⟩ := h.ex
  rw [e, hq] at h1
  cases h1
theorem dpAll_erase {H : Hp} : ∀ {vs : List V} {ds : List PyData} (m : Nat), DpAll K H vs ds → DpAll K H (vs.eraseIdx m) (ds.eraseIdx m)
  | _, _, _, .nil => by simpa using DpAll.nil
  | _, _, 0, .cons _ h => by simpa using h
  | _, _, m + 1, .cons a h => by
    rw [List.eraseIdx_cons_succ, List.eraseIdx_cons_succ]
    exact .cons a (dpAll_erase m h)
theorem PairL.erase {n L m : Nat} {H : Hp} {D : Addr} {xs : List V} (h : PairL K n L H D) (e : H D = some (.lst xs)) : PairL K n L (upd H D (.lst (xs.eraseIdx m))) D := by
  obtain ⟨ys, bs, h1, h2, h3, h4⟩ := h.ex
  rw [e] at h1
  cases h1
  have xd : ExtS [D] H (upd H D (.lst (xs.eraseIdx m))) := (ExtS.refl _ _).write (.inr ⟨by simp, _, e⟩)
  refine ⟨xs.eraseIdx m, bs.eraseIdx m, upd_same, ?_, fun c hc => h3 c (List.mem_of_mem_eraseIdx hc), Nat.le_trans (List.length_eraseIdx_le _ _) h4⟩
  rw [← erase_map]
  exact dpAll_extS xd (by rw [erase_map]; exact noL_pairs _) (dpAll_erase m h2)
abbrev llandN : List Str := ["well", "least_many", "many", "places", "shape", "found", "k", "j", "turn", "one", "other", "mixed", "i", "great"]
theorem sc_landW : FnScope llandN ["well", "least_many", "many"] (defScope st__law_land) := ⟨rfl, rfl, rfl, by decide +kernel, rfl, by decide +kernel, by decide +kernel⟩
theorem ok_landW {f : Addr} {fd : FuncData} (F : Fun K "_law_land" "_law_land" st__law_land f fd) (B : Bl mg) (c__law_dip : Cal P w K mg base 1 "_law_dip" ["well", "many"] (spDip K)) : FnOk P w K mg base CX0 2 f fd ["well", "least_many", "many"] (spLandW K) := by
  refine F.ok sc_landW (fun vs H Q E h => ?_) (fun cdv A outer s H vs Q E hr h => ?_)
  · obtain ⟨N, p, lm, most, rfl, _⟩ := h
    rfl
  · obtain ⟨N, p, lm, most, rfl, W, hN, hm2, hlm, hm12, k⟩ := h
    have nd := sc_landW.nd
    refine ⟨_, pss_cons (ps_par (i := 3) (j := 4) (by rfl) nd rfl rfl (by decide) rfl rfl (pa_cons (pe_op op_add (pv 1) (pe_cal c__law_dip (hr.mono (by decide)) rfl (pa_cons (pv 0) (pa_cons (pe_op op_add (pe_op op_sub (pv 2) (pv 1)) pe_int) pa_nil)))) (pa_cons (pe_cal c__law_dip (hr.mono (by decide)) rfl (pa_cons (pv 0) (pa_cons pe_int pa_nil))) pa_nil)) (by rfl))
      (pss_cons (ps_set (i := 5) nd rfl (Or.inl rfl) (pe_lst pa_nil))
      (pss_cons (ps_for PassesOwn.never rfl (pi_range2 rfl B.range (pa_cons pe_int (pa_cons (pv 3) pa_nil))) (pg_name (i := 6) nd rfl (Or.inl rfl))
        (pss_cons (ps_set (i := 7) nd rfl (Or.inl rfl) (pe_ifExp (pt_cmpR op_eq (pv 4) pe_int (nomark _)) (pe_op op_sub (pv 6) pe_int) (pe_ifExp (pt_cmpR op_eq (pv 4) pe_int (nomark _)) (pe_callB (call_max2 rfl) (by rfl) B.max (by decide +kernel) (pa_cons pe_int (pa_cons (pe_op op_sub (pe_op op_sub (pv 6) pe_int) (pe_cal c__law_dip (hr.mono (by decide)) rfl (pa_cons (pv 0) (pa_cons pe_int pa_nil)))) pa_nil))) (pe_cal c__law_dip (hr.mono (by decide)) rfl (pa_cons (pv 0) (pa_cons (pv 6) pa_nil))))))
        (pss_one (ps_expr (pe_bm PySem.F.plainAttrs_list PySem.F.slot_list_append PySem.F.type_list_append mt_append (pv 5) (pa_cons (pe_tup (pa_cons (pv 7) (pa_cons (pv 6) pa_nil))) pa_nil))))))
      (pss_cons (ps_for PassesOwn.never rfl (pi_range1 rfl B.range (pa_cons (pe_ix ix_list (pe_lst (pa_cons pe_int (pa_cons pe_int (pa_cons pe_int (pa_cons (pv 3) (pa_cons (pe_op op_mul pe_int (pv 3)) pa_nil)))))) (pe_cal c__law_dip (hr.mono (by decide)) rfl (pa_cons (pv 0) (pa_cons pe_int pa_nil))) (fun _ _ => rfl)) pa_nil)) (pg_name (i := 8) nd rfl (Or.inl rfl))
        (pss_cons (ps_par (i := 9) (j := 10) (by rfl) nd rfl rfl (by decide) rfl rfl (pa_cons (pe_cal c__law_dip (hr.mono (by decide)) rfl (pa_cons (pv 0) (pa_cons (pv 3) pa_nil))) (pa_cons (pe_cal c__law_dip (hr.mono (by decide)) rfl (pa_cons (pv 0) (pa_cons (pv 3) pa_nil))) pa_nil)) (by rfl))
        (pss_one (ps_if (pt_cmpR op_ne (pv 9) (pv 10) (nomark _)) (pss_one (ps_expr (pe_bm PySem.F.plainAttrs_list PySem.F.slot_list_append PySem.F.type_list_append mt_append (pv 5) (pa_cons (pe_tup (pa_cons (pe_callB (call_min2 rfl) (by rfl) B.min (by decide +kernel) (pa_cons (pv 9) (pa_cons (pv 10) pa_nil))) (pa_cons (pe_callB (call_max2 rfl) (by rfl) B.max (by decide +kernel) (pa_cons (pv 9) (pa_cons (pv 10) pa_nil))) pa_nil))) pa_nil)))) pss_nil))))
      (pss_cons (ps_set (i := 11) nd rfl (Or.inr rfl) (pe_listRg rfl rfl B.list (prg_1 rfl B.range (pv 3))))
      (pss_cons (ps_for PassesOwn.never rfl (pi_range1 rfl B.range (pa_cons (pv 3) pa_nil)) (pg_name (i := 6) nd rfl (Or.inl rfl))
        (pss_cons (ps_set (i := 7) nd rfl (Or.inl rfl) (pe_op op_add (pv 6) (pe_cal c__law_dip (hr.mono (by decide)) rfl (pa_cons (pv 0) (pa_cons (pe_op op_sub (pv 3) (pv 6)) pa_nil)))))
        (pss_one (ps_asg (pe_tup (pa_cons (pe_ix ix_list (pv 11) (pv 7) (fun _ _ => rfl)) (pa_cons (pe_ix ix_list (pv 11) (pv 6) (fun _ _ => rfl)) pa_nil))) (pg_tup (by rfl) (pgs_cons (pg_sub (pv 11) (pv 6) set_list) (pgs_cons (pg_sub (pv 11) (pv 7) set_list) pgs_nil)))))))
      (pss_cons (ps_setLc (i := 5) (own := [("i", 12), ("j", 7)]) (g := L2.gTup K 2 (gCons (gName 12) (gCons (gName 7) gNil))) (by rfl) nd rfl rfl (sw_true rfl rfl rfl (by decide +kernel)) (pi_list (pv 5)) (blkOk_by (own := [("i", 12), ("j", 7)]) (N := ["well", "least_many", "many", "places", "shape", "found", "k", "j", "turn", "one", "other", "mixed", "i", "great"]) (sc := defScope st__law_land) (by decide +kernel)) (fun _ _ _ _ _ => pg_tupK (K := K) rfl (by rfl) (pgs_cons (pg_name (i := 12) nd rfl (Or.inl rfl)) (pgs_cons (pg_name (i := 7) nd rfl (Or.inl rfl)) pgs_nil))) (fun _ _ _ _ _ => pts_nil) (fun _ _ _ _ _ => pe_tup (pa_cons (pe_callB (call_min2 rfl) (by rfl) B.min (by decide +kernel) (pa_cons (pe_ix (ix_lstK (K := K) rfl) (pv 11) (pv 12) (fun _ _ => rfl)) (pa_cons (pe_ix (ix_lstK (K := K) rfl) (pv 11) (pv 7) (fun _ _ => rfl)) pa_nil))) (pa_cons (pe_callB (call_max2 rfl) (by rfl) B.max (by decide +kernel) (pa_cons (pe_ix (ix_lstK (K := K) rfl) (pv 11) (pv 12) (fun _ _ => rfl)) (pa_cons (pe_ix (ix_lstK (K := K) rfl) (pv 11) (pv 7) (fun _ _ => rfl)) pa_nil))) pa_nil))))
      (pss_cons (ps_if (PW.pt (pw_and (pt_cmpR (op_neD hr.units) (pv 5) (pe_lst pa_nil) (nomark _)) (pw_and1 (pt_cmpR op_eq (pe_cal c__law_dip (hr.mono (by decide)) rfl (pa_cons (pv 0) (pa_cons pe_int pa_nil))) pe_int (nomark _))))) (pss_one (ps_expr (pe_bm PySem.F.plainAttrs_list PySem.F.slot_list_pop PySem.F.type_list_pop mt_popAt (pv 5) (pa_cons (pe_cal c__law_dip (hr.mono (by decide)) rfl (pa_cons (pv 0) (pa_cons (pe_callB call_len (by rfl) B.len PySem.boot_len (pa_cons (pv 5) pa_nil)) pa_nil))) pa_nil)))) pss_nil)
      (pss_cons (ps_set (i := 13) nd rfl (Or.inr rfl) (pe_ix ix_list (pe_lst (pa_cons pe_int (pa_cons pe_int (pa_cons pe_int (pa_cons (pe_op op_pow pe_int pe_int) pa_nil))))) (pe_cal c__law_dip (hr.mono (by decide)) rfl (pa_cons (pv 0) (pa_cons pe_int pa_nil))) (fun _ _ => rfl)))
      (pss_one (ps_ret (pe_tup (pa_cons (pe_tupleOf rfl B.tuple (pe_lc (own := [("k", 6)]) (g := gName 6) (by rfl) nd (pi_range1 rfl B.range (pa_cons (pv 3) pa_nil)) (blkOk_by (own := [("k", 6)]) (N := ["well", "least_many", "many", "places", "shape", "found", "k", "j", "turn", "one", "other", "mixed", "i", "great"]) (sc := defScope st__law_land) (by decide +kernel)) (fun _ _ _ _ _ => pg_name (i := 6) nd rfl (Or.inl rfl)) (fun _ _ _ _ _ => pts_nil) (fun _ _ _ _ _ => pe_cal c__law_dip (hr.mono (by decide)) rfl (pa_cons (pv 0) (pa_cons (pe_op op_add (pv 13) pe_int) pa_nil))))) (pa_cons (pe_tupleOf rfl B.tuple (pe_callB (Tu.cr_sortD (by rfl)) (by rfl) B.sorted (by decide +kernel) (pa_cons (pe_callTy (Tu.cr_setD (Tu.pairs_dom _ _) (by rfl) (Nat.lt_trans (Nat.lt_succ_self _) (u65 hr))) rfl B.set (by decide +kernel) (pa_cons (pv 5) pa_nil)) pa_nil))) pa_nil))))))))))))), ?_⟩
    refine ⟨_, rfl, _, rfl, _, rfl, _, rfl, _, _, rfl, rfl, _, _, rfl, rfl, N, p, most - lm + 1, ?_, W, by omega, by omega, by omega, fun n0 H1 hn0 x1 W1 => ?_⟩
    · rw [show ((most - lm + 1 : Nat) : Int) = (most : Int) - (lm : Int) + 1 by omega]
      rfl
    refine ⟨_, _, rfl, rfl, _, rfl, N + 1, p, 5, rfl, W1, by omega, by decide, by decide, fun srt H2 hsrt x2 W2 => ⟨_, _, rfl, ?_⟩⟩
    have x02 := x1.trans x2
    clear x1 x2 W1 W
    obtain ⟨n, hn⟩ : ∃ n, n = lm + n0 := ⟨_, rfl⟩
    have en : (lm : Int) + (n0 : Int) = (n : Int) := by omega
    have hn2 : 2 ≤ n := by omega
    have hnl : lm ≤ n := by omega
    have hnm : n ≤ most := by omega
    have hn12 : n ≤ 12 := by omega
    simp only [en]
    refine ⟨Nat.zero_le _, fun b0 hb0 => ?_⟩
    have x4 : Ext H2 (upd H2 b0 (.lst [])) := .new hb0
    have nb0 := W2.notin hb0
    have hb4 : PairL K n 0 (upd H2 b0 (.lst [])) b0 := .nil upd_same
    have W4 := W2.ext x4
    have x04 := x02.trans (.of x4)
    have hb0f := x02.free hb0
    clear hb0 x4 x02 W2
    generalize upd H2 b0 (.lst []) = H4 at hb4 W4 x04 ⊢
    dsimp only [gName, tSeq, List.set]
    -- the tree, or the row
    refine ⟨_, rfl, 1, (n : Int), rfl, ⟨by omega, by omega, by omega, by omega⟩, for_range (lo := 1) (n := ((n : Int) - 1).toNat) (fun i σ H5 => ∃ o6 o7 : Option V, σ = [some (.ref p), some (.int (lm : Int)), some (.int (most : Int)), some (.int (n : Int)), some (.int (srt : Int)), some (.ref b0), o6, o7, none, none, none, none, none, none] ∧ ExtS [p] H H5 ∧ WellAt (N + 2 + i) H5 p ∧ PairL K n i H5 b0)
      ⟨_, _, rfl, x04, W4, hb4⟩ ?_ ?_⟩
    · clear hb4 W4 x04 H4
      rintro i σ H5 hi ⟨o6, o7, rfl, x5, W5, hb5⟩
      have hi' : i + 1 < n := by omega
      have et2 : (1 : Int) + (i : Int) = ((i + 1 : Nat) : Int) := by omega
      rw [et2]
      dsimp only [gName, tSeq, List.set]
      have hx := hb5.ex
      obtain ⟨xs5, bs5, hx1, -⟩ := hx
      refine ⟨_, rfl, rfl, _, rfl, ite2 (fun _ => ?_) (fun _ => ⟨_, rfl, rfl, _, rfl, ite2 (fun _ => ?_) (fun _ => ?_)⟩)⟩
      · refine ⟨_, rfl, _, _, rfl, rfl, ?_⟩
        obtain ⟨jj, ej, hj⟩ : ∃ jj : Nat, (((i + 1 : Nat) : Int) - 1) = (jj : Int) ∧ jj < i + 1 := ⟨i, by omega, by omega⟩
        dsimp only
        rw [ej]
        have x6 : ExtS [p] H5 H5 := .refl _ _
        have W6 := W5.mono (show N + 2 + i ≤ N + 2 + (i + 1) by omega)
        dsimp only [gName, tSeq, List.set]
        refine ⟨_, rfl, .inl ⟨rfl, _, SqL.of (x6.lst nb0 hx1)⟩, _, rfl, _, rfl, by show 2 ≤ sizeLine; decide, fun t ht => ?_⟩
        obtain ⟨as, e1, e2, e3⟩ := ((hb5.extS nb0 x6).ext (.new (o := .tup [.int (jj : Int), .int ((i + 1 : Nat) : Int)]) ht)).push (y := .ref t) (b := (jj, i + 1)) (.tup (SqT.of upd_same) (.cons (.int _) (.cons (.int _) .nil))) ⟨by show jj < i + 1; omega, hi'⟩
        exact ⟨b0, as, _, rfl, rfl, e1, small1000 (by omega), _, _, rfl, ((x5.trans x6).trans (.new ht)).write (.inl hb0f), (W6.ext (.new ht)).upd nb0, e3⟩
      · refine ⟨_, rfl, _, _, rfl, rfl, _, rfl, N + 2 + i, p, 2, rfl, W5, by omega, by decide, by decide, fun z H6 hz x6 W6 => ⟨_, _, rfl, rfl, _, _, rfl, ?_⟩⟩
        have W6 := W6.mono (show N + 2 + i + 1 ≤ N + 2 + (i + 1) by omega)
        obtain ⟨jj, ej, hj⟩ : ∃ jj : Nat, (if (((i + 1 : Nat) : Int) - 1 - (z : Int)) > 0 then (((i + 1 : Nat) : Int) - 1 - (z : Int)) else 0) = (jj : Int) ∧ jj < i + 1 := ⟨i - z, by split <;> omega, by omega⟩
        dsimp only
        rw [ej]
        dsimp only [gName, tSeq, List.set]
        refine ⟨_, rfl, .inl ⟨rfl, _, SqL.of (x6.lst nb0 hx1)⟩, _, rfl, _, rfl, by show 2 ≤ sizeLine; decide, fun t ht => ?_⟩
        obtain ⟨as, e1, e2, e3⟩ := ((hb5.extS nb0 x6).ext (.new (o := .tup [.int (jj : Int), .int ((i + 1 : Nat) : Int)]) ht)).push (y := .ref t) (b := (jj, i + 1)) (.tup (SqT.of upd_same) (.cons (.int _) (.cons (.int _) .nil))) ⟨by show jj < i + 1; omega, hi'⟩
        exact ⟨b0, as, _, rfl, rfl, e1, small1000 (by omega), _, _, rfl, ((x5.trans x6).trans (.new ht)).write (.inl hb0f), (W6.ext (.new ht)).upd nb0, e3⟩
      · refine ⟨_, rfl, _, rfl, N + 2 + i, p, i + 1, rfl, W5, by omega, by omega, by omega, fun jj H6 hj x6 W6 => ?_⟩
        have W6 := W6.mono (show N + 2 + i + 1 ≤ N + 2 + (i + 1) by omega)
        dsimp only [gName, tSeq, List.set]
        refine ⟨_, rfl, .inl ⟨rfl, _, SqL.of (x6.lst nb0 hx1)⟩, _, rfl, _, rfl, by show 2 ≤ sizeLine; decide, fun t ht => ?_⟩
        obtain ⟨as, e1, e2, e3⟩ := ((hb5.extS nb0 x6).ext (.new (o := .tup [.int (jj : Int), .int ((i + 1 : Nat) : Int)]) ht)).push (y := .ref t) (b := (jj, i + 1)) (.tup (SqT.of upd_same) (.cons (.int _) (.cons (.int _) .nil))) ⟨by show jj < i + 1; omega, hi'⟩
        exact ⟨b0, as, _, rfl, rfl, e1, small1000 (by omega), _, _, rfl, ((x5.trans x6).trans (.new ht)).write (.inl hb0f), (W6.ext (.new ht)).upd nb0, e3⟩
    · rintro σ H5 ⟨o6, o7, rfl, x5, W5, hb5⟩
      have hb5 := hb5.up (show ((n : Int) - 1).toNat ≤ 11 by omega)
      have W5 := W5.mono (show N + 2 + ((n : Int) - 1).toNat ≤ N + 13 by omega)
      clear hb4 W4 x04 H4
      dsimp only [gName, tSeq, List.set]
      refine ⟨_, rfl, _, rfl, _, _, rfl, rfl, .inl ⟨by decide, by decide⟩, by show 5 ≤ sizeLine; decide, fun l hl => ?_⟩
      have nl := W5.notin hl
      have xl : Ext H5 (upd H5 l (.lst [.int 0, .int 1, .int 2, .int (n : Int), .int (2 * (n : Int))])) := .new hl
      refine ⟨_, rfl, N + 13, p, 5, rfl, W5.ext xl, by omega, by decide, by decide, fun z H6 hz x6 W6 => ?_⟩
      obtain ⟨tn, htn, htb⟩ : ∃ tn : Nat, ([V.int 0, .int 1, .int 2, .int (n : Int), .int (2 * (n : Int))])[z]? = some (.int (tn : Int)) ∧ tn ≤ 24 :=
        match z, hz with
        | 0, _ => ⟨0, rfl, by decide⟩
        | 1, _ => ⟨1, rfl, by decide⟩
        | 2, _ => ⟨2, rfl, by decide⟩
        | 3, _ => ⟨n, rfl, by omega⟩
        | 4, _ => ⟨2 * n, by show some (V.int (2 * (n : Int))) = some (V.int ((2 * n : Nat) : Int)); rw [show ((2 * n : Nat) : Int) = 2 * (n : Int) by omega], by omega⟩
      have hb6 := (hb5.ext xl).extS nb0 x6
      have x06 := x5.trans ((ExtS.of xl).trans x6)
      refine ⟨l, _, z, _, rfl, rfl, SqL.of (x6.lst nl upd_same), atI_nat htn, _, rfl, by omega, by omega, for_range (lo := 0) (n := (tn : Int).toNat) (fun i σ H7 => ∃ o8 o9 o10 : Option V, σ = [some (.ref p), some (.int (lm : Int)), some (.int (most : Int)), some (.int (n : Int)), some (.int (srt : Int)), some (.ref b0), o6, o7, o8, o9, o10, none, none, none] ∧ ExtS [p] H H7 ∧ WellAt (N + 14 + 2 * i) H7 p ∧ PairL K n (11 + i) H7 b0)
        ⟨_, _, _, rfl, x06, W6, hb6⟩ ?_ ?_⟩
      · clear hb6 W6 x06 x6 xl nl hl hb5 W5 x5 hz htn z l
        rintro i σ H7 hi ⟨o8, o9, o10, rfl, x7, W7, hb7⟩
        dsimp only [gName, tSeq, List.set]
        refine ⟨_, rfl, _, rfl, N + 14 + 2 * i, p, n, rfl, W7, by omega, by omega, by omega, fun u H8 hu x8 W8 => ?_⟩
        refine ⟨_, rfl, _, rfl, N + 14 + 2 * i + 1, p, n, rfl, W8, by omega, by omega, by omega, fun v H9 hv x9 W9 => ⟨_, _, rfl, ?_⟩⟩
        dsimp only [gName, tSeq, List.set]
        have x79 := x8.trans x9
        have hb9 := hb7.extS nb0 x79
        have x09 := x7.trans x79
        clear x79 x9 x8 W8 W7 hb7 x7
        refine ⟨_, rfl, _, rfl, rfl, _, rfl, ?_⟩
        by_cases huv : u = v
        · rw [show (!decide (V.int (u : Int) = V.int (v : Int))) = false by rw [huv]; simp]
          exact iteF ⟨_, _, _, rfl, x09, W9, hb9.up (by omega)⟩
        · rw [show (!decide (V.int (u : Int) = V.int (v : Int))) = true by
            rw [decide_eq_false]
            · rfl
            · intro e
              injection e with e
              omega]
          refine iteT ?_
          obtain ⟨xs9, bs9, hx9, -⟩ := hb9.ex
          refine ⟨_, rfl, .inl ⟨rfl, _, SqL.of hx9⟩, _, rfl, _, rfl, _, _, rfl, _, rfl, _, rfl, _, _, rfl, by show 2 ≤ sizeLine; decide, fun t ht => ?_⟩
          have q1 : (if (v : Int) < (u : Int) then (v : Int) else (u : Int)) = ((min u v : Nat) : Int) := by split <;> omega
          have q2 : (if (v : Int) > (u : Int) then (v : Int) else (u : Int)) = ((max u v : Nat) : Int) := by split <;> omega
          rw [q1, q2]
          obtain ⟨as, e1, e2, e3⟩ := (hb9.ext (.new (o := .tup [.int ((min u v : Nat) : Int), .int ((max u v : Nat) : Int)]) ht)).push (y := .ref t) (b := (min u v, max u v)) (.tup (SqT.of upd_same) (.cons (.int _) (.cons (.int _) .nil))) ⟨by show min u v < max u v; omega, by show max u v < n; omega⟩
          exact ⟨b0, as, _, rfl, rfl, e1, small1000 (by omega), _, _, _, rfl, (x09.trans (.new ht)).write (.inl hb0f), (W9.ext (.new ht)).upd nb0, e3⟩
      · clear hb6 W6 x06 x6 xl nl hl hb5 W5 x5 hz htn
        rintro σ H7 ⟨o8, o9, o10, rfl, x7, W7, hb7⟩
        have hb7 := hb7.up (show 11 + (tn : Int).toNat ≤ 35 by omega)
        have W7 := W7.mono (show N + 14 + 2 * (tn : Int).toNat ≤ N + 62 by omega)
        clear htb
        dsimp only [gName, tSeq, List.set]
        refine ⟨_, rfl, _, rfl, ⟨by omega, by omega⟩, fun ml hml => ?_⟩
        have x8 : Ext H7 (upd H7 ml (.lst (rgV 0 (n : Int)))) := .new hml
        have hml8 : (upd H7 ml (.lst (rgV 0 (n : Int)))) ml = some (.lst (vsN (List.range n))) := by rw [upd_same, rgV_nat]
        have nml := W7.notin hml
        have bml := hb7.notNone hml
        have W8 := W7.ext x8
        have hb8 := hb7.ext x8
        have x08 := x7.trans (.of x8)
        have hmlf := x7.free hml
        clear x8 hb7 W7 x7 hml
        generalize upd H7 ml (.lst (rgV 0 (n : Int))) = H8 at hml8 W8 hb8 x08 ⊢
        dsimp only [gName, tSeq, List.set]
        refine ⟨_, rfl, _, rfl, by omega, by omega, for_range (lo := 0) (n := (n : Int).toNat) (fun i σ H9 => ∃ (o6 o7 : Option V) (fs : List Nat), σ = [some (.ref p), some (.int (lm : Int)), some (.int (most : Int)), some (.int (n : Int)), some (.int (srt : Int)), some (.ref b0), o6, o7, o8, o9, o10, some (.ref ml), none, none] ∧ H9 ml = some (.lst (vsN fs)) ∧ fs.Perm (List.range n) ∧ ExtS [p] H H9 ∧ WellAt (N + 62 + i) H9 p ∧ PairL K n 35 H9 b0)
          ⟨_, _, _, rfl, hml8, List.Perm.refl _, x08, W8, hb8⟩ ?_ ?_⟩
        · clear hml8 W8 hb8 x08 H8
          rintro i σ H9 hi ⟨o6, o7, fs, rfl, h9, pm, x9, W9, hb9⟩
          rw [Int.toNat_natCast] at hi
          have hfl : fs.length = n := by rw [pm.length_eq, List.length_range]
          rw [Int.zero_add]
          dsimp only [gName, tSeq, List.set]
          refine ⟨_, rfl, _, rfl, _, rfl, _, rfl, _, _, rfl, rfl, N + 62 + i, p, n - i, ?_, W9, by omega, by omega, by omega, fun z H10 hz x10 W10 => ?_⟩
          · rw [show ((n - i : Nat) : Int) = (n : Int) - (i : Int) by omega]
            rfl
          have h10 := x10.lst nml h9
          have hb10 := hb9.extS nb0 x10
          have x010 := x9.trans x10
          have ez : (i : Int) + (z : Int) = ((i + z : Nat) : Int) := by omega
          clear h9 W9 hb9 x9 x10
          refine ⟨_, _, rfl, rfl, ?_⟩
          dsimp only [gName, tSeq, List.set]
          rw [ez]
          have e1 := vsN_at (l := fs) (n := i + z) (by omega)
          have e2 := vsN_at (l := fs) (n := i) (by omega)
          refine ⟨_, rfl, _, rfl, ml, _, ((i + z : Nat) : Int), _, rfl, rfl, SqL.of h10, atI_nat e1, _, rfl, _, rfl, ml, _, (i : Int), _, rfl, rfl, SqL.of h10, atI_nat e2, by show 2 ≤ sizeLine; decide, fun t ht => ?_⟩
          have xt : Ext H10 (upd H10 t (.tup [.int ((fs[i + z]'(by omega) : Nat) : Int), .int ((fs[i]'(by omega) : Nat) : Int)])) := .new ht
          have h11 := xt.lst h10
          have hmlt : ml ≠ t := ne_of_none h10 ht
          refine ⟨t, _, rfl, SqT.of upd_same, rfl, _, _, rfl, _, rfl, _, rfl, ml, _, (i : Int), i, rfl, rfl, h11, by rw [vsN_len]; exact ixN_nat (by omega), _, _, rfl, _, rfl, _, rfl, ml, _, ((i + z : Nat) : Int), i + z, rfl, rfl, upd_same, by rw [List.length_set, vsN_len]; exact ixN_nat (by omega), rfl, ?_⟩
          rw [upd_upd]
          refine ⟨_, _, (fs.set i (fs[i + z]'(by omega))).set (i + z) (fs[i]'(by omega)), rfl, ?_, (List.set_set_perm (by omega) (by omega)).trans pm, (x010.trans (.of xt)).write (.inl hmlf), ?_, (hb10.ext xt).extS (S := [ml]) (by simp [bml]) ((ExtS.refl _ _).write (.inr ⟨by simp, _, h11⟩))⟩
          · rw [upd_same]
            show some (HO.lst _) = some (HO.lst (List.map _ _))
            rw [List.map_set, List.map_set]
          · exact (W10.ext xt).upd nml
        · clear hml8 W8 hb8 x08 H8
          rintro σ H9 ⟨o6, o7, fs, rfl, h9, pm, x9, W9, hb9⟩
          have W9 := W9.mono (show N + 62 + (n : Int).toNat ≤ N + 74 by omega)
          dsimp only [gName, tSeq, List.set]
          obtain ⟨xs, bs, g1, g2, g3, g4⟩ := hb9.ex
          have hxl := dpAll_len g2
          rw [List.length_map] at hxl
          have hfn : fs.length = n := by rw [pm.length_eq, List.length_range]
          have flt : ∀ a (h : a < fs.length), fs[a] < n := fun a h => List.mem_range.mp (pm.mem_iff.mp (List.getElem_mem h))
          have fnd : fs.Nodup := pm.nodup_iff.mpr List.nodup_range
          refine ⟨_, rfl, b0, rfl, ⟨_, SqL.of g1⟩, fun D hD => ?_⟩
          have nD := W9.notin hD
          refine lc_list (K := K) (a := b0) (xs := xs) (fun i H13 => PairL K n i H13 D ∧ Ext H9 H13) ⟨.nil upd_same, .new hD⟩ (fun i H13 _ ⟨_, x13⟩ => SqL.of (x13.lst g1)) (fun i y H13 hy ⟨hp13, x13⟩ => ?_) (fun H13 ⟨hp13, x13⟩ => ?_)
          · obtain ⟨d, hd, hyd⟩ := dpAll_get' g2 hy
            have hil : i < xs.length := (List.getElem?_eq_some_iff.mp hy).1
            rw [List.getElem?_map] at hd
            obtain ⟨b, hb, rfl⟩ := Option.map_eq_some_iff.mp hd
            obtain ⟨hb1, hb2⟩ := g3 b (List.mem_of_getElem? hb)
            obtain ⟨tq, rfl, htq⟩ := dp_ints (ns := [(b.1 : Int), (b.2 : Int)]) hyd
            have h213 := x13.lst h9
            have e1 := vsN_at (l := fs) (n := b.1) (by omega)
            have e2 := vsN_at (l := fs) (n := b.2) (by omega)
            have fne : fs[b.1]'(by omega) ≠ fs[b.2]'(by omega) := List.pairwise_iff_getElem.mp fnd b.1 b.2 (by omega) (by omega) hb1
            refine ⟨tq, _, rfl, x13.sqT htq, rfl, _, _, rfl, _, _, rfl, rfl, rfl, ?_⟩
            dsimp only [tYes]
            rw [if_pos rfl]
            refine ⟨_, rfl, _, rfl, ml, _, b.1, _, rfl, rfl, SqL.of h213, atI_nat e1, _, rfl, _, rfl, ml, _, b.2, _, rfl, rfl, SqL.of h213, atI_nat e2, _, _, rfl, ?_⟩
            refine ⟨_, rfl, _, rfl, ml, _, b.1, _, rfl, rfl, SqL.of h213, atI_nat e1, _, rfl, _, rfl, ml, _, b.2, _, rfl, rfl, SqL.of h213, atI_nat e2, _, _, rfl, by show 2 ≤ sizeLine; decide, fun t ht => ?_⟩
            have l1 := flt b.1 (by omega)
            have l2 := flt b.2 (by omega)
            generalize fs[b.1]'(by omega) = u1 at fne l1 ⊢
            generalize fs[b.2]'(by omega) = u2 at fne l2 ⊢
            have q1 : (if (u2 : Int) < (u1 : Int) then (u2 : Int) else (u1 : Int)) = ((min u1 u2 : Nat) : Int) := by split <;> omega
            have q2 : (if (u2 : Int) > (u1 : Int) then (u2 : Int) else (u1 : Int)) = ((max u1 u2 : Nat) : Int) := by split <;> omega
            rw [q1, q2]
            obtain ⟨as, f1, f2, f3⟩ := (hp13.ext (.new (o := .tup [.int ((min u1 u2 : Nat) : Int), .int ((max u1 u2 : Nat) : Int)]) ht)).push (y := .ref t) (b := (min u1 u2, max u1 u2)) (.tup (SqT.of upd_same) (.cons (.int _) (.cons (.int _) .nil))) ⟨by show min u1 u2 < max u1 u2; omega, by show max u1 u2 < n; omega⟩
            exact ⟨as, f1, small1000 (by omega), f3, (x13.trans (.new ht)).write hD⟩
          · have x013 := x9.trans (.of x13)
            have W13 := W9.ext x13
            have hD13 := hp13.up (L' := 35) (by omega)
            have hDf := x9.free hD
            clear hp13 g1 g2 g3 h9 hb9 x9 W9 hD fnd flt pm x13 hxl hfn
            dsimp only [gName, tSeq, List.set]
            refine via (fun σ H14 => σ = [some (.ref p), some (.int (lm : Int)), some (.int (most : Int)), some (.int (n : Int)), some (.int (srt : Int)), some (.ref D), o6, o7, o8, o9, o10, some (.ref ml), none, none] ∧ ExtS [p] H H14 ∧ WellAt (N + 76) H14 p ∧ PairL K n 35 H14 D) ?_ (fun nx hnx => ?_)
            · clear hD13 W13 x013
              rintro σ H14 ⟨rfl, x14, W14, hD14⟩
              dsimp only [gName, tSeq, List.set]
              refine ⟨_, _, rfl, rfl, ⟨by decide, by decide, by decide⟩, by show 4 ≤ sizeLine; decide, fun l hl => ?_⟩
              have nl := W14.notin hl
              have xl : Ext H14 (upd H14 l (.lst [.int 1, .int 4, .int 10, .int ((10 : Int) ^ Int.toNat 6)])) := .new hl
              refine ⟨_, rfl, N + 76, p, 4, rfl, W14.ext xl, by omega, by decide, by decide, fun z H15 hz x15 W15 => ?_⟩
              obtain ⟨gr, hgr, hgb⟩ : ∃ gr : Nat, ([V.int 1, .int 4, .int 10, .int ((10 : Int) ^ Int.toNat 6)])[z]? = some (.int (gr : Int)) ∧ gr ≤ 1000000 :=
                match z, hz with
                | 0, _ => ⟨1, rfl, by decide⟩
                | 1, _ => ⟨4, rfl, by decide⟩
                | 2, _ => ⟨10, rfl, by decide⟩
                | 3, _ => ⟨1000000, congrArg some (congrArg V.int (by decide)), by decide⟩
              have hD15 := (hD14.ext xl).extS nD x15
              have x015 := x14.trans ((ExtS.of xl).trans x15)
              refine ⟨l, _, z, _, rfl, rfl, SqL.of (x15.lst nl upd_same), atI_nat hgr, ?_⟩
              clear x15 hD14 W14 x14 xl nl hl hgr
              dsimp only [gName, tSeq, List.set]
              refine ⟨_, rfl, _, rfl, by omega, by omega, fun E0 hE0 => ?_⟩
              have nE := W15.notin hE0
              have hE0f := x015.free hE0
              refine lc_range (lo := 0) (n := (n : Int).toNat) (fun i H16 => ∃ zs : List Int, H16 E0 = some (.lst (zs.map V.int)) ∧ zs.length = i ∧ (∀ z ∈ zs, 0 ≤ z ∧ z ≤ 1000000) ∧ ExtS [p] H15 H16 ∧ WellAt (N + 77 + i) H16 p) ⟨[], upd_same, rfl, (fun z hz => nomatch hz), .new hE0, W15.ext (.new hE0)⟩ (fun i H16 hi ⟨zs, j1, j2, j3, x16, W16⟩ => ?_) (fun H16 ⟨zs, j1, j2, j3, x16, W16⟩ => ?_)
              · rw [Int.toNat_natCast] at hi
                refine ⟨rfl, ?_⟩
                dsimp only [tYes]
                rw [if_pos rfl]
                refine ⟨_, rfl, _, rfl, _, _, rfl, rfl, N + 77 + i, p, gr + 1, ?_, W16, by omega, by omega, by omega, fun m H17 hm x17 W17 => ?_⟩
                · rw [show ((gr + 1 : Nat) : Int) = (gr : Int) + 1 by omega]
                  rfl
                refine ⟨_, x17.lst nE j1, by rw [List.length_map]; exact small1000 (by omega), zs ++ [(m : Int)], by rw [List.map_append]; exact upd_same, by rw [List.length_append, j2]; rfl, fun z hz => ?_, (x16.trans x17).write (.inl hE0), W17.upd nE⟩
                rcases List.mem_append.mp hz with h | h
                · exact j3 z h
                · rw [List.mem_singleton.mp h]
                  omega
              · rw [Int.toNat_natCast] at j2 W16
                refine .inl ⟨E0, _, rfl, SqL.of j1, fun qf hqf => ?_⟩
                have xf : Ext H16 (upd H16 qf (.tup (zs.map V.int))) := .new hqf
                have hD17 := (hD15.extS nD x16).ext xf
                have hf17 : (upd H16 qf (.tup (zs.map V.int))) qf = some (.tup (zs.map V.int)) := upd_same
                have W17 := W16.ext xf
                have x017 := x015.trans (x16.trans (.of xf))
                clear xf hqf j1 W16 x16
                generalize upd H16 qf (.tup (zs.map V.int)) = H17 at hD17 hf17 W17 x017 ⊢
                obtain ⟨ds, es, k1, k2, k3, k4⟩ := hD17.ex
                refine ⟨_, rfl, set_sortS (SqL.of k1) k2 (fun b hb => ⟨(k3 b hb).1, by have := (k3 b hb).2; omega⟩) fun cs q H18 x18 hq0 hasc hmem hq => ?_⟩
                refine ⟨by show 2 ≤ sizeLine; decide, fun t ht => ?_⟩
                have x19 : Ext H17 (upd H18 t (.tup [.ref qf, .ref q])) := x18.trans (.new ht)
                exact k t zs cs _ (x017.trans (.of x19)) ((W17.ext x19).mono (by omega)) (x017.free (x18.free ht)) (.tup (SqT.of upd_same) (.cons (.tup (SqT.of (x19.tup hf17)) (dpAll_of_ints zs)) (.cons (dp_ext (.new ht) hq) .nil)))
                  ⟨by omega, by omega, j3, fun b hb => ⟨(k3 b ((hmem b).mp hb)).1, by rw [j2]; exact (k3 b ((hmem b).mp hb)).2⟩, hasc⟩ (by omega) (by omega)
            · obtain ⟨xs, bs, h1, h2, h3, h4⟩ := hD13.ex
              have hxl := dpAll_len h2
              rw [List.length_map] at hxl
              refine ⟨_, rfl, Nat.zero_le _, fun l hl => ?_⟩
              have y11 : Ext H13 (upd H13 l (.lst [])) := .new hl
              have hD15 := hD13.ext y11
              have W15 := W13.ext y11
              have x015 := x013.trans (.of y11)
              have h15 := y11.lst h1
              refine ⟨.list (bs.map pairD), .list [], .lst (SqL.of (y11.lst h1)) (dpAll_ext y11 h2), .lst (SqL.of upd_same) .nil, (Sh.lst (n := 2) (fun d hd => by
                obtain ⟨b, _, rfl⟩ := List.mem_map.mp hd
                exact sh_pair 0 _ _)).shaped (by decide), (Sh.lst (n := 0) (fun d hd => by cases hd)).shaped (by decide), _, rfl, ite2 (fun hk => ?_) (fun _ => hnx _ _ ⟨rfl, x015, W15.mono (by omega), hD15⟩)⟩
              have hne : 0 < xs.length := Nat.pos_of_ne_zero fun e => by
                have hb0 : bs = [] := List.length_eq_zero_iff.mp (by omega)
                subst hb0
                simp [PySem.SeqAt.eqv_refl, PyData.eqv, PyData.eqvAll] at hk
              clear hk y11 h1 h2 W13 x013 hD13
              generalize upd H13 l (.lst []) = H15 at hD15 W15 x015 h15 ⊢
              refine ⟨_, rfl, N + 74, p, 6, rfl, W15, by omega, by decide, by decide, fun m H16 hm x16 W16 => ⟨rfl, _, rfl, ite2 (fun _ => ?_) (fun _ => hnx _ _ ⟨rfl, x015.trans x16, W16.mono (by omega), hD15.extS nD x16⟩)⟩⟩
              have h16 := x16.lst nD h15
              have hD16 := hD15.extS nD x16
              refine ⟨_, rfl, .inl ⟨rfl, _, SqL.of h16⟩, _, rfl, _, rfl, _, xs.length, rfl, .inl ⟨_, SqL.of h16, rfl⟩, N + 75, p, xs.length, rfl, W16, by omega, by omega, by omega, fun j H17 hj x17 W17 => ?_⟩
              have h17 := x17.lst nD h16
              refine ⟨D, _, _, j, _, rfl, rfl, h17, by omega, by omega, (ixN_seq (ixN_nat hj)).1, List.getElem?_eq_getElem hj, hnx _ _ ⟨rfl, ((x015.trans x16).trans x17).write (.inl hDf), (W17.mono (by omega)).upd nD, ?_⟩⟩
              exact (hD16.extS nD x17).erase h17
end
end Wd

set_option Elab.async false
set_option linter.all false
set_option maxRecDepth 100000
set_option maxHeartbeats 4000000
namespace Wd
open PySem PySem.Spec PyProof.Rows L2 Bx Gx

























































section
variable {P : Program} {w : World} {K : PySem.W.Frag} {mg : Str → Option Value} {base : Heap}
/-! ### alike -/
def tyName : PyData → String
  | .none => "NoneType"
  | .bool _ => "bool"
  | .int _ => "int"
  | .str _ => "str"
  | .list _ => "list"
  | .tuple _ => "tuple"
  | _ => "dict"
theorem tyX_dp {H : Hp} {v : V} {d : PyData} (h : Dp K H v d) : TyX K H v (.type (tyName d)) ∧ tyName d ∈ ["NoneType", "bool", "int", "str", "list", "tuple"] := by
  cases h with
  | non => exact ⟨.base .non, by simp [tyName]⟩
  | bl b => exact ⟨.base (.bl b), by simp [tyName]⟩
  | int i => exact ⟨.base (.int i), by simp [tyName]⟩
  | str x => exact ⟨.base (.str x), by simp [tyName]⟩
  | lst h _ =>
    refine ⟨?_, by simp [tyName]⟩
    rcases h with (h | ⟨o, h⟩) | ⟨o, _, _, h1, h2, _⟩
    · exact .base (.lst h)
    · exact .base (.frz h)
    · exact .kList h1 h2
  | tup h _ =>
    refine ⟨?_, by simp [tyName]⟩
    rcases h with (h | ⟨o, h⟩) | ⟨o, _, _, h1, h2, _⟩
    · exact .base (.tup h)
    · exact .fTuple h
    · exact .kTuple h1 h2
def kindsOf (T : String) : List Bool := [decide (T = "bool"), decide (T = "int" ∨ T = "bool"), decide (T = "str"), decide (T = "tuple"), decide (T = "list"), decide (T = "NoneType")]
theorem kit_in (T U : String) (hT : T ∈ ["NoneType", "bool", "int", "str", "list", "tuple"]) (hU : U ∈ ["bool", "int", "str", "list", "tuple"]) : PySem.W.kitOne K (.type T) (.type U) = some (decide (T = U ∨ (T = "bool" ∧ U = "int"))) := by
  simp only [List.mem_cons, List.mem_nil_iff, or_false] at hT hU
  rcases hT with rfl | rfl | rfl | rfl | rfl | rfl <;> rcases hU with rfl | rfl | rfl | rfl | rfl <;> exact kit_ty (by decide +kernel)
def spKinds (K : PySem.W.Frag) : Sp := fun vs H Q _ => ∃ (v : V) (d : PyData), vs = [v] ∧ Dp K H v d ∧ ∀ q H', Ext H H' → H q = none → H' q = some (.lst ((kindsOf (tyName d)).map V.bl)) → Q (.ref q) H'
end
section
variable {P : Program} {w : World} {K : PySem.W.Frag} {mg : Str → Option Value} {base : Heap}
theorem seq_eq {d : PyData} {ds ds' : List PyData} (h : d = .list ds ∨ d = .tuple ds) (h' : d = .list ds' ∨ d = .tuple ds') : ds' = ds := by
  rcases h with rfl | rfl <;> rcases h' with e | e <;> cases e <;> rfl
theorem canLay_get : ∀ {ds : List PyData}, PyData.canLayAll0 ds = true → ∀ d ∈ ds, d.canLay0 = true
  | [], _, d, hd => by cases hd
  | e :: ds, h, d, hd => by
    simp only [PyData.canLayAll0, Bool.and_eq_true] at h
    rcases List.mem_cons.mp hd with z | z
    · rw [z]; exact h.1
    · exact canLay_get h.2 d z
theorem depth_get : ∀ {ds : List PyData} {n : Nat}, PyData.depthAll ds ≤ n → ∀ d ∈ ds, d.depth ≤ n
  | [], _, _, d, hd => by cases hd
  | e :: ds, n, h, d, hd => by
    simp only [PyData.depthAll] at h
    rcases List.mem_cons.mp hd with z | z
    · rw [z]; omega
    · exact depth_get (by omega) d z
theorem rix_of {H : Hp} {a : Addr} {xs : List V} {i : Nat} {v : V} {Q : VK} (h : SqL K H a xs ∨ SqT K H a xs) (e : xs[i]? = some v) (q : Q v H) : rIx K (.ref a) (.int (i : Int)) H Q := by
  rcases h with h | h
  · exact .inl ⟨a, xs, i, v, rfl, rfl, h, atI_nat e, q⟩
  · exact .inr (.inl ⟨a, xs, i, v, rfl, rfl, h, atI_nat e, q⟩)
theorem ix_seqK {X : Cx} {K : PySem.W.Frag} (h : X.K = K) : IxR X (rIx K) := h ▸ ix_seq
mutual
/-- data whose lists and tuples are short -/
def smD : PyData → Bool
  | .list ds => decide (ds.length ≤ 500) && smDs ds
  | .tuple ds => decide (ds.length ≤ 500) && smDs ds
  | _ => true
def smDs : List PyData → Bool
  | [] => true
  | d :: ds => smD d && smDs ds
end
theorem smD_seq {d : PyData} {ds : List PyData} (h : d = .list ds ∨ d = .tuple ds) (hs : smD d = true) : ds.length ≤ 500 ∧ smDs ds = true := by
  rcases h with rfl | rfl <;> simpa [smD] using hs
theorem smDs_get : ∀ {ds : List PyData}, smDs ds = true → ∀ d ∈ ds, smD d = true
  | [], _, d, hd => by cases hd
  | e :: ds, h, d, hd => by
    simp only [smDs, Bool.and_eq_true] at h
    rcases List.mem_cons.mp hd with z | z
    · rw [z]; exact h.1
    · exact smDs_get h.2 d z
def spAlike (K : PySem.W.Frag) (r : Nat) : Sp := fun vs H Q _ => ∃ (v u : V) (d : PyData), vs = [v, u] ∧ Dp K H v d ∧ Dp K H u d ∧ d.canLay0 = true ∧ smD d = true ∧ d.depth < r ∧ ∀ H', Ext H H' → Q (.bl true) H'
theorem dp_seq {H : Hp} {v : V} {d : PyData} (h : Dp K H v d) (ht : tyName d = "tuple" ∨ tyName d = "list") : ∃ a xs ds, v = .ref a ∧ (SqL K H a xs ∨ SqT K H a xs) ∧ DpAll K H xs ds ∧ d.depth = PyData.depthAll ds + 1 ∧ (d.canLay0 = true → PyData.canLayAll0 ds = true) ∧ (d = .list ds ∨ d = .tuple ds) := by
  cases h with
  | lst h hs => exact ⟨_, _, _, rfl, .inl h, hs, by simp [PyData.depth], by simp [PyData.canLay0], .inl rfl⟩
  | tup h hs => exact ⟨_, _, _, rfl, .inr h, hs, by simp [PyData.depth], by simp [PyData.canLay0], .inr rfl⟩
  | non => simp [tyName] at ht
  | bl => simp [tyName] at ht
  | int => simp [tyName] at ht
  | str => simp [tyName] at ht
theorem kit_two (T : String) (hT : T ∈ ["NoneType", "bool", "int", "str", "list", "tuple"]) : PySem.W.kitAny K (.type T) [.type "tuple", .type "list"] = some (decide (T = "tuple" ∨ T = "list")) := by
  unfold PySem.W.kitAny
  rw [kit_in T "tuple" hT (by simp)]
  unfold PySem.W.kitAny
  rw [kit_in T "list" hT (by simp)]
  by_cases h1 : T = "tuple"
  · subst h1; rfl
  · by_cases h2 : T = "list"
    · subst h2; rfl
    · simp only [h1, h2, false_or, or_self, decide_false, show ¬ ("tuple" = "int") by decide, show ¬ ("list" = "int") by decide, and_false]
      rfl
end
section
variable {P : Program} {w : World} {K : PySem.W.Frag} {mg : Str → Option Value} {base : Heap}
/-! ### equal, kinds too -/
mutual
/-- data whose lists and tuples are not too long -/
def lgD : PyData → Bool
  | .list ds => decide (ds.length ≤ 100001) && lgDs ds
  | .tuple ds => decide (ds.length ≤ 100001) && lgDs ds
  | _ => true
def lgDs : List PyData → Bool
  | [] => true
  | d :: ds => lgD d && lgDs ds
end
theorem lgD_seq {d : PyData} {ds : List PyData} (h : d = .list ds ∨ d = .tuple ds) (hs : lgD d = true) : ds.length ≤ 100001 ∧ lgDs ds = true := by
  rcases h with rfl | rfl <;> simpa [lgD] using hs
theorem lgDs_get : ∀ {ds : List PyData}, lgDs ds = true → ∀ d ∈ ds, lgD d = true
  | [], _, d, hd => by cases hd
  | e :: ds, h, d, hd => by
    simp only [lgDs, Bool.and_eq_true] at h
    rcases List.mem_cons.mp hd with z | z
    · rw [z]; exact h.1
    · exact lgDs_get h.2 d z
theorem lgDs_of {α : Type} (f : α → PyData) (xs : List α) (h : ∀ x ∈ xs, lgD (f x) = true) : lgDs (xs.map f) = true := by
  induction xs with
  | nil => rfl
  | cons x xs ih => rw [List.map_cons, lgDs, h x List.mem_cons_self, ih fun y hy => h y (List.mem_cons_of_mem _ hy)]; rfl
def spSameW (K : PySem.W.Frag) (r : Nat) : Sp := fun vs H Q _ => ∃ (v u : V) (d : PyData), vs = [v, u] ∧ Dp K H v d ∧ Dp K H u d ∧ d.canLay0 = true ∧ lgD d = true ∧ d.depth < r ∧ ∀ H', Ext H H' → Q (.bl true) H'
theorem sc_sameW : FnScope ["found", "due", "k"] ["found", "due"] (defScope st__law_same) := ⟨rfl, rfl, rfl, by decide +kernel, rfl, by decide +kernel, by decide +kernel⟩
theorem ok_sameW {f : Addr} {fd : FuncData} (F : Fun K "_law_same" "_law_same" st__law_same f fd) (B : Bl mg) (hm : mg "_law_same" = some (.ref f)) (hb : Binds K fd ["found", "due"] []) :
    ∀ r : Nat, FnOk P w K mg base CX0 (1 + r) f fd ["found", "due"] (spSameW K r)
  | 0 => by
    refine F.ok (k := 0) sc_sameW (fun vs H Q E h => ?_) (fun cdv A outer s H vs Q E hr h => ?_)
    · obtain ⟨v, u, d, rfl, _⟩ := h
      rfl
    · obtain ⟨v, u, d, rfl, _, _, _, _, h0, _⟩ := h
      omega
  | r + 1 => by
    have c__law_same : Cal P w K mg base (1 + r) "_law_same" ["found", "due"] (spSameW K r) := ⟨f, fd, ok_sameW F B hm hb r, hm, F.kp, hb⟩
    refine F.ok (k := 1 + r) sc_sameW (fun vs H Q E h => ?_) (fun cdv A outer s H vs Q E hr h => ?_)
    · obtain ⟨v, u, d, rfl, _⟩ := h
      rfl
    · obtain ⟨v, u, d, rfl, hv, hu, hlay, hsm, hdep, k⟩ := h
      have nd := sc_sameW.nd
      refine ⟨_, pss_cons (ps_if (pt_cmpR op_isN (pv 1) pe_non (nomark _)) (pss_one (ps_ret (pe_cmpR op_isN (pv 0) pe_non (nomark _)))) pss_nil)
        (pss_cons (ps_if (pt_val (pe_callB call_isi (by rfl) B.isinstance (by decide +kernel) (pa_cons (pv 1) (pa_cons (pe_bltn rfl B.bool (by decide +kernel) (v := .ty "bool") rfl) pa_nil))) (by intro _; rfl)) (pss_one (ps_ret (pe_and (pe_callB call_isi (by rfl) B.isinstance (by decide +kernel) (pa_cons (pv 0) (pa_cons (pe_bltn rfl B.bool (by decide +kernel) (v := .ty "bool") rfl) pa_nil))) (pe_one (pe_cmpR op_eq (pv 0) (pv 1) (nomark _)))))) pss_nil)
        (pss_cons (ps_if (pt_val (pe_callB call_isi (by rfl) B.isinstance (by decide +kernel) (pa_cons (pv 1) (pa_cons (pe_bltn rfl B.int (by decide +kernel) (v := .ty "int") rfl) pa_nil))) (by intro _; rfl)) (pss_one (ps_ret (pe_and (pe_callB call_isi (by rfl) B.isinstance (by decide +kernel) (pa_cons (pv 0) (pa_cons (pe_bltn rfl B.int (by decide +kernel) (v := .ty "int") rfl) pa_nil))) (pe_and (pe_not (pe_callB call_isi (by rfl) B.isinstance (by decide +kernel) (pa_cons (pv 0) (pa_cons (pe_bltn rfl B.bool (by decide +kernel) (v := .ty "bool") rfl) pa_nil)))) (pe_one (pe_cmpR op_eq (pv 0) (pv 1) (nomark _))))))) pss_nil)
        (pss_cons (ps_if (pt_val (pe_callB call_isi (by rfl) B.isinstance (by decide +kernel) (pa_cons (pv 1) (pa_cons (pe_bltn rfl B.str (by decide +kernel) (v := .ty "str") rfl) pa_nil))) (by intro _; rfl)) (pss_one (ps_ret (pe_and (pe_callB call_isi (by rfl) B.isinstance (by decide +kernel) (pa_cons (pv 0) (pa_cons (pe_bltn rfl B.str (by decide +kernel) (v := .ty "str") rfl) pa_nil))) (pe_one (pe_cmpR op_eq (pv 0) (pv 1) (nomark _)))))) pss_nil)
        (pss_cons (ps_if (PW.pt (pw_or (pt_cmpR op_ne (pe_callB call_isi (by rfl) B.isinstance (by decide +kernel) (pa_cons (pv 1) (pa_cons (pe_bltn rfl B.list (by decide +kernel) (v := .ty "list") rfl) pa_nil))) (pe_callB call_isi (by rfl) B.isinstance (by decide +kernel) (pa_cons (pv 0) (pa_cons (pe_bltn rfl B.list (by decide +kernel) (v := .ty "list") rfl) pa_nil))) (nomark _)) (pw_or1 (pt_cmpR op_ne (pe_callB call_isi (by rfl) B.isinstance (by decide +kernel) (pa_cons (pv 1) (pa_cons (pe_bltn rfl B.tuple (by decide +kernel) (v := .ty "tuple") rfl) pa_nil))) (pe_callB call_isi (by rfl) B.isinstance (by decide +kernel) (pa_cons (pv 0) (pa_cons (pe_bltn rfl B.tuple (by decide +kernel) (v := .ty "tuple") rfl) pa_nil))) (nomark _))))) pss_never pss_nil)
        (pss_one (ps_ret (pe_and (pe_cmpR op_eq (pe_callB call_len (by rfl) B.len PySem.boot_len (pa_cons (pv 0) pa_nil)) (pe_callB call_len (by rfl) B.len PySem.boot_len (pa_cons (pv 1) pa_nil)) (nomark _)) (pe_one (pe_callB (cr_all rfl) (by rfl) B.all (by decide +kernel) (pa_cons (pe_lc (own := [("k", 2)]) (g := gName 2) (by rfl) nd (pi_range1 rfl B.range (pa_cons (pe_callB call_len (by rfl) B.len PySem.boot_len (pa_cons (pv 1) pa_nil)) pa_nil)) (blkOk_by (own := [("k", 2)]) (N := ["found", "due", "k"]) (sc := defScope st__law_same) (by decide +kernel)) (fun _ _ _ _ _ => pg_name (i := 2) nd rfl (Or.inl rfl)) (fun _ _ _ _ _ => pts_nil) (fun _ _ _ _ _ => pe_cal c__law_same hr rfl (pa_cons (pe_ix (ix_seqK (K := K) rfl) (pv 0) (pv 2) (fun _ _ => rfl)) (pa_cons (pe_ix (ix_seqK (K := K) rfl) (pv 1) (pv 2) (fun _ _ => rfl)) pa_nil)))) pa_nil)))))))))), ?_⟩
      obtain ⟨tv, hin⟩ := tyX_dp hv
      obtain ⟨tu, _⟩ := tyX_dp hu
      have kk := fun U hU => kit_in (K := K) (tyName d) U hin hU
      by_cases hs : tyName d = "tuple" ∨ tyName d = "list"
      · have nB : ¬ (tyName d = "bool" ∨ tyName d = "bool" ∧ "bool" = "int") := by rcases hs with e | e <;> rw [e] <;> decide
        have nI : ¬ (tyName d = "int" ∨ tyName d = "bool" ∧ "int" = "int") := by rcases hs with e | e <;> rw [e] <;> decide
        have nS : ¬ (tyName d = "str" ∨ tyName d = "bool" ∧ "str" = "int") := by rcases hs with e | e <;> rw [e] <;> decide
        obtain ⟨av, xs, ds, rfl, sv, av2, hdd, hcl, hor⟩ := dp_seq hv hs
        obtain ⟨au, ys, ds', rfl, su, au2, _, _, hor'⟩ := dp_seq hu hs
        have eds : ds' = ds := seq_eq hor hor'
        subst eds
        have l1 := dpAll_len av2
        have l2 := dpAll_len au2
        have lenv : ∀ {H : Hp} {a : Addr} {xs : List V}, (SqL K H a xs ∨ SqT K H a xs) → LenV K (.ref a) H xs.length := fun h => by
          rcases h with h | h
          · exact .inl ⟨_, h, rfl⟩
          · exact .inr ⟨_, h, rfl⟩
        refine ⟨_, rfl, rfl, _, rfl, ?_⟩
        rw [decide_eq_false (fun y => nomatch y : ¬ V.ref au = V.non)]
        refine iteF ⟨_, rfl, .ref au, _, _, _, _, rfl, .ty "bool", tu, kk "bool" (by simp), _, rfl, ?_⟩
        rw [decide_eq_false nB]
        refine iteF ⟨_, rfl, .ref au, _, _, _, _, rfl, .ty "int", tu, kk "int" (by simp), _, rfl, ?_⟩
        rw [decide_eq_false nI]
        refine iteF ⟨_, rfl, .ref au, _, _, _, _, rfl, .ty "str", tu, kk "str" (by simp), _, rfl, ?_⟩
        rw [decide_eq_false nS]
        refine iteF ⟨_, rfl, .ref au, _, _, _, _, rfl, .ty "list", tu, kk "list" (by simp), _, rfl, .ref av, _, _, _, _, rfl, .ty "list", tv, kk "list" (by simp), rfl, _, rfl, ?_⟩
        rw [decide_eq_true rfl]
        refine iteF ⟨_, rfl, .ref au, _, _, _, _, rfl, .ty "tuple", tu, kk "tuple" (by simp), _, rfl, .ref av, _, _, _, _, rfl, .ty "tuple", tv, kk "tuple" (by simp), rfl, _, rfl, ?_⟩
        rw [decide_eq_true rfl]
        refine iteF ?_
        refine ⟨_, rfl, _, xs.length, rfl, lenv sv, _, rfl, _, ys.length, rfl, lenv su, rfl, _, rfl, ?_⟩
        obtain ⟨hl5, hsm2⟩ := lgD_seq hor' hsm
        have elen : decide (V.int (xs.length : Int) = V.int (ys.length : Int)) = true := decide_eq_true (by rw [l1, l2])
        rw [elen]
        refine iteT ⟨_, rfl, _, ys.length, rfl, lenv su, _, rfl, by omega, by omega, fun D hD => ?_⟩
        have nlst : ∀ {H H' : Hp} {a : Addr} {xs : List V}, Ext H H' → (SqL K H a xs ∨ SqT K H a xs) → (SqL K H' a xs ∨ SqT K H' a xs) := fun x h => h.elim (fun z => .inl (x.sqL z)) fun z => .inr (x.sqT z)
        refine lc_range (lo := 0) (n := (ys.length : Int).toNat) (fun i H4 => H4 D = some (.lst ((List.replicate i true).map V.bl)) ∧ Ext H H4) ⟨upd_same, .new hD⟩ (fun i H4 hi ⟨e4, x4⟩ => ?_) fun H4 ⟨e4, x4⟩ => ?_
        · rw [Int.toNat_natCast] at hi
          have hx := List.getElem?_eq_getElem (show i < xs.length by omega)
          have hy := List.getElem?_eq_getElem hi
          obtain ⟨d1, hd1, hp1⟩ := dpAll_get' av2 hx
          obtain ⟨d2, hd2, hp2⟩ := dpAll_get' au2 hy
          have ed : d2 = d1 := by
            rw [hd1] at hd2
            exact (Option.some.inj hd2).symm
          subst ed
          have hmem := List.mem_of_getElem? hd1
          have hcn : d2.canLay0 = true := canLay_get (hcl hlay) d2 hmem
          have hdn : d2.depth < r := by
            have := depth_get (Nat.le_refl _) d2 hmem
            omega
          have e0 : (0 : Int) + (i : Int) = (i : Int) := Int.zero_add _
          refine ⟨rfl, ?_⟩
          rw [e0]
          dsimp only [tYes]
          rw [if_pos rfl]
          refine ⟨_, rfl, _, rfl, rix_of (nlst x4 sv) hx ⟨_, rfl, _, rfl, rix_of (nlst x4 su) hy ⟨_, _, d2, rfl, dp_ext x4 hp1, dp_ext x4 hp2, hcn, lgDs_get hsm2 d2 hmem, hdn, fun H5 x5 => ?_⟩⟩⟩
          refine ⟨_, x5.lst e4, ?_, ?_, (x4.trans x5).write hD⟩
          · rw [List.length_map, List.length_replicate]
            have h2 : 200000 ≤ sizeLine := by decide
            omega
          · rw [upd_same, List.replicate_succ', List.map_append]
            rfl
        · rw [Int.toNat_natCast] at e4
          refine ⟨D, List.replicate ys.length true, rfl, SqL.of e4, ?_⟩
          have et : ((List.replicate ys.length true).all id) = true := by
            rw [List.all_eq_true]
            intro b hb
            rw [List.eq_of_mem_replicate hb]
            rfl
          rw [et]
          exact k H4 (x4)
      · cases hv with
        | lst h1 h2 => exact absurd (.inr rfl) hs
        | tup h1 h2 => exact absurd (.inl rfl) hs
        | non =>
          cases hu
          refine ⟨_, rfl, rfl, _, rfl, ?_⟩
          rw [decide_eq_true (rfl : V.non = V.non)]
          refine iteT ⟨_, rfl, rfl, ?_⟩
          rw [decide_eq_true (rfl : V.non = V.non)]
          exact k H (.refl _)
        | bl b =>
          cases hu
          refine ⟨_, rfl, rfl, _, rfl, ?_⟩
          rw [decide_eq_false (fun y => nomatch y : ¬ V.bl b = V.non)]
          refine iteF ⟨_, rfl, .bl b, _, _, _, _, rfl, .ty "bool", tu, kk "bool" (by simp), _, rfl, ?_⟩
          rw [decide_eq_true (.inl rfl)]
          refine iteT ⟨_, rfl, .bl b, _, _, _, _, rfl, .ty "bool", tv, kk "bool" (by simp), ?_⟩
          refine ⟨_, rfl, iteT ⟨_, rfl, _, rfl, rfl, ?_⟩⟩
          rw [decide_eq_true (rfl : V.bl b = V.bl b)]
          exact k H (.refl _)
        | int i =>
          cases hu
          refine ⟨_, rfl, rfl, _, rfl, ?_⟩
          rw [decide_eq_false (fun y => nomatch y : ¬ V.int i = V.non)]
          have nB : ¬ (tyName (.int i) = "bool" ∨ tyName (.int i) = "bool" ∧ "bool" = "int") := by simp [tyName]
          refine iteF ⟨_, rfl, .int i, _, _, _, _, rfl, .ty "bool", tu, kk "bool" (by simp), _, rfl, ?_⟩
          rw [decide_eq_false nB]
          refine iteF ⟨_, rfl, .int i, _, _, _, _, rfl, .ty "int", tu, kk "int" (by simp), _, rfl, ?_⟩
          rw [decide_eq_true (.inl rfl)]
          refine iteT ⟨_, rfl, .int i, _, _, _, _, rfl, .ty "int", tv, kk "int" (by simp), ?_⟩
          rw [decide_eq_true (.inl rfl)]
          refine ⟨_, rfl, iteT ⟨_, rfl, .int i, _, _, _, _, rfl, .ty "bool", tv, kk "bool" (by simp), ?_⟩⟩
          rw [decide_eq_false nB]
          refine ⟨_, rfl, _, rfl, iteT ⟨_, rfl, _, rfl, rfl, ?_⟩⟩
          rw [decide_eq_true (rfl : V.int i = V.int i)]
          exact k H (.refl _)
        | str z =>
          cases hu
          refine ⟨_, rfl, rfl, _, rfl, ?_⟩
          rw [decide_eq_false (fun y => nomatch y : ¬ V.str z = V.non)]
          have nB : ¬ (tyName (.str z) = "bool" ∨ tyName (.str z) = "bool" ∧ "bool" = "int") := by simp [tyName]
          have nI : ¬ (tyName (.str z) = "int" ∨ tyName (.str z) = "bool" ∧ "int" = "int") := by simp [tyName]
          refine iteF ⟨_, rfl, .str z, _, _, _, _, rfl, .ty "bool", tu, kk "bool" (by simp), _, rfl, ?_⟩
          rw [decide_eq_false nB]
          refine iteF ⟨_, rfl, .str z, _, _, _, _, rfl, .ty "int", tu, kk "int" (by simp), _, rfl, ?_⟩
          rw [decide_eq_false nI]
          refine iteF ⟨_, rfl, .str z, _, _, _, _, rfl, .ty "str", tu, kk "str" (by simp), _, rfl, ?_⟩
          rw [decide_eq_true (.inl rfl)]
          refine iteT ⟨_, rfl, .str z, _, _, _, _, rfl, .ty "str", tv, kk "str" (by simp), ?_⟩
          refine ⟨_, rfl, iteT ⟨_, rfl, _, rfl, rfl, ?_⟩⟩
          rw [decide_eq_true (rfl : V.str z = V.str z)]
          exact k H (.refl _)
end
end Wd

set_option Elab.async false
set_option linter.all false
set_option maxRecDepth 100000
set_option maxHeartbeats 4000000
/-! Sm: sum of a tuple of ints. -/
namespace Bx
open PySem PySem.Spec PyProof.Rows L2
theorem preSum_getD (ns : List Int) : ∀ i, i ≤ ns.length → preSum (fun i => ns.getD i 0) i = (ns.take i).sum
  | 0, _ => rfl
  | i + 1, h => by
    have e : ns.take (i + 1) = ns.take i ++ [ns[i]'(by omega)] := by
      rw [List.take_add_one, List.getElem?_eq_getElem (by omega)]
      rfl
    rw [e, List.sum_append]
    show preSum (fun i => ns.getD i 0) i + ns.getD i 0 = _
    rw [preSum_getD ns i (by omega), List.getD_eq_getElem?_getD, List.getElem?_eq_getElem (by omega)]
    simp
def rSumT (K : PySem.W.Frag) : List V → Hp → VK → Prop := fun vs H Q => ∃ (a : Addr) (ns : List Int), vs = [V.ref a] ∧ SqT K H a (ns.map V.int) ∧ Q (.int ns.sum) H
theorem cr_sumT {X : Cx} (hc : X.calm = true) : CallR X (.builtin "sum") (rSumT X.K) := by
  intro pins s σ H vs us Q I r h
  obtain ⟨a, ns, rfl, hs, q⟩ := h
  obtain ⟨its, rv, ht, hz⟩ := I.tuple hs
  rw [Vals.ref1 r]
  have ht : s.heap.IsTuple a its.toArray := ht
  have ne : a ≠ s.heap.objs.size := by
    obtain ⟨o, ho, _⟩ := ht
    exact Nat.ne_of_lt (Heap.lt_size ho)
  have hn : its.length = ns.length := by rw [← rv.length, List.length_map]
  refine call_sum_walkAnyS (wpAny_pyIter_tuple ht ?_)
  refine ⟨s.heap.objs.size, _, _, _, _, _, _, fun i => ns.getD i 0, rfl, (Walks.tuple (A := X.A.in1) (by simp [I.ok.hd hc]) s.heap.objs.size a ne its.toArray).toS, ⟨⟨_, Heap.get?_push_size _ rfl, rfl, rfl⟩, ht.push _⟩, fun b hb => ?_, fun i v hv => ?_, fun s' t' mv => ?_⟩
  · rw [Heap.size_push]
    rcases List.mem_cons.mp hb with e | e
    · rw [e]
      exact Nat.lt_succ_self _
    · rw [List.mem_singleton.mp e]
      obtain ⟨o, ho, _⟩ := ht
      exact Nat.lt_succ_of_lt (Heap.lt_size ho)
  · exact IntsAre.int_at rv.ints i v (by simpa using hv)
  · obtain ⟨h', g', d', tk', os'⟩ := s'
    obtain rfl : g' = s.gens := mv.gens
    obtain rfl : d' = s.drawn := mv.drawn
    obtain rfl : os' = s.os := mv.os
    have e : preSum (fun i => ns.getD i 0) its.toArray.size = ns.sum := by
      rw [List.size_toArray, hn, preSum_getD ns _ (Nat.le_refl _), List.take_length]
    rw [e]
    refine ⟨.int _, H, I.kept (t' := tk') fun b o eo => ?_, ⟨_, rfl⟩, q⟩
    refine mv.heap b o ?_ (Heap.get?_push_of_some _ eo)
    rw [List.mem_singleton]
    exact Nat.ne_of_lt (Heap.lt_size eo)
/-! ### three arguments by name, from behind -/
def rev3 {α : Type} : List α → List α → List α
  | [], [c, b, a] => [a, b, c]
  | _, _ => []
theorem rev3_rel {vs zs : List V} {us ws : List Value} (h1 : Vals vs us) (h2 : Vals zs ws) : Vals (rev3 vs zs) (rev3 us ws) := by
  cases h1 with
  | cons _ _ => exact .nil
  | nil =>
    cases h2 with
    | nil => exact .nil
    | cons a h3 => cases h3 with
      | nil => exact .nil
      | cons b h4 => cases h4 with
        | nil => exact .nil
        | cons c h5 => cases h5 with
          | nil => exact .cons c (.cons b (.cons a .nil))
          | cons _ _ => exact .nil
end Bx

set_option Elab.async false
set_option linter.all false
set_option maxRecDepth 100000
set_option maxHeartbeats 4000000
/-! Dr: sorted of lists of data of any length; list(d.values()). -/
namespace Bx
open PySem PySem.Spec PyProof.Rows L2
open PySem.W (EachIs AllAlike Sortable dataLe)
theorem each_of {α β : Type} {R : α → β → Prop} : ∀ {as : List α} {bs : List β}, as.length = bs.length → (∀ (i : Nat) (a : α) (b : β), as[i]? = some a → bs[i]? = some b → R a b) → EachIs R as bs
  | [], [], _, _ => .nil
  | a :: as, b :: bs, h, k => .cons (k 0 a b rfl rfl) (each_of (Nat.succ.inj h) fun i a b h1 h2 => k (i + 1) a b h1 h2)
theorem each_at {α β : Type} {R : α → β → Prop} : ∀ {as : List α} {bs : List β}, EachIs R as bs → ∀ {i : Nat} {a : α} {b : β}, as[i]? = some a → bs[i]? = some b → R a b
  | _, _, .cons h t, 0, _, _, h1, h2 => by cases h1; cases h2; exact h
  | _, _, .cons h t, i + 1, _, _, h1, h2 => each_at t (i := i) h1 h2
theorem zip_at {α β : Type} {as : List α} {bs : List β} {i : Nat} {p : α × β} (h : (as.zip bs)[i]? = some p) : as[i]? = some p.1 ∧ bs[i]? = some p.2 := by
  rw [List.getElem?_zip_eq_some] at h
  exact h
theorem vals_of_each : ∀ {us : List Value} {zs : List (V × PyData)}, EachIs (fun v (b : V × PyData) => RelV b.1 v) us zs → Vals (zs.map (·.1)) us
  | _, _, .nil => .nil
  | _, _, .cons h t => .cons h (vals_of_each t)
theorem vals_at : ∀ {xs : List V} {us : List Value}, Vals xs us → ∀ {i : Nat} {x : V} {u : Value}, xs[i]? = some x → us[i]? = some u → RelV x u
  | _, _, .cons h t, 0, _, _, h1, h2 => by cases h1; cases h2; exact h
  | _, _, .cons h t, i + 1, _, _, h1, h2 => vals_at t (i := i) h1 h2
theorem dpAll_zip {K : PySem.W.Frag} {H : Hp} : ∀ {zs : List (V × PyData)}, (∀ z ∈ zs, Dp K H z.1 z.2) → DpAll K H (zs.map (·.1)) (zs.map (·.2))
  | [], _ => .nil
  | z :: zs, h => .cons (h z List.mem_cons_self) (dpAll_zip fun y hy => h y (List.mem_cons_of_mem _ hy))
theorem dpAll_zipmem {K : PySem.W.Frag} {H : Hp} : ∀ {xs : List V} {ds : List PyData}, DpAll K H xs ds → ∀ z ∈ xs.zip ds, Dp K H z.1 z.2
  | _, _, .nil, _, hz => nomatch hz
  | _, _, .cons h t, z, hz => by
    rw [List.zip_cons_cons] at hz
    rcases List.mem_cons.mp hz with e | e
    · rw [e]; exact h
    · exact dpAll_zipmem t z e
/-- sorted(xs) of a list of data that compare -/
def rSortDt (K : PySem.W.Frag) : List V → Hp → VK → Prop := fun vs H Q => ∃ (a : Addr) (xs : List V) (ds : List PyData), vs = [V.ref a] ∧ SqL K H a xs ∧ DpAll K H xs ds ∧ AllAlike ds ∧ Sortable ds ∧ ds.length ≤ 100000 ∧ (∀ d ∈ ds, d.depth ≤ 40) ∧
  ∀ ys es p, DpAll K H ys es → es.Perm ds → es.Pairwise (fun d e => PySem.W.dataLt e d = false) → H p = none → Q (.ref p) (upd H p (.lst ys))
theorem dataLe_not {β : Type} (k : β → PyData) (a b : β) : dataLe false k a b = !PySem.W.dataLt (k b) (k a) := rfl
theorem cr_sortDt {X : Cx} (hu : X.A.units + 64 < cLine) : CallR X (.builtin "sorted") (rSortDt X.K) := by
  intro pins s σ H vs us Q I r h
  obtain ⟨a, xs, ds, rfl, hs, hd, ha, hk, hn, hdp, q⟩ := h
  rw [Vals.ref1 r]
  obtain ⟨its, rv, hl, hz⟩ := I.list hs
  have e1 : (xs.zip ds).map (·.2) = ds := List.map_snd_zip (Nat.le_of_eq (dpAll_len hd).symm)
  have e0 : (xs.zip ds).map (·.1) = xs := List.map_fst_zip (Nat.le_of_eq (dpAll_len hd))
  have el : its.length = (xs.zip ds).length := by rw [← rv.length, List.length_zip, dpAll_len hd]; omega
  have rd : ∀ (i : Nat) (u : Value) (z : V × PyData), its[i]? = some u → (xs.zip ds)[i]? = some z → RelV z.1 u ∧ ∃ as, Reads s.heap u z.2 as := fun i u z h1 h2 => by
    obtain ⟨h3, h4⟩ := zip_at h2
    have h5 := vals_at rv h3 h1
    obtain ⟨as, h6⟩ := Dp.reads I z.2 z.1 u (dpAll_zipmem hd z (List.mem_of_getElem? h2)) h5
    exact ⟨h5, as, h6⟩
  have hl' : s.heap.IsList a its.toArray := hl.isList
  refine PySem.W.sorted_data (vs := its) (bs := xs.zip ds) (R := fun v (b : V × PyData) => RelV b.1 v) (enc := fun b : V × PyData => b.2) hl' (each_of el fun i u z h1 h2 => (rd i u z h1 h2).1) (each_of el fun i u z h1 h2 => (rd i u z h1 h2).2) (by rw [e1]; exact ha) (by rw [e1]; exact hk) (by rw [List.length_zip, sizeLine_eq]; omega)
    (fun b hb => by have := hdp b.2 (by rw [← e1]; exact List.mem_map.mpr ⟨b, hb, rfl⟩); omega) fun out ho he => ?_
  have hv := vals_of_each he
  have hperm : ((xs.zip ds).mergeSort (dataLe false fun b : V × PyData => b.2)).Perm (xs.zip ds) := List.mergeSort_perm ..
  have tot := PySem.W.sortLe_total (listOrd itemOrd) false (fun b : V × PyData => PySem.W.keyToks b.2)
  have hsort : ((xs.zip ds).mergeSort (dataLe false fun b : V × PyData => b.2)).Pairwise (fun a b => dataLe false (fun b : V × PyData => b.2) a b = true) := List.pairwise_mergeSort (fun a b c h1 h2 => tot.trans a b c h1 h2) (fun a b => Bool.or_eq_true_iff.mpr (tot.total a b)) _
  generalize (xs.zip ds).mergeSort (dataLe false fun b : V × PyData => b.2) = zs at hv hperm hsort he
  have hlz : zs.length = out.length := by rw [he.length]
  have kp : ∀ b o, s.heap.get? b = some o → (sortedAll s.heap its out.toArray).get? b = some o := fun b o e => sortedAll_old e
  obtain ⟨n, hat⟩ := sortedAll_at s.heap its out.toArray
  have hfr : H (s.heap.objs.size + 1) = none := I.hok.fresh (Nat.le_succ _)
  refine ⟨.ref (s.heap.objs.size + 1), upd H (s.heap.objs.size + 1) (.lst (zs.map (·.1))), I.laid (t' := s.toks) kp (Nat.le_succ _) ⟨?_, out, n, hv, hat⟩, rfl, q _ (zs.map (·.2)) _ (dpAll_zip fun z hz => dpAll_zipmem hd z (hperm.mem_iff.mp hz)) ?_ ?_ hfr⟩
  · rw [List.length_map, hperm.length_eq, List.length_zip, sizeLine_eq]
    omega
  · have := hperm.map (·.2)
    rw [e1] at this
    exact this
  · rw [List.pairwise_map]
    refine hsort.imp fun {d e} h => ?_
    rw [dataLe_not] at h
    simpa using h
theorem cr_sortDtK {X : Cx} {K : PySem.W.Frag} (h : X.K = K) (hu : X.A.units + 64 < cLine) : CallR X (.builtin "sorted") (rSortDt K) := h ▸ cr_sortDt hu
/-! ### list(d.values()) -/
def rValsL : V → Hp → VK → Prop := fun x H Q => ∃ (d : Addr) (kvs : List (Key × V)), x = .ref d ∧ H d = some (.dK kvs) ∧ ∀ p, H p = none → Q (.ref p) (upd H p (.lst (kvs.map (·.2))))
def tListVals (te : TE) : TE := fun σ H Q => te σ H fun x H1 => rValsL x H1 Q
theorem vals_of_at2 : ∀ {xs : List V} {us : List Value}, xs.length = us.length → (∀ (j : Nat) (x : V) (u : Value), xs[j]? = some x → us[j]? = some u → RelV x u) → Vals xs us
  | [], [], _, _ => .nil
  | x :: xs, u :: us, h, k => .cons (k 0 x u rfl rfl) (vals_of_at2 (Nat.succ.inj h) fun j x u h1 h2 => k (j + 1) x u h1 h2)
theorem kv_at : ∀ {kvs : List (Key × V)} {vs : List (Key × Value)}, KV kvs vs → ∀ {j : Nat} {q : Key × V} {p : Key × Value}, kvs[j]? = some q → vs[j]? = some p → RelV q.2 p.2
  | _, _, .cons h t, 0, _, _, h1, h2 => by cases h1; cases h2; exact h.2
  | _, _, .cons h t, j + 1, _, _, h1, h2 => kv_at t (j := j) h1 h2
theorem pe_listVals {X : Cx} {e : Expr} {te : TE} {p apos cpos pos : Pos} (hc : X.calm = true) (he : PE X e te) (hg : Gl X "list") (hm : X.mg "list" = none) (hv : bootBuiltins "list" = some (.type "list")) (hbase : attributeBase e "values" X.env (eval e X.env) = eval e X.env := by rfl) (hline : (apos.endLine == cpos.line) = true := by rfl)
    (hs : starEach [.Call (.Attribute e "values" apos) [] [] cpos] X.env = (false, eval (.Call (.Attribute e "values" apos) [] [] cpos) X.env) :: starEach [] X.env := by rfl) :
    PE X (.Call (.Name "list" p) [.Call (.Attribute e "values" apos) [] [] cpos] [] pos) (tListVals te) := by
  refine ⟨fun pins s σ H Q I hq => wpAny_Call_Name_kw (ld_blt I hg hm hv (PyProof.Rows.callWith_type1 ?_ hs rfl))⟩
  rw [hs]
  refine Calls.spliced_cons ?_
  refine wpAny_Call_method (T := "dict") (id := "dict.values") hbase rfl hline F.plainAttrs_dict F.slot_dict_values F.type_dict_values (thn (he.run pins s σ H _ I hq) fun u s1 ⟨x, H1, I1, rx, d, kvs, ex, hd, q⟩ => ?_)
  subst ex
  obtain rfl : u = Value.ref d := rx
  obtain ⟨hz, hs0, vs, kv, hdo⟩ := I1.hok d _ hd
  obtain ⟨ep, hat⟩ := hdo.dictAt
  have lk : kvs.length = vs.length := Paired.length kv
  have I2 : Inv X pins σ H1 { s1 with heap := s1.heap.push { cls := .type "dict_values", data := .fields #[.ref d] } } := I1.kept (t' := s1.toks) fun b ob e => Heap.get?_push_of_some _ e
  refine ⟨hdo.typeIs, hdo.mapOf.noDict, ?_⟩
  refine method_meetsIn F.slot_dict_values F.entry_dict_values rfl (PySem.evalArgs_none ⟨rfl, hdo.typeIs, F.args_dict_values_1 _, _, meets_dict_values (mixKind X.prog X.w) d hs0, ⟨vs, hdo⟩, Calls.spliced_nil ?_⟩)
  refine PySem.W.kdl_call (PySem.W.kdl_values (knd := mixKind X.prog X.w) (kvs := vs) (ep := ep)) (I1.ok.hd hc) ⟨⟨_, Heap.get?_push_size _ rfl, rfl, rfl⟩, hat.push _⟩ (by rw [← lk]; exact hz) fun h' tk acc c hk hS hacc => ?_
  refine ⟨.ref _, _, I2.laid (t' := tk) hk (Nat.le_refl _) (show ObjOk X.prog X.w _ _ _ (.lst (kvs.map (·.2))) from ⟨by rw [List.length_map]; exact hz, acc.toList, c, vals_of_at2 ?_ fun j x u h1 h2 => ?_, by rw [Array.toArray_toList]; exact hS⟩), rfl, q _ (I2.hok.fresh (Nat.le_refl _))⟩
  · have el : acc.toList.length = acc.size := by simp
    rw [List.length_map, el, hacc.1, lk]
  · obtain ⟨k, hky⟩ := hacc.2 j u (by rw [← Array.getElem?_toList]; exact h2)
    rw [List.getElem?_map, Option.map_eq_some_iff] at h1
    obtain ⟨qv, h3, rfl⟩ := h1
    exact kv_at kv h3 hky
end Bx

set_option Elab.async false
set_option linter.all false
set_option maxRecDepth 100000
set_option maxHeartbeats 4000000
/-! Ex: defs that raise an own error, their calls within a try, by position and all by name. -/
namespace Bx
open PySem PySem.Spec PyProof.Rows L2
theorem FunC.okX {P : Program} {w : World} {K : PySem.W.Frag} {mg : Str → Option Value} {base : Heap} {x qual : Str} {st : Stmt} {f : Addr} {fd : FuncData} {c : Addr} {N ps : List Str} {k : Nat} {sp : Sp} (F : FunC K x qual st f fd c) (S : FnScope N ps (defScope st)) (len : ∀ vs H Q E, sp vs H Q E → vs.length = ps.length)
    (hbody : ∀ (A : Around) (outer : List Env) (s : Shared) (H : Hp) (vs : List V) (Q : VK) (E : XK), Room k (A.deeper (envOfC qual (defScope st) s.heap.objs.size f (.ref c))) → sp vs H Q E →
      ∃ t, PSs (cxOf (L2.CX P w) P w K mg base N qual (defScope st) f (.ref c) A outer s H E) (defBody st) t ∧ t { nx := fun _ H' => Q .non H', rt := Q } (start N vs) H) : FnOk P w K mg base (L2.CX P w) (k + 1) f fd ps sp := by
  obtain ⟨oc, od, kV, doc, pm, an, ct, osl, rfl, lk, hcd⟩ := F.ex
  exact fn_of lk hcd S len fun A outer s H vs Q E hr hsp => hbody A outer s H vs Q E hr hsp
/-- an own error class over ValueError, without an __init__ of its own -/
structure Xc (K : PySem.W.Frag) (mg : Str → Option Value) (x : Str) (C : Addr) : Prop where
  g : mg x = some (.ref C)
  x : PySem.W.excIn K C [.type "ValueError", .type "Exception", .type "BaseException", .type "object"] "ValueError.__new__" = true
  k : PySem.W.keepIn K (.ref C) = true
  b : PySem.W.subIn K (.ref C) (.type "BaseException") = some true
  t : PySem.W.typeIn K (.ref C) = some (.type "type")
/-- raise C('..') -/
theorem ps_raiseC {X : Cx} {W : WX} {x m : Str} {C : Addr} {j : Nat} {p p2 pos pos' : Pos} (hc : X.calm = true) (tk : Takes X W) (q : Xc X.K X.mg x C) (hg : Gl X x) (hdb : (x == ("__debug__" : Str)) = false := by decide) :
    PS X (.Raise (some (.Call (.Name x p) [.Constant (.str m) j p2] [] pos)) none pos') (fun _ σ H => W (.ref C) none σ H) :=
  ps_raise hc tk (pmk_own PySem.F.excBase_ValueError q.x q.g q.k (raises_own q.b q.t) hg hdb)
/-- a callee that may raise -/
structure CalX (P : Program) (w : World) (K : PySem.W.Frag) (mg : Str → Option Value) (base : Heap) (k : Nat) (x : Str) (ps : List Str) (sp : Sp) : Prop where
  ex : ∃ (f : Addr) (fd : FuncData), FnOk P w K mg base (L2.CX P w) k f fd ps sp ∧ mg x = some (.ref f) ∧ PySem.W.keepIn K (.ref f) = true ∧ Binds K fd ps []
structure CalXK (P : Program) (w : World) (K : PySem.W.Frag) (mg : Str → Option Value) (base : Heap) (k : Nat) (x : Str) (ps ks : List Str) (g : {α : Type} → List α → List α → List α) (sp : Sp) : Prop where
  ex : ∃ (f : Addr) (fd : FuncData), FnOk P w K mg base (L2.CX P w) k f fd ps sp ∧ mg x = some (.ref f) ∧ PySem.W.keepIn K (.ref f) = true ∧ KBinds K fd ps ks g g
section
variable {X : Cx} {k : Nat} {x : Str} {ps ks : List Str} {sp : Sp} {p pos : Pos} {e : Expr} {es : List Expr} {t tk' : TA} {W : WX} {g : {α : Type} → List α → List α → List α} {kws : List Keyword}
theorem pe_calS (C : CalX X.prog X.w X.K X.mg X.base k x ps sp) (hr : Room k X.A) (tk : Takes X W) (hg : Gl X x) (ha : PA X (e :: es) t) (hdb : (x == ("__debug__" : Str)) = false := by decide) (he : starEach (e :: es) X.env = (false, eval e X.env) :: starEach es X.env := by rfl) (hpl : (backTo pos (starEach es X.env)).any (·.1) = false := by rfl) :
    PE X (.Call (.Name x p) (e :: es) [] pos) (tCallS sp (WE W) t) := by
  obtain ⟨f, fd, h1, h2, h3, h4⟩ := C.ex
  exact pe_callS h1 hr hg h2 h3 h4 (fun σ => passAt tk σ) ha hdb he hpl
def tCallSK (sp : Sp) (gV : List V → List V → List V) (E : L2.St → XK) (tk : TA) : TE := fun σ H Q => tk σ H fun zs H2 => sp (gV [] zs) H2 Q (E σ)
theorem pe_calSK (C : CalXK X.prog X.w X.K X.mg X.base k x ps ks g sp) (hr : Room k X.A) (tk : Takes X W) (hg : Gl X x) (hkw : PK X kws tk') (hall : (backToKw pos (keywordEach kws X.env)).all (·.1.isSome) = true := by rfl) (hks : (backToKw pos (keywordEach kws X.env)).filterMap (·.1) = ks := by rfl)
    (hdb : (x == ("__debug__" : Str)) = false := by decide)
    (hpl : ((backTo pos (starEach [] X.env)).any (·.1) || (backToKw pos (keywordEach kws X.env)).any (·.1.isNone)) = false := by rfl) : PE X (.Call (.Name x p) [] kws pos) (tCallSK sp g (WE W) tk') := by
  obtain ⟨f, fd, F, hm, hk, hb⟩ := C.ex
  refine ⟨fun pins s σ H Q I h => wpAny_Call_Name_kw (ld_glob I hg hm (PySem.W.callWith_KW0 (h₀ := X.base) I.ok.mod.kin hk hall (thn (hkw.run pos pins s σ H _ I h) fun ws s2 ⟨zs, H2, I2, rz, q2⟩ => ⟨I2.kIn, ?_⟩) hpl) hdb)⟩
  rw [hks]
  have r2 := hb.rel (vs := []) (us := []) .nil rz
  have hl : (g [] ws).length = ps.length := by rw [← r2.length]; exact F.len _ _ _ _ q2
  refine wpAny_call (codeAny_mono (F.run X.A X.stack s2 H2 ⟨[], ks.zip ws⟩ (g [] ws) (g [] zs) Q (WE W σ) hr I2.env0 (hb.to s2 [] ws I2.kIn hl) r2 q2) fun r s' hq => ?_)
  cases r with
  | error e => exact passAt tk σ pins H2 s2 e s' I2 hq
  | ok fl =>
    cases fl with
    | ret u => exact I2.after hq
    | _ => exact False.elim hq
end
end Bx

set_option Elab.async false
set_option linter.all false
set_option maxRecDepth 100000
set_option maxHeartbeats 4000000
/-! Xi: own errors with a field: made and raised, caught as x, their class asked, the field read. -/
namespace Bx
open PySem PySem.Spec PyProof.Rows L2
/-! ### the class -/
def oexB (K : PySem.W.Frag) (C : Addr) : Bool := (match K.lookup C with
  | some ⟨.type "type", _, .cls cd, sl⟩ => (match cd.mro, sl.toList with
    | .ref C' :: bm, [_, _, _, _, some (.builtin n), _] => decide (C' = C) && (decide (n = "ValueError.__new__") && (!cd.hasDel && (cd.hasDict && PySem.HandSPX.refsVE bm)))
    | _, _ => false)
  | _ => false) && (decide (PySem.W.findIn K (.ref C) "__setattr__" = some (some (.builtin "object.__setattr__"))) && (decide (PySem.W.subIn K (.ref C) (.type "BaseException") = some true) && (decide (PySem.W.typeIn K (.ref C) = some (.type "type")) && PySem.W.keepIn K (.ref C))))
theorem oexB_ok {K : PySem.W.Frag} {C : Addr} (h : oexB K C = true) : OexC K C := by
  obtain ⟨q, h⟩ := Bool.and_eq_true_iff.mp h
  obtain ⟨h2, h⟩ := Bool.and_eq_true_iff.mp h
  obtain ⟨h3, h⟩ := Bool.and_eq_true_iff.mp h
  obtain ⟨h4, h5⟩ := Bool.and_eq_true_iff.mp h
  refine ⟨?_, of_decide_eq_true h2, of_decide_eq_true h3, of_decide_eq_true h4, h5⟩
  split at q
  · rename_i dd cd sl ho
    split at q
    · rename_i C' bm k0 k1 k2 k3 n k5 hm hs
      obtain ⟨q1, q⟩ := Bool.and_eq_true_iff.mp q
      obtain ⟨q2, q⟩ := Bool.and_eq_true_iff.mp q
      obtain ⟨q3, q⟩ := Bool.and_eq_true_iff.mp q
      obtain ⟨q4, q5⟩ := Bool.and_eq_true_iff.mp q
      have e1 := of_decide_eq_true q1
      have e2 := of_decide_eq_true q2
      subst e1 e2
      obtain ⟨nm, bs, mro, ns, qn, hd, sn, sub, ab, col, del⟩ := cd
      dsimp only at hm q3 q4
      have q3 : del = false := by simpa using q3
      subst hm q3 q4
      have hsl : sl = #[k0, k1, k2, k3, some (.builtin "ValueError.__new__"), k5] := by
        obtain ⟨l⟩ := sl
        simp only at hs
        rw [hs]
      subst hsl
      exact ⟨nm, qn, ns, bs, bm, sn, sub, ab, col, dd, k0, k1, k2, k3, k5, ho, q5⟩
    · cases q
  · cases q
/-- an own error class whose __init__(self, f) keeps its argument as the field f -/
structure Yc (P : Program) (w : World) (K : PySem.W.Frag) (mg : Str → Option Value) (base : Heap) (x : Str) (C : Addr) (f : Str) : Prop where
  g : mg x = some (.ref C)
  o : OexC K C
  no : PySem.W.findIn K (.ref C) f = some none
  i : ∃ (fI : Addr) (fd : FuncData), PySem.W.findIn K (.ref C) "__init__" = some (some (.ref fI)) ∧ PySem.W.typeIn K (.ref fI) = some (.type "function") ∧ Binds K fd ["self", f] [] ∧
    FnOk P w K mg base CX0 1 fI fd ["self", f] (fun vs H Q _ => ∃ (a : Addr) (v : V), vs = [.ref a, v] ∧ H a = some (exo a C none) ∧ ∀ dx, H dx = none → dx ≠ a → Q .non (upd (upd H dx (exd dx [(f, v)])) a (exo a C (some dx))))
def ycB (K : PySem.W.Frag) (x : Str) (f : Str) : Bool := oexB K (He.ga K x) && (decide (PySem.W.findIn K (.ref (He.ga K x)) f = some none) && (decide (PySem.W.findIn K (.ref (He.ga K x)) "__init__" = some (some (.ref (He.fAd K (x, some "__init__"))))) && decide (PySem.W.typeIn K (.ref (He.fAd K (x, some "__init__"))) = some (.type "function"))))
/-- what the class D must say, so that isinstance asks its instances rightly -/
def excB (K : PySem.W.Frag) (D : Addr) : Bool := decide (PySem.W.findIn K (.ref D) "__getattribute__" = some (some (.builtin "BaseException.__getattribute__"))) && (decide (PySem.W.findIn K (.ref D) "__getattr__" = some none) && (decide (PySem.W.subIn K (.ref D) (.type "BaseException") = some true) && (PySem.W.hasDictIn K D && (decide (PySem.W.findIn K (.ref D) "__class__" = some (some (.builtin "object.__class__"))) &&
  (decide (PySem.W.specialIn K (.builtin "object.__class__") "__get__" = some (some (.builtin "getset_descriptor.__get__"))) && (decide (PySem.W.takesIn K (.builtin "object.__class__") = some true) && decide (PySem.W.mroIn K D (.type "object") = some true)))))))
theorem excB_ok {K : PySem.W.Frag} {D : Addr} (h : excB K D = true) : ExcC K D := by
  obtain ⟨h1, h⟩ := Bool.and_eq_true_iff.mp h
  obtain ⟨h2, h⟩ := Bool.and_eq_true_iff.mp h
  obtain ⟨h3, h⟩ := Bool.and_eq_true_iff.mp h
  obtain ⟨h4, h⟩ := Bool.and_eq_true_iff.mp h
  obtain ⟨h5, h⟩ := Bool.and_eq_true_iff.mp h
  obtain ⟨h6, h⟩ := Bool.and_eq_true_iff.mp h
  obtain ⟨h7, h8⟩ := Bool.and_eq_true_iff.mp h
  exact ⟨of_decide_eq_true h1, of_decide_eq_true h2, of_decide_eq_true h3, h4, of_decide_eq_true h5, of_decide_eq_true h6, of_decide_eq_true h7, of_decide_eq_true h8⟩
/-- isinstance(e, c), e the exception that the suite holds, with or without its dict -/
def rIsX (K : PySem.W.Frag) (a : Addr) (cls : Value) (d : Option Addr) : List V → Hp → VK → Prop := fun xs H Q => ∃ (D : Addr) (c : V) (cv : Value) (b : Bool), cls = .ref D ∧ ExcC K D ∧ xs = [.ref a, c] ∧ (∀ u, RelV c u → u = cv) ∧ PySem.W.kitOne K (.ref D) cv = some b ∧ (∀ dd, d = some dd → ∃ fs, H dd = some (.xd fs)) ∧ Q (.bl b) H
theorem call_isX {X : Cx} {a : Addr} {cls : Value} {d : Option Addr} {oe : Obj} {pn : List (Addr × Obj)} (hz : Zc cls d oe) (hf : ∃ vs, oe.data = .fields vs) : CallR (X.suite a ((a, oe) :: pn)) (.builtin "isinstance") (rIsX X.K a cls d) := by
  intro pins s σ H xs us Q I r h
  obtain ⟨D, c, cv, b, rfl, C, rfl, hcv, e, hdd, q⟩ := h
  cases r with
  | cons rx rr =>
    cases rr with
    | cons rt rr =>
      cases rr
      cases rx
      have ec := hcv _ rt
      subst ec
      obtain ⟨hget, _⟩ := I.pin (a, oe) (List.mem_append.mpr (.inl List.mem_cons_self))
      obtain ⟨vs, hv⟩ := hf
      have J : ∃ od, PySem.W.InstAt s.heap a oe D od := by
        obtain ⟨oc, od, oda, osl⟩ := oe
        obtain ⟨h1, h2⟩ := hz
        dsimp only at h1 h2 hv
        subst h1 h2 hv
        cases od with
        | none => exact ⟨none, hget, rfl, rfl, trivial⟩
        | some dd =>
          obtain ⟨fs, hfs⟩ := hdd dd rfl
          have hx : ObjOk X.prog X.w H s.heap dd (.xd fs) := I.hok dd _ hfs
          obtain ⟨mA, ⟨o, _, _, ho, _⟩, _⟩ := hx
          exact ⟨some o, hget, rfl, rfl, ho⟩
      obtain ⟨od, J⟩ := J
      have hcl : (PySem.W.clsIn X.K D).isSome = true := by
        obtain ⟨cd, hc, _⟩ := PySem.W.any_some C.hd
        rw [hc]
        rfl
      exact PySem.W.kia_one (PySem.W.kitx_exc hcl C.hg C.hk C.hs C.ha C.hn C.ht C.hm) I.kIn J e (fun z => nomatch z) fun tk => ⟨.bl b, H, I.kept (t' := tk) fun _ _ z => z, rfl, q⟩
theorem mt_lcountK {X : Cx} {K : PySem.W.Frag} (h : X.K = K) : MtR X "list.count" (rCntI K) := h ▸ mt_lcount
end Bx

set_option Elab.async false
set_option linter.all false
set_option maxRecDepth 100000
set_option maxHeartbeats 4000000
/-! Tn: try with several handlers, each with a name for what it caught or without. -/
namespace Bx
open PySem PySem.Spec PyProof.Rows L2
/-- a suite's ends where the name in slot i is gone behind it -/
def offI (i : Nat) (D : Ends) : Ends := { nx := fun τ G => D.nx (τ.set i none) G, rt := D.rt, bk := fun τ G => D.bk (τ.set i none) G, ct := fun τ G => D.ct (τ.set i none) G }
/-- a handler: its class, the slot of its name, its suite's reading -/
abbrev HdR := Value × Option Nat × (Addr → Value → Option Addr → TS)
def wTn (K : PySem.W.Frag) (Wo : WX) (D : Ends) : List HdR → WX
  | [] => Wo
  | (c, none, t) :: r => fun k m τ G => ∃ q, PySem.W.exmOne K k c = some q ∧ (q = true → ∀ a, G a = none → t a k m D τ G) ∧ (q = false → wTn K Wo D r k m τ G)
  | (c, some i, t) :: r => fun k m τ G => ∃ q, PySem.W.exmOne K k c = some q ∧ (q = true → ∀ a, G a = none → t a k m (offI i D) (τ.set i (some (.ref a))) G) ∧ (q = false → wTn K Wo D r k m τ G)
inductive HdsN (X : Cx) : List ExceptHandler → List HdR → Prop
  | nil : HdsN X [] []
  | bare {x : Str} {c : Value} {t : Addr → Value → Option Addr → TS} {u : Stmt} {us : List Stmt} {p1 p2 : Pos} {hs : List ExceptHandler} {l : List HdR} (hc : Names X x c)
      (ht : ∀ (a : Addr) (o : Obj) (k : Value) (m : Option Addr) (pn : List (Addr × Obj)), Zc k m o → (∃ vs, o.data = .fields vs) → PSs (X.suite a ((a, o) :: pn)) (u :: us) (t a k m)) (r : HdsN X hs l) : HdsN X (.ExceptHandler (some (.Name x p1)) none (u :: us) p2 :: hs) ((c, none, t) :: l)
  | named {x n : Str} {c : Value} {i : Nat} {t : Addr → Value → Option Addr → TS} {u : Stmt} {us : List Stmt} {p1 p2 : Pos} {hs : List ExceptHandler} {l : List HdR} (hi : X.N[i]? = some n) (hn : X.env.kindOf n = some .local) (hc : Names X x c)
      (ht : ∀ (a : Addr) (o : Obj) (k : Value) (m : Option Addr) (pn : List (Addr × Obj)), Zc k m o → (∃ vs, o.data = .fields vs) → PSs (X.suite a ((a, o) :: pn)) (u :: us) (t a k m)) (r : HdsN X hs l) : HdsN X (.ExceptHandler (some (.Name x p1)) (some n) (u :: us) p2 :: hs) ((c, some i, t) :: l)
section
variable {X : Cx} {body : List Stmt} {h1 : ExceptHandler} {hs : List ExceptHandler} {l : List HdR} {pos : Pos} {tb : WX → TS} {Wo : WX}
theorem ps_tryN (es : X.stack = X.env :: X.outer) (ef : X.env.frame = some X.env.locals) (nd : X.N.Nodup) (tk : Takes X Wo)
    (rd : ∀ (V : WX) (pn : List (Addr × Obj)) (xe : Value → Shared → Prop), Takes (X.tr pn xe) V → PassesOwn (model X.prog X.w) X.A X.env xe → PSs (X.tr pn xe) body (tb V))
    (ok : HdsN X (h1 :: hs) l) : PS X (.Try body (h1 :: hs) [] [] pos) (fun D τ G => tb (wTn X.K Wo D l) D τ G) := by
  refine ⟨fun pins s τ G D I w0 => ?_⟩
  have iok := I.ok
  have efs : X.A.frames = some (X.env :: X.outer) := iok.frames.trans (by rw [es])
  refine wpAny_Try_except (wpAny_mono ((rd (wTn X.K Wo D l) (X.pn ++ pins)
    (fun e z1 => wpAny (model X.prog X.w) X.A (noteFrame e X.env) (fun _ z2 => wpAny (model X.prog X.w) X.A (setFlight e none)
      (fun _ z3 => wpAny (model X.prog X.w) X.A (handleBy e X.env (h1 :: hs)) (SP X pins D) X.xe z3) X.xe z2) X.xe z1)
    (fun u z xx => ?_) PassesOwn.looking).run [] s τ G D (I.toTry _) w0) (fun fl z hz => ?_) (fun _ _ q => q))
  · obtain ⟨a, B, z0, pins2, τ2, G2, k, m, rfl, J2, nb, up, sk, na, eo, ag, wish⟩ := xx
    have J : Inv X pins τ2 G2 z0 := J2.ofTry iok
    have sk2 : Sky B (X.env :: X.outer) a (Zc k m) X.env.locals z.heap := es ▸ sk
    refine Sky.land Zc.steady efs ef sk2 fun g3 f3 u3 => ?_
    have J3 : Inv X pins τ2 G2 { z with heap := g3 } := J.landed nb f3.1 (up.trans u3) eo ag
    obtain ⟨o3, vs3, e3, c3, d3⟩ := f3.there
    have nfr : a ∉ frs (X.env :: X.outer) := fun hm => by
      obtain ⟨_, o', e', hnf⟩ := f3.2.2.1.mem hm
      obtain rfl : o3 = o' := Option.some.inj (e3.symm.trans e')
      exact hnf _ d3
    have nL : a ≠ X.env.locals := fun q => nfr (List.mem_filterMap.mpr ⟨X.env, List.mem_cons_self, ef.trans (by rw [q])⟩)
    have nF : a ∉ X.fs := fun hm => (List.mem_filterMap.mp hm).elim fun e he => nfr (List.mem_filterMap.mpr ⟨e, List.mem_cons_of_mem _ he.1, he.2⟩)
    have T3 := J3.suite e3 d3 na nL nF
    have lk : PySem.W.Looks (model X.prog X.w) g3 (typeOf (.ref a)) k := fun A Q E s0 keep q => wpAny_typeOf_ref (keep _ _ e3) (c3.1 ▸ q)
    have name : ∀ {x : Str} {c : Value} {p1 : Pos} {Q E : Value → Shared → Prop}, Names X x c → Q c { z with heap := g3 } → wpAny (model X.prog X.w) (X.A.mark (some (.ref a))) (eval (.Name x p1) X.env) Q E { z with heap := g3 } := fun {x c p1 Q E} hc q => by
      obtain ⟨y1, y2, y3 | ⟨y3, y4, y5⟩⟩ := hc
      · exact ld_glob (X := X.suite a ((a, o3) :: (X.pn ++ pins))) T3 y1 y3 q y2
      · exact ld_blt (X := X.suite a ((a, o3) :: (X.pn ++ pins))) T3 y1 y3 y4 q y5 y2
    clear w0 I
    suffices all : ∀ {hs' : List ExceptHandler} {l' : List HdR}, HdsN X hs' l' → wTn X.K Wo D l' k m τ2 G2 → wpAny (model X.prog X.w) X.A (handleBy (.ref a) X.env hs') (SP X pins D) X.xe { z with heap := g3 } from all ok wish
    intro hs' l' ok'
    induction ok' with
    | nil =>
      intro y
      obtain ⟨_, _, _, o, vs, T, oT, t', y1, _, y3, y4, _⟩ := id f3
      refine wpAny_handleBy_nil ?_
      unfold PySem.passOn
      refine wpAny_bind (wpAny_field y1 y3 y4 ?_)
      rw [if_neg (by simp : ¬ ((Value.ref T == Value.none) = true))]
      have out : wpAny (model X.prog X.w) X.A (setFlight (.ref a) X.env.frame) (fun _ z4 => wpAny (model X.prog X.w) X.A (throw (.ref a) : Sem Flow) (SP X pins D) X.xe z4) X.xe { z with heap := g3 } := ef ▸
        HandSPX.setFlight_upZ f3 fun g4 f4 u4 => wpAny_throw (tk _ _ ⟨a, B, z0, pins, τ2, G2, k, m, rfl, J, nb, (up.trans u3).trans u4, .inr (.inr (es ▸ f4)), na, eo, ag, y⟩)
      first
        | exact wpAny_bind (wpAny_pure (wpAny_bind out))
        | exact wpAny_bind out
    | @bare x c t u us p1 p2 hs2 l2 hc ht r ih =>
      rintro ⟨q, q1, q2, q3⟩
      refine wpAny_handleBy_cons (codeAny_handlers_test (name hc ((PySem.W.exm_one (M := model X.prog X.w) J3.kIn lk q1).here ?_))) (fun q => nomatch q)
      cases q with
      | false => exact ih (q3 rfl)
      | true =>
        refine codeAny_handlers_suite (HandSPX.lands_againZ f3 fun g4 f4 u4 => ?_)
        obtain ⟨o4, vs4, e4, c4, d4⟩ := f4.there
        have T4 := (J.landed nb f4.1 ((up.trans u3).trans u4) eo ag : Inv X pins τ2 G2 { z with heap := g4 }).suite e4 d4 na nL nF
        refine wpAny_mono ((ht a o4 k m (X.pn ++ pins) c4 ⟨_, d4⟩).run [] _ _ G2 _ T4 (q2 rfl a na)) (fun fl z6 h6 => ?_) (fun _ _ z => False.elim z)
        cases fl with
        | next => exact h6.elim fun τ6 h6 => h6.elim fun G6 h6 => ⟨τ6, G6, h6.1.unsuite iok, h6.2⟩
        | brk => exact h6.elim fun τ6 h6 => h6.elim fun G6 h6 => ⟨τ6, G6, h6.1.unsuite iok, h6.2⟩
        | cont => exact h6.elim fun τ6 h6 => h6.elim fun G6 h6 => ⟨τ6, G6, h6.1.unsuite iok, h6.2⟩
        | ret v => exact h6.elim fun v6 h6 => h6.elim fun τ6 h6 => h6.elim fun G6 h6 => ⟨v6, τ6, G6, h6.1.unsuite iok, h6.2⟩
    | @named x n c i t u us p1 p2 hs2 l2 hi hn hc ht r ih =>
      rintro ⟨q, q1, q2, q3⟩
      refine wpAny_handleBy_cons (codeAny_handlers_test (name hc ((PySem.W.exm_one (M := model X.prog X.w) J3.kIn lk q1).here ?_))) (fun q => nomatch q)
      cases q with
      | false => exact ih (q3 rfl)
      | true =>
        refine codeAny_handlers_suite_as (HandSPX.lands_againZ f3 fun g4 f4 u4 => ?_)
        obtain ⟨o4, vs4, e4, c4, d4⟩ := f4.there
        have T4 := (J.landed nb f4.1 ((up.trans u3).trans u4) eo ag : Inv X pins τ2 G2 { z with heap := g4 }).suite e4 d4 na nL nF
        refine store_ok (X := X.suite a ((a, o4) :: (X.pn ++ pins))) (v := .ref a) T4 nd hi (.inl hn) rfl (fun z5 T5 => ?_) (.inr hn)
        refine wpAny_mono ((ht a o4 k m (X.pn ++ pins) c4 ⟨_, d4⟩).run [] z5 _ G2 _ T5 (q2 rfl a na)) (fun fl z6 h6 => ?_) (fun _ _ z => False.elim z)
        have gone : ∀ {τ6 : L2.St} {G6 : Hp} {Q : Shared → Prop}, Inv (X.suite a ((a, o4) :: (X.pn ++ pins))) [] τ6 G6 z6 → (∀ z7, Inv X pins (τ6.set i none) G6 z7 → Q z7) → wpAny (model X.prog X.w) X.A (do bindName X.env n .none; unbindBehindTheSuite X.env n p2) (fun _ z7 => Q z7) X.xe z6 :=
          fun T6 hq => gone_ok (T6.unsuite iok) nd hi hn hq
        cases fl with
        | next => exact h6.elim fun τ6 h6 => h6.elim fun G6 h6 => gone h6.1 fun z7 J7 => ⟨_, _, J7, h6.2⟩
        | brk => exact h6.elim fun τ6 h6 => h6.elim fun G6 h6 => gone h6.1 fun z7 J7 => ⟨_, _, J7, h6.2⟩
        | cont => exact h6.elim fun τ6 h6 => h6.elim fun G6 h6 => gone h6.1 fun z7 J7 => ⟨_, _, J7, h6.2⟩
        | ret v => exact h6.elim fun v6 h6 => h6.elim fun τ6 h6 => h6.elim fun G6 h6 => gone h6.1 fun z7 J7 => ⟨_, _, _, J7, h6.2⟩
  · cases fl with
    | next => exact hz.elim fun τ' h => h.elim fun G' h => wpAny_execs_nil ⟨τ', G', h.1.ofTry iok, h.2⟩
    | brk => exact hz.elim fun τ' h => h.elim fun G' h => ⟨τ', G', h.1.ofTry iok, h.2⟩
    | cont => exact hz.elim fun τ' h => h.elim fun G' h => ⟨τ', G', h.1.ofTry iok, h.2⟩
    | ret v => exact hz.elim fun v' h => h.elim fun τ' h => h.elim fun G' h => ⟨v', τ', G', h.1.ofTry iok, h.2⟩
end
end Bx

set_option Elab.async false
set_option linter.all false
set_option maxRecDepth 100000
set_option maxHeartbeats 4000000
/-! Rv: four, five, six arguments by name, from behind. -/
namespace Bx
open PySem PySem.Spec PyProof.Rows L2
def rev4 {α : Type} : List α → List α → List α
  | [], [d, c, b, a] => [a, b, c, d]
  | _, _ => []
theorem rev4_rel {vs zs : List V} {us ws : List Value} (h1 : Vals vs us) (h2 : Vals zs ws) : Vals (rev4 vs zs) (rev4 us ws) := by
  cases h1 with
  | cons _ _ => exact .nil
  | nil =>
    cases h2 with
    | nil => exact .nil
    | cons x0 g0 =>
      cases g0 with
      | nil => exact .nil
      | cons x1 g1 =>
        cases g1 with
        | nil => exact .nil
        | cons x2 g2 =>
          cases g2 with
          | nil => exact .nil
          | cons x3 g3 =>
            cases g3 with
            | nil => exact .cons x3 (.cons x2 (.cons x1 (.cons x0 (.nil))))
            | cons _ _ => exact .nil
def rev5 {α : Type} : List α → List α → List α
  | [], [e, d, c, b, a] => [a, b, c, d, e]
  | _, _ => []
theorem rev5_rel {vs zs : List V} {us ws : List Value} (h1 : Vals vs us) (h2 : Vals zs ws) : Vals (rev5 vs zs) (rev5 us ws) := by
  cases h1 with
  | cons _ _ => exact .nil
  | nil =>
    cases h2 with
    | nil => exact .nil
    | cons x0 g0 =>
      cases g0 with
      | nil => exact .nil
      | cons x1 g1 =>
        cases g1 with
        | nil => exact .nil
        | cons x2 g2 =>
          cases g2 with
          | nil => exact .nil
          | cons x3 g3 =>
            cases g3 with
            | nil => exact .nil
            | cons x4 g4 =>
              cases g4 with
              | nil => exact .cons x4 (.cons x3 (.cons x2 (.cons x1 (.cons x0 (.nil)))))
              | cons _ _ => exact .nil
def rev6 {α : Type} : List α → List α → List α
  | [], [f, e, d, c, b, a] => [a, b, c, d, e, f]
  | _, _ => []
theorem rev6_rel {vs zs : List V} {us ws : List Value} (h1 : Vals vs us) (h2 : Vals zs ws) : Vals (rev6 vs zs) (rev6 us ws) := by
  cases h1 with
  | cons _ _ => exact .nil
  | nil =>
    cases h2 with
    | nil => exact .nil
    | cons x0 g0 =>
      cases g0 with
      | nil => exact .nil
      | cons x1 g1 =>
        cases g1 with
        | nil => exact .nil
        | cons x2 g2 =>
          cases g2 with
          | nil => exact .nil
          | cons x3 g3 =>
            cases g3 with
            | nil => exact .nil
            | cons x4 g4 =>
              cases g4 with
              | nil => exact .nil
              | cons x5 g5 =>
                cases g5 with
                | nil => exact .cons x5 (.cons x4 (.cons x3 (.cons x2 (.cons x1 (.cons x0 (.nil))))))
                | cons _ _ => exact .nil
end Bx

set_option Elab.async false
set_option linter.all false
set_option maxRecDepth 100000
set_option maxHeartbeats 4000000
/-! Ib: x is True, x is not True, of bools. -/
namespace Bx
open PySem PySem.Spec PyProof.Rows L2
variable {X : Cx}
def rIsB (neg : Bool) : R2 := fun x y H Q => ∃ a b : Bool, x = .bl a ∧ y = .bl b ∧ Q (.bl (neg ^^ decide (a = b))) H
theorem isB {a b : Bool} {prog : Program} {w : World} {A : Around} {E : Value → Shared → Prop} {s : Shared} {Q : Bool → Shared → Prop} (h : Q (decide (a = b)) s) : wpAny (model prog w) A (isSame (.bool a) (.bool b)) Q E s := by
  have e : isSame (.bool a) (.bool b) = pure (decide (a = b)) := by cases a <;> cases b <;> rfl
  rw [e]
  exact wpAny_pure h
theorem op_isB : OpR X (compareOp .Is) (rIsB false) := by
  intro pins s σ H x y v u Q I rx ry h
  obtain ⟨a, b, rfl, rfl, q⟩ := h
  cases rx
  cases ry
  show wpAny _ _ ((isSame (.bool a) (.bool b)) >>= fun z => pure (Value.bool z)) _ _ s
  exact wpAny_bind (isB (wpAny_pure (fin_bl I q (by simp))))
theorem op_notB : OpR X (compareOp .IsNot) (rIsB true) := by
  intro pins s σ H x y v u Q I rx ry h
  obtain ⟨a, b, rfl, rfl, q⟩ := h
  cases rx
  cases ry
  show wpAny _ _ ((isSame (.bool a) (.bool b)) >>= fun z => pure (Value.bool (!z))) _ _ s
  exact wpAny_bind (isB (wpAny_pure (fin_bl I q (by simp))))
/-- a method of a value, the fragment named -/
theorem pe_bmK {X : Cx} {K : PySem.W.Frag} {T : String} {o e : Expr} {es : List Expr} {to : TE} {t : TA} {name : Str} {id : String} {apos cpos : Pos} {r : V → List V → Hp → VK → Prop} (h : X.K = K) (pa : PlainAttrs T) (slot : Slot T name id) (hty : typeOf (.builtin id) = pure (.type "method_descriptor")) (hm : MtR X id r) (ho : PE X o to) (ha : PA X (e :: es) t)
    (hbase : attributeBase o name X.env (eval o X.env) = eval o X.env := by rfl)
    (hfew : ((backTo cpos (starEach (e :: es) X.env)).all (fun x => !x.1) && (backToKw cpos (keywordEach [] X.env)).all (fun x => x.1.isSome)
      && decide ((e :: es).length + ([] : List Keyword).length + (if ([] : List Keyword).isEmpty then 0 else 1) < 30)) = true := by rfl)
    (hline : (apos.endLine == cpos.line) = true := by rfl) (hs : starEach (e :: es) X.env = (false, eval e X.env) :: starEach es X.env := by rfl) (hplain : (backTo cpos (starEach es X.env)).any (·.1) = false := by rfl) :
    PE X (.Call (.Attribute o name apos) (e :: es) [] cpos) (tBM K T r to t) := by
  subst h
  exact pe_bm pa slot hty hm ho ha hbase hfew hline hs hplain
theorem call_lenKB {X : Cx} {K : PySem.W.Frag} (h : X.K = K) : CallR X (.builtin "len") (fun xs H Q => ∃ x n, xs = [x] ∧ LenV K x H n ∧ Q (.int ((n : Nat) : Int)) H) := h ▸ call_len
end Bx

set_option Elab.async false
set_option linter.all false
set_option maxRecDepth 100000
set_option maxHeartbeats 4000000
/-! Ia: x is True, whatever x is. -/
namespace Bx
open PySem PySem.Spec PyProof.Rows L2
variable {X : Cx}
def rIsBA : R2 := fun x y H Q => ∃ b : Bool, y = .bl b ∧ Q (.bl (decide (x = .bl b))) H
theorem op_isBA : OpR X (compareOp .Is) rIsBA := by
  intro pins s σ H x y v u Q I rx ry h
  obtain ⟨b, rfl, q⟩ := h
  cases ry
  show wpAny _ _ ((isSame v (.bool b)) >>= fun z => pure (Value.bool z)) _ _ s
  have fin : ∀ c : Bool, isSame v (.bool b) = pure c → c = decide (x = V.bl b) → wpAny (model X.prog X.w) X.A ((isSame v (.bool b)) >>= fun z => pure (Value.bool z)) (fun v s' => ∃ x H', Inv X pins σ H' s' ∧ RelV x v ∧ Q x H') X.xe s := fun c e1 e2 => by
    rw [e1]
    exact wpAny_bind (wpAny_pure (wpAny_pure (fin_bl I q e2.symm)))
  cases x with
  | non => cases rx; exact fin false rfl (decide_eq_false fun z => nomatch z).symm
  | bl a => cases rx; exact fin (decide (a = b)) (by cases a <;> cases b <;> rfl) (by cases a <;> cases b <;> rfl)
  | int i => obtain ⟨t, rfl⟩ := rx; exact fin false rfl (decide_eq_false fun z => nomatch z).symm
  | str i => obtain ⟨t, rfl⟩ := rx; exact fin false rfl (decide_eq_false fun z => nomatch z).symm
  | byt i => obtain ⟨t, rfl⟩ := rx; exact fin false rfl (decide_eq_false fun z => nomatch z).symm
  | flt i => obtain ⟨t, rfl⟩ := rx; exact fin false rfl (decide_eq_false fun z => nomatch z).symm
  | ref i => cases rx; exact fin false rfl (decide_eq_false fun z => nomatch z).symm
  | ty i => cases rx; exact fin false rfl (decide_eq_false fun z => nomatch z).symm
end Bx

set_option Elab.async false
set_option linter.all false
set_option maxRecDepth 100000
set_option maxHeartbeats 4000000
/-! Mo: readings grow with their wish; what a while's test asks of itself. -/
namespace Bx
open PySem PySem.Spec PyProof.Rows L2
def MT (t : TT) : Prop := ∀ (σ : L2.St) (H : Hp) (Q Q' : Bool → Hp → Prop), (∀ b H1, Q b H1 → Q' b H1) → t σ H Q → t σ H Q'
def ME (t : TE) : Prop := ∀ (σ : L2.St) (H : Hp) (Q Q' : VK), (∀ x H1, Q x H1 → Q' x H1) → t σ H Q → t σ H Q'
def MA (t : TA) : Prop := ∀ (σ : L2.St) (H : Hp) (Q Q' : List V → Hp → Prop), (∀ x H1, Q x H1 → Q' x H1) → t σ H Q → t σ H Q'
def MO (t : TO) : Prop := ∀ (σ : L2.St) (H : Hp) (Q Q' : Option Int → Hp → Prop), (∀ x H1, Q x H1 → Q' x H1) → t σ H Q → t σ H Q'
def M2 (r : R2) : Prop := ∀ (x y : V) (H : Hp) (Q Q' : VK), (∀ x H1, Q x H1 → Q' x H1) → r x y H Q → r x y H Q'
def ML (r : List V → Hp → VK → Prop) : Prop := ∀ (x : List V) (H : Hp) (Q Q' : VK), (∀ x H1, Q x H1 → Q' x H1) → r x H Q → r x H Q'
variable {a b : TT} {e g : TE} {l : TA} {o p : TO} {r : R2}
theorem me_var (i : Nat) : ME (tVar i) := fun _ _ _ _ h ⟨v, e, q⟩ => ⟨v, e, h _ _ q⟩
theorem me_c (v : V) : ME (tC v) := fun _ _ _ _ h q => h _ _ q
theorem me_op (hr : M2 r) (he : ME e) (hg : ME g) : ME (tOp r e g) := fun σ H _ _ h q => he σ H _ _ (fun _ H1 q => hg σ H1 _ _ (fun _ _ q => hr _ _ _ _ _ h q) q) q
theorem ma_nil : MA tNil := fun _ _ _ _ h q => h _ _ q
theorem ma_cons (he : ME e) (hl : MA l) : MA (tCons e l) := fun σ H _ _ h q => he σ H _ _ (fun _ H1 q => hl σ H1 _ _ (fun _ _ q => h _ _ q) q) q
theorem me_cb {r : List V → Hp → VK → Prop} (hr : ML r) (hl : MA l) : ME (tCB r l) := fun σ H _ _ h q => hl σ H _ _ (fun _ _ q => hr _ _ _ _ h q) q
theorem me_call {sp : Sp} {E : XK} (hr : ∀ vs H Q Q', (∀ x H1, Q x H1 → Q' x H1) → sp vs H Q E → sp vs H Q' E) (hl : MA l) : ME (tCall sp [] E l) := fun σ H _ _ h q => hl σ H _ _ (fun _ _ q => hr _ _ _ _ h q) q
theorem mo_no : MO tNoPart := fun _ _ _ _ h q => h _ _ q
theorem mo_part (he : ME e) : MO (tPart e) := fun σ H _ _ h q => he σ H _ _ (fun _ _ ⟨i, e, q⟩ => ⟨i, e, h _ _ q⟩) q
theorem me_sl {r : V → Option Int → Option Int → Hp → VK → Prop} (hr : ∀ x lo hi H (Q Q' : VK), (∀ x H1, Q x H1 → Q' x H1) → r x lo hi H Q → r x lo hi H Q') (he : ME e) (ho : MO o) (hp : MO p) : ME (L2.tSl r e o p) := fun σ H _ _ h q =>
  he σ H _ _ (fun _ H1 q => ho σ H1 _ _ (fun _ H2 q => hp σ H2 _ _ (fun _ _ q => hr _ _ _ _ _ _ h q) q) q) q
theorem mt_test (he : ME e) : MT (tTest e) := fun σ H _ _ h q => he σ H _ _ (fun _ _ ⟨k, e, q⟩ => ⟨k, e, h _ _ q⟩) q
theorem mt_b (he : ME e) : MT (tB e) := fun σ H _ _ h q => he σ H _ _ (fun _ _ ⟨k, e, q⟩ => ⟨k, e, h _ _ q⟩) q
theorem mt_and (ha : MT a) (hb : MT b) : MT (tAnd a b) := fun σ H _ _ h q => ha σ H _ _ (fun c H1 q => by
  cases c with
  | true => exact hb σ H1 _ _ h q
  | false => exact h _ _ q) q
theorem mt_or (ha : MT a) (hb : MT b) : MT (tOr a b) := fun σ H _ _ h q => ha σ H _ _ (fun c H1 q => by
  cases c with
  | true => exact h _ _ q
  | false => exact hb σ H1 _ _ h q) q
theorem mt_not (ha : MT a) : MT (tNot a) := fun σ H _ _ h q => ha σ H _ _ (fun c H1 q => h _ _ q) q
theorem m2_i0 (g : Int → Int → V) : M2 (rI0 g) := fun _ _ _ _ _ h ⟨i, j, e1, e2, q⟩ => ⟨i, j, e1, e2, h _ _ q⟩
theorem m2_i (C : Int → Int → Prop) (g : Int → Int → V) : M2 (rI C g) := fun _ _ _ _ _ h ⟨i, j, e1, e2, e3, q⟩ => ⟨i, j, e1, e2, e3, h _ _ q⟩
theorem m2_eq : M2 rEq := fun _ _ _ _ _ h ⟨e, q⟩ => ⟨e, h _ _ q⟩
theorem m2_ne : M2 rNe := fun _ _ _ _ _ h ⟨e, q⟩ => ⟨e, h _ _ q⟩
theorem m2_ixL (K : PySem.W.Frag) : M2 (rIxL K) := fun _ _ _ _ _ h ⟨p, xs, i, v, e1, e2, e3, e4, q⟩ => ⟨p, xs, i, v, e1, e2, e3, e4, h _ _ q⟩
theorem m2_ixT (K : PySem.W.Frag) : M2 (rIxT K) := fun _ _ _ _ _ h ⟨p, xs, i, v, e1, e2, e3, e4, q⟩ => ⟨p, xs, i, v, e1, e2, e3, e4, h _ _ q⟩
theorem m2_ixS : M2 rIxS := fun _ _ _ _ _ h ⟨z, i, c, e1, e2, e3, e4, q⟩ => ⟨z, i, c, e1, e2, e3, e4, h _ _ q⟩
theorem mr_slS (x : V) (lo hi : Option Int) (H : Hp) (Q Q' : VK) (h : ∀ x H1, Q x H1 → Q' x H1) (k : rSlS x lo hi H Q) : rSlS x lo hi H Q' := by
  obtain ⟨z, e1, e2, q⟩ := k
  exact ⟨z, e1, e2, h _ _ q⟩
end Bx

set_option Elab.async false
set_option linter.all false
set_option maxRecDepth 100000
set_option maxHeartbeats 4000000
namespace Wd
open PySem PySem.Spec PyProof.Rows L2 Bx Gx

























































section
theorem inV_vsN (k : Nat) (l : List Nat) : inV (.int (k : Int)) (vsN l) = decide (k ∈ l) := by
  unfold inV vsN
  rw [List.any_map]
  induction l with
  | nil => rfl
  | cons x r ih =>
    rw [List.any_cons, ih]
    have e : ((fun y => eqV y (.int (k : Int))) ∘ fun (m : Nat) => V.int (m : Int)) x = decide (k = x) := by
      show ((x : Int) == (k : Int)) = _
      rw [Bool.eq_iff_iff]
      simp
      omega
    rw [e, Bool.eq_iff_iff]
    simp
theorem flat_vsN (l : List Nat) : (vsN l).all flatV = true := by
  rw [List.all_eq_true]
  intro x hx
  obtain ⟨y, _, rfl⟩ := List.mem_map.mp hx
  rfl
/-- a lot's own part, ascending: what hangs to a place -/
structure Part (bs : List (Nat × Nat)) (ps : List Nat) (p : Nat) (r : List Nat) : Prop where
  asc : r.Pairwise (· < ·)
  mem : ∀ x, x ∈ r ↔ Mk.Conn bs (· ∈ ps) p x
end
section
/-! ### the neighbours of each place, as lists -/
structure Bes (n : Nat) (H : Hp) (q : Addr) (as : List Addr) (rows : List (List Nat)) : Prop where
  at_ : H q = some (.lst (as.map V.ref))
  la : as.length = n
  lr : rows.length = n
  nd : as.Nodup
  out : q ∉ as
  row : ∀ (i : Nat) (a : Addr) (r : List Nat), as[i]? = some a → rows[i]? = some r → H a = some (.lst (vsN r))
theorem Bes.ext {n : Nat} {H H' : Hp} {q : Addr} {as : List Addr} {rows : List (List Nat)} (h : Bes n H q as rows) (x : Ext H H') : Bes n H' q as rows := ⟨x.lst h.at_, h.la, h.lr, h.nd, h.out, fun i a r h1 h2 => x.lst (h.row i a r h1 h2)⟩
theorem Bes.extS {S : List Addr} {n : Nat} {H H' : Hp} {q : Addr} {as : List Addr} {rows : List (List Nat)} (h : Bes n H q as rows) (hq : q ∉ S) (ha : ∀ a ∈ as, a ∉ S) (x : ExtS S H H') : Bes n H' q as rows :=
  ⟨x.lst hq h.at_, h.la, h.lr, h.nd, h.out, fun i a r h1 h2 => x.lst (ha a (List.mem_of_getElem? h1)) (h.row i a r h1 h2)⟩
/-- the rows tell the neighbours -/
structure Nbr (bs : List (Nat × Nat)) (n L : Nat) (rows : List (List Nat)) : Prop where
  mem : ∀ (i : Nat) (r : List Nat), rows[i]? = some r → ∀ j, j ∈ r ↔ Mk.adj bs i j = true
  len : ∀ r ∈ rows, r.length ≤ L
theorem nodup_at {α : Type} {l : List α} (h : l.Nodup) {i j : Nat} {a : α} (hi : l[i]? = some a) (hj : l[j]? = some a) : i = j := by
  obtain ⟨h1, e1⟩ := List.getElem?_eq_some_iff.mp hi
  obtain ⟨h2, e2⟩ := List.getElem?_eq_some_iff.mp hj
  rcases Nat.lt_trichotomy i j with z | z | z
  · exact absurd (e1.trans e2.symm) (List.pairwise_iff_getElem.mp h i j h1 h2 z)
  · exact z
  · exact absurd (e2.trans e1.symm) (List.pairwise_iff_getElem.mp h j i h2 h1 z)
theorem Bes.write {n i : Nat} {H : Hp} {q a : Addr} {as : List Addr} {rows : List (List Nat)} {r r' : List Nat} (h : Bes n H q as rows) (ha : as[i]? = some a) (hr : rows[i]? = some r) : Bes n (upd H a (.lst (vsN r'))) q as (rows.set i r') := by
  have hqa : q ≠ a := fun e => h.out (by rw [e]; exact List.mem_of_getElem? ha)
  refine ⟨by rw [upd_ne hqa]; exact h.at_, h.la, by rw [List.length_set]; exact h.lr, h.nd, h.out, fun j c s h1 h2 => ?_⟩
  by_cases e : j = i
  · subst e
    rw [ha] at h1
    obtain rfl := Option.some.inj h1
    rw [List.getElem?_set_self (by rw [h.lr, ← h.la]; exact (List.getElem?_eq_some_iff.mp ha).1)] at h2
    rw [upd_same, Option.some.inj h2]
  · have hca : c ≠ a := fun z => e (nodup_at h.nd h1 (by rw [z]; exact ha))
    rw [List.getElem?_set_ne (fun z => e z.symm)] at h2
    rw [upd_ne hca]
    exact h.row j c s h1 h2
theorem adj_snoc (bs : List (Nat × Nat)) (b : Nat × Nat) (i j : Nat) : Mk.adj (bs ++ [b]) i j = true ↔ Mk.adj bs i j = true ∨ (min i j, max i j) = b := by
  unfold Mk.adj
  rw [List.contains_iff_mem, List.contains_iff_mem, List.mem_append, List.mem_singleton]
theorem Nbr.add {bs : List (Nat × Nat)} {n L b1 b2 : Nat} {rows : List (List Nat)} {r1 r2 : List Nat} (h : Nbr bs n L rows) (hl : rows.length = n) (hb : b1 < b2) (hb2 : b2 < n) (h1 : rows[b1]? = some r1) (h2 : rows[b2]? = some r2) :
    Nbr (bs ++ [(b1, b2)]) n (L + 1) ((rows.set b1 (r1 ++ [b2])).set b2 (r2 ++ [b1])) := by
  have l1 : b1 < rows.length := by omega
  have l2 : b2 < (rows.set b1 (r1 ++ [b2])).length := by rw [List.length_set]; omega
  refine ⟨fun i r hr j => ?_, fun r hr => ?_⟩
  · rw [adj_snoc]
    by_cases e2 : i = b2
    · subst e2
      rw [List.getElem?_set_self l2] at hr
      rw [← Option.some.inj hr, List.mem_append, List.mem_singleton, h.mem _ r2 h2 j]
      refine or_congr Iff.rfl ⟨fun z => by rw [z, Nat.min_eq_right (by omega), Nat.max_eq_left (by omega)], fun z => ?_⟩
      have z1 := congrArg Prod.fst z
      have z2 := congrArg Prod.snd z
      simp only at z1 z2
      omega
    · rw [List.getElem?_set_ne (fun z => e2 z.symm)] at hr
      by_cases e1 : i = b1
      · subst e1
        rw [List.getElem?_set_self l1] at hr
        rw [← Option.some.inj hr, List.mem_append, List.mem_singleton, h.mem _ r1 h1 j]
        refine or_congr Iff.rfl ⟨fun z => by rw [z, Nat.min_eq_left (by omega), Nat.max_eq_right (by omega)], fun z => ?_⟩
        have z1 := congrArg Prod.fst z
        have z2 := congrArg Prod.snd z
        simp only at z1 z2
        omega
      · rw [List.getElem?_set_ne (fun z => e1 z.symm)] at hr
        rw [h.mem i r hr j]
        refine ⟨.inl, fun z => z.resolve_right fun w => ?_⟩
        have z1 := congrArg Prod.fst w
        have z2 := congrArg Prod.snd w
        simp only at z1 z2
        omega
  · rcases List.mem_or_eq_of_mem_set hr with z | z
    · rcases List.mem_or_eq_of_mem_set z with z | z
      · have := h.len r z
        omega
      · rw [z, List.length_append, List.length_singleton]
        have := h.len r1 (List.mem_of_getElem? h1)
        omega
    · rw [z, List.length_append, List.length_singleton]
      have := h.len r2 (List.mem_of_getElem? h2)
      omega
end
section
variable {P : Program} {w : World} {K : PySem.W.Frag} {mg : Str → Option Value} {base : Heap}
def spBeside (K : PySem.W.Frag) : Sp := fun vs H Q _ => ∃ (l : V) (fs : List Int) (bs : List (Nat × Nat)), vs = [l] ∧ Dp K H l (landD fs bs) ∧ fs.length ≤ 12 ∧ Mk.Bs fs.length bs ∧ bs.length ≤ 1000 ∧
  ∀ (q : Addr) (as : List Addr) (rows : List (List Nat)) (H' : Hp), Ext H H' → H q = none → (∀ a ∈ as, H a = none) → Bes fs.length H' q as rows → Nbr bs fs.length 1000 rows → Q (.ref q) H'
abbrev beN : List Str := ["land", "one", "found", "i", "j"]
theorem sc_beside : FnScope beN ["land"] (defScope st__law_beside) := ⟨rfl, rfl, rfl, by decide +kernel, rfl, by decide +kernel, by decide +kernel⟩
theorem ok_beside {f : Addr} {fd : FuncData} (F : Fun K "_law_beside" "_law_beside" st__law_beside f fd) : FnOk P w K mg base CX0 1 f fd ["land"] (spBeside K) := by
  refine F.ok sc_beside (fun vs H Q E h => ?_) (fun cdv A outer s H vs Q E hr h => ?_)
  · obtain ⟨l, fs, bs, rfl, _⟩ := h
    rfl
  · obtain ⟨l, fs, bs, rfl, hd, hn, hb, hbl, k⟩ := h
    have nd := sc_beside.nd
    refine ⟨_, pss_cons (ps_setLc (i := 2) (own := [("one", 1)]) (g := gName 1) (by rfl) nd rfl rfl (sw_true rfl rfl rfl (by decide +kernel)) (pi_tup (pe_ix ix_tup (pv 0) pe_int (fun _ _ => rfl))) (blkOk_by (own := [("one", 1)]) (N := beN) (sc := defScope st__law_beside) (by decide +kernel))
          (fun _ _ _ _ _ => pg_name (i := 1) nd rfl (Or.inl rfl)) (fun _ _ _ _ _ => pts_nil) (fun _ _ _ _ _ => pe_lst pa_nil))
      (pss_cons (ps_for PassesOwn.never rfl (pi_tup (pe_ix ix_tup (pv 0) pe_int (fun _ _ => rfl))) (pg_tup (by rfl) (pgs_cons (pg_name (i := 3) nd rfl (Or.inl rfl)) (pgs_cons (pg_name (i := 4) nd rfl (Or.inl rfl)) pgs_nil)))
        (pss_cons (ps_expr (pe_bm PySem.F.plainAttrs_list PySem.F.slot_list_append PySem.F.type_list_append mt_append (pe_ix ix_list (pv 2) (pv 3) (fun _ _ => rfl)) (pa_cons (pv 4) pa_nil)))
        (pss_one (ps_expr (pe_bm PySem.F.plainAttrs_list PySem.F.slot_list_append PySem.F.type_list_append mt_append (pe_ix ix_list (pv 2) (pv 4) (fun _ _ => rfl)) (pa_cons (pv 3) pa_nil))))))
      (pss_one (ps_ret (pv 2)))), ?_⟩
    obtain ⟨al, af, vb, rfl, hl1, hl2, hl3⟩ := dp_land hd
    obtain ⟨ab, ys, rfl, h8, h9⟩ := dp_tup hl3
    refine ⟨_, rfl, al, _, _, _, rfl, rfl, hl1, atI_nat (j := 0) rfl, af, rfl, ⟨_, hl2⟩, fun D hD => ?_⟩
    refine lc_tup (K := K) (a := af) (xs := fs.map V.int) (fun i H1 => ∃ as : List Addr, Bes i H1 D as (List.replicate i []) ∧ (∀ a ∈ as, H a = none) ∧ Ext H H1) ⟨[], ⟨upd_same, rfl, rfl, .nil, (fun z => nomatch z), fun i a r h => by simp at h⟩, (fun a h => nomatch h), .new hD⟩ (fun i H1 _ ⟨_, _, _, x1⟩ => x1.sqT hl2) (fun i y H1 hy ⟨as, hB, hf, x1⟩ => ?_) (fun H1 ⟨as, hB, hf, x1⟩ => ?_)
    · have hil : i < fs.length := by
        have := (List.getElem?_eq_some_iff.mp hy).1
        rwa [List.length_map] at this
      refine ⟨rfl, ?_⟩
      dsimp only [tYes]
      rw [if_pos rfl]
      refine ⟨Nat.zero_le _, fun p hp => ?_⟩
      have x2 : Ext H1 (upd H1 p (.lst [])) := .new hp
      have hB2 := hB.ext x2
      have hpas : p ∉ as := fun z => by
        obtain ⟨j, hj⟩ := List.getElem?_of_mem z
        have hj2 : (List.replicate i ([] : List Nat))[j]? = some [] := by
          rw [List.getElem?_replicate, if_pos]
          have := (List.getElem?_eq_some_iff.mp hj).1
          rw [hB.la] at this
          exact this
        have := hB.row j p [] hj hj2
        rw [hp] at this
        cases this
      have hpD : p ≠ D := fun e => by rw [e, hB.at_] at hp; cases hp
      refine ⟨_, hB2.at_, by rw [List.length_map, hB.la]; exact small1000 (by omega), as ++ [p], ⟨by rw [upd_same, List.map_append]; rfl, by rw [List.length_append, hB.la]; rfl, by simp, ?_, ?_, fun j a r h1 h2 => ?_⟩, fun a ha => ?_, (x1.trans x2).write hD⟩
      · rw [List.nodup_append]
        exact ⟨hB.nd, by simp, fun a ha b hb e => by rw [List.mem_singleton.mp hb] at e; exact hpas (e ▸ ha)⟩
      · intro z
        rcases List.mem_append.mp z with z | z
        · exact hB.out z
        · exact hpD (List.mem_singleton.mp z).symm
      · have hrn : r = [] := by
          rw [List.getElem?_replicate] at h2
          split at h2
          · exact (Option.some.inj h2).symm
          · cases h2
        subst hrn
        have haD : a ≠ D := fun e => by
          have := List.mem_of_getElem? h1
          rcases List.mem_append.mp this with z | z
          · exact hB.out (e ▸ z)
          · exact hpD ((List.mem_singleton.mp z).symm.trans e)
        rw [upd_ne haD]
        by_cases e : a = p
        · rw [e, upd_same]
          rfl
        · have hj : as[j]? = some a := by
            rw [List.getElem?_append] at h1
            split at h1
            · exact h1
            · rw [List.getElem?_singleton] at h1
              split at h1
              · exact absurd (Option.some.inj h1).symm e
              · cases h1
          have hj2 : (List.replicate i ([] : List Nat))[j]? = some [] := by
            rw [List.getElem?_replicate, if_pos]
            have := (List.getElem?_eq_some_iff.mp hj).1
            rw [hB.la] at this
            exact this
          exact hB2.row j a [] hj hj2
      · rcases List.mem_append.mp ha with z | z
        · exact hf a z
        · rw [List.mem_singleton.mp z]
          exact x1.free hp
    · rw [List.length_map] at hB
      dsimp only [gName, tSeq, List.set]
      refine ⟨_, rfl, al, _, _, _, rfl, rfl, x1.sqT hl1, atI_nat (j := 1) rfl, ab, rfl, ⟨_, x1.sqT h8⟩, for_tup (K := K) (a := ab) (xs := ys) (fun i σ H2 => ∃ (rows : List (List Nat)) (o1 o3 o4 : Option V), σ = [some (.ref al), o1, some (.ref D), o3, o4] ∧ Ext H H2 ∧ Bes fs.length H2 D as rows ∧ Nbr (bs.take i) fs.length i rows)
        ⟨List.replicate fs.length [], _, _, _, rfl, x1, hB, ⟨fun i r hr j => ?_, fun r hr => by rw [List.eq_of_mem_replicate hr]; exact Nat.le_refl _⟩⟩ (fun i σ H2 _ ⟨_, _, _, _, _, x, _⟩ => x.sqT h8) ?_ ?_⟩
      · rw [List.getElem?_replicate] at hr
        split at hr
        · rw [← Option.some.inj hr, List.take_zero]
          constructor
          · intro z; cases z
          · intro z; cases z
        · cases hr
      · rintro i y σ H2 hy ⟨rows, o1, o3, o4, rfl, x2, hB2, hN⟩
        obtain ⟨d, hd1, hd2⟩ := dpAll_get' h9 hy
        rw [List.getElem?_map] at hd1
        obtain ⟨b, hbi, rfl⟩ := Option.map_eq_some_iff.mp hd1
        obtain ⟨b1, b2⟩ := b
        obtain ⟨hb1, hb2⟩ := hb (b1, b2) (List.mem_of_getElem? hbi)
        simp only at hb1 hb2
        obtain ⟨t, rfl, ht⟩ := dp_ints (ns := [(b1 : Int), (b2 : Int)]) hd2
        have et : bs.take (i + 1) = bs.take i ++ [(b1, b2)] := by rw [List.take_add_one, hbi]; rfl
        have hil : i < bs.length := (List.getElem?_eq_some_iff.mp hbi).1
        obtain ⟨a1, ha1⟩ : ∃ a, as[b1]? = some a := ⟨_, List.getElem?_eq_getElem (by rw [hB2.la]; omega)⟩
        obtain ⟨a2, ha2⟩ : ∃ a, as[b2]? = some a := ⟨_, List.getElem?_eq_getElem (by rw [hB2.la]; omega)⟩
        obtain ⟨r1, hr1⟩ : ∃ r, rows[b1]? = some r := ⟨_, List.getElem?_eq_getElem (by rw [hB2.lr]; omega)⟩
        obtain ⟨r2, hr2⟩ : ∃ r, rows[b2]? = some r := ⟨_, List.getElem?_eq_getElem (by rw [hB2.lr]; omega)⟩
        have e1 := hB2.row b1 a1 r1 ha1 hr1
        have hr2' : (rows.set b1 (r1 ++ [b2]))[b2]? = some r2 := by rw [List.getElem?_set_ne (by omega)]; exact hr2
        have hB3 := hB2.write (r' := r1 ++ [b2]) ha1 hr1
        have e2 := hB3.row b2 a2 r2 ha2 hr2'
        have hB4 := hB3.write (r' := r2 ++ [b1]) ha2 hr2'
        have v1 : (as.map V.ref)[b1]? = some (V.ref a1) := by rw [List.getElem?_map, ha1]; rfl
        have v2 : (as.map V.ref)[b2]? = some (V.ref a2) := by rw [List.getElem?_map, ha2]; rfl
        have c1 : vsN r1 ++ [V.int (b2 : Int)] = vsN (r1 ++ [b2]) := by
          show List.map _ _ ++ _ = List.map _ _
          rw [List.map_append]
          rfl
        have c2 : vsN r2 ++ [V.int (b1 : Int)] = vsN (r2 ++ [b1]) := by
          show List.map _ _ ++ _ = List.map _ _
          rw [List.map_append]
          rfl
        have z1 := hN.len r1 (List.mem_of_getElem? hr1)
        have z2 := hN.len r2 (List.mem_of_getElem? hr2)
        refine ⟨t, _, rfl, x2.sqT ht, rfl, _, _, rfl, _, _, rfl, rfl, ?_⟩
        dsimp only [gName, tSeq, List.set]
        refine ⟨_, rfl, _, rfl, D, _, b1, _, rfl, rfl, SqL.of hB2.at_, atI_nat v1, .inl ⟨rfl, _, SqL.of e1⟩, _, rfl, a1, _, _, rfl, rfl, e1, by rw [List.length_map]; exact small1000 (by omega), ?_⟩
        rw [c1]
        refine ⟨_, rfl, _, rfl, D, _, b2, _, rfl, rfl, SqL.of hB3.at_, atI_nat v2, .inl ⟨rfl, _, SqL.of e2⟩, _, rfl, a2, _, _, rfl, rfl, e2, by rw [List.length_map]; exact small1000 (by omega), ?_⟩
        rw [c2]
        refine ⟨_, _, _, _, rfl, (x2.write (hf a1 (List.mem_of_getElem? ha1))).write (hf a2 (List.mem_of_getElem? ha2)), hB4, ?_⟩
        rw [et]
        exact hN.add hB2.lr hb1 hb2 hr1 hr2
      · rintro σ H2 ⟨rows, o1, o3, o4, rfl, x2, hB2, hN⟩
        have el : ys.length = bs.length := by
          have := dpAll_len h9
          rw [List.length_map] at this
          exact this
        rw [el, List.take_length] at hN
        exact ⟨_, rfl, k D as rows H2 x2 hD hf hB2 ⟨hN.mem, fun r hr => Nat.le_trans (hN.len r hr) hbl⟩⟩
end
section
variable {P : Program} {w : World} {K : PySem.W.Frag} {mg : Str → Option Value} {base : Heap}
/-! ### what is come to from a place, within a lot -/
/-- found, and of these those that are still to be gone on from -/
structure Cw (bs : List (Nat × Nat)) (ps : List Nat) (p : Nat) (fnd todo : List Nat) : Prop where
  nd : fnd.Nodup
  con : ∀ x ∈ fnd, Mk.Conn bs (· ∈ ps) p x
  sub : ∀ x ∈ todo, x ∈ fnd
  tnd : todo.Nodup
  clo : ∀ x ∈ fnd, x ∉ todo → ∀ y ∈ ps, Mk.adj bs x y = true → y ∈ fnd
  has : p ∈ fnd
theorem Cw.begin {bs : List (Nat × Nat)} {ps : List Nat} {p : Nat} (h : p ∈ ps) : Cw bs ps p [p] [p] :=
  ⟨by simp, fun x hx => by rw [List.mem_singleton.mp hx]; exact .refl h, fun x hx => hx, by simp, fun x hx hn => absurd hx hn, by simp⟩
theorem Cw.fin {bs : List (Nat × Nat)} {ps fnd : List Nat} {p : Nat} (w : Cw bs ps p fnd []) (x : Nat) : x ∈ fnd ↔ Mk.Conn bs (· ∈ ps) p x := by
  refine ⟨w.con x, fun h => ?_⟩
  induction h with
  | refl _ => exact w.has
  | step h1 ha hr ih => exact w.clo _ ih (by simp) _ hr ha
/-- while the row of x is gone through: its first i places are done -/
structure Cx1 (bs : List (Nat × Nat)) (ps : List Nat) (p x : Nat) (row : List Nat) (i : Nat) (fnd todo : List Nat) : Prop where
  nd : fnd.Nodup
  con : ∀ y ∈ fnd, Mk.Conn bs (· ∈ ps) p y
  sub : ∀ y ∈ todo, y ∈ fnd
  tnd : todo.Nodup
  clo : ∀ z ∈ fnd, z ∉ todo → z ≠ x → ∀ y ∈ ps, Mk.adj bs z y = true → y ∈ fnd
  has : p ∈ fnd
  at_ : x ∈ fnd
  don : ∀ y ∈ row.take i, y ∈ ps → y ∈ fnd
theorem Cx1.begin {bs : List (Nat × Nat)} {ps fnd todo row : List Nat} {p x : Nat} (w : Cw bs ps p fnd (todo ++ [x])) : Cx1 bs ps p x row 0 fnd todo := by
  have h := List.nodup_append.mp w.tnd
  exact ⟨w.nd, w.con, fun y hy => w.sub y (List.mem_append_left _ hy), h.1, fun z hz hn hx y hy ha => w.clo z hz (fun m => (List.mem_append.mp m).elim hn fun e => hx (List.mem_singleton.mp e)) y hy ha, w.has, w.sub x (by simp), fun y hy => by simp at hy⟩
theorem Cx1.skip {bs : List (Nat × Nat)} {ps fnd todo row : List Nat} {p x y i : Nat} (w : Cx1 bs ps p x row i fnd todo) (hy : row[i]? = some y) (h : y ∈ ps → y ∈ fnd) : Cx1 bs ps p x row (i + 1) fnd todo :=
  ⟨w.nd, w.con, w.sub, w.tnd, w.clo, w.has, w.at_, fun z hz hp => by
    rw [List.take_add_one, hy] at hz
    rcases List.mem_append.mp hz with m | m
    · exact w.don z m hp
    · rw [show z = y by simpa using m] at hp ⊢
      exact h hp⟩
theorem Cx1.add {bs : List (Nat × Nat)} {ps fnd todo row : List Nat} {p x y i : Nat} (w : Cx1 bs ps p x row i fnd todo) (hy : row[i]? = some y) (ha : Mk.adj bs x y = true) (hp : y ∈ ps) (hn : y ∉ fnd) : Cx1 bs ps p x row (i + 1) (fnd ++ [y]) (todo ++ [y]) :=
  ⟨by rw [List.nodup_append]; exact ⟨w.nd, by simp, fun a h b hb e => hn (by rw [List.mem_singleton.mp hb] at e; exact e ▸ h)⟩,
   fun z hz => by
    rcases List.mem_append.mp hz with m | m
    · exact w.con z m
    · rw [List.mem_singleton.mp m]
      exact .step (w.con x w.at_) ha hp,
   fun z hz => by
    rcases List.mem_append.mp hz with m | m
    · exact List.mem_append_left _ (w.sub z m)
    · exact List.mem_append_right _ m,
   by
    rw [List.nodup_append]
    exact ⟨w.tnd, by simp, fun a h b hb e => hn (by rw [List.mem_singleton.mp hb] at e; exact w.sub y (e ▸ h))⟩,
   fun z hz hzn hx u hu hau => by
    rcases List.mem_append.mp hz with m | m
    · exact List.mem_append_left _ (w.clo z m (fun e => hzn (List.mem_append_left _ e)) hx u hu hau)
    · exact absurd (List.mem_append_right _ m) hzn,
   List.mem_append_left _ w.has, List.mem_append_left _ w.at_, fun z hz hzp => by
    rw [List.take_add_one, hy] at hz
    rcases List.mem_append.mp hz with m | m
    · exact List.mem_append_left _ (w.don z m hzp)
    · rw [show z = y by simpa using m]
      simp⟩
theorem Cx1.fin {bs : List (Nat × Nat)} {ps fnd todo row : List Nat} {p x : Nat} (w : Cx1 bs ps p x row row.length fnd todo) (hr : ∀ j, j ∈ row ↔ Mk.adj bs x j = true) : Cw bs ps p fnd todo :=
  ⟨w.nd, w.con, w.sub, w.tnd, fun z hz hn y hy ha => by
    by_cases e : z = x
    · rw [e] at ha
      exact w.don y (by rw [List.take_length]; exact (hr y).mpr ha) hy
    · exact w.clo z hz hn e y hy ha, w.has⟩
/-- how much is left to do -/
theorem Cw.lens {bs : List (Nat × Nat)} {n : Nat} {ps fnd todo : List Nat} {p : Nat} (w : Cw bs ps p fnd todo) (hp : ∀ x ∈ ps, x < n) : fnd.length ≤ n ∧ todo.length ≤ n :=
  ⟨Mk.nodup_le n fnd w.nd fun x hx => hp x (w.con x hx).snd, Mk.nodup_le n todo w.tnd fun x hx => hp x (w.con x (w.sub x hx)).snd⟩
theorem Cx1.lens {bs : List (Nat × Nat)} {n i : Nat} {ps fnd todo row : List Nat} {p x : Nat} (w : Cx1 bs ps p x row i fnd todo) (hp : ∀ x ∈ ps, x < n) : fnd.length ≤ n ∧ todo.length ≤ n :=
  ⟨Mk.nodup_le n fnd w.nd fun x hx => hp x (w.con x hx).snd, Mk.nodup_le n todo w.tnd fun x hx => hp x (w.con x (w.sub x hx)).snd⟩
theorem vsN_int (l : List Nat) : (l.map fun (m : Nat) => (m : Int)).map V.int = vsN l := by rw [List.map_map]; rfl
theorem nil_ne {H : Hp} {D z : Addr} (l : List Nat) (h : H D = some (.lst (vsN l))) (hz : H z = some (.lst [])) : ∃ d e, Dp K H (.ref D) d ∧ Dp K H (.ref z) e ∧ SeqAt.shaped d = true ∧ SeqAt.shaped e = true ∧ (!PyData.eqv d e) = !l.isEmpty := by
  refine ⟨.list ((l.map fun (m : Nat) => (m : Int)).map .int), .list [], .lst (SqL.of (by rw [h, vsN_int])) (dpAll_of_ints _), .lst (SqL.of hz) .nil, (Sh.ints (n := 0) _).shaped (by decide), (Sh.lst (n := 0) (fun d hd => by cases hd)).shaped (by decide), ?_⟩
  rw [eqv_nil]
  cases l <;> rfl
theorem m2_neD : M2 (rNeD K) := fun _ _ _ _ _ h ⟨d, e, a, b, c, f, q⟩ => ⟨d, e, a, b, c, f, h _ _ q⟩
theorem me_nil : ME (tLst tNil) := fun _ _ _ _ h ⟨a, k⟩ => ⟨a, fun p hp => h _ _ (k p hp)⟩
theorem vsN_app (l : List Nat) (x : Nat) : vsN l ++ [V.int (x : Int)] = vsN (l ++ [x]) := by
  show _ = List.map _ (l ++ [x])
  rw [List.map_append]
  rfl
def spCome (K : PySem.W.Frag) : Sp := fun vs H Q _ => ∃ (l : V) (lt : Addr) (fs : List Int) (bs : List (Nat × Nat)) (st : Nat) (ps : List Nat), vs = [l, .int (st : Int), .ref lt] ∧ Dp K H l (landD fs bs) ∧ fs.length ≤ 12 ∧ Mk.Bs fs.length bs ∧ bs.length ≤ 1000 ∧ (SqL K H lt (vsN ps) ∨ SqT K H lt (vsN ps)) ∧ st ∈ ps ∧ (∀ p ∈ ps, p < fs.length) ∧
  ∀ (q : Addr) (fnd : List Nat) (H' : Hp), Ext H H' → H q = none → H' q = some (.lst (vsN fnd)) → fnd.Nodup → (∀ x, x ∈ fnd ↔ Mk.Conn bs (· ∈ ps) st x) → Q (.ref q) H'
abbrev lcomeN : List Str := ["land", "start", "lot", "links", "found", "todo", "place"]
theorem sc_come : FnScope lcomeN ["land", "start", "lot"] (defScope st__law_come) := ⟨rfl, rfl, rfl, by decide +kernel, rfl, by decide +kernel, by decide +kernel⟩
theorem ok_come {f : Addr} {fd : FuncData} (F : Fun K "_law_come" "_law_come" st__law_come f fd) (B : Bl mg) (c__law_beside : Cal P w K mg base 1 "_law_beside" ["land"] (spBeside K)) : FnOk P w K mg base CX0 2 f fd ["land", "start", "lot"] (spCome K) := by
  refine F.ok sc_come (fun vs H Q E h => ?_) (fun cdv A outer s H vs Q E hr h => ?_)
  · obtain ⟨l, lt, fs, bs, st, ps, rfl, _⟩ := h
    rfl
  · obtain ⟨l, lt, fs, bs, st, ps, rfl, hl, hn, hbs, hbl, hlt, hst, hps, k⟩ := h
    have nd := sc_come.nd
    refine ⟨_, pss_cons (ps_par3 (i := 3) (j := 4) (l := 5) (by rfl) nd rfl rfl rfl (by decide) (by decide) (by decide) rfl rfl rfl (pa_cons (pe_cal c__law_beside (hr.mono (by decide)) rfl (pa_cons (pv 0) pa_nil)) (pa_cons (pe_lst (pa_cons (pv 1) pa_nil)) (pa_cons (pe_lst (pa_cons (pv 1) pa_nil)) pa_nil))) (by rfl))
      (pss_cons (ps_while PassesOwn.never (pt_cmpR (op_neD hr.units) (pv 5) (pe_lst pa_nil) (nomark _))
        (pss_one (ps_for PassesOwn.never rfl (pi_list (pe_ix ix_list (pv 3) (pe_bm0 PySem.F.plainAttrs_list PySem.F.slot_list_pop PySem.F.type_list_pop mt_pop (pv 5)) (fun _ _ => rfl))) (pg_name (i := 6) nd rfl (Or.inl rfl))
          (pss_one (ps_if (PW.pt (pw_and (pt_cmpR op_in_seq (pv 6) (pv 2) (by rfl)) (pw_and1 (pt_cmpR op_notIn_seq (pv 6) (pv 4) (by rfl))))) (pss_cons (ps_expr (pe_bm PySem.F.plainAttrs_list PySem.F.slot_list_append PySem.F.type_list_append mt_append (pv 4) (pa_cons (pv 6) pa_nil)))
            (pss_one (ps_expr (pe_bm PySem.F.plainAttrs_list PySem.F.slot_list_append PySem.F.type_list_append mt_append (pv 5) (pa_cons (pv 6) pa_nil))))) pss_nil)))))
      (pss_one (ps_ret (pv 4)))), ?_⟩
    have hsl : 1000 ≤ sizeLine := by decide
    have lt_ext : ∀ {H' : Hp}, Ext H H' → (SqL K H' lt (vsN ps) ∨ SqT K H' lt (vsN ps)) := fun x => hlt.elim (fun z => .inl (x.sqL z)) fun z => .inr (x.sqT z)
    refine ⟨_, rfl, l, fs, bs, rfl, hl, hn, hbs, hbl, fun r as rows H1 x1 hr0 haf hB hN => ?_⟩
    refine ⟨_, rfl, by show 1 ≤ sizeLine; omega, fun a ha => ⟨_, rfl, by show 1 ≤ sizeLine; omega, fun b hb => ⟨_, _, _, rfl, ?_⟩⟩⟩
    have hab : a ≠ b := ne_of_none upd_same hb
    have haH : H a = none := x1.free ha
    have hbH : H b = none := x1.free ((Ext.new ha).free hb)
    have hra : r ≠ a := ne_of_none hB.at_ ha
    have x0 : Ext H1 (upd (upd H1 a (.lst [.int (st : Int)])) b (.lst [.int (st : Int)])) := (Ext.new ha).trans (.new hb)
    have ea : (upd (upd H1 a (.lst [.int (st : Int)])) b (.lst [.int (st : Int)])) a = some (.lst (vsN [st])) := by rw [upd_ne hab, upd_same]; rfl
    have eb : (upd (upd H1 a (.lst [.int (st : Int)])) b (.lst [.int (st : Int)])) b = some (.lst (vsN [st])) := upd_same
    have hb1 : H1 b = none := (Ext.new ha).free hb
    dsimp only [tNext, tSeq, gName, List.set, L2.start, List.map, List.replicate, List.append, List.length]
    generalize upd (upd H1 a (.lst [.int (st : Int)])) b (.lst [.int (st : Int)]) = H2 at x0 ea eb ⊢
    refine while_by (fun σ G => ∃ (S W : List Nat) (o6 : Option V), σ = [some l, some (.int (st : Int)), some (.ref lt), some (.ref r), some (.ref a), some (.ref b), o6] ∧ G a = some (.lst (vsN S)) ∧ G b = some (.lst (vsN W)) ∧ Ext H1 G ∧ Cw bs ps st S W)
      (fun _ G => match G a, G b with
        | some (.lst xs), some (.lst ys) => ys.length + 2 * (fs.length - xs.length)
        | _, _ => 0) ⟨[st], [st], none, rfl, ea, eb, x0, .begin hst⟩ ?_ ?_
    · rintro σ G ⟨S, W, o6, rfl, e1, e2, x, cw⟩
      have hSl := cw.lens hps
      refine ⟨_, rfl, Nat.zero_le _, fun z hz => ?_⟩
      obtain ⟨d, d', q1, q2, q3, q4, q5⟩ := nil_ne (K := K) (H := upd G z (.lst [])) (D := b) (z := z) W ((Ext.new hz).lst e2) upd_same
      refine ⟨d, d', q1, q2, q3, q4, _, rfl, ?_⟩
      rw [q5]
      have hmu : (match G a, G b with | some (.lst xs), some (.lst ys) => ys.length + 2 * (fs.length - xs.length) | _, _ => 0) = W.length + 2 * (fs.length - S.length) := by
        rw [e1, e2]
        show (vsN W).length + 2 * (fs.length - (vsN S).length) = _
        rw [show (vsN W).length = W.length from List.length_map _, show (vsN S).length = S.length from List.length_map _]
      rw [hmu]
      clear hmu
      have e1z := (Ext.new hz (o := .lst [])).lst e1
      have e2z := (Ext.new hz (o := .lst [])).lst e2
      have xz := x.trans (.new hz (o := .lst []))
      generalize upd G z (.lst []) = G1 at e1z e2z xz ⊢
      clear q1 q2 q3 q4 q5 hz e1 e2 x
      rcases List.eq_nil_or_concat W with rfl | ⟨W0, p, hW⟩
      · refine iteF ?_
        exact ⟨_, rfl, k a S G1 (x1.trans xz) haH e1z cw.nd cw.fin⟩
      · rw [List.concat_eq_append] at hW
        subst hW
        rw [show (!(W0 ++ [p]).isEmpty) = true by cases W0 <;> rfl]
        refine iteT ?_
        have hp : p ∈ S := cw.sub p (List.mem_append_right _ List.mem_cons_self)
        have hpn : p < fs.length := hps p (cw.con p hp).snd
        dsimp only [tSeq]
        refine ⟨_, rfl, _, rfl, .inl ⟨rfl, _, SqL.of e2z⟩, b, _, .int (p : Int), rfl, rfl, e2z, ?_, ?_⟩
        · rw [← vsN_app, List.length_append, List.length_singleton, Nat.add_sub_cancel, List.getElem?_append_right (Nat.le_refl _), Nat.sub_self]
          rfl
        rw [← vsN_app, List.dropLast_concat]
        have e1b : (upd G1 b (.lst (vsN W0))) a = some (.lst (vsN S)) := by rw [upd_ne hab]; exact e1z
        have e2b : (upd G1 b (.lst (vsN W0))) b = some (.lst (vsN W0)) := upd_same
        have xb : Ext H1 (upd G1 b (.lst (vsN W0))) := xz.write hb1
        generalize upd G1 b (.lst (vsN W0)) = G2 at e1b e2b xb ⊢
        clear e1z e2z xz
        have hB2 := hB.ext xb
        obtain ⟨ap, hap⟩ : ∃ a, as[p]? = some a := ⟨_, List.getElem?_eq_getElem (by rw [hB2.la]; exact hpn)⟩
        obtain ⟨rp, hrp⟩ : ∃ r, rows[p]? = some r := ⟨_, List.getElem?_eq_getElem (by rw [hB2.lr]; exact hpn)⟩
        have vp : (as.map V.ref)[p]? = some (V.ref ap) := by rw [List.getElem?_map, hap]; rfl
        have hrow := hB.row p ap rp hap hrp
        have hrl := hN.len rp (List.mem_of_getElem? hrp)
        have hrm := hN.mem p rp hrp
        have cx := Cx1.begin (row := rp) cw
        refine ⟨r, _, p, _, rfl, rfl, SqL.of hB2.at_, atI_nat vp, ap, rfl, ⟨_, SqL.of (xb.lst hrow)⟩, for_list (K := K) (a := ap) (xs := vsN rp) (fun i σ G => ∃ (S' W' : List Nat) (o6 : Option V), σ = [some l, some (.int (st : Int)), some (.ref lt), some (.ref r), some (.ref a), some (.ref b), o6] ∧ G a = some (.lst (vsN S')) ∧ G b = some (.lst (vsN W')) ∧ Ext H1 G ∧ Cx1 bs ps st p rp i S' W' ∧ W'.length + 2 * (fs.length - S'.length) ≤ W0.length + 2 * (fs.length - S.length))
          ⟨S, W0, _, rfl, e1b, e2b, xb, cx, Nat.le_refl _⟩ (fun i σ G _ ⟨_, _, _, _, _, _, x, _⟩ => SqL.of (x.lst hrow)) (fun i v σ G hv ⟨S', W', o6, e, g1, g2, x, cx', hle⟩ => ?_) (fun σ G ⟨S', W', o6, e, g1, g2, x, cx', hle⟩ => ?_)⟩
        · subst e
          have hil : i < rp.length := by
            have := (List.getElem?_eq_some_iff.mp hv).1
            rwa [List.length_map] at this
          have hy := List.getElem?_eq_getElem hil
          rw [List.getElem?_map, hy] at hv
          obtain rfl := (Option.some.inj hv).symm
          have hadj := (hrm rp[i]).mp (List.getElem_mem hil)
          generalize rp[i] = y at hy hadj
          have hl2 := cx'.lens hps
          dsimp only [gName, tSeq, List.set]
          refine ⟨_, rfl, _, rfl, lt, vsN ps, rfl, lt_ext (x1.trans x), rfl, flat_vsN ps, _, rfl, ?_⟩
          rw [if_neg Bool.false_ne_true, inV_vsN]
          by_cases he : y ∈ ps
          · rw [decide_eq_true he]
            refine iteT ⟨_, rfl, _, rfl, a, vsN S', rfl, .inl (SqL.of g1), rfl, flat_vsN S', _, rfl, ?_⟩
            rw [if_pos rfl, inV_vsN]
            by_cases hs : y ∈ S'
            · rw [decide_eq_true hs]
              exact iteF ⟨S', W', _, rfl, g1, g2, x, cx'.skip hy fun _ => hs, hle⟩
            · rw [decide_eq_false hs]
              have cx2 := cx'.add hy hadj he hs
              have hl3 := cx2.lens hps
              rw [List.length_append, List.length_singleton] at hl3
              refine iteT ⟨_, rfl, .inl ⟨rfl, _, SqL.of g1⟩, _, rfl, a, _, _, rfl, rfl, g1, by rw [vsN_len]; omega, ?_⟩
              have g2' : (upd G a (.lst (vsN S' ++ [.int (y : Int)]))) b = some (.lst (vsN W')) := by rw [upd_ne (fun y => hab y.symm)]; exact g2
              refine ⟨_, rfl, .inl ⟨rfl, _, SqL.of g2'⟩, _, rfl, b, _, _, rfl, rfl, g2', by rw [vsN_len]; omega, ?_⟩
              refine ⟨S' ++ [y], W' ++ [y], _, rfl, ?_, ?_, (x.write ha).write hb1, cx2, ?_⟩
              · rw [upd_ne hab, upd_same, vsN_app]
              · rw [upd_same, vsN_app]
              · rw [List.length_append, List.length_append, List.length_singleton]
                omega
          · rw [decide_eq_false he]
            exact iteF (iteF ⟨S', W', _, rfl, g1, g2, x, cx'.skip hy fun m => absurd m he, hle⟩)
        · subst e
          rw [vsN_len] at cx'
          refine ⟨⟨S', W', _, rfl, g1, g2, x, cx'.fin hrm⟩, ?_⟩
          rw [g1, g2]
          show (vsN W').length + 2 * (fs.length - (vsN S').length) < _
          rw [show (vsN W').length = W'.length from List.length_map _, show (vsN S').length = S'.length from List.length_map _, List.length_append, List.length_singleton]
          omega
    · exact mt_test (me_op m2_neD (me_var 5) me_nil)
end
end Wd

set_option Elab.async false
set_option linter.all false
set_option maxRecDepth 100000
set_option maxHeartbeats 4000000
/-! Ids: index of a tuple's data; len(set(t)) of a tuple of unlike ints; a dict comprehension over a range. -/
namespace Bx
open PySem PySem.Spec PyProof.Rows L2
section
variable {X : Cx}
/-- t.index(x): the first place of an equal one -/
def rIndexT (K : PySem.W.Frag) : V → List V → Hp → VK → Prop := fun x xs H Q => ∃ (a : Addr) (y : V) (d : PyData) (ds : List PyData) (j : Nat) (z : PyData), x = V.ref a ∧ xs = [y] ∧ Dp K H (V.ref a) (.tuple ds) ∧ Dp K H y d ∧
  SeqAt.shaped (.tuple ds) = true ∧ SeqAt.shaped d = true ∧ ds[j]? = some z ∧ PyData.eqv z d = true ∧ (∀ (m : Nat) (z' : PyData), m < j → ds[m]? = some z' → PyData.eqv z' d = false) ∧ Q (.int (j : Nat)) H
theorem mt_indexT (hu : X.A.units + 65 < cLine) : MtR X "tuple.index" (rIndexT X.K) := by
  intro pins s σ H x xs v us Q I rx rxs h
  obtain ⟨a, y, d, ds, j, z, rfl, rfl, hl, hy, sl, sd, hz, hzj, hno, q⟩ := h
  cases rx
  cases rxs with
  | cons ry rt =>
    rename_i uy ut
    cases rt
    obtain ⟨bs, r1⟩ := Dp.reads I d y uy hy ry
    have hxs : PyData.canLayAll0 ds = true := SeqAt.canLay_of_shaped sl
    have hroom : X.A.units + 1 + min (PyData.depthAll ds) d.depth < cLine := room_in_shaped sd hu
    cases hl with
    | tup hs ha =>
      obtain ⟨its, rv, pl, hlen⟩ := I.tuple hs
      obtain ⟨⟨cls, dd, data, sls⟩, ho, hc, n, hdt⟩ := pl
      simp only at hc hdt
      subst hc
      subst hdt
      obtain ⟨as, h4⟩ := Dp.readsAll I ds _ its ha rv
      have hn : its.length = ds.length := SeqAt.ReadsAll.length ds its as h4
      have hmap : its.map (SeqAt.readOf s.heap) = ds := SeqAt.readsAll_map ds its as hxs h4
      obtain ⟨hjd, _⟩ := List.getElem?_eq_some_iff.mp hz
      have hjl : j < its.length := by omega
      have hj : j < its.toArray.size := by simpa using hjl
      have at_ : ∀ (m : Nat) (hm : m < its.toArray.size) (z' : PyData), ds[m]? = some z' → SeqAt.readOf s.heap its.toArray[m] = z' := by
        intro m hm z' hz'
        have hml : m < its.length := by simpa using hm
        rw [← hmap, List.getElem?_map, List.getElem?_eq_getElem hml] at hz'
        have e1 : SeqAt.readOf s.heap its[m] = z' := Option.some.inj (show some (SeqAt.readOf s.heap its[m]) = some z' from hz')
        simpa using e1
      refine call_meets PySem.F.slot_tuple_index ⟨_, ho, rfl⟩ PySem.F.entry_tuple_index (PySem.F.args_tuple_index_2 _ _)
        (TI.tuple_indexAt a its.toArray n dd sls uy (fun u => PyData.eqv (SeqAt.readOf s.heap u) d) j hj ?_ ?_) ⟨ho, SeqAt.items_eqAt (vs := its.toArray) (show ReadsAll s.heap its.toArray.toList ds as from h4) r1 hxs (SeqAt.canLay_of_shaped sd) hroom, ?_⟩
      · show PyData.eqv (SeqAt.readOf s.heap its.toArray[j]) d = true
        rw [at_ j hj z hz]
        exact hzj
      · intro m hm hmj
        have hmd : m < ds.length := by omega
        have hz' : ds[m]? = some ds[m] := List.getElem?_eq_getElem hmd
        show PyData.eqv (SeqAt.readOf s.heap its.toArray[m]) d = false
        rw [at_ m hm _ hz']
        exact hno m _ hmj hz'
      · exact ⟨.int (j : Nat), H, I.tok _, ⟨_, rfl⟩, q⟩
theorem mt_indexTK {K : PySem.W.Frag} (h : X.K = K) (hu : X.A.units + 65 < cLine) : MtR X "tuple.index" (rIndexT K) := h ▸ mt_indexT hu
/-- len(set(t)), the ints of t unlike -/
def tLenSetT (K : PySem.W.Frag) (ta : TE) : TE := fun σ H Q => ta σ H fun x H1 => ∃ (l : Addr) (ns : List Int), x = V.ref l ∧ SqT K H1 l (ns.map V.int) ∧ ns.length ≤ 1000 ∧ ns.Nodup ∧ Q (.int ns.length) H1
theorem pe_lenSetT {a : Expr} {ta : TE} {p p2 q pos : Pos} (hc : X.calm = true) (hg : Gl X "len") (hm : X.mg "len" = none) (hg2 : Gl X "set") (hm2 : X.mg "set" = none) (ha : PE X a ta)
    (na : starEach [a] X.env = (false, eval a X.env) :: starEach [] X.env := by rfl) : PE X (.Call (.Name "len" p) [.Call (.Name "set" p2) [a] [] q] [] pos) (tLenSetT X.K ta) := by
  refine ⟨fun pins s σ H Q I h => ?_⟩
  refine Call_ (ld_blt I hg hm PySem.boot_len ?_)
  refine PyProof.Rows.callWith_builtin1 (PyProof.Rows.args_cons ?_ rfl) rfl rfl
  refine Call_ (ld_blt I hg2 hm2 PyProof.Rows.boot_set ?_)
  refine PyProof.Rows.callWith_type1 (PyProof.Rows.args_cons (thn (ha.run pins s σ H _ I h) fun v s1 ⟨x, H1, I1, r1, q1⟩ => PyProof.Rows.args_nil ?_) na) na rfl
  obtain ⟨l, ns, rfl, hq, h1, hnd, q1⟩ := q1
  cases r1
  obtain ⟨its, r, pt, hz⟩ := I1.tuple hq
  have hi : IntsAre its.toArray.toList ns := ints_of_vals r
  refine call_set_tupI ns (I1.ok.hd hc) (show s1.heap.IsTuple l its.toArray from pt) hi (by unfold scanBound; omega) fun h' tk c R1 hcn k => ?_
  refine PyProof.Rows.args_nil ?_
  obtain ⟨o, es, ep, t, ho, hex, hdt, g, nd, hmm, hb, hf, hn, hr, hl2⟩ := R1
  have I2 : Inv X pins σ H1 { s1 with heap := h', toks := tk } := I1.kept fun b o e => k b o e
  have hsz : es.size = ns.length := by
    have hp := (List.perm_ext_iff_of_nodup nd hnd).mpr fun j => by rw [← hmm j, decide_eq_true_eq]
    have := hp.length_eq
    rw [List.length_map, Array.length_toList] at this
    exact this
  refine call_len_set ho hex hdt hf (by omega) ⟨.int ns.length, H1, I2.tok _, ⟨_, by rw [hsz]⟩, q1⟩
end
theorem dc_range {lo : Int} {n : Nat} {g : TG} {tt : TT} {tk tv : TE} {vs : List Nat} {σ : L2.St} {H1 : Hp} {D : Addr} {Qd : Hp → Prop} (Pv : Nat → Hp → Prop) (h0 : Pv 0 (upd H1 D (.dK [])))
    (hs : ∀ i H, i < n → Pv i H → g (.int (lo + i)) (wipe σ vs) H fun σ2 H2 => wipe σ2 vs = wipe σ vs ∧ tt σ2 H2 fun b H3 =>
      if b = true then tk σ2 H3 fun y H4 => tv σ2 H4 fun z H5 => ∃ kvs k, y = kV k ∧ H5 D = some (.dK kvs) ∧ kvs.length < sizeLine ∧ Pv (i + 1) (upd H5 D (.dK (putK kvs k z))) else Pv (i + 1) H3) (hd : ∀ H, Pv n H → Qd H) :
    ∃ W : Nat → Nat → Hp → Prop, (∃ m, W 0 m (upd H1 D (.dK []))) ∧ ∀ i m H, W i m H →
      ((Itr lo n).stop i H ∧ Qd H) ∨ ((Itr lo n).go i H ∧ ∃ Nx : Hp → Prop, (∀ H', Nx H' → ∃ m', m' < m ∧ W (i + 1) m' H') ∧ ∀ x H', (Itr lo n).yld i H x H' → g x (wipe σ vs) H' fun σ2 H2 => wipe σ2 vs = wipe σ vs ∧ tt σ2 H2 fun b H3 =>
        if b = true then tk σ2 H3 fun y H4 => tv σ2 H4 fun z H5 => ∃ kvs k, y = kV k ∧ H5 D = some (.dK kvs) ∧ kvs.length < sizeLine ∧ Nx (upd H5 D (.dK (putK kvs k z))) else Nx H3) := by
  refine ⟨fun i m H => m = n - i ∧ i ≤ n ∧ Pv i H, ⟨n, by simp, Nat.zero_le _, h0⟩, ?_⟩
  rintro i m H ⟨rfl, hi, p⟩
  by_cases hlt : i < n
  · refine .inr ⟨hlt, Pv (i + 1), fun H' p' => ⟨n - (i + 1), by omega, rfl, hlt, p'⟩, fun x H' y => ?_⟩
    obtain ⟨e, y⟩ := y
    subst e y
    exact hs i _ hlt p
  · have e : i = n := by omega
    subst e
    exact .inl ⟨Nat.le_refl _, hd H p⟩
end Bx

set_option Elab.async false
set_option linter.all false
set_option maxRecDepth 100000
set_option maxHeartbeats 4000000
/-! Ls: len(set(t)) of any ints: as many as t has, exactly if they are unlike. -/
namespace Bx
open PySem PySem.Spec PyProof.Rows L2
theorem perm_of {α : Type} [DecidableEq α] : ∀ {l m : List α}, l.Nodup → (∀ x ∈ l, x ∈ m) → l.length = m.length → l.Perm m
  | [], m, _, _, h => by
    have : m = [] := List.length_eq_zero_iff.mp h.symm
    rw [this]
  | x :: l, m, hn, hs, h => by
    obtain ⟨u, v, rfl⟩ := List.append_of_mem (hs x List.mem_cons_self)
    rw [List.nodup_cons] at hn
    have ih := perm_of (l := l) (m := u ++ v) hn.2 (fun y hy => by
      have := hs y (List.mem_cons_of_mem _ hy)
      rw [List.mem_append, List.mem_cons] at this
      rw [List.mem_append]
      rcases this with z | z | z
      · exact .inl z
      · exact absurd (z ▸ hy) hn.1
      · exact .inr z) (by rw [List.length_append, List.length_cons, List.length_cons] at h; rw [List.length_append]; omega)
    exact (ih.cons x).trans List.perm_middle.symm
section
variable {X : Cx}
def tLenSetA (K : PySem.W.Frag) (ta : TE) : TE := fun σ H Q => ta σ H fun x H1 => ∃ (l : Addr) (ns : List Int), x = V.ref l ∧ SqT K H1 l (ns.map V.int) ∧ ns.length ≤ 1000 ∧ ∀ c : Nat, (c = ns.length ↔ ns.Nodup) → Q (.int c) H1
theorem pe_lenSetA {a : Expr} {ta : TE} {p p2 q pos : Pos} (hc : X.calm = true) (hg : Gl X "len") (hm : X.mg "len" = none) (hg2 : Gl X "set") (hm2 : X.mg "set" = none) (ha : PE X a ta)
    (na : starEach [a] X.env = (false, eval a X.env) :: starEach [] X.env := by rfl) : PE X (.Call (.Name "len" p) [.Call (.Name "set" p2) [a] [] q] [] pos) (tLenSetA X.K ta) := by
  refine ⟨fun pins s σ H Q I h => ?_⟩
  refine Call_ (ld_blt I hg hm PySem.boot_len ?_)
  refine PyProof.Rows.callWith_builtin1 (PyProof.Rows.args_cons ?_ rfl) rfl rfl
  refine Call_ (ld_blt I hg2 hm2 PyProof.Rows.boot_set ?_)
  refine PyProof.Rows.callWith_type1 (PyProof.Rows.args_cons (thn (ha.run pins s σ H _ I h) fun v s1 ⟨x, H1, I1, r1, q1⟩ => PyProof.Rows.args_nil ?_) na) na rfl
  obtain ⟨l, ns, rfl, hq, h1, q1⟩ := q1
  cases r1
  obtain ⟨its, r, pt, hz⟩ := I1.tuple hq
  have hi : IntsAre its.toArray.toList ns := ints_of_vals r
  refine call_set_tupI ns (I1.ok.hd hc) (show s1.heap.IsTuple l its.toArray from pt) hi (by unfold scanBound; omega) fun h' tk c R1 hcn k => ?_
  refine PyProof.Rows.args_nil ?_
  obtain ⟨o, es, ep, t, ho, hex, hdt, g, nd, hmm, hb, hf, hn, hr, hl2⟩ := R1
  have I2 : Inv X pins σ H1 { s1 with heap := h', toks := tk } := I1.kept fun b o e => k b o e
  have hsz : es.size = ns.length ↔ ns.Nodup := by
    have hle : (es.toList.map (·.1)).length = es.size := by rw [List.length_map, Array.length_toList]
    constructor
    · intro e
      have hp := perm_of nd (m := ns) (fun j hj => by
        have := (hmm j).mpr hj
        rwa [decide_eq_true_eq] at this) (by rw [List.length_map, Array.length_toList]; exact e)
      exact hp.nodup_iff.mp nd
    · intro hnd
      have hp := (List.perm_ext_iff_of_nodup nd hnd).mpr fun j => by rw [← hmm j, decide_eq_true_eq]
      have := hp.length_eq
      rw [List.length_map, Array.length_toList] at this
      exact this
  refine call_len_set ho hex hdt hf (by omega) ⟨.int es.size, H1, I2.tok _, ⟨_, rfl⟩, q1 es.size hsz⟩
end
end Bx

set_option Elab.async false
set_option linter.all false
set_option maxRecDepth 100000
set_option maxHeartbeats 4000000
namespace Wd
open PySem PySem.Spec PyProof.Rows L2 Bx Gx

























































section
/-! ### sorted lots -/
theorem perm_unmap {α β : Type} (f : α → β) {es fs : List β} (h : es.Perm fs) : ∀ {ws : List α}, fs = ws.map f → ∃ vs : List α, vs.Perm ws ∧ es = vs.map f := by
  induction h with
  | nil => intro ws e; cases ws with
    | nil => exact ⟨[], .refl _, rfl⟩
    | cons _ _ => cases e
  | cons x _ ih => intro ws e; cases ws with
    | nil => cases e
    | cons w ws =>
      injection e with e1 e2
      obtain ⟨vs, h1, h2⟩ := ih e2
      exact ⟨w :: vs, h1.cons w, by rw [List.map_cons, ← e1, h2]⟩
  | swap x y l => intro ws e; match ws, e with
    | a :: b :: ws, e =>
      injection e with e1 e
      injection e with e2 e3
      exact ⟨b :: a :: ws, .swap _ _ _, by rw [List.map_cons, List.map_cons, ← e1, ← e2, ← e3]⟩
  | trans _ _ ih1 ih2 => intro ws e; obtain ⟨vs, h1, h2⟩ := ih2 e; obtain ⟨us, h3, h4⟩ := ih1 h2; exact ⟨us, h3.trans h1, h4⟩
theorem perm_uniq {α : Type} {R : α → α → Prop} (as_ : ∀ a b, R a b → R b a → False) : ∀ {l m : List α}, l.Perm m → l.Pairwise R → m.Pairwise R → l = m
  | [], m, h, _, _ => (List.Perm.nil_eq h)
  | a :: l, [], h, _, _ => absurd h.length_eq (by simp)
  | a :: l, b :: m, h, hl, hm => by
    have hl' := List.pairwise_cons.mp hl
    have hm' := List.pairwise_cons.mp hm
    have e : a = b := by
      rcases List.mem_cons.mp (h.mem_iff.mp List.mem_cons_self) with e | e
      · exact e
      · rcases List.mem_cons.mp (h.mem_iff.mpr List.mem_cons_self) with f | f
        · exact f.symm
        · exact (as_ _ _ (hl'.1 b f) (hm'.1 a e)).elim
    subst e
    rw [perm_uniq as_ h.cons_inv hl'.2 hm'.2]
theorem lt_lots {u v : List Nat} (hu : u ≠ []) (hv : v ≠ []) (h : u.headD 0 ≠ v.headD 0) : PySem.W.dataLt (lotD u) (lotD v) = decide (u.headD 0 < v.headD 0) := by
  match u, hu with
  | a :: r, _ =>
    match v, hv with
    | b :: s, _ =>
      have hne : a ≠ b := h
      have e : PyData.eqv (.int (a : Int)) (.int (b : Int)) = false := by simp [PyData.eqv]; omega
      show PySem.W.dataLt (.tuple (.int (a : Int) :: _)) (.tuple (.int (b : Int) :: _)) = decide (a < b)
      rw [PySem.W.dataLt_tuple, PySem.W.dataLt_cons (by simp [PySem.W.alike]), e, if_neg Bool.false_ne_true, PySem.W.dataLt_int]
      exact decide_eq_decide.mpr (by omega)
abbrev hdLt (u v : List Nat) : Prop := u.headD 0 < v.headD 0
theorem sorted_lots {ws : List (List Nat)} (ne : ∀ u ∈ ws, u ≠ []) (asc : ws.Pairwise hdLt) {us : List (List Nat)} (hus : us.Perm ws) {es : List PyData} (pm : es.Perm (us.map lotD)) (pw : es.Pairwise fun d e => PySem.W.dataLt e d = false) : es = ws.map lotD := by
  obtain ⟨vs, h1, rfl⟩ := perm_unmap lotD pm rfl
  have h2 := h1.trans hus
  have nd : vs.Pairwise fun u v => u.headD 0 ≠ v.headD 0 := by
    have : ws.Pairwise fun u v => u.headD 0 ≠ v.headD 0 := asc.imp fun h => Nat.ne_of_lt h
    exact (h2.pairwise_iff (fun {a b} h => h.symm)).mpr this
  have hv : vs.Pairwise hdLt := by
    rw [List.pairwise_map] at pw
    refine List.Pairwise.imp_of_mem (fun {u v} hu hv h => ?_) (pw.and nd)
    have z := h.1
    rw [lt_lots (ne v (h2.mem_iff.mp hv)) (ne u (h2.mem_iff.mp hu)) h.2.symm, decide_eq_false_iff_not] at z
    have := h.2
    show u.headD 0 < v.headD 0
    omega
  rw [perm_uniq (R := hdLt) (fun a b h1 h2 => by unfold hdLt at h1 h2; omega) h2 hv asc]
theorem alike_lots (u v : List Nat) : PySem.W.alike (lotD u) (lotD v) = true := by
  have := PySem.W.alike_ints (u.map fun (p : Nat) => (p : Int)) (v.map fun (p : Nat) => (p : Int))
  rw [List.map_map, List.map_map] at this
  exact this
theorem allAlike_lots (us : List (List Nat)) : PySem.W.AllAlike (us.map lotD) := PySem.W.AllAlike.of alike_lots
theorem sortable_lots {us : List (List Nat)} (ne : ∀ u ∈ us, u ≠ []) : PySem.W.Sortable (us.map lotD) := .inl fun d hd => by
  obtain ⟨u, hu, rfl⟩ := List.mem_map.mp hd
  match u, ne u hu with
  | a :: r, _ => exact ⟨_, _, rfl⟩
theorem depth_lots {us : List (List Nat)} : ∀ d ∈ us.map lotD, d.depth ≤ 40 := fun d hd => by
  obtain ⟨u, _, rfl⟩ := List.mem_map.mp hd
  have : PyData.depthAll (u.map fun (p : Nat) => PyData.int (p : Int)) ≤ 0 := depthAll_le fun d hd => by
    obtain ⟨p, _, rfl⟩ := List.mem_map.mp hd
    simp [PyData.depth]
  show PyData.depth (.tuple _) ≤ 40
  simp only [PyData.depth]
  omega
end
section
/-! ### the places of a row, put together by their numbers -/
def rowKeys (ns : List Int) : Nat → List Int
  | 0 => []
  | t + 1 => if ns.getD t 0 ∈ rowKeys ns t then rowKeys ns t else rowKeys ns t ++ [ns.getD t 0]
def rowLot (ns : List Int) (t : Nat) (k : Int) : List Nat := (List.range t).filter fun i => decide (ns.getD i 0 = k)
def rowLots (ns : List Int) (t : Nat) : List (List Nat) := (rowKeys ns t).map (rowLot ns t)
theorem rowLot_succ (ns : List Int) (t : Nat) (k : Int) : rowLot ns (t + 1) k = rowLot ns t k ++ if ns.getD t 0 = k then [t] else [] := by
  rw [rowLot, List.range_succ, List.filter_append]
  congr 1
  by_cases h : ns.getD t 0 = k
  · rw [if_pos h]
    simp only [List.filter, decide_eq_true h]
  · rw [if_neg h]
    simp only [List.filter, decide_eq_false h]
theorem rowLot_mem {ns : List Int} {t i : Nat} {k : Int} : i ∈ rowLot ns t k ↔ i < t ∧ ns.getD i 0 = k := by
  unfold rowLot
  rw [List.mem_filter, List.mem_range, decide_eq_true_eq]
theorem rowKeys_mem {ns : List Int} {k : Int} : ∀ {t : Nat}, k ∈ rowKeys ns t ↔ ∃ i, i < t ∧ ns.getD i 0 = k
  | 0 => ⟨(fun h => nomatch h), fun ⟨i, h, _⟩ => absurd h (Nat.not_lt_zero i)⟩
  | t + 1 => by
    have ih := rowKeys_mem (ns := ns) (k := k) (t := t)
    have up : (∃ i, i < t + 1 ∧ ns.getD i 0 = k) ↔ (∃ i, i < t ∧ ns.getD i 0 = k) ∨ ns.getD t 0 = k := by
      constructor
      · rintro ⟨i, hi, e⟩
        by_cases z : i = t
        · exact .inr (z ▸ e)
        · exact .inl ⟨i, by omega, e⟩
      · rintro (⟨i, hi, e⟩ | e)
        · exact ⟨i, by omega, e⟩
        · exact ⟨t, by omega, e⟩
    rw [up, ← ih]
    show k ∈ (if ns.getD t 0 ∈ rowKeys ns t then rowKeys ns t else rowKeys ns t ++ [ns.getD t 0]) ↔ _
    by_cases h : ns.getD t 0 ∈ rowKeys ns t
    · rw [if_pos h]
      exact ⟨.inl, fun z => z.elim id fun e => e ▸ h⟩
    · rw [if_neg h, List.mem_append, List.mem_singleton]
      exact ⟨fun z => z.imp id Eq.symm, fun z => z.imp id Eq.symm⟩
theorem rowKeys_nodup (ns : List Int) : ∀ t, (rowKeys ns t).Nodup
  | 0 => .nil
  | t + 1 => by
    show (if ns.getD t 0 ∈ rowKeys ns t then rowKeys ns t else rowKeys ns t ++ [ns.getD t 0]).Nodup
    by_cases h : ns.getD t 0 ∈ rowKeys ns t
    · rw [if_pos h]; exact rowKeys_nodup ns t
    · rw [if_neg h]
      refine List.nodup_append.mpr ⟨rowKeys_nodup ns t, by simp, fun x hx y hy e => h ?_⟩
      rw [List.mem_singleton.mp hy] at e
      exact e ▸ hx
theorem rowKeys_len (ns : List Int) : ∀ t, (rowKeys ns t).length ≤ t
  | 0 => Nat.zero_le _
  | t + 1 => by
    have ih := rowKeys_len ns t
    show (if ns.getD t 0 ∈ rowKeys ns t then rowKeys ns t else rowKeys ns t ++ [ns.getD t 0]).length ≤ t + 1
    split
    · omega
    · rw [List.length_append]; exact Nat.succ_le_succ ih
theorem rowLot_ne {ns : List Int} {t : Nat} {k : Int} (h : k ∈ rowKeys ns t) : rowLot ns t k ≠ [] := fun e => by
  obtain ⟨i, hi, e2⟩ := rowKeys_mem.mp h
  have := rowLot_mem.mpr ⟨hi, e2⟩
  rw [e] at this
  cases this
theorem rowLot_head {ns : List Int} {t : Nat} {k : Int} (h : k ∈ rowKeys ns t) : (rowLot ns t k).headD 0 < t ∧ ns.getD ((rowLot ns t k).headD 0) 0 = k := by
  have hne := rowLot_ne h
  cases e : rowLot ns t k with
  | nil => exact absurd e hne
  | cons a r => exact rowLot_mem.mp (by rw [e]; exact List.mem_cons_self)
theorem rowLot_head_succ {ns : List Int} {t : Nat} {k : Int} (h : k ∈ rowKeys ns t) : (rowLot ns (t + 1) k).headD 0 = (rowLot ns t k).headD 0 := by
  have hne := rowLot_ne h
  rw [rowLot_succ]
  cases e : rowLot ns t k with
  | nil => exact absurd e hne
  | cons a r => rfl
theorem rowKeys_asc (ns : List Int) : ∀ t, (rowKeys ns t).Pairwise fun k m => (rowLot ns t k).headD 0 < (rowLot ns t m).headD 0
  | 0 => .nil
  | t + 1 => by
    have ih := rowKeys_asc ns t
    have old : (rowKeys ns t).Pairwise fun k m => (rowLot ns (t + 1) k).headD 0 < (rowLot ns (t + 1) m).headD 0 :=
      ih.imp_of_mem fun {k m} hk hm h => by rw [rowLot_head_succ hk, rowLot_head_succ hm]; exact h
    show (if ns.getD t 0 ∈ rowKeys ns t then rowKeys ns t else rowKeys ns t ++ [ns.getD t 0]).Pairwise _
    by_cases h : ns.getD t 0 ∈ rowKeys ns t
    · rw [if_pos h]; exact old
    · rw [if_neg h, List.pairwise_append]
      refine ⟨old, List.pairwise_singleton _ _, fun k hk m hm => ?_⟩
      rw [List.mem_singleton.mp hm, rowLot_head_succ hk, rowLot_succ]
      have e : rowLot ns t (ns.getD t 0) = [] := by
        rw [rowLot, List.filter_eq_nil_iff]
        intro i hi z
        exact h (rowKeys_mem.mpr ⟨i, List.mem_range.mp hi, of_decide_eq_true z⟩)
      rw [e, if_pos rfl]
      exact (rowLot_head hk).1
theorem rowLots_asc (ns : List Int) (t : Nat) : (rowLots ns t).Pairwise hdLt := by
  rw [rowLots, List.pairwise_map]
  exact rowKeys_asc ns t
theorem rowLots_mem {ns : List Int} {t : Nat} {u : List Nat} (h : u ∈ rowLots ns t) : ∃ k, k ∈ rowKeys ns t ∧ u = rowLot ns t k := by
  obtain ⟨k, hk, rfl⟩ := List.mem_map.mp h
  exact ⟨k, hk, rfl⟩
theorem rowLots_ok {ns : List Int} {t : Nat} : ∀ u ∈ rowLots ns t, LotOk t u := fun u hu => by
  obtain ⟨k, hk, rfl⟩ := rowLots_mem hu
  exact ⟨rowLot_ne hk, fun p hp => (rowLot_mem.mp hp).1, List.pairwise_lt_range.filter _⟩
/-! ### what hangs together -/
def Hangs (bs : List (Nat × Nat)) (u : List Nat) : Prop := ∀ x ∈ u, ∀ y ∈ u, Mk.Conn bs (· ∈ u) x y
theorem rch_ex (bs : List (Nat × Nat)) (n m start : Nat) (h : m < 2 ^ n) : ∃ r, Mk.Rch bs m start r := by
  classical
  refine ⟨Mk.mask ((List.range n).filter fun q => decide (∃ p, start.testBit p = true ∧ Mk.Conn bs (Mk.In m) p q)), fun q => ?_⟩
  rw [Mk.bit_mask (List.pairwise_lt_range.filter _), decide_eq_true_eq, List.mem_filter, List.mem_range, decide_eq_true_eq]
  refine ⟨fun z => z.2, fun z => ⟨?_, z⟩⟩
  obtain ⟨p, _, hc⟩ := z
  exact Mk.lt_of_bit h hc.snd
theorem pcs_ex (bs : List (Nat × Nat)) (n : Nat) : ∀ m, m < 2 ^ n → ∃ l, Mk.Pcs bs m l := by
  intro m
  induction m using Nat.strongRecOn with
  | ind m ih =>
    intro hm
    by_cases h0 : m = 0
    · exact ⟨[], h0 ▸ .nil⟩
    · obtain ⟨q, hq, hlow, _⟩ := Mk.and_neg m (by omega)
      obtain ⟨r, hr⟩ := rch_ex bs n m (2 ^ q) hm
      have hrq : r.testBit q = true := (hr q).mpr ⟨q, by simp, .refl hq⟩
      have hlt := Mk.xor_lt hr.sub hrq
      obtain ⟨l, hl⟩ := ih (m ^^^ r) hlt (Nat.lt_trans hlt hm)
      exact ⟨r :: l, .cons hq hlow hr hl⟩
theorem hangs_len {bs : List (Nat × Nat)} {u : List Nat} (ha : u.Pairwise (· < ·)) (hne : u ≠ []) {l : List Nat} (h : Mk.Pcs bs (Mk.mask u) l) : l.length = 1 ↔ Hangs bs u := by
  refine ⟨fun e x hx y hy => Mk.one_pcs ha h e hx hy, fun hh => ?_⟩
  cases u with
  | nil => exact absurd rfl hne
  | cons p r => rw [(Mk.pcs_one ha List.mem_cons_self fun x hx => hh p List.mem_cons_self x hx).uniq h |>.symm]; rfl
theorem part_hangs {bs : List (Nat × Nat)} {u r : List Nat} {p : Nat} (ha : u.Pairwise (· < ·)) (hp : p ∈ u) (h : Part bs u p r) : r = u ↔ Hangs bs u := by
  refine ⟨fun e x hx y hy => ?_, fun hh => Mk.asc_ext h.asc ha fun q => ⟨fun hq => ((h.mem q).mp hq).snd, fun hq => (h.mem q).mpr (hh p hp q hq)⟩⟩
  rw [← e] at hx hy
  exact ((h.mem x).mp hx).symm.trans ((h.mem y).mp hy)
theorem part_head {u : List Nat} (h : u ≠ []) : u.headD 0 ∈ u := by
  cases u with
  | nil => exact absurd rfl h
  | cons a r => exact List.mem_cons_self
noncomputable def hangB (bs : List (Nat × Nat)) (u : List Nat) : Bool := @decide (Hangs bs u) (Classical.propDecidable _)
theorem hangB_iff {bs : List (Nat × Nat)} {u : List Nat} : hangB bs u = true ↔ Hangs bs u := by
  unfold hangB
  exact @decide_eq_true_iff _ (Classical.propDecidable _)
theorem hangB_of {bs : List (Nat × Nat)} {u : List Nat} {n : Nat} {b : Bool} (lo : LotOk n u) (h : ∀ qs, Mk.Pcs bs (Mk.mask u) qs → b = decide (qs.length = 1)) : b = hangB bs u := by
  obtain ⟨l, hl⟩ := pcs_ex bs n (Mk.mask u) (Mk.mask_lt lo.asc lo.lt)
  have e := hangs_len lo.asc lo.ne hl
  rw [h l hl]
  by_cases z : l.length = 1
  · rw [decide_eq_true z, hangB_iff.mpr (e.mp z)]
  · rw [decide_eq_false z]
    cases q : hangB bs u with
    | false => rfl
    | true => exact absurd (e.mpr (hangB_iff.mp q)) z
end
section
variable {P : Program} {w : World} {K : PySem.W.Frag} {mg : Str → Option Value} {base : Heap}
/-! ### whether a lot hangs together -/
theorem come_len {bs : List (Nat × Nat)} {ps fnd : List Nat} {p : Nat} (hnd : ps.Nodup) (hp : p ∈ ps) (fn : fnd.Nodup) (hf : ∀ x, x ∈ fnd ↔ Mk.Conn bs (· ∈ ps) p x) : fnd.length = ps.length ↔ Hangs bs ps := by
  have sub : ∀ x ∈ fnd, x ∈ ps := fun x hx => ((hf x).mp hx).snd
  constructor
  · intro e x hx y hy
    have pm := perm_of fn sub e
    have h1 := (hf x).mp (pm.mem_iff.mpr hx)
    have h2 := (hf y).mp (pm.mem_iff.mpr hy)
    exact h1.symm.trans h2
  · intro hh
    have pm : ps.Perm fnd := (List.perm_ext_iff_of_nodup hnd fn).mpr fun x => ⟨fun hx => (hf x).mpr (hh p hp x hx), sub x⟩
    exact pm.length_eq.symm
def spHangsW (K : PySem.W.Frag) : Sp := fun vs H Q _ => ∃ (l : V) (lt : Addr) (fs : List Int) (bs : List (Nat × Nat)) (ps : List Nat), vs = [l, .ref lt] ∧ Dp K H l (landD fs bs) ∧ fs.length ≤ 12 ∧ Mk.Bs fs.length bs ∧ bs.length ≤ 1000 ∧ SqT K H lt (vsN ps) ∧ LotOk fs.length ps ∧ ∀ H', Ext H H' → Q (.bl (hangB bs ps)) H'
theorem sc_hangsW : FnScope ["land", "lot"] ["land", "lot"] (defScope st__law_hangs) := ⟨rfl, rfl, rfl, by decide +kernel, rfl, by decide +kernel, by decide +kernel⟩
theorem ok_hangsW {f : Addr} {fd : FuncData} (F : Fun K "_law_hangs" "_law_hangs" st__law_hangs f fd) (B : Bl mg) (c__law_come : Cal P w K mg base 2 "_law_come" ["land", "start", "lot"] (spCome K)) : FnOk P w K mg base CX0 3 f fd ["land", "lot"] (spHangsW K) := by
  refine F.ok sc_hangsW (fun vs H Q E h => ?_) (fun cdv A outer s H vs Q E hr h => ?_)
  · obtain ⟨l, lt, fs, bs, ps, rfl, _⟩ := h
    rfl
  · obtain ⟨l, lt, fs, bs, ps, rfl, hl, hn, hbs, hbl, hlt, lo, k⟩ := h
    have nd := sc_hangsW.nd
    refine ⟨_, pss_one (ps_ret (pe_and (pe_cmpR op_gt (pe_callB call_len (by rfl) B.len PySem.boot_len (pa_cons (pv 1) pa_nil)) pe_int (nomark _)) (pe_one (pe_cmpR op_eq (pe_callB call_len (by rfl) B.len PySem.boot_len (pa_cons (pe_cal c__law_come (hr.mono (by decide)) rfl (pa_cons (pv 0) (pa_cons (pe_ix ix_tup (pv 1) pe_int (fun _ _ => rfl)) (pa_cons (pv 1) pa_nil)))) pa_nil)) (pe_callB call_len (by rfl) B.len PySem.boot_len (pa_cons (pv 1) pa_nil)) (nomark _))))), ?_⟩
    obtain ⟨h, r, hur⟩ := List.exists_cons_of_ne_nil lo.ne
    have hh : h ∈ ps := by rw [hur]; exact List.mem_cons_self
    have hu0 : (vsN ps)[0]? = some (.int (h : Int)) := by rw [hur]; rfl
    have hpl : 0 < ps.length := List.length_pos_iff.mpr lo.ne
    refine ⟨_, rfl, _, ps.length, rfl, .inr ⟨_, hlt, (vsN_len ps).symm⟩, _, _, rfl, rfl, _, rfl, ?_⟩
    rw [decide_eq_true (show ((ps.length : Nat) : Int) > 0 by omega)]
    refine iteT ⟨_, rfl, _, rfl, lt, _, _, _, rfl, rfl, hlt, atI_nat hu0, _, rfl, l, lt, fs, bs, h, ps, rfl, hl, hn, hbs, hbl, .inr hlt, hh, lo.lt, fun q fnd H1 x1 hq0 hq fn hf => ?_⟩
    refine ⟨_, fnd.length, rfl, .inl ⟨_, SqL.of hq, (vsN_len fnd).symm⟩, _, rfl, _, ps.length, rfl, .inr ⟨_, x1.sqT hlt, (vsN_len ps).symm⟩, rfl, ?_⟩
    have e := come_len (lo.asc.imp fun h => Nat.ne_of_lt h) hh fn hf
    have ee : decide (V.int (fnd.length : Int) = V.int (ps.length : Int)) = hangB bs ps := by
      rw [Bool.eq_iff_iff, decide_eq_true_eq, hangB_iff, ← e]
      exact ⟨fun z => by injection z with z; omega, fun z => by rw [z]⟩
    rw [ee]
    exact k H1 x1
end
end Wd

set_option Elab.async false
set_option linter.all false
set_option maxRecDepth 100000
set_option maxHeartbeats 4000000
namespace Wd
open PySem PySem.Spec PyProof.Rows L2 Bx Gx

























































section
variable {P : Program} {w : World} {K : PySem.W.Frag} {mg : Str → Option Value} {base : Heap}
/-! ### heads and sizes -/
structure WishOk (n : Nat) (hs ss : List Nat) : Prop where
  few : 2 ≤ hs.length
  most : hs.length ≤ 4
  len : ss.length = hs.length
  nd : hs.Nodup
  lt : ∀ h ∈ hs, h < n
  pos : ∀ s ∈ ss, 1 ≤ s
  sum : ss.sum = n
theorem sum_set_add : ∀ {l : List Nat} {k v : Nat}, l[k]? = some v → (l.set k (v + 1)).sum = l.sum + 1
  | [], k, v, h => by simp at h
  | x :: l, 0, v, h => by
    simp at h
    subst h
    simp only [List.set_cons_zero, List.sum_cons]
    omega
  | x :: l, k + 1, v, h => by
    have ih := sum_set_add (l := l) (k := k) (v := v) (by simpa using h)
    simp only [List.set_cons_succ, List.sum_cons, ih]
    omega
theorem le_sum : ∀ {l : List Nat} {s : Nat}, s ∈ l → s ≤ l.sum
  | x :: l, s, h => by
    rcases List.mem_cons.mp h with rfl | h
    · simp only [List.sum_cons]; omega
    · have := le_sum h
      simp only [List.sum_cons]; omega
theorem sum_ones (m : Nat) : (List.replicate m 1).sum = m := by
  induction m with
  | zero => rfl
  | succ m ih => rw [List.replicate_succ, List.sum_cons, ih]; omega
def spWish (K : PySem.W.Frag) : Sp := fun vs H Q _ => ∃ (N : Nat) (p : Addr) (l : V) (fs : List Int) (bs : List (Nat × Nat)) (most : Nat), vs = [.ref p, l, .int (most : Int)] ∧ WellAt N H p ∧ N < 50000000 ∧ Dp K H l (landD fs bs) ∧ 2 ≤ fs.length ∧ fs.length ≤ 12 ∧ 2 ≤ most ∧ most ≤ 4 ∧
  ∀ (q qh qs : Addr) (hs ss : List Nat) (H' : Hp), ExtS [p] H H' → WellAt (N + 20) H' p → H q = none → H' q = some (.lst [.ref qh, .ref qs]) → H' qh = some (.tup (vsN hs)) → H' qs = some (.tup (vsN ss)) → WishOk fs.length hs ss → hs.length ≤ most → Q (.ref q) H'
abbrev lwishN : List Str := ["well", "land", "most_heads", "places", "many", "left", "heads", "k", "sizes", "rest", "turn"]
theorem sc_wish : FnScope lwishN ["well", "land", "most_heads"] (defScope st__law_wish) := ⟨rfl, rfl, rfl, by decide +kernel, rfl, by decide +kernel, by decide +kernel⟩
theorem ok_wish {f : Addr} {fd : FuncData} (F : Fun K "_law_wish" "_law_wish" st__law_wish f fd) (B : Bl mg) (c__law_dip : Cal P w K mg base 1 "_law_dip" ["well", "many"] (spDip K)) : FnOk P w K mg base CX0 2 f fd ["well", "land", "most_heads"] (spWish K) := by
  refine F.ok sc_wish (fun vs H Q E h => ?_) (fun cdv A outer s H vs Q E hr h => ?_)
  · obtain ⟨N, p, l, fs, bs, most, rfl, _⟩ := h
    rfl
  · obtain ⟨N, p, l, fs, bs, most, rfl, W, hN, hl, hn2, hn, hm2, hm4, k⟩ := h
    have nd := sc_wish.nd
    refine ⟨_, pss_cons (ps_set (i := 3) nd rfl (Or.inl rfl) (pe_callB call_len (by rfl) B.len PySem.boot_len (pa_cons (pe_ix ix_tup (pv 1) pe_int (fun _ _ => rfl)) pa_nil)))
      (pss_cons (ps_set (i := 4) nd rfl (Or.inl rfl) (pe_op op_add pe_int (pe_cal c__law_dip (hr.mono (by decide)) rfl (pa_cons (pv 0) (pa_cons (pe_op op_sub (pe_callB (call_min2 rfl) (by rfl) B.min (by decide +kernel) (pa_cons (pv 2) (pa_cons (pv 3) pa_nil))) pe_int) pa_nil)))))
      (pss_cons (ps_par (i := 5) (j := 6) (by rfl) nd rfl rfl (by decide) rfl rfl (pa_cons (pe_listRg rfl rfl B.list (prg_1 rfl B.range (pv 3))) (pa_cons (pe_lst pa_nil) pa_nil)) (by rfl))
      (pss_cons (ps_for PassesOwn.never rfl (pi_range1 rfl B.range (pa_cons (pv 4) pa_nil)) (pg_name (i := 7) nd rfl (Or.inl rfl))
        (pss_one (ps_expr (pe_bm PySem.F.plainAttrs_list PySem.F.slot_list_append PySem.F.type_list_append mt_append (pv 6) (pa_cons (pe_bm PySem.F.plainAttrs_list PySem.F.slot_list_pop PySem.F.type_list_pop mt_popAt (pv 5) (pa_cons (pe_cal c__law_dip (hr.mono (by decide)) rfl (pa_cons (pv 0) (pa_cons (pe_callB call_len (by rfl) B.len PySem.boot_len (pa_cons (pv 5) pa_nil)) pa_nil))) pa_nil)) pa_nil)))))
      (pss_cons (ps_par (i := 8) (j := 9) (by rfl) nd rfl rfl (by decide) rfl rfl (pa_cons (pe_op op_rep (pe_lst (pa_cons pe_int pa_nil)) (pv 4)) (pa_cons (pe_op op_sub (pv 3) (pv 4)) pa_nil)) (by rfl))
      (pss_cons (ps_for PassesOwn.never rfl (pi_range1 rfl B.range (pa_cons (pv 9) pa_nil)) (pg_name (i := 10) nd rfl (Or.inl rfl))
        (pss_cons (ps_set (i := 7) nd rfl (Or.inl rfl) (pe_cal c__law_dip (hr.mono (by decide)) rfl (pa_cons (pv 0) (pa_cons (pv 4) pa_nil))))
        (pss_one (ps_asg (pe_op op_add (pe_ix ix_list (pv 8) (pv 7) (fun _ _ => rfl)) pe_int) (pg_sub (pv 8) (pv 7) set_list)))))
      (pss_cons (ps_if (pt_cmpR op_eq (pe_cal c__law_dip (hr.mono (by decide)) rfl (pa_cons (pv 0) (pa_cons pe_int pa_nil))) pe_int (nomark _)) (pss_one (ps_set (i := 8) nd rfl (Or.inl rfl) (pe_op op_cat (pe_op op_rep (pe_lst (pa_cons pe_int pa_nil)) (pe_op op_sub (pv 4) pe_int)) (pe_lst (pa_cons (pe_op op_add pe_int (pv 9)) pa_nil))))) pss_nil)
      (pss_one (ps_ret (pe_lst (pa_cons (pe_tupleOf rfl B.tuple (pv 6)) (pa_cons (pe_tupleOf rfl B.tuple (pv 8)) pa_nil))))))))))), ?_⟩
    obtain ⟨a, af, vb, rfl, hl1, hl2, hl3⟩ := dp_land hl
    refine ⟨_, rfl, a, _, _, _, rfl, rfl, hl1, atI_nat (j := 0) rfl, _, fs.length, rfl, .inr ⟨_, hl2, by simp⟩, ?_⟩
    generalize fs.length = n at *
    dsimp only [gName, tSeq, List.set, L2.start, List.map, List.replicate, List.append, List.length]
    refine ⟨_, rfl, _, rfl, _, rfl, _, _, rfl, _, _, rfl, rfl, N, p, min most n - 1, ?_, W, by omega, by omega, by omega, fun z H1 hz x1 W1 => ?_⟩
    · rw [show ((min most n - 1 : Nat) : Int) = (if ((n : Nat) : Int) < (most : Int) then ((n : Nat) : Int) else (most : Int)) - 1 by split <;> omega]
      rfl
    refine ⟨_, _, rfl, rfl, ?_⟩
    obtain ⟨m, hm⟩ : ∃ m, m = 2 + z := ⟨_, rfl⟩
    have em : (2 : Int) + (z : Int) = (m : Int) := by omega
    have hm2' : 2 ≤ m := by omega
    have hmm : m ≤ most := by omega
    have hmn : m ≤ n := by omega
    dsimp only [gName, tSeq, List.set]
    rw [em]
    clear hz hm em z
    refine ⟨_, rfl, _, rfl, ⟨by omega, by omega⟩, fun ql hql => ⟨Nat.zero_le _, fun qn hqn => ⟨_, _, rfl, ?_⟩⟩⟩
    rw [rgV_nat] at hqn ⊢
    have y1 : Ext H1 (upd H1 ql (.lst (vsN (List.range n)))) := .new hql
    have y2 := y1.trans (.new (o := .lst []) hqn)
    have nql := W1.notin hql
    have nqn : qn ∉ [p] := (W1.ext y1).notin hqn
    have hne : ql ≠ qn := ne_of_none upd_same hqn
    have hql1 : (upd (upd H1 ql (.lst (vsN (List.range n)))) qn (.lst [])) ql = some (.lst (vsN (List.range n))) := (Ext.new hqn).lst upd_same
    have hqn1 : (upd (upd H1 ql (.lst (vsN (List.range n)))) qn (.lst [])) qn = some (.lst (vsN [])) := upd_same
    have W2 := W1.ext y2
    have x2 := x1.trans (.of y2)
    have hqlH := x1.free hql
    have hqnH := x1.free (y1.free hqn)
    clear y1 y2 hql hqn x1 W1 W
    generalize upd (upd H1 ql (.lst (vsN (List.range n)))) qn (.lst []) = H2 at hql1 hqn1 W2 x2 ⊢
    dsimp only [gName, tSeq, List.set]
    refine ⟨_, rfl, _, rfl, by omega, by omega, for_range (lo := 0) (n := (m : Int).toNat) (fun i σ H3 => ∃ (o7 : Option V) (ls hs : List Nat), σ = [some (.ref p), some (.ref a), some (.int (most : Int)), some (.int (n : Int)), some (.int (m : Int)), some (.ref ql), some (.ref qn), o7, none, none, none] ∧ H3 ql = some (.lst (vsN ls)) ∧ H3 qn = some (.lst (vsN hs)) ∧ (hs ++ ls).Perm (List.range n) ∧ hs.length = i ∧ WellAt (N + 1 + i) H3 p ∧ ExtS [p] H H3)
      ⟨_, List.range n, [], rfl, hql1, hqn1, List.Perm.refl _, rfl, W2, x2⟩ ?_ ?_⟩
    · clear hql1 hqn1 W2 x2 H2
      rintro i σ H3 hi ⟨o7, ls, hs, rfl, h1, h2, pm, hlen, W3, x3⟩
      have hpl := pm.length_eq
      rw [List.length_append, List.length_range, hlen] at hpl
      rw [Int.toNat_natCast] at hi
      dsimp only [gName, tSeq, List.set]
      refine ⟨_, rfl, .inl ⟨rfl, _, SqL.of h2⟩, _, rfl, .inl ⟨rfl, _, SqL.of h1⟩, _, rfl, _, rfl, _, ls.length, rfl, .inl ⟨_, SqL.of h1, (vsN_len ls).symm⟩, N + 1 + i, p, ls.length, rfl, W3, by omega, by omega, by omega, fun u H4 hu x4 W4 => ?_⟩
      have h1' := x4.lst nql h1
      have h2' := x4.lst nqn h2
      refine ⟨ql, _, _, u, _, rfl, rfl, h1', by omega, by omega, (ixN_seq (ixN_nat (by rw [vsN_len]; exact hu))).1, vsN_at hu, qn, _, _, rfl, rfl, by rw [upd_ne hne.symm]; exact h2', by rw [vsN_len]; exact small1000 (by omega), ?_⟩
      refine ⟨_, ls.eraseIdx u, hs ++ [ls[u]], rfl, ?_, ?_, ?_, by rw [List.length_append, hlen]; rfl, (W4.upd nql).upd nqn, ((x3.trans x4).write (.inl hqlH)).write (.inl hqnH)⟩
      · rw [upd_ne hne, upd_same, erase_map]
      · rw [upd_same, vsN_app]
      · rw [List.append_assoc]
        exact ((erase_perm hu).append_left hs).trans pm
    · clear hql1 hqn1 W2 x2 H2
      rintro σ H3 ⟨o7, ls, hs, rfl, h1, h2, pm, hlen, W3, x3⟩
      rw [Int.toNat_natCast] at hlen W3
      have hnd : hs.Nodup := (List.nodup_append.mp (pm.nodup_iff.mpr List.nodup_range)).1
      have hlt : ∀ h ∈ hs, h < n := fun h hh => List.mem_range.mp (pm.mem_iff.mp (List.mem_append_left _ hh))
      have W3 := W3.mono (show N + 1 + m ≤ N + 5 by omega)
      clear pm h1
      dsimp only [gName, tSeq, List.set]
      refine ⟨by show 1 ≤ sizeLine; decide, fun l1 hl1 => ⟨_, rfl, l1, _, _, rfl, rfl, upd_same, by omega, by omega, by rw [Int.toNat_natCast]; exact Nat.le_of_lt (small1000 (by show 1 * m ≤ 1000; omega)), fun qs hqs => ⟨_, rfl, _, rfl, _, _, rfl, rfl, _, _, rfl, ?_⟩⟩⟩
      rw [Int.toNat_natCast]
      have erep : ((List.replicate m [V.int 1]).flatten) = vsN (List.replicate m 1) := by
        rw [List.flatten_replicate_singleton]
        show _ = List.map _ _
        rw [List.map_replicate]
        rfl
      rw [erep]
      have y1 : Ext H3 (upd H3 l1 (.lst [.int 1])) := .new hl1
      have y2 := y1.trans (.new (o := .lst (vsN (List.replicate m 1))) hqs)
      have nqs : qs ∉ [p] := (W3.ext y1).notin hqs
      have hqs1 : (upd (upd H3 l1 (.lst [.int 1])) qs (.lst (vsN (List.replicate m 1)))) qs = some (.lst (vsN (List.replicate m 1))) := upd_same
      have h2' := y2.lst h2
      have hqnqs : qn ≠ qs := ne_of_none (y1.lst h2) hqs
      have W4 := W3.ext y2
      have x4 := x3.trans (.of y2)
      have hqsH := x3.free (y1.free hqs)
      clear y2 y1 hqs hl1 h2 W3 x3
      generalize upd (upd H3 l1 (.lst [.int 1])) qs (.lst (vsN (List.replicate m 1))) = H4 at hqs1 h2' W4 x4 ⊢
      dsimp only [gName, tSeq, List.set]
      have fin : ∀ (qz : Addr) (ss : List Nat) (H8 : Hp), ExtS [p] H H8 → WellAt (N + 20) H8 p → WishOk n hs ss → ∀ qh, H8 qh = none → ∀ qt, (upd H8 qh (.tup (vsN hs))) qt = none → ∀ q, (upd (upd H8 qh (.tup (vsN hs))) qt (.tup (vsN ss))) q = none → Q (.ref q) (upd (upd (upd H8 qh (.tup (vsN hs))) qt (.tup (vsN ss))) q (.lst [.ref qh, .ref qt])) := fun qz ss H8 x8 W8 wo qh hqh qt hqt q hq => by
        have z1 : Ext H8 (upd H8 qh (.tup (vsN hs))) := .new hqh
        have z2 := z1.trans (.new (o := .tup (vsN ss)) hqt)
        have z3 := z2.trans (.new (o := .lst [.ref qh, .ref qt]) hq)
        exact k q qh qt hs ss _ (x8.trans (.of z3)) (W8.ext z3) (x8.free (z2.free hq)) upd_same ((Ext.trans (.new hqt) (.new hq)).tup upd_same) ((Ext.new hq).tup upd_same) wo (by omega)
      refine ⟨_, rfl, _, rfl, by omega, by omega, for_range (lo := 0) (n := ((n : Int) - (m : Int)).toNat) (fun i σ H5 => ∃ (o7 o10 : Option V) (ss : List Nat), σ = [some (.ref p), some (.ref a), some (.int (most : Int)), some (.int (n : Int)), some (.int (m : Int)), some (.ref ql), some (.ref qn), o7, some (.ref qs), some (.int ((n : Int) - (m : Int))), o10] ∧ H5 qs = some (.lst (vsN ss)) ∧ H5 qn = some (.lst (vsN hs)) ∧ ss.length = m ∧ (∀ s ∈ ss, 1 ≤ s) ∧ ss.sum = m + i ∧ WellAt (N + 5 + i) H5 p ∧ ExtS [p] H H5)
        ⟨_, _, _, rfl, hqs1, h2', List.length_replicate, (fun s hs => by rw [List.eq_of_mem_replicate hs]; exact Nat.le_refl _), sum_ones m, W4, x4⟩ ?_ ?_⟩
      · clear hqs1 h2' W4 x4 H4
        rintro i σ H5 hi ⟨o7, o10, ss, rfl, h1, h2, sl, sp, sm, W5, x5⟩
        dsimp only [gName, tSeq, List.set]
        refine ⟨_, rfl, _, rfl, N + 5 + i, p, m, rfl, W5, by omega, by omega, by omega, fun u H6 hu x6 W6 => ?_⟩
        have h1' := x6.lst nqs h1
        have h2' := x6.lst nqn h2
        have eu := List.getElem?_eq_getElem (show u < ss.length by omega)
        have vu := vsN_at (l := ss) (n := u) (by omega)
        dsimp only [gName, tSeq, List.set]
        refine ⟨_, rfl, _, rfl, qs, _, (u : Int), _, rfl, rfl, SqL.of h1', atI_nat vu, _, _, rfl, rfl, _, rfl, _, rfl, qs, _, (u : Int), u, rfl, rfl, h1', by rw [vsN_len]; exact ixN_nat (by omega), ?_⟩
        have es : ((vsN ss).set u (V.int (((ss[u] : Nat) : Int) + 1))) = vsN (ss.set u (ss[u] + 1)) := by
          show _ = List.map _ _
          rw [List.map_set]
          rfl
        refine ⟨_, _, ss.set u (ss[u] + 1), rfl, by rw [upd_same, es], by rw [upd_ne hqnqs]; exact h2', by rw [List.length_set]; exact sl, fun s hs => ?_, by rw [sum_set_add eu, sm]; omega, W6.upd nqs, (x5.trans x6).write (.inl hqsH)⟩
        rcases List.mem_or_eq_of_mem_set hs with h | h
        · exact sp s h
        · omega
      · clear hqs1 h2' W4 x4 H4
        rintro σ H5 ⟨o7, o10, ss, rfl, h1, h2, sl, sp, sm, W5, x5⟩
        have W5 := W5.mono (show N + 5 + ((n : Int) - (m : Int)).toNat ≤ N + 17 by omega)
        dsimp only [gName, tSeq, List.set]
        refine ⟨_, rfl, N + 17, p, 4, rfl, W5, by omega, by decide, by decide, fun u H6 hu x6 W6 => ⟨rfl, _, rfl, ite2 (fun _ => ?_) (fun _ => ?_)⟩⟩
        · have h2' := x6.lst nqn h2
          refine ⟨by show 1 ≤ sizeLine; decide, fun l1 hl1 => ⟨_, rfl, _, _, rfl, rfl, l1, _, _, rfl, rfl, upd_same, by omega, by omega, Nat.le_of_lt (small1000 (by show 1 * ((m : Int) - 1).toNat ≤ 1000; omega)), fun l2 hl2 => ⟨_, rfl, _, _, rfl, rfl, by show 1 ≤ sizeLine; decide, fun l3 hl3 => ⟨l2, l3, _, _, rfl, rfl, (Ext.new hl3).lst upd_same, upd_same, ?_, fun q4 hq4 => ?_⟩⟩⟩⟩
          · rw [List.flatten_replicate_singleton, List.length_replicate]
            exact small1000 (by omega)
          have e4 : (List.replicate ((m : Int) - 1).toNat [V.int 1]).flatten ++ [V.int (1 + ((n : Int) - (m : Int)))] = vsN (List.replicate (m - 1) 1 ++ [1 + (n - m)]) := by
            rw [List.flatten_replicate_singleton, show ((m : Int) - 1).toNat = m - 1 by omega]
            show _ = List.map _ _
            rw [List.map_append, List.map_replicate, show (1 : Int) + ((n : Int) - (m : Int)) = ((1 + (n - m) : Nat) : Int) by omega]
            rfl
          rw [e4]
          have z1 := (Ext.new hl1 (o := .lst [.int 1])).trans (.new (o := .lst (List.replicate ((m : Int) - 1).toNat [V.int 1]).flatten) hl2)
          have z2 := z1.trans (.new (o := .lst [V.int (1 + ((n : Int) - (m : Int)))]) hl3)
          have z3 := z2.trans (.new (o := .lst (vsN (List.replicate (m - 1) 1 ++ [1 + (n - m)]))) hq4)
          dsimp only [gName, tSeq, List.set]
          have wo : WishOk n hs (List.replicate (m - 1) 1 ++ [1 + (n - m)]) := by
            refine ⟨by omega, by omega, ?_, hnd, hlt, fun s hs => ?_, ?_⟩
            · rw [List.length_append, List.length_replicate, List.length_singleton]; omega
            · rcases List.mem_append.mp hs with h | h
              · rw [List.eq_of_mem_replicate h]; exact Nat.le_refl _
              · rw [List.mem_singleton.mp h]; omega
            · rw [List.sum_append, sum_ones]
              show m - 1 + (1 + (n - m) + 0) = n
              omega
          refine ⟨_, rfl, .inl ⟨qn, _, rfl, SqL.of (z3.lst h2'), fun qh hqh => ⟨_, rfl, .inl ⟨q4, _, rfl, SqL.of ((Ext.new hqh).lst upd_same), fun qt hqt => ⟨by show 2 ≤ sizeLine; decide, fun q hq => fin q4 _ _ ((x5.trans x6).trans (.of z3)) ((W6.ext z3).mono (by omega)) wo qh hqh qt hqt q hq⟩⟩⟩⟩⟩
        · have h2' := x6.lst nqn h2
          have h1' := x6.lst nqs h1
          exact ⟨_, rfl, .inl ⟨qn, _, rfl, SqL.of h2', fun qh hqh => ⟨_, rfl, .inl ⟨qs, _, rfl, SqL.of ((Ext.new hqh).lst h1'), fun qt hqt => ⟨by show 2 ≤ sizeLine; decide, fun q hq => fin qs _ _ (x5.trans x6) (W6.mono (by omega)) ⟨by omega, by omega, by omega, hnd, hlt, sp, by omega⟩ qh hqh qt hqt q hq⟩⟩⟩⟩⟩
end
end Wd

set_option Elab.async false
set_option linter.all false
set_option maxRecDepth 100000
set_option maxHeartbeats 4000000
namespace Wd
open PySem PySem.Spec PyProof.Rows L2 Bx Gx

























































section
/-! ### servings -/
noncomputable def wardB (n : Nat) (bs : List (Nat × Nat)) (h s : Nat) (d : PyData) : Bool := lotB n d && (decide (h ∈ natsD d) && (decide ((natsD d).length = s) && hangB bs (natsD d)))
noncomputable def servB (n : Nat) (bs : List (Nat × Nat)) (hs ss : List Nat) : PyData → Bool
  | .tuple ds => decide (ds.length = hs.length) && (((List.range ds.length).all fun k => wardB n bs (hs.getD k 0) (ss.getD k 0) (ds.getD k .none)) && decide ((ds.map natsD).flatten.Nodup))
  | _ => false
theorem servB_not {n : Nat} {bs : List (Nat × Nat)} {hs ss : List Nat} {d : PyData} (h : ∀ ds, d ≠ .tuple ds) : servB n bs hs ss d = false := by
  cases d with
  | tuple ds => exact absurd rfl (h ds)
  | _ => rfl
theorem servB_eq (n : Nat) (bs : List (Nat × Nat)) (hs ss : List Nat) (ds : List PyData) : servB n bs hs ss (.tuple ds) = (decide (ds.length = hs.length) && (((List.range ds.length).all fun k => wardB n bs (hs.getD k 0) (ss.getD k 0) (ds.getD k .none)) && decide ((ds.map natsD).flatten.Nodup))) := rfl
theorem servB_len {n : Nat} {bs : List (Nat × Nat)} {hs ss : List Nat} {ds : List PyData} (h : ds.length ≠ hs.length) : servB n bs hs ss (.tuple ds) = false := by
  rw [servB_eq, decide_eq_false h]
  rfl
theorem servB_bad {n : Nat} {bs : List (Nat × Nat)} {hs ss : List Nat} {ds : List PyData} {k : Nat} (hk : k < ds.length) (h : wardB n bs (hs.getD k 0) (ss.getD k 0) (ds.getD k .none) = false) : servB n bs hs ss (.tuple ds) = false := by
  have e : ((List.range ds.length).all fun k => wardB n bs (hs.getD k 0) (ss.getD k 0) (ds.getD k .none)) = false := by
    rw [List.all_eq_false]
    exact ⟨k, List.mem_range.mpr hk, by rw [h]; exact Bool.false_ne_true⟩
  rw [servB_eq, e]
  simp
theorem servB_dup {n : Nat} {bs : List (Nat × Nat)} {hs ss : List Nat} {ds : List PyData} {i : Nat} (h : ¬ ((ds.take i).map natsD).flatten.Nodup) : servB n bs hs ss (.tuple ds) = false := by
  have e : ¬ (ds.map natsD).flatten.Nodup := fun z => h (by
    rw [← List.take_append_drop i ds, List.map_append, List.flatten_append] at z
    exact (List.nodup_append.mp z).1)
  rw [servB_eq, decide_eq_false e]
  simp
theorem servB_ok {n : Nat} {bs : List (Nat × Nat)} {hs ss : List Nat} {ds : List PyData} (h1 : ds.length = hs.length) (h2 : ∀ k, k < ds.length → wardB n bs (hs.getD k 0) (ss.getD k 0) (ds.getD k .none) = true) (h3 : (ds.map natsD).flatten.Nodup) : servB n bs hs ss (.tuple ds) = true := by
  rw [servB_eq, decide_eq_true h1, decide_eq_true h3]
  have e : ((List.range ds.length).all fun k => wardB n bs (hs.getD k 0) (ss.getD k 0) (ds.getD k .none)) = true := List.all_eq_true.mpr fun k hk => h2 k (List.mem_range.mp hk)
  rw [e]
  rfl
theorem wardB_parts {n : Nat} {bs : List (Nat × Nat)} {h s : Nat} {d : PyData} (z : wardB n bs h s d = true) : d = lotD (natsD d) ∧ LotOk n (natsD d) ∧ h ∈ natsD d ∧ (natsD d).length = s ∧ Hangs bs (natsD d) := by
  unfold wardB at z
  rw [Bool.and_eq_true, Bool.and_eq_true, Bool.and_eq_true, decide_eq_true_eq, decide_eq_true_eq, hangB_iff] at z
  obtain ⟨e, lo⟩ := lotB_ok z.1
  exact ⟨e, lo, z.2.1, z.2.2.1, z.2.2.2⟩
theorem natsD_lot (ps : List Nat) : natsD (lotD ps) = ps := by
  show (ps.map fun (p : Nat) => PyData.int (p : Int)).map (fun x => (intD x).toNat) = ps
  rw [List.map_map]
  exact (List.map_congr_left fun p _ => by show (((p : Nat) : Int)).toNat = p; simp).trans (List.map_id ps)
theorem take_flat {ds : List PyData} {i : Nat} (hi : i < ds.length) : ((ds.take (i + 1)).map natsD).flatten = ((ds.take i).map natsD).flatten ++ natsD ds[i] := by
  rw [List.take_add_one, List.getElem?_eq_getElem hi, List.map_append, List.flatten_append]
  simp
theorem flat_len {n : Nat} {bs : List (Nat × Nat)} {hs ss : List Nat} {ds : List PyData} (wo : WishOk n hs ss) (h1 : ds.length = hs.length) (h2 : ∀ k, k < ds.length → wardB n bs (hs.getD k 0) (ss.getD k 0) (ds.getD k .none) = true) : (ds.map natsD).flatten.length = n := by
  have el : (ds.map natsD).map List.length = ss := by
    refine List.ext_getElem (by rw [List.length_map, List.length_map, h1, wo.len]) fun k hk hk2 => ?_
    rw [List.length_map, List.length_map] at hk
    have := (wardB_parts (h2 k hk)).2.2.2.1
    rw [List.getElem_map, List.getElem_map]
    rw [List.getD_eq_getElem?_getD, List.getD_eq_getElem?_getD, List.getElem?_eq_getElem hk, List.getElem?_eq_getElem hk2] at this
    exact this
  rw [List.length_flatten, el, wo.sum]
theorem flat_lt {n : Nat} {bs : List (Nat × Nat)} {hs ss : List Nat} {ds : List PyData} (h2 : ∀ k, k < ds.length → wardB n bs (hs.getD k 0) (ss.getD k 0) (ds.getD k .none) = true) : ∀ x ∈ (ds.map natsD).flatten, x < n := fun x hx => by
  obtain ⟨u, hu, hxu⟩ := List.mem_flatten.mp hx
  obtain ⟨d, hd, rfl⟩ := List.mem_map.mp hu
  obtain ⟨k, hk, rfl⟩ := List.getElem_of_mem hd
  exact (wardB_parts (h2 k hk)).2.1.lt x (by rw [List.getD_eq_getElem?_getD, List.getElem?_eq_getElem hk]; exact hxu)
/-- when all wards are right: the places are all, each once, exactly if none is twice -/
theorem flat_perm {n : Nat} {bs : List (Nat × Nat)} {hs ss : List Nat} {ds : List PyData} (wo : WishOk n hs ss) (h1 : ds.length = hs.length) (h2 : ∀ k, k < ds.length → wardB n bs (hs.getD k 0) (ss.getD k 0) (ds.getD k .none) = true) : (ds.map natsD).flatten.Perm (List.range n) ↔ (ds.map natsD).flatten.Nodup :=
  ⟨fun pm => pm.nodup_iff.mpr List.nodup_range, fun nd => perm_of nd (fun x hx => List.mem_range.mpr (flat_lt h2 x hx)) (by rw [flat_len wo h1 h2, List.length_range])⟩
end
section
variable {P : Program} {w : World} {K : PySem.W.Frag} {mg : Str → Option Value} {base : Heap}
/-! ### are_heads, are_sizes, check_wish of right ones -/
def spAreHeads (K : PySem.W.Frag) (T1 : Addr) : Sp := fun vs H Q _ => ∃ (l : V) (t : Addr) (fs : List Int) (bs : List (Nat × Nat)) (hs : List Nat), vs = [l, .ref t] ∧ Dp K H l (landD fs bs) ∧ fs.length ≤ 12 ∧ SqT K H t (vsN hs) ∧ 2 ≤ hs.length ∧ hs.length ≤ 4 ∧ hs.Nodup ∧ (∀ h ∈ hs, h < fs.length) ∧ TabG H T1 ∧ ∀ H', Ext H H' → Q (.bl true) H'
theorem sc_are_heads : FnScope ["land", "value"] ["land", "value"] (defScope st_are_heads) := ⟨rfl, rfl, rfl, by decide +kernel, rfl, by decide +kernel, by decide +kernel⟩
theorem ok_are_heads {f c T1 : Addr} {fd : FuncData} (F : FunC K "are_heads" "are_heads" st_are_heads f fd c) (TB : TabB base mg c T1) (B : Bl mg) (n1 : ∃ t, mg "FEWEST_HEADS" = some (.int 2 t)) (n2 : ∃ t, mg "MOST_HEADS" = some (.int 4 t)) (c1 : Cal P w K mg base 2 "is_place" ["land", "value"] (spIsPlace K)) : FnOk P w K mg base CX0 6 f fd ["land", "value"] (spAreHeads K T1) := by
  refine F.ok sc_are_heads (fun vs H Q E h => ?_) (fun A outer s H vs Q E hr h => ?_)
  · obtain ⟨l, t, fs, bs, hs, rfl, _⟩ := h
    rfl
  · obtain ⟨l, t, fs, bs, hs, rfl, hl, hn, ht, hl2, hl4, hnd, hlt, hT, k⟩ := h
    obtain ⟨t1, e1⟩ := n1
    obtain ⟨t2, e2⟩ := n2
    refine ⟨_, pss_cons (ps_if (PW.pt (pw_or (pt_cmpR op_neTy (pe_callTy call_type1 rfl B.type (by decide +kernel) (pa_cons (pv 1) pa_nil)) (pe_bltn rfl B.tuple (by decide +kernel) (v := .ty "tuple") rfl) (nomark _))
        (pw_or1 (pt_not (pt_chain op_le op_le (pe_glob rfl e1 (v := .int 2) ⟨_, rfl⟩) (pe_callB call_len (by rfl) B.len PySem.boot_len (pa_cons (pv 1) pa_nil)) (pe_glob rfl e2 (v := .int 4) ⟨_, rfl⟩)))))) pss_never pss_nil)
      (pss_one (ps_ret (pe_and (pe_gall (k := 3) (N := ["place", "land"]) (src := [none, some 0]) (vs := [0])
        ⟨fun B s H fp code hB => pg_name (i := 0) (by decide +kernel : (["place", "land"] : List Str).Nodup) rfl (Or.inl rfl), fun B s H fp code hB => pts_nil, fun B s H fp code hB => pe_cal c1 (hB.deeper _) rfl (pa_cons (pv 1) (pa_cons (pv 0) pa_nil))⟩
        hr rfl B.all TB rfl (gOk (ND := ["land", "value"]) (sc := defScope st_are_heads) (by decide +kernel)) (pi_tup (pv 1)))
        (pe_one (pe_cmpR op_eq (pe_lenSetA (by rfl) (by rfl) B.len (by rfl) B.set (pv 1)) (pe_callB call_len (by rfl) B.len PySem.boot_len (pa_cons (pv 1) pa_nil)) (nomark _)))))), ?_⟩
    refine ⟨_, rfl, _, "tuple", rfl, .tup ht, "tuple", "tuple", rfl, rfl, by decide, by decide, false, rfl, ?_⟩
    refine iteF ⟨_, rfl, _, hs.length, rfl, .inr ⟨_, ht, (vsN_len hs).symm⟩, _, _, rfl, rfl, true, ?_, iteT ⟨_, _, rfl, rfl, true, ?_, iteF ?_⟩⟩
    · show V.bl (decide _) = _
      rw [decide_eq_true (by omega)]
    · show V.bl (decide _) = _
      rw [decide_eq_true (by omega)]
    refine ⟨_, rfl, t, rfl, ⟨_, ht⟩, hT, fun H2 hT2 => ?_⟩
    have x2 : Ext H H2 := Ext.tabbed hT hT2
    refine g_all (Ph := fun H4 => H4 = H2) (src_tup fun H4 e => by rw [e]; exact x2.sqT ht) (fun i => true) rfl (fun i H C hp hi k2 => ?_) (fun H4 hp ea => ?_) fun H4 hp ea => ?_
    · subst hp
      rw [vsN_len] at hi
      have evi : (vsN hs).getD i .non = .int ((hs[i] : Nat) : Int) := by rw [List.getD_eq_getElem?_getD, vsN_at hi]; rfl
      refine ⟨rfl, _, rfl, _, rfl, _, _, fs, _, .int ((hs[i] : Nat) : Int), rfl, dp_ext x2 hl, by omega, (by rw [evi]; exact .int _), ?_⟩
      have := hlt _ (List.getElem_mem hi)
      have e : isIntD 0 ((fs.length : Int) - 1) (.int ((hs[i] : Nat) : Int)) = true := decide_eq_true (by omega)
      rw [e]
      exact k2 H rfl
    · subst hp
      refine ⟨_, rfl, iteT ⟨_, rfl, t, hs.map (fun (p : Nat) => (p : Int)), rfl, by rw [vsN_int]; exact x2.sqT ht, by rw [List.length_map]; omega, fun c hc => ?_⟩⟩
      have hc2 : c = hs.length := by
        rw [List.length_map] at hc
        exact hc.mpr (List.pairwise_map.mpr (hnd.imp fun h e => h (by omega)))
      refine ⟨_, rfl, _, hs.length, rfl, .inr ⟨_, x2.sqT ht, (vsN_len hs).symm⟩, rfl, ?_⟩
      rw [hc2, decide_eq_true rfl]
      exact k _ x2
    · exfalso
      rw [List.all_eq_false] at ea
      obtain ⟨x, _, h⟩ := ea
      exact h rfl
def spAreSizes (K : PySem.W.Frag) (T1 : Addr) : Sp := fun vs H Q _ => ∃ (l : V) (t u : Addr) (fs : List Int) (bs : List (Nat × Nat)) (hs ss : List Nat), vs = [l, .ref t, .ref u] ∧ Dp K H l (landD fs bs) ∧ fs.length ≤ 12 ∧ SqT K H t (vsN hs) ∧ SqT K H u (vsN ss) ∧ WishOk fs.length hs ss ∧ TabG H T1 ∧ ∀ H', Ext H H' → Q (.bl true) H'
theorem sc_are_sizes : FnScope ["land", "heads", "value", "many"] ["land", "heads", "value"] (defScope st_are_sizes) := ⟨rfl, rfl, rfl, by decide +kernel, rfl, by decide +kernel, by decide +kernel⟩
theorem ok_are_sizes {f c T1 : Addr} {fd : FuncData} (F : FunC K "are_sizes" "are_sizes" st_are_sizes f fd c) (TB : TabB base mg c T1) (B : Bl mg) (c1 : Cal P w K mg base 1 "is_integer" ["value", "low", "high"] (spIsInteger K)) : FnOk P w K mg base CX0 5 f fd ["land", "heads", "value"] (spAreSizes K T1) := by
  refine F.ok sc_are_sizes (fun vs H Q E h => ?_) (fun A outer s H vs Q E hr h => ?_)
  · obtain ⟨l, t, u, fs, bs, hs, ss, rfl, _⟩ := h
    rfl
  · obtain ⟨l, t, u, fs, bs, hs, ss, rfl, hl, hn, ht, hu, wo, hT, k⟩ := h
    have nd := sc_are_sizes.nd
    refine ⟨_, pss_cons (ps_if (PW.pt (pw_or (pt_cmpR op_neTy (pe_callTy call_type1 rfl B.type (by decide +kernel) (pa_cons (pv 2) pa_nil)) (pe_bltn rfl B.tuple (by decide +kernel) (v := .ty "tuple") rfl) (nomark _)) (pw_or1 (pt_cmpR op_ne (pe_callB call_len (by rfl) B.len PySem.boot_len (pa_cons (pv 2) pa_nil)) (pe_callB call_len (by rfl) B.len PySem.boot_len (pa_cons (pv 1) pa_nil)) (nomark _))))) pss_never pss_nil)
      (pss_cons (ps_set (i := 3) nd rfl (Or.inr rfl) (pe_callB call_len (by rfl) B.len PySem.boot_len (pa_cons (pe_ix ix_tup (pv 0) pe_int (fun _ _ => rfl)) pa_nil)))
      (pss_one (ps_ret (pe_and (pe_gall (k := 2) (N := ["size", "many"]) (src := [none, some 3]) (vs := [0])
        ⟨fun B s H fp code hB => pg_name (i := 0) (by decide +kernel : (["size", "many"] : List Str).Nodup) rfl (Or.inl rfl), fun B s H fp code hB => pts_nil, fun B s H fp code hB => pe_cal c1 (hB.deeper _) rfl (pa_cons (pv 0) (pa_cons pe_int (pa_cons (pv 1) pa_nil)))⟩
        hr rfl B.all TB rfl (gOk (ND := ["land", "heads", "value", "many"]) (sc := defScope st_are_sizes) (by decide +kernel)) (pi_tup (pv 2)))
        (pe_one (pe_cmpR op_eq (pe_callB (cr_sumT rfl) (by rfl) B.sum (by decide +kernel) (pa_cons (pv 2) pa_nil)) (pv 3) (nomark _))))))), ?_⟩
    obtain ⟨a, af, vb, rfl, hl1, hl2, hl3⟩ := dp_land hl
    refine ⟨_, rfl, _, "tuple", rfl, .tup hu, "tuple", "tuple", rfl, rfl, by decide, by decide, false, rfl, ?_⟩
    refine iteF ⟨_, rfl, _, ss.length, rfl, .inr ⟨_, hu, (vsN_len ss).symm⟩, _, rfl, _, hs.length, rfl, .inr ⟨_, ht, (vsN_len hs).symm⟩, rfl, _, rfl, ?_⟩
    rw [show (!decide (V.int (ss.length : Int) = V.int (hs.length : Int))) = false by rw [wo.len]; simp]
    refine iteF ⟨_, rfl, a, _, _, _, rfl, rfl, hl1, atI_nat (j := 0) rfl, _, fs.length, rfl, .inr ⟨_, hl2, by simp⟩, ?_⟩
    dsimp only [gName, tSeq, List.set, L2.start, List.map, List.replicate, List.append, List.length]
    refine ⟨_, rfl, u, rfl, ⟨_, hu⟩, hT, fun H2 hT2 => ?_⟩
    have x2 : Ext H H2 := Ext.tabbed hT hT2
    refine g_all (Ph := fun H4 => H4 = H2) (src_tup fun H4 e => by rw [e]; exact x2.sqT hu) (fun i => true) rfl (fun i H C hp hi k2 => ?_) (fun H4 hp ea => ?_) fun H4 hp ea => ?_
    · subst hp
      rw [vsN_len] at hi
      have evi : (vsN ss).getD i .non = .int ((ss[i] : Nat) : Int) := by rw [List.getD_eq_getElem?_getD, vsN_at hi]; rfl
      refine ⟨rfl, _, rfl, _, rfl, _, .int ((ss[i] : Nat) : Int), 1, _, rfl, (by rw [evi]; exact .int _), ?_⟩
      have h1 := wo.pos _ (List.getElem_mem hi)
      have h2 := le_sum (List.getElem_mem hi)
      rw [wo.sum] at h2
      have e : isIntD 1 (fs.length : Int) (.int ((ss[i] : Nat) : Int)) = true := decide_eq_true (by omega)
      rw [e]
      exact k2 H rfl
    · subst hp
      refine ⟨_, rfl, iteT ⟨_, rfl, u, ss.map (fun (p : Nat) => (p : Int)), rfl, by rw [vsN_int]; exact x2.sqT hu, ?_⟩⟩
      have es : (ss.map fun (p : Nat) => (p : Int)).sum = (fs.length : Int) := by
        have key : ∀ l : List Nat, (l.map fun (p : Nat) => (p : Int)).sum = ((l.sum : Nat) : Int) := fun l => by
          induction l with
          | nil => rfl
          | cons x l ih => rw [List.map_cons, List.sum_cons, List.sum_cons, ih]; omega
        rw [key, wo.sum]
      refine ⟨_, rfl, rfl, ?_⟩
      rw [es, decide_eq_true rfl]
      exact k _ x2
    · exfalso
      rw [List.all_eq_false] at ea
      obtain ⟨x, _, h⟩ := ea
      exact h rfl
def spCheckWish (K : PySem.W.Frag) (T1 T2 : Addr) : Sp := fun vs H Q _ => ∃ (l : V) (t u : Addr) (fs : List Int) (bs : List (Nat × Nat)) (hs ss : List Nat), vs = [l, .ref t, .ref u] ∧ Dp K H l (landD fs bs) ∧ LandOk fs bs ∧ SqT K H t (vsN hs) ∧ SqT K H u (vsN ss) ∧ WishOk fs.length hs ss ∧ TabG H T1 ∧ TabG H T2 ∧ ∀ H', Ext H H' → Q .non H'
theorem sc_check_wish : FnScope ["land", "heads", "sizes"] ["land", "heads", "sizes"] (defScope st_check_wish) := ⟨rfl, rfl, rfl, by decide +kernel, rfl, by decide +kernel, by decide +kernel⟩
theorem ok_check_wish {f T1 T2 : Addr} {fd : FuncData} (F : Fun K "check_wish" "check_wish" st_check_wish f fd) (c1 : Cal P w K mg base 5 "check_land" ["land"] (spFaultLand K)) (c2 : Cal P w K mg base 6 "are_heads" ["land", "value"] (spAreHeads K T1)) (c3 : Cal P w K mg base 5 "are_sizes" ["land", "heads", "value"] (spAreSizes K T2)) : FnOk P w K mg base CX0 7 f fd ["land", "heads", "sizes"] (spCheckWish K T1 T2) := by
  refine F.ok sc_check_wish (fun vs H Q E h => ?_) (fun cdv A outer s H vs Q E hr h => ?_)
  · obtain ⟨l, t, u, fs, bs, hs, ss, rfl, _⟩ := h
    rfl
  · obtain ⟨l, t, u, fs, bs, hs, ss, rfl, hl, ok, ht, hu, wo, hT1, hT2, k⟩ := h
    refine ⟨_, pss_cons (ps_expr (pe_cal c1 (hr.mono (by decide)) rfl (pa_cons (pv 0) pa_nil)))
      (pss_cons (ps_if (pt_not (pt_val (pe_cal c2 (hr.mono (by decide)) rfl (pa_cons (pv 0) (pa_cons (pv 1) pa_nil))) (by intro _; rfl))) pss_never pss_nil)
      (pss_one (ps_if (pt_not (pt_val (pe_cal c3 (hr.mono (by decide)) rfl (pa_cons (pv 0) (pa_cons (pv 1) (pa_cons (pv 2) pa_nil)))) (by intro _; rfl))) pss_never pss_nil))), ?_⟩
    refine ⟨_, rfl, l, fs, bs, rfl, hl, ok, ?_⟩
    refine ⟨_, rfl, _, rfl, l, t, fs, bs, hs, rfl, hl, ok.most, ht, wo.few, wo.most, wo.nd, wo.lt, hT1, fun H2 x2 => ⟨true, rfl, iteF ?_⟩⟩
    refine ⟨_, rfl, _, rfl, _, rfl, l, t, u, fs, bs, hs, ss, rfl, dp_ext x2 hl, ok.most, x2.sqT ht, x2.sqT hu, wo, x2.tabs _ hT2, fun H3 x3 => ⟨true, rfl, iteF ?_⟩⟩
    exact k H3 (x2.trans x3)
end
end Wd

set_option Elab.async false
set_option linter.all false
set_option maxRecDepth 100000
set_option maxHeartbeats 4000000
namespace Wd
open PySem PySem.Spec PyProof.Rows L2 Bx Gx

























































section
variable {P : Program} {w : World} {K : PySem.W.Frag} {mg : Str → Option Value} {base : Heap}
/-! ### check_head -/
def spCheckHead (K : PySem.W.Frag) : Sp := fun vs H Q _ => ∃ (l : V) (fs : List Int) (bd : PyData) (p : Nat), vs = [l, .int (p : Int)] ∧ Dp K H l (.tuple [.tuple (fs.map .int), bd]) ∧ fs.length ≤ 12 ∧ p < fs.length ∧ Q .non H
/-! ### hangs_together -/
def spHangsTog (K : PySem.W.Frag) (T1 : Addr) : Sp := fun vs H Q _ => ∃ (l : Addr) (lk : List Nat) (n m : Nat) (bs : List (Nat × Nat)), vs = [.ref l, .int (m : Int)] ∧ H l = some (.lst (vsN lk)) ∧ Mk.Lk n bs lk ∧ Mk.Bs n bs ∧ n ≤ 12 ∧ m < 2 ^ n ∧ 0 < m ∧ TabG H T1 ∧
  ∀ (b : Bool) H', Ext H H' → (∀ qs, Mk.Pcs bs m qs → b = decide (qs.length = 1)) → Q (.bl b) H'
theorem sc_hangs_together : FnScope ["links", "mask"] ["links", "mask"] (defScope st_hangs_together) := ⟨rfl, rfl, rfl, by decide +kernel, rfl, by decide +kernel, by decide +kernel⟩
theorem pcs_first {bs : List (Nat × Nat)} {m q r : Nat} (hq : m.testBit q = true) (hlow : ∀ p, p < q → m.testBit p = false) (hR : Mk.Rch bs m (2 ^ q) r) {qs : List Nat} (h : Mk.Pcs bs m qs) : r = m ↔ qs.length = 1 := by
  cases h with
  | nil => simp at hq
  | @cons _ q' p l hq' hlow' hR' hP =>
    have e := Mk.low_uniq hq hlow hq' hlow'
    subst e
    have e2 := hR.uniq hR'
    subst e2
    rw [List.length_cons]
    constructor
    · intro e
      rw [e, Nat.xor_self] at hP
      generalize hz : (0 : Nat) = z at hP
      cases hP with
      | nil => rfl
      | cons h1 _ _ _ =>
        rw [← hz, Nat.zero_testBit] at h1
        cases h1
    · intro e
      have h0 := hP.none (List.length_eq_zero_iff.mp (by omega))
      have h1 : (m ^^^ r) ^^^ r = m := by rw [Nat.xor_assoc, Nat.xor_self, Nat.xor_zero]
      rw [h0, Nat.zero_xor] at h1
      exact h1
theorem ok_hangs_together {f T1 : Addr} {fd : FuncData} (F : Fun K "hangs_together" "hangs_together" st_hangs_together f fd) (c1 : Cal P w K mg base 7 "reached" ["links", "start", "mask"] (spReached K T1)) : FnOk P w K mg base CX0 8 f fd ["links", "mask"] (spHangsTog K T1) := by
  refine F.ok sc_hangs_together (fun vs H Q E h => ?_) (fun cdv A outer s H vs Q E hr h => ?_)
  · obtain ⟨l, lk, n, m, bs, rfl, _⟩ := h
    rfl
  · obtain ⟨l, lk, n, m, bs, rfl, hl, L, hb, hn, hm, hm0, hT, k⟩ := h
    refine ⟨_, pss_one (ps_ret (pe_cmpR op_eq (pe_cal c1 hr rfl (pa_cons (pv 0) (pa_cons (pe_op op_and (pv 1) (pe_un un_neg (pv 1))) (pa_cons (pv 1) pa_nil)))) (pv 1) (nomark _))), ?_⟩
    obtain ⟨q, hq, hlow, hand⟩ := Mk.and_neg m hm0
    refine ⟨_, rfl, _, rfl, _, rfl, _, rfl, _, _, rfl, rfl, _, rfl, l, lk, n, 2 ^ q, m, bs, ?_, hl, L, hb, hn, hm, ?_, hT, fun r H3 x3 hR => ?_⟩
    · dsimp only [List.append_nil]
      rw [hand]
      rfl
    · intro z hz
      rw [Nat.testBit_two_pow, decide_eq_true_eq] at hz
      rw [← hz]
      exact hq
    · refine ⟨_, rfl, rfl, ?_⟩
      refine k _ H3 x3 fun qs hqs => ?_
      have := pcs_first hq hlow hR hqs
      by_cases e : r = m
      · rw [decide_eq_true (this.mp e)]
        exact decide_eq_true (by rw [e])
      · rw [decide_eq_false (fun z => e (this.mpr z))]
        exact decide_eq_false fun z => e (by have := V.int.inj z; omega)
theorem mask_pos {ps : List Nat} (ha : ps.Pairwise (· < ·)) (hne : ps ≠ []) : 0 < Mk.mask ps := by
  cases ps with
  | nil => exact absurd rfl hne
  | cons p r =>
    have h : (Mk.mask (p :: r)).testBit p = true := by rw [Mk.bit_mask ha]; simp
    refine Nat.pos_of_ne_zero fun z => ?_
    rw [z, Nat.zero_testBit] at h
    cases h
end
section
variable {P : Program} {w : World} {K : PySem.W.Frag} {mg : Str → Option Value} {base : Heap}
/-! ### is_ward, is_serving -/
theorem tyB_ext {H H' : Hp} (x : Ext H H') {v : V} {T : String} (h : TyB K H v T) (hT : T ∈ tyNames) : TyB K H' v T := by
  cases h with
  | non => exact .non
  | bl b => exact .bl b
  | int i => exact .int i
  | str z => exact .str z
  | byt b => exact .byt b
  | lst h => exact .lst (x.sqL h)
  | tup h => exact .tup (x.sqT h)
  | dK h => simp [tyNames] at hT
def spIsWard (K : PySem.W.Frag) (T1 T2 : Addr) : Sp := fun vs H Q _ => ∃ (lk : Addr) (v : V) (lks : List Nat) (n : Nat) (bs : List (Nat × Nat)) (ps : List Nat) (h s : Nat), vs = [.ref lk, v, .int (h : Int), .int (s : Int)] ∧ H lk = some (.lst (vsN lks)) ∧ Mk.Lk n bs lks ∧ Mk.Bs n bs ∧ n ≤ 12 ∧ Dp K H v (lotD ps) ∧ LotOk n ps ∧ TabG H T1 ∧ TabG H T2 ∧ ∀ H', Ext H H' → Q (.bl (decide (h ∈ ps) && (decide (ps.length = s) && hangB bs ps))) H'
abbrev is_wardN : List Str := ["links", "lot", "head", "size"]
theorem sc_is_ward : FnScope is_wardN ["links", "lot", "head", "size"] (defScope st_is_ward) := ⟨rfl, rfl, rfl, by decide +kernel, rfl, by decide +kernel, by decide +kernel⟩
theorem ok_is_ward {f T1 T2 : Addr} {fd : FuncData} (F : Fun K "is_ward" "is_ward" st_is_ward f fd) (B : Bl mg) (c_mask_of : Cal P w K mg base 4 "mask_of" ["lot"] (spMaskOf K T1)) (c_hangs_together : Cal P w K mg base 8 "hangs_together" ["links", "mask"] (spHangsTog K T2)) : FnOk P w K mg base CX0 9 f fd ["links", "lot", "head", "size"] (spIsWard K T1 T2) := by
  refine F.ok sc_is_ward (fun vs H Q E h => ?_) (fun cdv A outer s H vs Q E hr h => ?_)
  · obtain ⟨lk, v, lks, n, bs, ps, hd, s, rfl, _⟩ := h
    rfl
  · obtain ⟨lk, v, lks, n, bs, ps, hd, s, rfl, hlk, L, hb, hn, hv, lo, hT1, hT2, k⟩ := h
    refine ⟨_, pss_one (ps_ret (pe_and (pe_cmpR op_in_seq (pv 2) (pv 1) (by rfl)) (pe_and (pe_cmpR op_eq (pe_callB call_len (by rfl) B.len PySem.boot_len (pa_cons (pv 1) pa_nil)) (pv 3) (nomark _)) (pe_one (pe_cal c_hangs_together (hr.mono (by decide)) rfl (pa_cons (pv 0) (pa_cons (pe_cal c_mask_of (hr.mono (by decide)) rfl (pa_cons (pv 1) pa_nil)) pa_nil))))))), ?_⟩
    obtain ⟨t, rfl, ht⟩ := dp_lot hv
    refine ⟨_, rfl, _, rfl, t, _, rfl, .inr ht, rfl, flat_vsN ps, _, rfl, ?_⟩
    dsimp only
    rw [if_neg Bool.false_ne_true, inV_vsN]
    cases e1 : decide (hd ∈ ps) with
    | false => exact iteF (by have q := k H (.refl H); rw [e1] at q; exact q)
    | true =>
      refine iteT ⟨_, rfl, _, ps.length, rfl, .inr ⟨_, ht, (vsN_len ps).symm⟩, _, rfl, rfl, _, rfl, ?_⟩
      have es : decide (V.int (ps.length : Int) = V.int (s : Int)) = decide (ps.length = s) := decide_eq_decide.mpr ⟨fun z => by injection z with z; omega, fun z => by rw [z]⟩
      rw [es]
      cases e2 : decide (ps.length = s) with
      | false => exact iteF (by have q := k H (.refl H); rw [e1, e2] at q; exact q)
      | true =>
        refine iteT ⟨_, rfl, _, rfl, _, ps, rfl, hv, fun p hp => by have := lo.lt p hp; omega, hT1, fun H2 x2 => ?_⟩
        refine ⟨lk, lks, n, Mk.mask ps, bs, rfl, x2.lst hlk, L, hb, hn, Mk.mask_lt lo.asc lo.lt, mask_pos lo.asc lo.ne, x2.tabs _ hT2, fun b H3 x3 hb3 => ?_⟩
        have eb := hangB_of lo hb3
        subst eb
        have q := k H3 (x2.trans x3)
        rw [e1, e2] at q
        exact q
def spIsServing (K : PySem.W.Frag) (ts : List Addr) : Sp := fun vs H Q _ => ∃ (l v : V) (t u : Addr) (fs : List Int) (bs : List (Nat × Nat)) (hs ss : List Nat) (d : PyData), vs = [l, .ref t, .ref u, v] ∧ Dp K H l (landD fs bs) ∧ LandOk fs bs ∧ SqT K H t (vsN hs) ∧ SqT K H u (vsN ss) ∧ WishOk fs.length hs ss ∧ Dp K H v d ∧ smD d = true ∧ Tabs ts H ∧ ∀ H', Ext H H' → Q (.bl (servB fs.length bs hs ss d)) H'
abbrev is_servingN : List Str := ["land", "heads", "sizes", "value", "links", "taken", "k", "ward"]
theorem sc_is_serving : FnScope is_servingN ["land", "heads", "sizes", "value"] (defScope st_is_serving) := ⟨rfl, rfl, rfl, by decide +kernel, rfl, by decide +kernel, by decide +kernel⟩
theorem ok_is_serving {f T1 T2 T3 T4 T5 T6 : Addr} {fd : FuncData} (F : Fun K "is_serving" "is_serving" st_is_serving f fd) (B : Bl mg) (c_check_wish : Cal P w K mg base 7 "check_wish" ["land", "heads", "sizes"] (spCheckWish K T1 T2)) (c_links_of : Cal P w K mg base 1 "links_of" ["land"] (spLinksOf K)) (c_is_lot : Cal P w K mg base 6 "is_lot" ["land", "value"] (spIsLotA K T3 T4)) (c_mask_of : Cal P w K mg base 4 "mask_of" ["lot"] (spMaskOf K T5))
    (c_is_ward : Cal P w K mg base 9 "is_ward" ["links", "lot", "head", "size"] (spIsWard K T5 T6)) : FnOk P w K mg base CX0 10 f fd ["land", "heads", "sizes", "value"] (spIsServing K [T1, T2, T3, T4, T5, T6]) := by
  refine F.ok sc_is_serving (fun vs H Q E h => ?_) (fun cdv A outer s H vs Q E hr h => ?_)
  · obtain ⟨l, v, t, u, fs, bs, hs, ss, d, rfl, _⟩ := h
    rfl
  · obtain ⟨l, v, t, u, fs, bs, hs, ss, d, rfl, hl, ok, ht, hu, wo, hv, hsm, hT, k⟩ := h
    have nd := sc_is_serving.nd
    refine ⟨_, pss_cons (ps_expr (pe_cal c_check_wish (hr.mono (by decide)) rfl (pa_cons (pv 0) (pa_cons (pv 1) (pa_cons (pv 2) pa_nil)))))
      (pss_cons (ps_if (PW.pt (pw_or (pt_cmpR op_neTy (pe_callTy call_type1 rfl B.type (by decide +kernel) (pa_cons (pv 3) pa_nil)) (pe_bltn rfl B.tuple (by decide +kernel) (v := .ty "tuple") rfl) (nomark _)) (pw_or1 (pt_cmpR op_ne (pe_callB call_len (by rfl) B.len PySem.boot_len (pa_cons (pv 3) pa_nil)) (pe_callB call_len (by rfl) B.len PySem.boot_len (pa_cons (pv 1) pa_nil)) (nomark _))))) (pss_one (ps_ret pe_bl)) pss_nil)
      (pss_cons (ps_set (i := 4) nd rfl (Or.inl rfl) (pe_cal c_links_of (hr.mono (by decide)) rfl (pa_cons (pv 0) pa_nil)))
      (pss_cons (ps_set (i := 5) nd rfl (Or.inl rfl) pe_int)
      (pss_cons (ps_for PassesOwn.never rfl (pi_range1 rfl B.range (pa_cons (pe_callB call_len (by rfl) B.len PySem.boot_len (pa_cons (pv 1) pa_nil)) pa_nil)) (pg_name (i := 6) nd rfl (Or.inl rfl))
        (pss_cons (ps_if (PW.pt (pw_or (pt_not (pt_val (pe_cal c_is_lot (hr.mono (by decide)) rfl (pa_cons (pv 0) (pa_cons (pe_ix ix_tup (pv 3) (pv 6) (fun _ _ => rfl)) pa_nil))) (by intro _; rfl))) (pw_or1 (pt_not (pt_val (pe_cal c_is_ward (hr.mono (by decide)) rfl (pa_cons (pv 4) (pa_cons (pe_ix ix_tup (pv 3) (pv 6) (fun _ _ => rfl)) (pa_cons (pe_ix ix_tup (pv 1) (pv 6) (fun _ _ => rfl)) (pa_cons (pe_ix ix_tup (pv 2) (pv 6) (fun _ _ => rfl)) pa_nil))))) (by intro _; rfl)))))) (pss_one (ps_ret pe_bl)) pss_nil)
        (pss_cons (ps_set (i := 7) nd rfl (Or.inl rfl) (pe_cal c_mask_of (hr.mono (by decide)) rfl (pa_cons (pe_ix ix_tup (pv 3) (pv 6) (fun _ _ => rfl)) pa_nil)))
        (pss_cons (ps_if (pt_truth (pe_op op_and (pv 7) (pv 5)) (by intro _; rfl)) (pss_one (ps_ret pe_bl)) pss_nil)
        (pss_one (ps_aug (i := 5) nd rfl (Or.inl rfl) (pv 7) iop_or))))))
      (pss_one (ps_ret pe_bl)))))), ?_⟩
    have hTn : ∀ {H' : Hp}, Ext H H' → TabG H' T1 ∧ TabG H' T2 ∧ TabG H' T3 ∧ TabG H' T4 ∧ TabG H' T5 ∧ TabG H' T6 := fun x => ⟨x.tabs _ (hT T1 (by simp)), x.tabs _ (hT T2 (by simp)), x.tabs _ (hT T3 (by simp)), x.tabs _ (hT T4 (by simp)), x.tabs _ (hT T5 (by simp)), x.tabs _ (hT T6 (by simp))⟩
    have h12 := ok.most
    refine ⟨_, rfl, _, rfl, _, rfl, l, t, u, fs, bs, hs, ss, rfl, hl, ok, ht, hu, wo, (hTn (.refl H)).1, (hTn (.refl H)).2.1, fun H1 x1 => ?_⟩
    rcases tup_dp hv with ⟨ds, a, xs, rfl, rfl, h1, h2⟩ | ⟨T, hT', ht', hne, hno⟩
    · have hlen := dpAll_len h2
      obtain ⟨hds, hsms⟩ := smD_seq (ds := ds) (.inr rfl) hsm
      refine ⟨_, rfl, _, "tuple", rfl, .tup (x1.sqT h1), "tuple", "tuple", rfl, rfl, by decide, by decide, false, rfl, ?_⟩
      refine iteF ⟨_, rfl, _, ds.length, rfl, .inr ⟨_, x1.sqT h1, hlen.symm⟩, _, rfl, _, hs.length, rfl, .inr ⟨_, x1.sqT ht, (vsN_len hs).symm⟩, rfl, _, rfl, ?_⟩
      by_cases hle : ¬ ds.length = hs.length
      · rw [show (!decide (V.int (ds.length : Int) = V.int (hs.length : Int))) = true by
          rw [decide_eq_false]
          · rfl
          · intro z
            injection z with z
            exact hle (by omega)]
        refine iteT ?_
        have q := k H1 x1
        rw [servB_len hle] at q
        exact q
      have hle := Classical.not_not.mp hle
      rw [show (!decide (V.int (ds.length : Int) = V.int (hs.length : Int))) = false by rw [hle]; simp]
      refine iteF ?_
      refine ⟨_, rfl, l, fs, bs, rfl, dp_ext x1 hl, h12, ok.bord, fun q H2 lk x2 hq0 hq L => ?_⟩
      have x12 := x1.trans x2
      refine ⟨_, rfl, _, hs.length, rfl, .inr ⟨_, x12.sqT ht, (vsN_len hs).symm⟩, _, rfl, by have := wo.most; omega, by have := wo.most; omega, for_range (lo := 0) (n := (hs.length : Int).toNat) (fun i σ H3 => ∃ (T : Nat) (o6 o7 : Option V), σ = [some l, some (.ref t), some (.ref u), some (.ref a), some (.ref q), some (.int (T : Int)), o6, o7] ∧ Ext H2 H3 ∧ (∀ j, j < i → wardB fs.length bs (hs.getD j 0) (ss.getD j 0) (ds.getD j .none) = true) ∧ ((ds.take i).map natsD).flatten.Nodup ∧ ∀ x, T.testBit x = true ↔ x ∈ ((ds.take i).map natsD).flatten)
        ⟨0, _, _, rfl, .refl _, (fun j hj => absurd hj (Nat.not_lt_zero j)), by simp, fun x => by simp⟩ ?_ ?_⟩
      · rintro i σ H3 hi ⟨T, o6, o7, rfl, x3, hok, hnd, hTb⟩
        rw [Int.toNat_natCast] at hi
        rw [Int.zero_add]
        have hi' : i < ds.length := by omega
        have his : i < ss.length := by have := wo.len; omega
        obtain ⟨wv, hwv, hdw⟩ := dpAll_get h2 (List.getElem?_eq_getElem hi')
        have egi : ds.getD i .none = ds[i] := by rw [List.getD_eq_getElem?_getD, List.getElem?_eq_getElem hi']; rfl
        have ehi : hs.getD i 0 = hs[i] := by rw [List.getD_eq_getElem?_getD, List.getElem?_eq_getElem hi]; rfl
        have esi : ss.getD i 0 = ss[i] := by rw [List.getD_eq_getElem?_getD, List.getElem?_eq_getElem his]; rfl
        have hsmi := smDs_get hsms _ (List.getElem_mem hi')
        have x13 := x12.trans x3
        have t13 := hTn x13
        have out : wardB fs.length bs (hs.getD i 0) (ss.getD i 0) (ds.getD i .none) = false → ∀ H', Ext H H' → Q (.bl false) H' := fun hb H' x => by
          have q := k H' x
          rw [servB_bad hi' hb] at q
          exact q
        have et : ∀ b : Bool, lotB fs.length ds[i] = true → (decide (hs[i] ∈ natsD ds[i]) && (decide ((natsD ds[i]).length = ss[i]) && hangB bs (natsD ds[i]))) = b → wardB fs.length bs (hs.getD i 0) (ss.getD i 0) (ds.getD i .none) = b := fun b h1 h2 => by
          unfold wardB
          rw [egi, ehi, esi, h1, h2]
          rfl
        dsimp only [gName, tSeq, List.set]
        refine ⟨_, rfl, _, rfl, _, rfl, a, _, _, _, rfl, rfl, x13.sqT h1, atI_nat hwv, l, wv, fs, _, ds[i], rfl, dp_ext x13 hl, by omega, dp_ext x13 hdw, (fun es e => by have := (smD_seq (ds := es) (.inr e) hsmi).1; omega), t13.2.2.1, t13.2.2.2.1, fun H4 x4 => ?_⟩
        have x14 := x13.trans x4
        cases elot : lotB fs.length ds[i] with
        | false =>
          refine ⟨false, rfl, iteT (iteT (out ?_ H4 x14))⟩
          unfold wardB
          rw [egi, elot]
          rfl
        | true =>
          refine ⟨true, rfl, iteF ?_⟩
          obtain ⟨ed, lo⟩ := lotB_ok elot
          have hdw : Dp K H wv (lotD (natsD ds[i])) := ed ▸ hdw
          have t14 := hTn x14
          refine ⟨_, rfl, _, rfl, _, rfl, a, _, _, _, rfl, rfl, x14.sqT h1, atI_nat hwv, _, rfl, _, rfl, t, _, _, _, rfl, rfl, x14.sqT ht, atI_nat (vsN_at hi), _, rfl, _, rfl, u, _, _, _, rfl, rfl, x14.sqT hu, atI_nat (vsN_at his), q, wv, lk, fs.length, bs, natsD ds[i], hs[i], ss[i], rfl, (x3.trans x4).lst hq, L, ok.bord, h12, dp_ext x14 hdw, lo, t14.2.2.2.2.1, t14.2.2.2.2.2, fun H5 x5 => ?_⟩
          have x15 := x14.trans x5
          cases ew : (decide (hs[i] ∈ natsD ds[i]) && (decide ((natsD ds[i]).length = ss[i]) && hangB bs (natsD ds[i]))) with
          | false => exact ⟨false, rfl, iteT (out (et _ elot ew) H5 x15)⟩
          | true =>
            refine ⟨true, rfl, iteF ?_⟩
            refine ⟨_, rfl, _, rfl, a, _, _, _, rfl, rfl, x15.sqT h1, atI_nat hwv, wv, natsD ds[i], rfl, dp_ext x15 hdw, fun p hp => by have := lo.lt p hp; omega, (hTn x15).2.2.2.2.1, fun H6 x6 => ?_⟩
            have x16 := x15.trans x6
            have hbit := Mk.bit_mask lo.asc
            dsimp only [gName, List.set, tSeq]
            have efl := take_flat hi'
            refine ⟨_, rfl, _, rfl, _, _, rfl, rfl, decide (Mk.mask (natsD ds[i]) &&& T ≠ 0), (by show decide _ = (Builtin.bitAnd ((Mk.mask (natsD ds[i]) : Nat) : Int) (T : Int) != 0); rw [and_pp, Bool.eq_iff_iff, decide_eq_true_eq, bne_iff_ne]; omega), ?_⟩
            by_cases hz : Mk.mask (natsD ds[i]) &&& T = 0
            · rw [decide_eq_false (fun h => h hz)]
              refine iteF ⟨_, rfl, _, rfl, _, _, rfl, rfl, ?_⟩
              dsimp only [List.set]
              rw [or_pp]
              refine ⟨T ||| Mk.mask (natsD ds[i]), _, _, rfl, (x3.trans x4).trans (x5.trans x6), fun j hj => ?_, ?_, fun x => ?_⟩
              · by_cases e : j = i
                · rw [e]; exact et _ elot ew
                · exact hok j (by omega)
              · rw [efl, List.nodup_append]
                refine ⟨hnd, lo.asc.imp fun h => Nat.ne_of_lt h, fun x hx y hy e => ?_⟩
                have hb : (Mk.mask (natsD ds[i]) &&& T).testBit x = true := by
                  rw [Nat.testBit_and, hbit, (hTb x).mpr hx, decide_eq_true (e ▸ hy)]
                  rfl
                rw [hz, Nat.zero_testBit] at hb
                cases hb
              · rw [efl, List.mem_append, ← hTb x, Nat.testBit_or, Bool.or_eq_true, hbit, decide_eq_true_eq]
            · rw [decide_eq_true hz]
              refine iteT ?_
              have q := k H6 x16
              rw [servB_dup (i := i + 1)] at q
              · exact q
              · rw [efl]
                intro hn
                obtain ⟨p, hp⟩ := Nat.exists_testBit_of_ne_zero hz
                rw [Nat.testBit_and, Bool.and_eq_true, hbit, decide_eq_true_eq] at hp
                exact (List.nodup_append.mp hn).2.2 p ((hTb p).mp hp.2) p hp.1 rfl
      · rintro σ H3 ⟨T, o6, o7, rfl, x3, hok, hnd, hTb⟩
        rw [Int.toNat_natCast] at hok hnd
        have q := k H3 (x12.trans x3)
        rw [← hle, List.take_length] at hnd
        rw [servB_ok hle (fun j hj => hok j (by omega)) hnd] at q
        exact q
    · refine ⟨_, rfl, _, T, rfl, tyB_ext x1 ht' hT', T, "tuple", rfl, rfl, hT', by decide, true, ?_, ?_⟩
      · rw [decide_eq_false hne]
        rfl
      · refine iteT (iteT ?_)
        have q := k H1 x1
        rw [servB_not hno] at q
        exact q
end
end Wd

set_option Elab.async false
set_option linter.all false
set_option maxRecDepth 100000
set_option maxHeartbeats 4000000
/-! Xt: tuples known exactly from where they are made; a method of such a tuple. -/
namespace Bx
open PySem PySem.Spec PyProof.Rows L2
/-- a tuple whose object is known: no dict of its own -/
structure XTup (H : Hp) (p : Addr) (xs : List V) : Prop where
  ex : ∃ o : Obj, H p = some (.frz o (.tup xs)) ∧ o.cls = .type "tuple" ∧ o.dict = none
theorem XTup.sqT {K : PySem.W.Frag} {H : Hp} {p : Addr} {xs : List V} (h : XTup H p xs) : SqT K H p xs := by
  obtain ⟨o, e, _⟩ := h.ex
  exact .inl (.inr ⟨o, e⟩)
theorem XTup.ext {H H' : Hp} {p : Addr} {xs : List V} (h : XTup H p xs) (x : Ext H H') : XTup H' p xs := by
  obtain ⟨o, e, e2, e3⟩ := h.ex
  exact ⟨o, x.keep _ _ e (fun z => z), e2, e3⟩
theorem XTup.new {H : Hp} {p : Addr} {xs : List V} {o : Obj} (h1 : o.cls = .type "tuple") (h2 : o.dict = none) : XTup (upd H p (.frz o (.tup xs))) p xs := ⟨o, upd_same, h1, h2⟩
section
variable {X : Cx}
/-- tuple(x) of a list, known exactly -/
def kTupX (K : PySem.W.Frag) (x : V) (H : Hp) (Q : VK) : Prop :=
  ∃ p xs, x = V.ref p ∧ SqL K H p xs ∧ ∀ q (o : Obj), H q = none → o.cls = .type "tuple" → o.dict = none → Q (.ref q) (upd H q (.frz o (.tup xs)))
theorem rl_tupleX (pins : List (Addr × Obj)) (s : Shared) (σ : L2.St) (H : Hp) (x : V) (v : Value) (Q : VK) (I : Inv X pins σ H s) (r : RelV x v) (h : kTupX X.K x H Q) :
    wpAny (model X.prog X.w) X.A (call (.type "tuple") [v]) (EP X pins σ Q) X.xe s := by
  obtain ⟨p, xs, rfl, hs, q⟩ := h
  obtain rfl : v = .ref p := r
  obtain ⟨its, rv, pl, hz⟩ := I.list hs
  refine call_tuple_list pl.isList (fun h' hk => ?_) (by rw [List.size_toArray, ← rv.length]; exact hz)
  have I1 : Inv X pins σ H { s with heap := h' } := I.kept (t' := s.toks) hk
  have I2 : Inv X pins σ (upd H h'.objs.size (.frz { cls := .type "tuple", data := .seq its.toArray } (.tup xs))) { s with heap := h'.push { cls := .type "tuple", data := .seq its.toArray } } :=
    I1.laid (t' := s.toks) (fun b o e => Heap.get?_push_of_some _ e) (Nat.le_refl _) (show ObjOk X.prog X.w _ _ _ (.frz _ (.tup xs)) from ⟨by simp [Heap.get?, Heap.push], hz, its, rv, IsTup.new _ _⟩)
  exact ⟨.ref h'.objs.size, _, I2, rfl, q _ _ (I1.hok.fresh (Nat.le_refl _)) rfl rfl⟩
theorem pe_tupleOfX {a : Expr} {ta : TE} {p pos : Pos} (hg : Gl X "tuple") (hm : X.mg "tuple" = none) (ha : PE X a ta) (na : starEach [a] X.env = (false, eval a X.env) :: starEach [] X.env := by rfl) :
    PE X (.Call (.Name "tuple" p) [a] [] pos) (tThen ta (kTupX X.K)) := by
  refine ⟨fun pins s σ H Q I h => ?_⟩
  exact Call_ (ld_blt I hg hm boot_tuple (PyProof.Rows.callWith_type1 (one_arg ha I h (fun v s2 x H2 I2 r q => rl_tupleX pins s2 σ H2 x v Q I2 r q) na) na))
/-- a method of a tuple known exactly -/
def tBMX (r : V → List V → Hp → VK → Prop) (to : TE) (t : TA) : TE := fun σ H Q => to σ H fun x H1 => (∃ p ys, x = V.ref p ∧ XTup H1 p ys) ∧ t σ H1 fun xs H2 => r x xs H2 Q
theorem pe_bmX {o e : Expr} {es : List Expr} {to : TE} {t : TA} {name : Str} {id : String} {apos cpos : Pos} {r : V → List V → Hp → VK → Prop} (slot : Slot "tuple" name id) (hty : typeOf (.builtin id) = pure (.type "method_descriptor")) (hm : MtR X id r) (ho : PE X o to) (ha : PA X (e :: es) t)
    (hbase : attributeBase o name X.env (eval o X.env) = eval o X.env := by rfl)
    (hfew : ((backTo cpos (starEach (e :: es) X.env)).all (fun x => !x.1) && (backToKw cpos (keywordEach [] X.env)).all (fun x => x.1.isSome)
      && decide ((e :: es).length + ([] : List Keyword).length + (if ([] : List Keyword).isEmpty then 0 else 1) < 30)) = true := by rfl)
    (hline : (apos.endLine == cpos.line) = true := by rfl) (hs : starEach (e :: es) X.env = (false, eval e X.env) :: starEach es X.env := by rfl) (hplain : (backTo cpos (starEach es X.env)).any (·.1) = false := by rfl) :
    PE X (.Call (.Attribute o name apos) (e :: es) [] cpos) (tBMX r to t) := by
  refine ⟨fun pins s σ H Q I h => ?_⟩
  refine wpAny_Call_method_late hbase hfew hline rfl (thn (ho.run pins s σ H _ I h) fun v s1 ⟨x, H1, I1, r1, ty, q1⟩ => ?_)
  obtain ⟨p, ys, ex, hx⟩ := ty
  subst ex
  obtain rfl : v = Value.ref p := r1
  obtain ⟨o1, e1, e2, e3⟩ := hx.ex
  have hobj : s1.heap.get? p = some o1 := (I1.hok p _ e1).1
  refine ⟨"tuple", id, PySem.F.plainAttrs_tuple, slot, hty, ⟨o1, hobj, e2⟩, (fun a ea => by cases ea; exact ⟨o1, hobj, e3⟩), ?_⟩
  have hA := ha.run cpos pins s1 σ H1 _ I1 q1
  rw [hs] at hA ⊢
  refine Calls.callWith_builtin (by show (false || (backTo cpos (starEach es X.env)).any (·.1)) = false; rw [hplain] <;> rfl) (Calls.evalArgs_plain ?_)
  exact thn hA fun us s2 ⟨vs, H2, I2, r2, q2⟩ => hm pins s2 σ H2 (.ref p) vs (.ref p) us Q I2 rfl r2 q2
end
end Bx

set_option Elab.async false
set_option linter.all false
set_option maxRecDepth 100000
set_option maxHeartbeats 4000000
/-! Rs: t[::-1] of a tuple, sorted(set(t)) of ints, >= of tuples of ints, a chain of three. -/
namespace Bx
open PySem PySem.Spec PyProof.Rows L2

/-! ### t[::-1] -/
theorem pick_back {α : Type} (xs : Array α) : ∀ n : Nat, n ≤ xs.size → (List.range n).filterMap (fun (m : Nat) => xs[n - 1 - m]?) = (xs.toList.take n).reverse
  | 0, _ => by simp
  | n + 1, h => by
    have ih := pick_back xs n (by omega)
    have e1 : (fun (m : Nat) => xs[n + 1 - 1 - (m + 1)]?) = fun m => xs[n - 1 - m]? := by
      funext m
      have : n + 1 - 1 - (m + 1) = n - 1 - m := by omega
      rw [this]
    have hx : xs[n]? = some xs[n] := Array.getElem?_eq_getElem (by omega)
    have hx2 : xs.toList[n]? = some xs[n] := by rw [Array.getElem?_toList]; exact hx
    rw [List.range_succ_eq_map, List.filterMap_cons, List.filterMap_map]
    show (match xs[n + 1 - 1 - 0]? with
      | none => _
      | some b => _) = _
    have e2 : n + 1 - 1 - 0 = n := by omega
    rw [e2, hx]
    show xs[n] :: List.filterMap (fun (m : Nat) => xs[n + 1 - 1 - (m + 1)]?) (List.range n) = _
    rw [e1, ih, List.take_add_one, hx2]
    simp
theorem fm_congr {α β : Type} (f g : α → Option β) : ∀ l : List α, (∀ x ∈ l, f x = g x) → l.filterMap f = l.filterMap g
  | [], _ => rfl
  | x :: l, h => by
    rw [List.filterMap_cons, List.filterMap_cons, h x List.mem_cons_self, fm_congr f g l fun y hy => h y (List.mem_cons_of_mem _ hy)]
theorem pick_rev (xs : Array Value) : ((List.range xs.size).filterMap fun (m : Nat) => xs[(((xs.size : Nat) : Int) - 1 + (m : Int) * (-1)).toNat]?).toArray = xs.toList.reverse.toArray := by
  have h := pick_back xs xs.size (Nat.le_refl _)
  have e2 : (List.range xs.size).filterMap (fun (m : Nat) => xs[(((xs.size : Nat) : Int) - 1 + (m : Int) * (-1)).toNat]?) = (List.range xs.size).filterMap (fun (m : Nat) => xs[xs.size - 1 - m]?) := by
    exact fm_congr _ _ _ fun m hm => by
      have z := List.mem_range.mp hm
      have : (((xs.size : Nat) : Int) - 1 + (m : Int) * (-1)).toNat = xs.size - 1 - m := by omega
      rw [this]
  rw [e2, h]
  have : xs.toList.take xs.size = xs.toList := List.take_of_length_le (by rw [Array.length_toList]; exact Nat.le_refl _)
  rw [this]
section
variable {prog : Program} {w : World} {A : Around} {E : Value → Shared → Prop} {s : Shared}
theorem part_is {v : Value} {o : Option Int} {Q : Option Int → Shared → Prop} (p : IsPart v o) (h : Q o s) : wpAny (model prog w) A (Builtin.Slice.slicePartIndex v) Q E s := by
  cases p with
  | none => exact PyProof.Rows.slicePart_none h
  | int i t => exact PyProof.Rows.slicePart_int h
theorem applied_back {sl : Addr} {vl vu vs : Value} {n : Nat} {Q : Int × Int × Nat → Shared → Prop} (hs : s.heap.IsSliceOf sl vl vu vs) (pl : IsPart vl none) (pu : IsPart vu none) (ps : IsPart vs (some (-1)))
    (h : Q ((n : Int) - 1, -1, n) s) : wpAny (model prog w) A (Builtin.Slice.sliceApplied (.ref sl) (pure (n : Int))) Q E s := by
  obtain ⟨os, a1, a2, a3⟩ := id hs
  unfold Builtin.Slice.sliceApplied Builtin.Slice.sliceFields
  refine wpAny_bind (wpAny_bind (wpAny_field a1 a3 (x := vl) rfl (wpAny_bind (wpAny_field a1 a3 (x := vu) rfl (wpAny_bind (wpAny_field a1 a3 (x := vs) rfl (wpAny_pure ?_)))))))
  refine wpAny_bind (part_is ps ?_)
  show wpAny _ _ (if ((-1 : Int) == 0) = true then _ else _) _ _ s
  rw [if_neg (by decide)]
  refine wpAny_bind (part_is pl (wpAny_bind (part_is pu (wpAny_bind (wpAny_pure ?_)))))
  show wpAny _ _ (pure ((n : Int) - 1, (-1 : Int), Builtin.Slice.slicePlaces ((n : Int) - 1) (-1) (-1))) _ _ s
  have e : Builtin.Slice.slicePlaces ((n : Int) - 1) (-1) (-1) = n := by
    unfold Builtin.Slice.slicePlaces
    rw [if_neg (by decide)]
    by_cases z : (n : Int) - 1 > -1
    · rw [if_pos z]
      have : -(-1 : Int) = 1 := by decide
      rw [this, Int.ediv_one]
      omega
    · rw [if_neg z]
      omega
  rw [e]
  exact wpAny_pure h
theorem getItem_back {t sl : Addr} {items : Array Value} {vl vu vs : Value} {Q : Value → Shared → Prop} (ht : PyProof.Rows.IsTup s.heap t items) (hs : s.heap.IsSliceOf sl vl vu vs) (pl : IsPart vl none) (pu : IsPart vu none) (ps : IsPart vs (some (-1)))
    (hsz : items.size ≤ sizeLine) (h : Q (.ref s.heap.objs.size) { s with heap := s.heap.push { cls := .type "tuple", data := .seq items.toList.reverse.toArray } }) : wpAny (model prog w) A (getItem (.ref t) (.ref sl)) Q E s := by
  have room : sizeOk (.seq items.toList.reverse.toArray) := by
    show items.toList.reverse.toArray.size ≤ sizeLine
    rw [List.size_toArray, List.length_reverse, Array.length_toList]
    exact hsz
  obtain ⟨os, a1, a2, a3⟩ := id hs
  have isS : s.TypeIs (.ref sl) "slice" := ⟨os, a1, a2⟩
  unfold getItem
  try with_reducible refine wpAny_holding ?_
  first | refine wpAny_bind (wpAny_pure ?_) | skip
  refine wpAny_bind (wpAny_sequenceKey ht.typeIs (by decide) (wpAny_bind (wpAny_callSpecial?_slot (name := Str.ofString "__getitem__") ht.typeIs PyProof.Rows.slot_tuple_getitem (wpAny_call_entry PyProof.Rows.slot_tuple_getitem ht.typeIs entry_tuple_getitem ?_ (args_tuple_getitem _ _)))))
  show wpAny _ _ (Builtin.Tuple.tupleItemsOf (.ref t) >>= _) _ _ s
  refine wpAny_bind (PyProof.Rows.tupleItemsOf_ ht (wpAny_bind (wpAny_typeOf isS ?_)))
  rw [if_pos (by decide)]
  refine wpAny_bind (applied_back hs pl pu ps ?_)
  have no : ¬ ((((items.size : Nat) : Int) - 1 == 0 && (-1 : Int) == 1 && items.size == items.size) = true) := by
    intro q
    rw [Bool.and_eq_true, Bool.and_eq_true] at q
    exact absurd q.1.2 (by decide)
  show wpAny _ _ (if (((items.size : Nat) : Int) - 1 == 0 && (-1 : Int) == 1 && items.size == items.size) = true then _ else _) _ _ s
  rw [if_neg no, pick_rev]
  first
    | exact wpAny_bind (m := Builtin.Tuple.tupleExact _) (wpAny_newObj_type (wpAny_pure ⟨_, rfl, wpAny_pure h⟩) room)
    | exact wpAny_bind (wpAny_bind (m := Builtin.Tuple.tupleExact _) (wpAny_newObj_type (wpAny_pure ⟨_, rfl, wpAny_pure h⟩) room))
end
section
variable {X : Cx}
def tRevT (K : PySem.W.Frag) (te : TE) : TE := fun σ H Q => te σ H fun x H1 => ∃ a xs, x = .ref a ∧ SqT K H1 a xs ∧ ∀ p, H1 p = none → Q (.ref p) (upd H1 p (.tup xs.reverse))
theorem pe_revT {e : Expr} {te : TE} {k : Nat} {p1 p2 p3 pos : Pos} (he : PE X e te) : PE X (.Subscript e (.Slice none none (some (.UnaryOp .USub (.Constant (.int 1) k p1) p2)) p3) pos) (tRevT X.K te) := by
  refine ⟨fun pins s σ H Q I h => Subscript_ (thn (he.run pins s σ H _ I h) fun v s1 ⟨x, H1, I1, r1, q1⟩ => ?_)⟩
  obtain ⟨a, xs, ex, hx, q⟩ := q1
  subst ex
  cases r1
  have back : PO X (some (.UnaryOp .USub (.Constant (.int 1) k p1) p2)) (tPart (tUn (rU fun i => .int (-i)) (tC (.int 1)))) := po_some (pe_un un_neg pe_int)
  refine wpAny_Slice (thn (po_none.run pins s1 σ H1 (fun o H2 => o = none ∧ H2 = H1) I1 ⟨rfl, rfl⟩) fun vl s2 ⟨l, H2, I2, pl, el, e2⟩ => ?_)
  subst el e2
  refine thn (po_none.run pins s2 σ H2 (fun o H3 => o = none ∧ H3 = H2) I2 ⟨rfl, rfl⟩) fun vu s3 ⟨u, H3, I3, pu, eu, e3⟩ => ?_
  subst eu e3
  refine thn (back.run pins s3 σ H3 (fun o H4 => o = some (-1) ∧ H4 = H3) I3 ⟨1, rfl, -1, rfl, rfl, rfl⟩) fun vs s4 ⟨o, H4, I4, ps, eo, e4⟩ => ?_
  subst eo e4
  have I5 : Inv X pins σ H4 { s4 with heap := s4.heap.push { cls := .type "slice", data := .fields #[vl, vu, vs] } } := I4.kept (t' := s4.toks) fun b ob z => Heap.get?_push_of_some _ z
  obtain ⟨its, r, ht, hz⟩ := I5.tuple hx
  have hlen := r.length
  show wpAny (model X.prog X.w) X.A (subscriptTail e (.Slice none none (some (.UnaryOp .USub (.Constant (.int 1) k p1) p2)) p3) (.ref a) (.ref s4.heap.objs.size)) (EP X pins σ Q) X.xe { s4 with heap := s4.heap.push { cls := .type "slice", data := .fields #[vl, vu, vs] } }
  refine tail_any (ops := [.ref a, .ref s4.heap.objs.size]) ht.typeIs (PyProof.Rows.slot_tuple_getitem.lookup) ?_ (by with_unfolding_all rfl)
  refine getItem_back (items := its.toArray) ht (Heap.IsSliceOf.new _ vl vu vs) pl pu ps (by rw [List.size_toArray]; omega) ?_
  refine ⟨.ref _, _, I5.laid (t' := s4.toks) (o := .tup xs.reverse) (fun b ob z => Heap.get?_push_of_some _ z) (Nat.le_refl _) ?_, rfl, q _ (I5.hok.fresh (Nat.le_refl _))⟩
  exact ⟨by rw [List.length_reverse]; exact hz, _, r.reverse, IsTup.new _ _⟩

/-! ### >= of tuples of ints -/
def rGeT (K : PySem.W.Frag) : R2 := fun x y H Q => ∃ (a b : Addr) (ns ms : List Int), x = .ref a ∧ y = .ref b ∧ SqT K H a (ns.map V.int) ∧ SqT K H b (ms.map V.int) ∧
  Q (.bl (Ob.lexAt (fun j => decide (ns.getD j 0 = ms.getD j 0)) (fun j => decide (ms.getD j 0 ≤ ns.getD j 0)) (decide (ns.length ≥ ms.length)) 0 (min ns.length ms.length))) H
theorem op_geT (hu : X.A.units < cLine) : OpR X (compareOp .GtE) (rGeT X.K) := by
  intro pins s σ H x y v u Q I rx ry h
  obtain ⟨a, b, ns, ms, rfl, rfl, ha, hb, q⟩ := h
  cases rx
  cases ry
  obtain ⟨its, r1, p1, _⟩ := I.tuple ha
  obtain ⟨its2, r2, p2, _⟩ := I.tuple hb
  have i1 : IntsAre its ns := Vals.ints r1
  have i2 : IntsAre its2 ms := Vals.ints r2
  have n1 : its.toArray.size = ns.length := by rw [List.size_toArray]; exact i1.length
  have n2 : its2.toArray.size = ms.length := by rw [List.size_toArray]; exact i2.length
  have g1 : ∀ j (z : j < its.toArray.size), ∃ t, its.toArray[j] = .int (ns.getD j 0) t := fun j z => PyProof.Rows.IntsAre.int_at i1 _ _ (by simp at z; simp [z])
  have g2 : ∀ j (z : j < its2.toArray.size), ∃ t, its2.toArray[j] = .int (ms.getD j 0) t := fun j z => PyProof.Rows.IntsAre.int_at i2 _ _ (by simp at z; simp [z])
  have main := Ob.RcOp.tuples_ge (A := X.A) (s := s) (e := fun j => decide (ns.getD j 0 = ms.getD j 0)) (r := fun j => decide (ms.getD j 0 ≤ ns.getD j 0)) p1 p2 hu (fun j z1 z2 => by
    obtain ⟨t, et⟩ := g1 j z1
    obtain ⟨t', et'⟩ := g2 j z2
    rw [et, et']
    have z : decide (ns.getD j 0 = ms.getD j 0) = (ns.getD j 0 == ms.getD j 0) := by
      by_cases c : ns.getD j 0 = ms.getD j 0
      · rw [decide_eq_true c]; exact (beq_iff_eq.mpr c).symm
      · rw [decide_eq_false c]; exact (beq_eq_false_iff_ne.mpr c).symm
    rw [z]
    exact SeqAt.EqAt.int_int _ _ _ _) (fun j z1 z2 _ => by
    obtain ⟨t, et⟩ := g1 j z1
    obtain ⟨t', et'⟩ := g2 j z2
    rw [et, et']
    exact Ob.RcOp.ge_int _ _ _ _)
  rw [n1, n2] at main
  show wpAny _ X.A (richCompare .GtE _ _) _ _ s
  exact main _ _ _ _ ⟨.bl _, H, I, rfl, q⟩

/-! ### sorted(set(t)) -/
end
section
variable {P : Program} {w : World} {A : Around} {E : Value → Shared → Prop} {s : Shared}
theorem sort_setI {a : Addr} {S : Int → Bool} {n : Nat} {Q : Value → Shared → Prop} (R : SetR w s.heap a S n) (hh : A.handled = none)
    (hQ : ∀ s' b (out : Array Value) (c : Nat) (ms : List Int), (∀ d o, s.heap.get? d = some o → s'.heap.get? d = some o) → s'.gens = s.gens → s'.os = s.os → s.heap.objs.size ≤ b → s'.heap.get? b = some (seqObj "list" out c) →
      IntsAre out.toList ms → ms.length = n → ms.Pairwise (· < ·) → (∀ k, k ∈ ms ↔ S k = true) → Q (.ref b) s') : wpAny (model P w) A (call (.builtin "sorted") [.ref a]) Q E s := by
  obtain ⟨o, es, ep, t, ho, hex, hd, gd, nd, mem, bd, fit, num, ris, led⟩ := R
  apply Calls.call_function_entry kind_sorted plain_sorted entry_sorted (args_sorted1 _)
  unfold Builtin.«sorted»
  apply wpAny_bind (m := checkCount "sorted" 1 1 _)
  apply wpAny_pure
  refine wpAny_bind (collect_set (A := A.in1) hh ⟨o, ho, hex.1, hd⟩ fit bd ris led fun s1 vs kp hz hg hos pm => ?_)
  have small : vs.length ≤ sizeLine := by
    rw [pm.length_eq, List.length_map, Array.length_toList, sizeLine_eq]
    unfold scanBound at bd
    omega
  have allI : ∀ v ∈ vs, ∃ i t, v = Value.int i t := fun v hv => by
    obtain ⟨e, he, rfl⟩ := List.mem_map.mp (pm.mem_iff.mp hv)
    obtain ⟨k, tk, e1⟩ := gd e he
    exact ⟨k, tk, e1.1⟩
  have isI := SrtO.ints_iv allI
  have ivs : (vs.map SrtO.iv).Perm (es.toList.map keyOf) := by
    have q := pm.map SrtO.iv
    rw [List.map_map] at q
    have e : (es.toList.map (SrtO.iv ∘ Prod.snd)) = es.toList.map keyOf := List.map_congr_left fun e he => by
      obtain ⟨k, tk, e1⟩ := gd e he
      show SrtO.iv e.2 = keyOf e
      unfold keyOf
      rw [e1.1]
      rfl
    rw [← e]
    exact q
  refine wpAny_bind (wpAny_newList ?_ small)
  have oL : (s1.heap.push (seqObj "list" vs.toArray 0)).get? s1.heap.objs.size = some (seqObj "list" vs.toArray 0) := Heap.get?_push_size _ rfl
  refine wpAny_bind (wpAny_holding (wpAny_call_entry (s := { s1 with heap := s1.heap.push (seqObj "list" vs.toArray 0) }) slot_list_sort ⟨_, oL, rfl⟩ entry_list_sort
    (SrtO.list_sort_ord SrtO.swo_int oL small (fun h2 => SrtO.ints_sortable isI h2) fun out sr sb => ⟨_, rfl, ?_⟩) (args_list_sort _)))
  obtain ⟨c, hc⟩ := sortedHeap_at (vs := vs) (out := out.toArray) oL
  obtain ⟨k1, k2, k3⟩ := SrtO.ints_out isI sr sb
  have k4 := k2.trans ivs
  have nd2 : (out.map SrtO.iv).Nodup := k4.nodup_iff.mpr nd
  refine wpAny_pure ⟨_, rfl, hQ _ s1.heap.objs.size out.toArray c (out.map SrtO.iv) (fun d u e => ?_) hg hos hz hc (by simpa using k1) ?_ ?_ fun k => ?_⟩
  · have q := kp d u e
    have lt := Heap.lt_size q
    exact (sortedHeap_old (Nat.ne_of_lt lt) (by rw [size_push']; exact Nat.lt_succ_of_lt lt)).trans (Heap.get?_push_of_some _ q)
  · rw [k4.length_eq, List.length_map, Array.length_toList]
    exact num
  · exact (k3.and nd2).imp fun {x y} z => by omega
  · rw [k4.mem_iff]
    exact (mem k).symm
end
section
variable {X : Cx}
def tSortSetT (K : PySem.W.Frag) (ta : TE) : TE := fun σ H Q => ta σ H fun x H1 => ∃ (l : Addr) (ns : List Int), x = V.ref l ∧ SqT K H1 l (ns.map V.int) ∧ ns.length ≤ 1000 ∧
  ∀ (ms : List Int) (p : Addr), ms.Pairwise (· < ·) → (∀ k, k ∈ ms ↔ k ∈ ns) → H1 p = none → Q (.ref p) (upd H1 p (.lst (ms.map V.int)))
theorem pe_sortSetT {a : Expr} {ta : TE} {p p2 q pos : Pos} (hc : X.calm = true) (hg : Gl X "sorted") (hm : X.mg "sorted" = none) (hg2 : Gl X "set") (hm2 : X.mg "set" = none) (hb : bootBuiltins ("sorted" : Str) = some (.builtin "sorted")) (ha : PE X a ta)
    (na : starEach [a] X.env = (false, eval a X.env) :: starEach [] X.env := by rfl) : PE X (.Call (.Name "sorted" p) [.Call (.Name "set" p2) [a] [] q] [] pos) (tSortSetT X.K ta) := by
  refine ⟨fun pins s σ H Q I h => ?_⟩
  refine Call_ (ld_blt I hg hm hb ?_)
  refine PyProof.Rows.callWith_builtin1 (PyProof.Rows.args_cons ?_ rfl) rfl rfl
  refine Call_ (ld_blt I hg2 hm2 PyProof.Rows.boot_set ?_)
  refine PyProof.Rows.callWith_type1 (PyProof.Rows.args_cons (thn (ha.run pins s σ H _ I h) fun v s1 ⟨x, H1, I1, r1, q1⟩ => PyProof.Rows.args_nil ?_) na) na rfl
  obtain ⟨l, ns, rfl, hq, h1, q1⟩ := q1
  cases r1
  obtain ⟨its, r, pt, hz⟩ := I1.tuple hq
  have hi : IntsAre its.toArray.toList ns := ints_of_vals r
  refine call_set_tupI ns (I1.ok.hd hc) (show s1.heap.IsTuple l its.toArray from pt) hi (by unfold scanBound; omega) fun h' tk c R1 hcn k => ?_
  refine PyProof.Rows.args_nil ?_
  have I2 : Inv X pins σ H1 { s1 with heap := h', toks := tk } := I1.kept fun b o e => k b o e
  refine sort_setI R1 (I2.ok.hd hc) fun s' b out c2 ms kp g o hb2 hgt hout hlen pw hmem => ?_
  have len : (ms.map V.int).length ≤ sizeLine := by
    rw [List.length_map, sizeLine_eq]
    omega
  have hn : H1 b = none := I2.hok.fresh hb2
  have J := I2.call (ch := []) (h' := s'.heap) (g' := s'.gens) (d' := s'.drawn) (t' := s'.toks) (H' := upd H1 b (.lst (ms.map V.int))) (Un.laid kp hb2 hn) (I2.hok.laid kp hb2 ⟨len, out.toList, c2, vals_of_ints hout, hgt⟩) (by rw [g]; exact I2.bare) (fun _ z => nomatch z)
  have e : s' = { ({ s1 with heap := h', toks := tk } : Shared) with heap := s'.heap, gens := s'.gens, drawn := s'.drawn, toks := s'.toks } := by
    cases s'; cases s1; cases o; rfl
  rw [e]
  exact ⟨.ref b, _, J, rfl, q1 ms b pw (fun k => by rw [hmem, decide_eq_true_eq]) hn⟩

/-! ### a chain of three -/
def tChain3 (r r' r2 : R2) (ta tb tc td : TE) : TE := fun σ H Q => ta σ H fun x H1 => tb σ H1 fun y H2 => r x y H2 fun z H3 => ∃ k, z = .bl k ∧ (if k = true then
    tc σ H3 fun z1 H4 => r' y z1 H4 fun z2 H5 => ∃ k2, z2 = .bl k2 ∧ (if k2 = true then td σ H5 fun z3 H6 => r2 z1 z3 H6 Q else Q (.bl false) H5) else Q (.bl false) H3)
theorem pe_chain3 {a b c d : Expr} {ta tb tc td : TE} {pos : Pos} {op op' op2 : CmpOp} {r r' r2 : R2} (ho : OpR X (compareOp op) r) (ho' : OpR X (compareOp op') r') (ho2 : OpR X (compareOp op2) r2) (ha : PE X a ta) (hb : PE X b tb) (hc : PE X c tc) (hd : PE X d td)
    (hm : lastMarks [op, op', op2] [b, c, d] = false := by with_unfolding_all rfl) : PE X (.Compare a [op, op', op2] [b, c, d] pos) (tChain3 r r' r2 ta tb tc td) := by
  refine ⟨fun pins s σ H Q I h => ?_⟩
  refine Compare_chain (thn (ha.run pins s σ H _ I h) fun v s1 ⟨x, H1, I1, r1, q1⟩ => chain_link (thn (hb.run pins s1 σ H1 _ I1 q1) fun u s2 ⟨y, H2, I2, r2', q2⟩ =>
    thn (ho pins s2 σ H2 x y v u _ I2 r1 r2' q2) fun d1 s3 ⟨z, H3, I3, r3, k, e, q3⟩ => ?_)) hm
  subst e
  cases r3
  refine wpAny_truthy_bool ?_
  cases k with
  | false => exact ite_ff ⟨.bl false, H3, I3, rfl, q3⟩
  | true =>
    refine ite_tt (chain_link (thn (hc.run pins s3 σ H3 _ I3 q3) fun w1 s4 ⟨z1, H4, I4, r4, q4⟩ => thn (ho' pins s4 σ H4 y z1 u w1 _ I4 r2' r4 q4) fun d2 s5 ⟨z2, H5, I5, r5, k2, e2, q5⟩ => ?_))
    subst e2
    cases r5
    refine wpAny_truthy_bool ?_
    cases k2 with
    | false => exact ite_ff ⟨.bl false, H5, I5, rfl, q5⟩
    | true => exact ite_tt (chain_last (thn (hd.run pins s5 σ H5 _ I5 q5) fun w2 s6 ⟨z3, H6, I6, r6, q6⟩ => ho2 pins s6 σ H6 z1 z3 w1 w2 Q I6 r4 r6 q6))
end
end Bx

set_option Elab.async false
set_option linter.all false
set_option maxRecDepth 100000
set_option maxHeartbeats 4000000
namespace Wd
open PySem PySem.Spec PyProof.Rows L2 Bx Gx

























































section
variable {P : Program} {w : World} {K : PySem.W.Frag} {mg : Str → Option Value} {base : Heap}
/-! ### the law's own look at a serving, of any value -/
theorem call_isiB {X : Cx} {K : PySem.W.Frag} (h : X.K = K) : CallR X (.builtin "isinstance") (rIsi K) := h ▸ call_isi
theorem eqvAll_intsX : ∀ r u : List Int, PyData.eqvAll (r.map .int) (u.map .int) = decide (r = u)
  | [], [] => by simp [PyData.eqvAll]
  | a :: r, [] => by simp [PyData.eqvAll]
  | [], b :: u => by simp [PyData.eqvAll]
  | a :: r, b :: u => by
    rw [List.map_cons, List.map_cons, PySem.W.eqv_all_cons, eqvAll_intsX r u]
    have : PyData.eqv (.int a) (.int b) = decide (a = b) := by
      simp only [PyData.eqv]
      by_cases h : a = b
      · subst h; simp
      · rw [decide_eq_false h]
        simp
        omega
    rw [this]
    by_cases h : a = b
    · subst h; simp
    · simp [h]
theorem dpAll_push {H : Hp} {ys : List V} {ds : List PyData} {v : V} {d : PyData} {D : Addr} (h : DpAll K H ys ds) (hv : Dp K H v d) (x : Ext H H) : DpAll K H (ys ++ [v]) (ds ++ [d]) := dpAll_app h (.cons hv .nil)
/-- ints within, in the sequence of places, are a lot exactly if sorted without twins they are the same -/
theorem lot_sorted {n : Nat} {ds : List PyData} (hi : (ds.all fun x => isIntD 0 ((n : Int) - 1) x) = true) {ms : List Int} (pw : ms.Pairwise (· < ·)) (hm : ∀ k, k ∈ ms ↔ k ∈ ds.map intD) : ds.map intD = ms ↔ asc (ds.map intD) = true := by
  constructor
  · intro e
    rw [e]
    exact pair_asc pw
  · intro h
    have h2 := asc_pair h
    have nd1 : (ds.map intD).Nodup := h2.imp fun z => by omega
    have nd2 : ms.Nodup := pw.imp fun z => by omega
    have pm : (ds.map intD).Perm ms := (List.perm_ext_iff_of_nodup nd1 nd2).mpr fun k => (hm k).symm
    exact pm.eq_of_pairwise (fun a b _ _ h1 h2 => by omega) h2 pw
theorem sh_get {n : Nat} {ds : List PyData} (h : Sh (n + 1) (.tuple ds)) : ∀ d ∈ ds, Sh n d := fun d hd => by
  obtain ⟨h1, h2⟩ := h
  refine ⟨canLay_get ?_ d hd, ?_⟩
  · simpa [PyData.canLay0] using h1
  · simp only [PyData.depth] at h2
    exact depth_get (by omega) d hd
def spLServing (K : PySem.W.Frag) : Sp := fun vs H Q _ => ∃ (l v : V) (t u : Addr) (fs : List Int) (bs : List (Nat × Nat)) (hs ss : List Nat) (d : PyData), vs = [l, .ref t, .ref u, v] ∧ Dp K H l (landD fs bs) ∧ LandOk fs bs ∧ SqT K H t (vsN hs) ∧ SqT K H u (vsN ss) ∧ WishOk fs.length hs ss ∧ Dp K H v d ∧ smD d = true ∧ Sh 20 d ∧ ∀ H', Ext H H' → Q (.bl (servB fs.length bs hs ss d)) H'
abbrev lis_servingN : List Str := ["land", "heads", "sizes", "value", "seen", "k", "lot", "one"]
theorem sc_lserving : FnScope lis_servingN ["land", "heads", "sizes", "value"] (defScope st__law_is_serving) := ⟨rfl, rfl, rfl, by decide +kernel, rfl, by decide +kernel, by decide +kernel⟩
theorem ok_lserving {f : Addr} {fd : FuncData} (F : Fun K "_law_is_serving" "_law_is_serving" st__law_is_serving f fd) (B : Bl mg) (c__law_hangs : Cal P w K mg base 3 "_law_hangs" ["land", "lot"] (spHangsW K)) : FnOk P w K mg base CX0 4 f fd ["land", "heads", "sizes", "value"] (spLServing K) := by
  refine F.ok sc_lserving (fun vs H Q E h => ?_) (fun cdv A outer s H vs Q E hr h => ?_)
  · obtain ⟨l, v, t, u, fs, bs, hs, ss, d, rfl, _⟩ := h
    rfl
  · obtain ⟨l, v, t, u, fs, bs, hs, ss, d, rfl, hl, ok, ht, hu, wo, hv, hsm, hsh, k⟩ := h
    have nd := sc_lserving.nd
    refine ⟨_, pss_cons (ps_if (PW.pt (pw_or (pt_not (pt_val (pe_callB call_isi (by rfl) B.isinstance (by decide +kernel) (pa_cons (pv 3) (pa_cons (pe_bltn rfl B.tuple (by decide +kernel) (v := .ty "tuple") rfl) pa_nil))) (by intro _; rfl))) (pw_or1 (pt_cmpR op_ne (pe_callB call_len (by rfl) B.len PySem.boot_len (pa_cons (pv 3) pa_nil)) (pe_callB call_len (by rfl) B.len PySem.boot_len (pa_cons (pv 1) pa_nil)) (nomark _))))) (pss_one (ps_ret pe_bl)) pss_nil)
      (pss_cons (ps_set (i := 4) nd rfl (Or.inl rfl) (pe_lst pa_nil))
      (pss_cons (ps_for PassesOwn.never rfl (pi_range1 rfl B.range (pa_cons (pe_callB call_len (by rfl) B.len PySem.boot_len (pa_cons (pv 1) pa_nil)) pa_nil)) (pg_name (i := 5) nd rfl (Or.inl rfl))
        (pss_cons (ps_set (i := 6) nd rfl (Or.inl rfl) (pe_ix ix_tup (pv 3) (pv 5) (fun _ _ => rfl)))
        (pss_cons (ps_if (PW.pt (pw_or (pt_not (pt_val (pe_callB call_isi (by rfl) B.isinstance (by decide +kernel) (pa_cons (pv 6) (pa_cons (pe_bltn rfl B.tuple (by decide +kernel) (v := .ty "tuple") rfl) pa_nil))) (by intro _; rfl))) (pw_or1 (pt_cmpR (op_neD hr.units) (pe_lc (own := [("one", 7)]) (g := gName 7) (by rfl) nd (pi_tup (pv 6)) (blkOk_by (own := [("one", 7)]) (N := ["land", "heads", "sizes", "value", "seen", "k", "lot", "one"]) (sc := defScope st__law_is_serving) (by decide +kernel)) (fun _ _ _ _ _ => pg_name (i := 7) nd rfl (Or.inl rfl)) (fun _ _ _ _ _ => pts_one (PW.pt (pw_or (pt_not (pt_val (pe_callB (call_isiB (K := K) rfl) (by rfl) B.isinstance (by decide +kernel) (pa_cons (pv 7) (pa_cons (pe_bltn rfl B.int (by decide +kernel) (v := .ty "int") rfl) pa_nil))) (by intro _; rfl))) (pw_or (pt_val (pe_callB (call_isiB (K := K) rfl) (by rfl) B.isinstance (by decide +kernel) (pa_cons (pv 7) (pa_cons (pe_bltn rfl B.bool (by decide +kernel) (v := .ty "bool") rfl) pa_nil))) (by intro _; rfl)) (pw_or1 (pt_not (pt_chain op_le op_lt pe_int (pv 7) (pe_callB (call_lenKB (K := K) rfl) (by rfl) B.len PySem.boot_len (pa_cons (pe_ix (ix_tupK (K := K) rfl) (pv 0) pe_int (fun _ _ => rfl)) pa_nil))))))))) (fun _ _ _ _ _ => pv 7)) (pe_lst pa_nil) (nomark _))))) (pss_one (ps_ret pe_bl)) pss_nil)
        (pss_cons (ps_if (PW.pt (pw_or (pt_cmpR (op_neD hr.units) (pe_callTy call_list_of rfl B.list (by decide +kernel) (pa_cons (pv 6) pa_nil)) (pe_sortSetT rfl rfl B.sorted rfl B.set (by decide +kernel) (pv 6)) (nomark _)) (pw_or (pt_cmpR op_ne (pe_callB call_len (by rfl) B.len PySem.boot_len (pa_cons (pv 6) pa_nil)) (pe_ix ix_tup (pv 2) (pv 5) (fun _ _ => rfl)) (nomark _)) (pw_or (pt_cmpR op_notIn_seq (pe_ix ix_tup (pv 1) (pv 5) (fun _ _ => rfl)) (pv 6) (by rfl)) (pw_or1 (pt_not (pt_val (pe_cal c__law_hangs (hr.mono (by decide)) rfl (pa_cons (pv 0) (pa_cons (pv 6) pa_nil))) (by intro _; rfl)))))))) (pss_one (ps_ret pe_bl)) pss_nil)
        (pss_one (ps_set (i := 4) nd rfl (Or.inl rfl) (pe_op op_cat (pv 4) (pe_callTy call_list_of rfl B.list (by decide +kernel) (pa_cons (pv 6) pa_nil)))))))))
      (pss_one (ps_ret (pe_cmpR (op_eqD hr.units) (pe_callB cr_sorted (by rfl) B.sorted (by decide +kernel) (pa_cons (pv 4) pa_nil)) (pe_listRg rfl rfl B.list (prg_1 rfl B.range (pe_callB call_len (by rfl) B.len PySem.boot_len (pa_cons (pe_ix ix_tup (pv 0) pe_int (fun _ _ => rfl)) pa_nil)))) (nomark _)))))), ?_⟩
    have h12 := ok.most
    have hbl := bs_len ok.most ok.bord ok.asc
    have kk := fun T (hT : T ∈ ["NoneType", "bool", "int", "str", "list", "tuple"]) U hU => kit_in (K := K) T U hT hU
    have isT : ∀ {v : V} {d : PyData} {H : Hp}, Dp K H v d → ∃ bT, TyX K H v (.type (tyName d)) ∧ PySem.W.kitOne K (.type (tyName d)) (.type "tuple") = some bT ∧ (bT = true ↔ tyName d = "tuple") := fun {v d H} hv => by
      obtain ⟨tv, hin⟩ := tyX_dp hv
      refine ⟨_, tv, kk _ hin "tuple" (by simp), ?_⟩
      rw [decide_eq_true_eq]
      exact ⟨fun z => z.elim (fun z => z) fun z => absurd z.2 (by decide), .inl⟩
    obtain ⟨bT, tv, hbT, hT⟩ := isT hv
    refine ⟨_, rfl, _, _, _, _, _, rfl, .ty "tuple", tv, hbT, bT, rfl, ?_⟩
    rcases (tup_dp hv).symm with ⟨_, _, _, _, hno⟩ | ⟨ds, a, xs, rfl, rfl, h1, h2⟩
    · have hbf : bT = false := by
        cases z : bT with
        | false => rfl
        | true =>
          have := hT.mp z
          exfalso
          cases d with
          | tuple ds => exact hno ds rfl
          | _ => simp [tyName] at this
      subst hbf
      refine iteT (iteT ?_)
      have q := k H (.refl H)
      rw [servB_not hno] at q
      exact q
    · have hbt : bT = true := hT.mpr rfl
      subst hbt
      have hlen := dpAll_len h2
      obtain ⟨hds, hsms⟩ := smD_seq (ds := ds) (.inr rfl) hsm
      refine iteF ⟨_, rfl, _, ds.length, rfl, .inr ⟨_, h1, hlen.symm⟩, _, rfl, _, hs.length, rfl, .inr ⟨_, ht, (vsN_len hs).symm⟩, rfl, _, rfl, ?_⟩
      by_cases hle : ¬ ds.length = hs.length
      · rw [show (!decide (V.int (ds.length : Int) = V.int (hs.length : Int))) = true by
          rw [decide_eq_false]
          · rfl
          · intro z
            injection z with z
            exact hle (by omega)]
        refine iteT ?_
        have q := k H (.refl H)
        rw [servB_len hle] at q
        exact q
      have hle := Classical.not_not.mp hle
      rw [show (!decide (V.int (ds.length : Int) = V.int (hs.length : Int))) = false by rw [hle]; simp]
      refine iteF ⟨Nat.zero_le _, fun sn hsn => ?_⟩
      have x1 : Ext H (upd H sn (.lst [])) := .new hsn
      have hsn1 : (upd H sn (.lst [])) sn = some (.lst (vsN [])) := upd_same
      generalize upd H sn (.lst []) = H1 at x1 hsn1 ⊢
      dsimp only [gName, tSeq, List.set, L2.start, List.map, List.replicate, List.append, List.length]
      refine ⟨_, rfl, _, hs.length, rfl, .inr ⟨_, x1.sqT ht, (vsN_len hs).symm⟩, _, rfl, by have := wo.most; omega, by have := wo.most; omega, for_range (lo := 0) (n := (hs.length : Int).toNat) (fun i σ H3 => ∃ (q : Addr) (o5 o6 o7 : Option V), σ = [some l, some (.ref t), some (.ref u), some (.ref a), some (.ref q), o5, o6, o7] ∧ Ext H H3 ∧ H q = none ∧ H3 q = some (.lst (vsN ((ds.take i).map natsD).flatten)) ∧ (∀ j, j < i → wardB fs.length bs (hs.getD j 0) (ss.getD j 0) (ds.getD j .none) = true))
        ⟨sn, _, _, _, rfl, x1, hsn, hsn1, fun j hj => absurd hj (Nat.not_lt_zero j)⟩ ?_ ?_⟩
      · rintro i σ H3 hi ⟨q, o5, o6, o7, rfl, x3, hq0, hq, hok⟩
        rw [Int.toNat_natCast] at hi
        rw [Int.zero_add]
        have hi' : i < ds.length := by omega
        have his : i < ss.length := by have := wo.len; omega
        obtain ⟨wv, hwv, hdw⟩ := dpAll_get h2 (List.getElem?_eq_getElem hi')
        have egi : ds.getD i .none = ds[i] := by rw [List.getD_eq_getElem?_getD, List.getElem?_eq_getElem hi']; rfl
        have ehi : hs.getD i 0 = hs[i] := by rw [List.getD_eq_getElem?_getD, List.getElem?_eq_getElem hi]; rfl
        have esi : ss.getD i 0 = ss[i] := by rw [List.getD_eq_getElem?_getD, List.getElem?_eq_getElem his]; rfl
        have hsmi := smDs_get hsms _ (List.getElem_mem hi')
        have hshi := sh_get hsh _ (List.getElem_mem hi')
        have efl := take_flat hi'
        have out : wardB fs.length bs (hs.getD i 0) (ss.getD i 0) (ds.getD i .none) = false → ∀ H', Ext H H' → Q (.bl false) H' := fun hb H' x => by
          have q := k H' x
          rw [servB_bad hi' hb] at q
          exact q
        have elot : lotB fs.length ds[i] = false → wardB fs.length bs (hs.getD i 0) (ss.getD i 0) (ds.getD i .none) = false := fun z => by
          unfold wardB
          rw [egi, z]
          rfl
        have et : ∀ b : Bool, lotB fs.length ds[i] = true → (decide (hs[i] ∈ natsD ds[i]) && (decide ((natsD ds[i]).length = ss[i]) && hangB bs (natsD ds[i]))) = b → wardB fs.length bs (hs.getD i 0) (ss.getD i 0) (ds.getD i .none) = b := fun b h1 h2 => by
          unfold wardB
          rw [egi, ehi, esi, h1, h2]
          rfl
        rw [efl]
        generalize ds[i] = e at hdw hsmi hshi elot et
        dsimp only [gName, tSeq, List.set]
        refine ⟨_, rfl, _, rfl, a, _, _, _, rfl, rfl, x3.sqT h1, atI_nat hwv, ?_⟩
        have hdw3 := dp_ext x3 hdw
        obtain ⟨bW, tw, hbW, hW⟩ := isT hdw3
        dsimp only [gName, tSeq, List.set]
        refine ⟨_, rfl, _, _, _, _, _, rfl, .ty "tuple", tw, hbW, bW, rfl, ?_⟩
        rcases (tup_dp hdw3).symm with ⟨_, _, _, _, hno⟩ | ⟨es, b, zs, rfl, rfl, g1, g2⟩
        · have hbf : bW = false := by
            cases z : bW with
            | false => rfl
            | true =>
              have := hW.mp z
              exfalso
              cases e with
              | tuple ds => exact hno ds rfl
              | _ => simp [tyName] at this
          subst hbf
          exact iteT (iteT (out (elot (lotB_not hno)) H3 x3))
        have hbt : bW = true := hW.mpr rfl
        subst hbt
        have gl := dpAll_len g2
        obtain ⟨hes, hsme⟩ := smD_seq (ds := es) (.inr rfl) hsmi
        refine iteF ⟨_, rfl, b, rfl, ⟨_, g1⟩, fun D hD => ?_⟩
        refine lc_tup (K := K) (a := b) (xs := zs) (fun j H4 => (∃ ys, H4 D = some (.lst ys) ∧ DpAll K H3 ys ((es.take j).filter fun x => !isIntD 0 ((fs.length : Int) - 1) x)) ∧ Ext H3 H4) ⟨⟨[], upd_same, .nil⟩, .new hD⟩ (fun j H4 _ ⟨_, x4⟩ => x4.sqT g1) (fun j y H4 hy ⟨⟨ys, e4, hys⟩, x4⟩ => ?_) (fun H4 ⟨⟨ys, e4, hys⟩, x4⟩ => ?_)
        · obtain ⟨e0, he0, hy0⟩ := dpAll_get' g2 hy
          have hjl : j < es.length := (List.getElem?_eq_some_iff.mp he0).1
          have ej : es.take (j + 1) = es.take j ++ [e0] := by rw [List.take_add_one, he0]; rfl
          have hylen := dpAll_len hys
          have hfl := List.length_filter_le (fun x => !isIntD 0 ((fs.length : Int) - 1) x) (es.take j)
          rw [List.length_take] at hfl
          rw [ej]
          obtain ⟨tz, hzin⟩ := tyX_dp (dp_ext x4 hy0)
          have keep : isIntD 0 ((fs.length : Int) - 1) e0 = false → ∃ as, H4 D = some (.lst as) ∧ as.length < sizeLine ∧ (∃ ys, (upd H4 D (.lst (as ++ [y]))) D = some (.lst ys) ∧ DpAll K H3 ys ((es.take j ++ [e0]).filter fun x => !isIntD 0 ((fs.length : Int) - 1) x)) ∧ Ext H3 (upd H4 D (.lst (as ++ [y]))) := fun hf => by
            refine ⟨ys, e4, small1000 (by omega), ⟨ys ++ [y], upd_same, ?_⟩, x4.write hD⟩
            rw [List.filter_append, List.filter_cons_of_pos (by rw [hf]; rfl)]
            exact dpAll_app hys (.cons hy0 .nil)
          have isI : ∃ bI bB, PySem.W.kitOne K (.type (tyName e0)) (.type "int") = some bI ∧ PySem.W.kitOne K (.type (tyName e0)) (.type "bool") = some bB ∧ ((bI = true ∧ bB = false) ↔ ∃ z, e0 = .int z) := ⟨_, _, kk _ hzin "int" (by simp), kk _ hzin "bool" (by simp), by
            rw [decide_eq_true_eq, decide_eq_false_iff_not]
            cases e0 <;> simp [tyName]⟩
          obtain ⟨bI, bB, hI, hB, hiff⟩ := isI
          have noint : ¬ (∃ z, e0 = .int z) → isIntD 0 ((fs.length : Int) - 1) e0 = false := fun hn => by
            cases e0 with
            | int z => exact absurd ⟨z, rfl⟩ hn
            | _ => rfl
          refine ⟨rfl, _, rfl, _, _, _, _, _, rfl, .ty "int", tz, hI, bI, rfl, ?_⟩
          cases bI with
          | false => exact iteT (iteT ⟨_, rfl, keep (noint fun z => absurd (hiff.mpr z).1 (by decide))⟩)
          | true =>
            refine iteF ⟨_, rfl, _, _, _, _, _, rfl, .ty "bool", tz, hB, bB, rfl, ?_⟩
            cases bB with
            | true => exact iteT (iteT ⟨_, rfl, keep (noint fun z => absurd (hiff.mpr z).2 (by decide))⟩)
            | false =>
              obtain ⟨z, rfl⟩ := hiff.mp ⟨rfl, rfl⟩
              obtain rfl := dp_int hy0
              obtain ⟨al, af, vb, rfl, hl1, hl2, hl3⟩ := dp_land hl
              have x34 := x3.trans x4
              have drop : isIntD 0 ((fs.length : Int) - 1) (.int z) = true → (∃ ys, H4 D = some (.lst ys) ∧ DpAll K H3 ys ((es.take j ++ [PyData.int z]).filter fun x => !isIntD 0 ((fs.length : Int) - 1) x)) ∧ Ext H3 H4 := fun hf => by
                refine ⟨⟨ys, e4, ?_⟩, x4⟩
                rw [List.filter_append, List.filter_cons_of_neg (by rw [hf]; simp)]
                simpa using hys
              refine iteF ⟨_, rfl, _, _, rfl, rfl, _, rfl, ite2 (fun h0 => ?_) (fun h0 => ?_)⟩
              · have h0 := of_decide_eq_true h0
                refine ⟨_, rfl, al, _, _, _, rfl, rfl, x34.sqT hl1, atI_nat (j := 0) rfl, _, fs.length, rfl, .inr ⟨_, x34.sqT hl2, by simp⟩, _, _, rfl, rfl, _, rfl, ?_⟩
                by_cases hzn : z < (fs.length : Int)
                · rw [decide_eq_true hzn]
                  exact iteF (drop (decide_eq_true ⟨h0, by omega⟩))
                · rw [decide_eq_false hzn]
                  exact iteT ⟨_, rfl, keep (decide_eq_false fun h => hzn (by omega))⟩
              · have h0 : ¬ (0 : Int) ≤ z := fun y => h0 (decide_eq_true y)
                refine ⟨_, rfl, ?_⟩
                exact iteT ⟨_, rfl, keep (decide_eq_false fun h => h0 h.1)⟩
        · rw [gl, List.take_length] at hys
          refine ⟨Nat.zero_le _, fun z0 hz0 => ?_⟩
          have x5 : Ext H4 (upd H4 z0 (.lst [])) := .new hz0
          have x45 := x4.trans x5
          have x05 := x3.trans x45
          have hysl := dpAll_len hys
          have hfl := List.length_filter_le (fun x => !isIntD 0 ((fs.length : Int) - 1) x) es
          have shf : Sh 19 (.list (es.filter fun x => !isIntD 0 ((fs.length : Int) - 1) x)) := .lst fun d hd => sh_get (n := 18) hshi d (List.mem_filter.mp hd).1
          refine ⟨.list (es.filter fun x => !isIntD 0 ((fs.length : Int) - 1) x), .list [], .lst (SqL.of (x5.lst e4)) (dpAll_ext x45 hys), .lst (SqL.of upd_same) .nil, shf.shaped (by decide), (Sh.lst (n := 0) (fun d hd => by cases hd)).shaped (by decide), _, rfl, ?_⟩
          rw [eqv_nil]
          generalize upd H4 z0 (.lst []) = H5 at x5 x45 x05 ⊢
          cases hall : es.all (fun x => isIntD 0 ((fs.length : Int) - 1) x) with
          | false =>
            have e1 : (es.filter fun x => !isIntD 0 ((fs.length : Int) - 1) x).isEmpty = false := by
              obtain ⟨x, hx, hn⟩ := List.all_eq_false.mp hall
              cases hf : (es.filter fun x => !isIntD 0 ((fs.length : Int) - 1) x) with
              | nil =>
                have : x ∈ es.filter fun x => !isIntD 0 ((fs.length : Int) - 1) x := List.mem_filter.mpr ⟨hx, by simpa using hn⟩
                rw [hf] at this
                cases this
              | cons _ _ => rfl
            rw [e1]
            refine iteT (out (elot ?_) H5 x05)
            show (!es.isEmpty && (es.all fun x => isIntD 0 ((fs.length : Int) - 1) x) && asc (es.map intD)) = false
            rw [hall]
            simp
          | true =>
            have e1 : (es.filter fun x => !isIntD 0 ((fs.length : Int) - 1) x).isEmpty = true := by
              rw [List.filter_eq_nil_iff.mpr fun x hx => by simpa using List.all_eq_true.mp hall x hx]
              rfl
            rw [e1]
            refine iteF ?_
            have eis := ints_of_all hall
            have ezs : zs = (es.map intD).map V.int := dpAll_ints (by rw [← eis]; exact g2)
            have g15 := x45.sqT g1
            refine ⟨_, rfl, b, zs, rfl, .inr g15, fun l1 hl1 => ⟨_, rfl, b, es.map intD, rfl, by rw [← ezs]; exact (Ext.new hl1).sqT g15, by rw [List.length_map]; omega, fun ms p pw hm hp => ?_⟩⟩
            have x6 := (Ext.new hl1 (o := .lst zs)).trans (.new (o := .lst (ms.map V.int)) hp)
            have x06 := x05.trans x6
            refine ⟨.list ((es.map intD).map .int), .list (ms.map .int), .lst (SqL.of (by rw [← ezs]; exact (Ext.new hp).lst upd_same)) (dpAll_of_ints _), .lst (SqL.of upd_same) (dpAll_of_ints _), (Sh.ints (n := 0) _).shaped (by decide), (Sh.ints (n := 0) _).shaped (by decide), _, rfl, ?_⟩
            rw [show PyData.eqv (.list ((es.map intD).map PyData.int)) (.list (ms.map PyData.int)) = decide (es.map intD = ms) from eqvAll_intsX _ _]
            have g16 := x6.sqT g15
            generalize upd (upd H5 l1 (.lst zs)) p (.lst (ms.map V.int)) = H6 at x6 x06 g16 ⊢
            have has := lot_sorted hall pw hm
            have elb : lotB fs.length (.tuple es) = (!es.isEmpty && asc (es.map intD)) := by
              show (!es.isEmpty && (es.all fun x => isIntD 0 ((fs.length : Int) - 1) x) && asc (es.map intD)) = _
              rw [hall, Bool.and_true]
            by_cases hms : ¬ (es.map intD = ms)
            · rw [decide_eq_false hms]
              refine iteT (iteT (out (elot ?_) H6 x06))
              rw [elb]
              cases ha : asc (es.map intD) with
              | false => simp
              | true => exact absurd (has.mpr ha) hms
            have hms := Classical.not_not.mp hms
            have ha := has.mp hms
            rw [decide_eq_true hms]
            refine iteF ⟨_, rfl, _, es.length, rfl, .inr ⟨_, g16, gl.symm⟩, _, rfl, _, rfl, u, _, _, _, rfl, rfl, x06.sqT hu, atI_nat (vsN_at his), rfl, _, rfl, ?_⟩
            by_cases hsz : ¬ es.length = ss[i]
            · rw [show (!decide (V.int (es.length : Int) = V.int ((ss[i] : Nat) : Int))) = true by
                rw [decide_eq_false]
                · rfl
                · intro z
                  injection z with z
                  exact hsz (by omega)]
              refine iteT (iteT (out ?_ H6 x06))
              cases hlb : lotB fs.length (.tuple es) with
              | false => exact elot hlb
              | true =>
                refine et _ hlb ?_
                rw [decide_eq_false (show ¬ (natsD (.tuple es)).length = ss[i] from fun z => hsz (by rw [← z]; show es.length = (es.map _).length; rw [List.length_map]))]
                simp
            have hsz := Classical.not_not.mp hsz
            rw [show (!decide (V.int (es.length : Int) = V.int ((ss[i] : Nat) : Int))) = false by rw [hsz]; simp]
            have hpos := wo.pos _ (List.getElem_mem his)
            have hlb : lotB fs.length (.tuple es) = true := by
              rw [elb, ha]
              cases es with
              | nil => simp at hsz; omega
              | cons _ _ => rfl
            obtain ⟨ed, lo⟩ := lotB_ok hlb
            have hlen' : (natsD (.tuple es)).length = ss[i] := by rw [← hsz]; show (es.map _).length = _; rw [List.length_map]
            have g2' : DpAll K H3 zs ((natsD (.tuple es)).map fun (p : Nat) => PyData.int (p : Int)) := by
              have e3 : es = (natsD (.tuple es)).map fun (p : Nat) => PyData.int (p : Int) := by
                have e4 := ed
                unfold lotD at e4
                injection e4
              rw [← e3]
              exact g2
            have ezn : zs = vsN (natsD (.tuple es)) := by
              have := dpAll_ints (ns := (natsD (.tuple es)).map fun (p : Nat) => (p : Int)) (by rw [List.map_map]; exact g2')
              rw [this, vsN_int]
            generalize natsD (.tuple es) = U at lo hlen' ezn et efl
            rw [ezn] at g16
            refine iteF ⟨_, rfl, _, rfl, t, _, _, _, rfl, rfl, x06.sqT ht, atI_nat (vsN_at hi), _, rfl, b, _, rfl, .inr g16, rfl, flat_vsN U, _, rfl, ?_⟩
            rw [if_pos rfl, inV_vsN]
            by_cases hh : ¬ hs[i] ∈ U
            · rw [decide_eq_false hh]
              refine iteT (iteT (out (et _ hlb ?_) H6 x06))
              rw [decide_eq_false hh]
              rfl
            have hh := Classical.not_not.mp hh
            rw [decide_eq_true hh]
            refine iteF ⟨_, rfl, _, rfl, l, b, fs, bs, U, rfl, dp_ext x06 hl, h12, ok.bord, by omega, g16, lo, fun H7 x7 => ?_⟩
            have x07 := x06.trans x7
            cases hhb : hangB bs U with
            | false =>
              refine ⟨false, rfl, iteT (out (et _ hlb ?_) H7 x07)⟩
              rw [hhb]
              simp
            | true =>
              refine ⟨true, rfl, iteF ?_⟩
              have wok := et _ hlb (show _ = true by rw [decide_eq_true hh, decide_eq_true hlen', hhb]; rfl)
              have hq7 := ((x45.trans x6).trans x7).lst hq
              have hol : ((ds.take i).map natsD).flatten.length ≤ 12 * 500 := by
                have key : ∀ l : List PyData, (∀ d ∈ l, (natsD d).length ≤ 500) → ((l.map natsD).flatten).length ≤ l.length * 500 := fun l => by
                  induction l with
                  | nil => intro _; exact Nat.zero_le _
                  | cons x l ih =>
                    intro hx
                    have h1 := hx x List.mem_cons_self
                    have h2 := ih fun d hd => hx d (List.mem_cons_of_mem _ hd)
                    rw [List.map_cons, List.flatten_cons, List.length_append, List.length_cons]
                    omega
                have h1 := key (ds.take i) fun d hd => by
                  have hd := List.mem_of_mem_take hd
                  have := smDs_get hsms d hd
                  cases d with
                  | tuple zs => have h3 := (smD_seq (ds := zs) (.inr rfl) this).1; show (zs.map _).length ≤ 500; rw [List.length_map]; exact h3
                  | _ => exact Nat.zero_le _
                rw [List.length_take] at h1
                have := wo.most
                omega
              refine ⟨_, rfl, _, rfl, b, _, rfl, .inr (x7.sqT g16), fun l2 hl2 => ⟨q, l2, _, _, rfl, rfl, (Ext.new hl2).lst hq7, upd_same, ?_, fun q2 hq2 => ?_⟩⟩
              · rw [vsN_len, vsN_len]
                have : 100000 ≤ sizeLine := by decide
                have := le_sum (List.getElem_mem his)
                rw [wo.sum] at this
                omega
              · have x8 := (Ext.new hl2 (o := .lst (vsN U))).trans (.new (o := .lst (vsN ((ds.take i).map natsD).flatten ++ vsN U)) hq2)
                refine ⟨q2, _, _, _, rfl, x07.trans x8, x07.free ((Ext.new hl2).free hq2), ?_, fun j hj => ?_⟩
                · rw [upd_same]
                  show some (HO.lst (List.map _ _ ++ List.map _ _)) = some (HO.lst (List.map _ _))
                  rw [← List.map_append]
                · by_cases e : j = i
                  · rw [e]; exact wok
                  · exact hok j (by omega)
      · rintro σ H3 ⟨q, o5, o6, o7, rfl, x3, hq0, hq, hok⟩
        rw [Int.toNat_natCast] at hok hq
        rw [← hle, List.take_length] at hq
        have hok' : ∀ k, k < ds.length → wardB fs.length bs (hs.getD k 0) (ss.getD k 0) (ds.getD k .none) = true := fun j hj => hok j (by omega)
        have hfl := flat_len wo hle hok'
        have hfp := flat_perm wo hle hok'
        have es : servB fs.length bs hs ss (.tuple ds) = decide ((ds.map natsD).flatten.Nodup) := by
          rw [servB_eq, decide_eq_true hle, show ((List.range ds.length).all fun k => wardB fs.length bs (hs.getD k 0) (ss.getD k 0) (ds.getD k .none)) = true from List.all_eq_true.mpr fun k hk => hok' k (List.mem_range.mp hk)]
          rfl
        rw [es] at k
        generalize (ds.map natsD).flatten = fl at hq hfl hfp k
        obtain ⟨al, af, vb, rfl, hl1, hl2, hl3⟩ := dp_land hl
        dsimp only [gName, tSeq, List.set]
        refine ⟨_, rfl, q, fl.map (fun (p : Nat) => (p : Int)), rfl, by rw [vsN_int]; exact SqL.of hq, by rw [List.length_map]; omega, fun ns p pm pw hp => ?_⟩
        have x4 := x3.trans (.new (o := .lst (ns.map V.int)) hp)
        refine ⟨_, rfl, al, _, _, _, rfl, rfl, x4.sqT hl1, atI_nat (j := 0) rfl, _, fs.length, rfl, .inr ⟨_, x4.sqT hl2, by simp⟩, _, rfl, ⟨by omega, by omega⟩, fun r hr => ?_⟩
        have x5 := x4.trans (.new (o := .lst (rgV 0 (fs.length : Int))) hr)
        have e5 : (upd (upd H3 p (.lst (ns.map V.int))) r (.lst (rgV 0 (fs.length : Int)))) r = some (.lst (vsN (List.range fs.length))) := by rw [upd_same, rgV_nat]
        refine ⟨.list (ns.map .int), .list (((List.range fs.length).map fun (p : Nat) => (p : Int)).map .int), .lst (SqL.of ((Ext.new hr).lst upd_same)) (dpAll_of_ints _), .lst (SqL.of e5) (by rw [List.map_map]; exact dpAll_lot _), (Sh.ints (n := 0) _).shaped (by decide), (Sh.ints (n := 0) _).shaped (by decide), ?_⟩
        rw [show PyData.eqv (.list (ns.map PyData.int)) (.list (((List.range fs.length).map fun (p : Nat) => (p : Int)).map PyData.int)) = decide (ns = (List.range fs.length).map fun (p : Nat) => (p : Int)) from eqvAll_intsX _ _]
        have efin : decide (ns = (List.range fs.length).map fun (p : Nat) => (p : Int)) = decide fl.Nodup := by
          rw [decide_eq_decide, ← hfp]
          constructor
          · intro e
            rw [e] at pm
            have h2 := pm.map Int.toNat
            rw [List.map_map, List.map_map] at h2
            have ei : ∀ l : List Nat, l.map (Int.toNat ∘ fun (p : Nat) => (p : Int)) = l := fun l => (List.map_congr_left fun x _ => by show ((x : Nat) : Int).toNat = x; simp).trans (List.map_id l)
            rw [ei, ei] at h2
            exact h2.symm
          · intro h
            have h2 := pm.trans (h.map fun (p : Nat) => (p : Int))
            refine h2.eq_of_pairwise (fun a b _ _ h1 h2 => by omega) pw ?_
            rw [List.pairwise_map]
            exact (Mk.range_pair _).imp fun h => by omega
        rw [efin]
        exact k _ x5
end
end Wd

set_option Elab.async false
set_option linter.all false
set_option maxRecDepth 100000
set_option maxHeartbeats 4000000
namespace Wd
open PySem PySem.Spec PyProof.Rows L2 Bx Gx

























































section
/-! ### states: whose each place is -/
def stV : Option Nat → V
  | none => .non
  | some k => .int (k : Int)
abbrev stL (st : List (Option Nat)) : List V := st.map stV
def hdAt (hs : List Nat) (p : Nat) : Option Nat := if p ∈ hs then some (hs.idxOf p) else none
def firstS (n : Nat) (hs : List Nat) : List (Option Nat) := (List.range n).map (hdAt hs)
theorem hdAt_snoc {hs : List Nat} {h : Nat} (hn : h ∉ hs) (p : Nat) : hdAt (hs ++ [h]) p = if p = h then some hs.length else hdAt hs p := by
  unfold hdAt
  by_cases e : p = h
  · subst e
    rw [if_pos (by simp), if_pos rfl, List.idxOf_append, if_neg hn, List.idxOf_cons_self, Nat.zero_add]
  · rw [if_neg e]
    by_cases m : p ∈ hs
    · rw [if_pos (List.mem_append_left _ m), if_pos m, List.idxOf_append, if_pos m]
    · rw [if_neg m, if_neg fun z => (List.mem_append.mp z).elim m fun z => e (List.mem_singleton.mp z)]
theorem set_rangeMap {α : Type} (f : Nat → α) (n q : Nat) (v : α) : ((List.range n).map f).set q v = (List.range n).map fun p => if p = q then v else f p := by
  refine List.ext_getElem (by simp) fun i h1 h2 => ?_
  rw [List.getElem_set]
  simp only [List.getElem_map, List.getElem_range]
  by_cases e : q = i
  · rw [if_pos e, if_pos e.symm]
  · rw [if_neg e, if_neg (fun z => e z.symm)]
end
section
variable {P : Program} {w : World} {K : PySem.W.Frag} {mg : Str → Option Value} {base : Heap}
def spFirst (K : PySem.W.Frag) : Sp := fun vs H Q _ => ∃ (l : V) (t : Addr) (fs : List Int) (bs : List (Nat × Nat)) (hs : List Nat), vs = [l, .ref t] ∧ Dp K H l (landD fs bs) ∧ fs.length ≤ 12 ∧ SqT K H t (vsN hs) ∧ hs.Nodup ∧ (∀ h ∈ hs, h < fs.length) ∧
  ∀ (q : Addr) (H' : Hp), Ext H H' → H q = none → H' q = some (.lst (stL (firstS fs.length hs))) → Q (.ref q) H'
abbrev lfirstN : List Str := ["land", "heads", "state", "k"]
theorem sc_first : FnScope lfirstN ["land", "heads"] (defScope st__law_first) := ⟨rfl, rfl, rfl, by decide +kernel, rfl, by decide +kernel, by decide +kernel⟩
theorem ok_first {f : Addr} {fd : FuncData} (F : Fun K "_law_first" "_law_first" st__law_first f fd) (B : Bl mg) : FnOk P w K mg base CX0 1 f fd ["land", "heads"] (spFirst K) := by
  refine F.ok sc_first (fun vs H Q E h => ?_) (fun cdv A outer s H vs Q E hr h => ?_)
  · obtain ⟨l, t, fs, bs, hs, rfl, _⟩ := h
    rfl
  · obtain ⟨l, t, fs, bs, hs, rfl, hl, hn, ht, hnd, hlt, k⟩ := h
    have nd := sc_first.nd
    refine ⟨_, pss_cons (ps_set (i := 2) nd rfl (Or.inl rfl) (pe_op op_rep (pe_lst (pa_cons pe_non pa_nil)) (pe_callB call_len (by rfl) B.len PySem.boot_len (pa_cons (pe_ix ix_tup (pv 0) pe_int (fun _ _ => rfl)) pa_nil))))
      (pss_cons (ps_for PassesOwn.never rfl (pi_range1 rfl B.range (pa_cons (pe_callB call_len (by rfl) B.len PySem.boot_len (pa_cons (pv 1) pa_nil)) pa_nil)) (pg_name (i := 3) nd rfl (Or.inl rfl))
        (pss_one (ps_asg (pv 3) (pg_sub (pv 2) (pe_ix ix_tup (pv 1) (pv 3) (fun _ _ => rfl)) set_list))))
      (pss_one (ps_ret (pv 2)))), ?_⟩
    obtain ⟨a, af, vb, rfl, hl1, hl2, hl3⟩ := dp_land hl
    have hhl : hs.length ≤ fs.length := Mk.nodup_le fs.length hs hnd hlt
    refine ⟨by show 1 ≤ sizeLine; decide, fun l1 hl1' => ⟨_, rfl, a, _, _, _, rfl, rfl, (Ext.new hl1').sqT hl1, atI_nat (j := 0) rfl, _, fs.length, rfl, .inr ⟨_, (Ext.new hl1').sqT hl2, by simp⟩, l1, _, _, rfl, rfl, upd_same, by omega, by omega, by rw [Int.toNat_natCast]; exact Nat.le_of_lt (small1000 (by show 1 * fs.length ≤ 1000; omega)), fun q hq => ?_⟩⟩
    rw [Int.toNat_natCast]
    have e0 : (List.replicate fs.length [V.non]).flatten = stL ((List.range fs.length).map (hdAt (hs.take 0))) := by
      rw [List.flatten_replicate_singleton]
      refine List.ext_getElem (by simp) fun i h1 h2 => ?_
      simp [hdAt, stV]
    rw [e0]
    have y1 := (Ext.new hl1' (o := .lst [V.non])).trans (.new (o := .lst (stL ((List.range fs.length).map (hdAt (hs.take 0))))) hq)
    have hqH : H q = none := (Ext.new hl1').free hq
    have hq1 : (upd (upd H l1 (.lst [V.non])) q (.lst (stL ((List.range fs.length).map (hdAt (hs.take 0)))))) q = some (.lst (stL ((List.range fs.length).map (hdAt (hs.take 0))))) := upd_same
    generalize upd (upd H l1 (.lst [V.non])) q (.lst (stL ((List.range fs.length).map (hdAt (hs.take 0))))) = H1 at y1 hq1 ⊢
    dsimp only [gName, tSeq, List.set, L2.start, List.map, List.replicate, List.append, List.length]
    refine ⟨_, rfl, _, hs.length, rfl, .inr ⟨_, y1.sqT ht, (vsN_len hs).symm⟩, _, rfl, by omega, by omega, for_range (lo := 0) (n := (hs.length : Int).toNat) (fun i σ H2 => ∃ (o3 : Option V), σ = [some (.ref a), some (.ref t), some (.ref q), o3] ∧ Ext H H2 ∧ H2 q = some (.lst (stL ((List.range fs.length).map (hdAt (hs.take i))))))
      ⟨_, rfl, y1, hq1⟩ ?_ ?_⟩
    · rintro i σ H2 hi ⟨o3, rfl, x2, h2⟩
      rw [Int.toNat_natCast] at hi
      rw [Int.zero_add]
      dsimp only [gName, tSeq, List.set]
      have hlti := hlt _ (List.getElem_mem hi)
      refine ⟨_, rfl, _, rfl, _, rfl, _, rfl, t, _, _, _, rfl, rfl, x2.sqT ht, atI_nat (vsN_at hi), q, _, ((hs[i] : Nat) : Int), hs[i], rfl, rfl, h2, by rw [List.length_map, List.length_map, List.length_range]; exact ixN_nat hlti, ?_⟩
      refine ⟨_, rfl, x2.write hqH, ?_⟩
      rw [upd_same]
      have et : hs.take (i + 1) = hs.take i ++ [hs[i]] := by rw [List.take_add_one, List.getElem?_eq_getElem hi]; rfl
      have hni : hs[i] ∉ hs.take i := fun m => by
        rw [← List.take_append_drop i hs, List.drop_eq_getElem_cons hi] at hnd
        exact (List.nodup_append.mp hnd).2.2 _ m _ List.mem_cons_self rfl
      have e1 : ((List.range fs.length).map (hdAt (hs.take (i + 1)))) = ((List.range fs.length).map (hdAt (hs.take i))).set hs[i] (some i) := by
        rw [set_rangeMap, et]
        refine List.map_congr_left fun p _ => ?_
        rw [hdAt_snoc hni, List.length_take, Nat.min_eq_left (by omega)]
      rw [e1]
      show some (HO.lst _) = some (HO.lst (List.map _ _))
      rw [List.map_set]
      rfl
    · rintro σ H2 ⟨o3, rfl, x2, h2⟩
      rw [Int.toNat_natCast, List.take_length] at h2
      exact ⟨_, rfl, k q H2 x2 hqH h2⟩
end
end Wd

set_option Elab.async false
set_option linter.all false
set_option maxRecDepth 100000
set_option maxHeartbeats 4000000
namespace Wd
open PySem PySem.Spec PyProof.Rows L2 Bx Gx

























































section
/-! ### all servings -/
def giveK (u : Nat) (ss : List Nat) (p : Nat) (row : List (Option Nat)) : List (List (Option Nat)) := ((List.range u).filter fun k => decide (row.count (some k) < ss.getD k 0)).map fun k => row.set p (some k)
def giveR (m : Nat) (ss : List Nat) (p : Nat) (rows : List (List (Option Nat))) : List (List (Option Nat)) := rows.flatMap (giveK m ss p)
def freeL (n : Nat) (hs : List Nat) : List Nat := (List.range n).filter fun p => decide (p ∉ hs)
def rowsAt (n : Nat) (hs ss : List Nat) (i : Nat) : List (List (Option Nat)) := ((freeL n hs).take i).foldl (fun rs p => giveR hs.length ss p rs) [firstS n hs]
def ownL (row : List (Option Nat)) (k : Nat) : List Nat := (List.range row.length).filter fun p => decide (row.getD p none = some k)
def valD (m : Nat) (row : List (Option Nat)) : PyData := .tuple ((List.range m).map fun k => lotD (ownL row k))
noncomputable def servL (n : Nat) (bs : List (Nat × Nat)) (hs ss : List Nat) : List PyData := ((rowsAt n hs ss (freeL n hs).length).map (valD hs.length)).filter (servB n bs hs ss)
theorem giveK_succ (u : Nat) (ss : List Nat) (p : Nat) (row : List (Option Nat)) : giveK (u + 1) ss p row = giveK u ss p row ++ if row.count (some u) < ss.getD u 0 then [row.set p (some u)] else [] := by
  unfold giveK
  rw [List.range_succ, List.filter_append, List.map_append]
  by_cases h : row.count (some u) < ss.getD u 0
  · rw [if_pos h, List.filter_cons_of_pos (by simpa using h)]; rfl
  · rw [if_neg h, List.filter_cons_of_neg (by simpa using h)]; rfl
theorem giveK_len (u : Nat) (ss : List Nat) (p : Nat) (row : List (Option Nat)) : (giveK u ss p row).length ≤ u := by
  unfold giveK
  rw [List.length_map]
  have := List.length_filter_le (fun k => decide (row.count (some k) < ss.getD k 0)) (List.range u)
  rwa [List.length_range] at this
theorem giveR_take {m : Nat} {ss : List Nat} {p j : Nat} {rows : List (List (Option Nat))} (hj : j < rows.length) : giveR m ss p (rows.take (j + 1)) = giveR m ss p (rows.take j) ++ giveK m ss p rows[j] := by
  unfold giveR
  rw [List.take_add_one, List.getElem?_eq_getElem hj, List.flatMap_append]
  simp
theorem giveR_len (m : Nat) (ss : List Nat) (p : Nat) : ∀ rows : List (List (Option Nat)), (giveR m ss p rows).length ≤ rows.length * m
  | [] => Nat.zero_le _
  | r :: rows => by
    have ih := giveR_len m ss p rows
    have h := giveK_len m ss p r
    show (giveK m ss p r ++ giveR m ss p rows).length ≤ _
    rw [List.length_append, List.length_cons, Nat.succ_mul]
    omega
theorem giveR_all {m n : Nat} {ss : List Nat} {p : Nat} {rows : List (List (Option Nat))} (h : ∀ r ∈ rows, r.length = n) : ∀ r ∈ giveR m ss p rows, r.length = n := fun r hr => by
  obtain ⟨q, hq, hr⟩ := List.mem_flatMap.mp hr
  obtain ⟨k, _, rfl⟩ := List.mem_map.mp hr
  rw [List.length_set]
  exact h q hq
theorem rowsAt_succ {n : Nat} {hs ss : List Nat} {i : Nat} (hi : i < (freeL n hs).length) : rowsAt n hs ss (i + 1) = giveR hs.length ss (freeL n hs)[i] (rowsAt n hs ss i) := by
  unfold rowsAt
  rw [List.take_add_one, List.getElem?_eq_getElem hi, List.foldl_append]
  rfl
theorem rowsAt_len {n : Nat} {hs ss : List Nat} : ∀ i, i ≤ (freeL n hs).length → (rowsAt n hs ss i).length ≤ hs.length ^ i
  | 0, _ => by simp [rowsAt]
  | i + 1, h => by
    have ih := rowsAt_len (n := n) (hs := hs) (ss := ss) i (by omega)
    rw [rowsAt_succ (show i < (freeL n hs).length by omega), Nat.pow_succ]
    exact Nat.le_trans (giveR_len _ _ _ _) (Nat.mul_le_mul_right _ ih)
theorem rowsAt_all {n : Nat} {hs ss : List Nat} : ∀ i, i ≤ (freeL n hs).length → ∀ r ∈ rowsAt n hs ss i, r.length = n
  | 0, _ => fun r hr => by
    rw [show rowsAt n hs ss 0 = [firstS n hs] from rfl, List.mem_singleton] at hr
    rw [hr, firstS, List.length_map, List.length_range]
  | i + 1, h => by
    rw [rowsAt_succ (show i < (freeL n hs).length by omega)]
    exact giveR_all (rowsAt_all (n := n) (hs := hs) (ss := ss) i (by omega))
theorem freeL_len {n : Nat} {hs : List Nat} (nd : hs.Nodup) (hlt : ∀ h ∈ hs, h < n) : (freeL n hs).length + hs.length ≤ n := by
  have hd : (freeL n hs ++ hs).Nodup := by
    rw [List.nodup_append]
    refine ⟨List.nodup_range.filter _, nd, fun a ha b hb e => ?_⟩
    have := (List.mem_filter.mp ha).2
    simp only [decide_eq_true_eq] at this
    exact this (e ▸ hb)
  have := Mk.nodup_le n (freeL n hs ++ hs) hd fun x hx => by
    rcases List.mem_append.mp hx with h | h
    · exact List.mem_range.mp (List.mem_filter.mp h).1
    · exact hlt x h
  rwa [List.length_append] at this
/-- lists of states in the heap -/
inductive RowsA (H : Hp) : List Addr → List (List (Option Nat)) → Prop
  | nil : RowsA H [] []
  | cons {a : Addr} {as : List Addr} {r : List (Option Nat)} {rs : List (List (Option Nat))} : H a = some (.lst (stL r)) → RowsA H as rs → RowsA H (a :: as) (r :: rs)
theorem RowsA.ext {H H' : Hp} (x : Ext H H') : ∀ {as : List Addr} {rs : List (List (Option Nat))}, RowsA H as rs → RowsA H' as rs
  | _, _, .nil => .nil
  | _, _, .cons h hs => .cons (x.lst h) (RowsA.ext x hs)
theorem RowsA.upd {H : Hp} {D : Addr} {o : HO} : ∀ {as : List Addr} {rs : List (List (Option Nat))}, RowsA H as rs → D ∉ as → RowsA (upd H D o) as rs
  | _, _, .nil, _ => .nil
  | _, _, .cons h hs, hn => .cons (by rw [upd_ne (fun e => hn (by rw [← e]; exact List.mem_cons_self))]; exact h) (hs.upd fun z => hn (List.mem_cons_of_mem _ z))
theorem RowsA.app {H : Hp} : ∀ {as bs : List Addr} {rs ts : List (List (Option Nat))}, RowsA H as rs → RowsA H bs ts → RowsA H (as ++ bs) (rs ++ ts)
  | _, _, _, _, .nil, h => h
  | _, _, _, _, .cons h hs, h2 => .cons h (hs.app h2)
theorem RowsA.len {H : Hp} : ∀ {as : List Addr} {rs : List (List (Option Nat))}, RowsA H as rs → as.length = rs.length
  | _, _, .nil => rfl
  | _, _, .cons _ hs => congrArg (· + 1) hs.len
theorem RowsA.get {H : Hp} : ∀ {as : List Addr} {rs : List (List (Option Nat))} {i : Nat} {a : Addr}, RowsA H as rs → as[i]? = some a → ∃ r, rs[i]? = some r ∧ H a = some (.lst (stL r))
  | _, _, _, _, .nil, e => by simp at e
  | _, _, 0, _, .cons h _, e => by simp at e; subst e; exact ⟨_, rfl, h⟩
  | _, _, i + 1, a, .cons _ hs, e => by
    obtain ⟨r, h1, h2⟩ := hs.get (i := i) (a := a) (by simpa using e)
    exact ⟨r, by simpa using h1, h2⟩
theorem RowsA.out {H : Hp} {D : Addr} : ∀ {as : List Addr} {rs : List (List (Option Nat))}, RowsA H as rs → H D = none → D ∉ as
  | _, _, .nil, _ => by simp
  | _, _, .cons h hs, e => fun z => by
    rcases List.mem_cons.mp z with z | z
    · rw [← z, e] at h; cases h
    · exact hs.out e z
theorem stV_eq (o : Option Nat) (k : Nat) : decide (stV o = V.int (k : Int)) = decide (o = some k) := by
  cases o with
  | none => rfl
  | some j =>
    rw [decide_eq_decide]
    constructor
    · intro z
      have z : V.int (j : Int) = V.int (k : Int) := z
      injection z with z
      rw [Int.ofNat.inj z]
    · intro z
      rw [Option.some.inj z]
      rfl
theorem scal_stV (o : Option Nat) (k : Nat) : scal (stV o) (V.int (k : Int)) = true := by cases o <;> rfl
theorem count_take {row : List (Option Nat)} {o : Option Nat} {i : Nat} (hi : i < row.length) : (row.take (i + 1)).count o = (row.take i).count o + if row[i] = o then 1 else 0 := by
  rw [List.take_add_one, List.getElem?_eq_getElem hi, List.count_append]
  congr 1
  show List.count o [row[i]] = _
  rw [List.count_singleton]
  by_cases h : row[i] = o <;> simp [h]
theorem cut_toV (xs : List V) (k : Nat) : L2.cutV xs none (some (k : Int)) = xs.take k := by
  unfold L2.cutV
  rw [HT.sIx_none, HT.sIx_nat, List.drop_zero, Nat.sub_zero]
  by_cases h : k ≤ xs.length
  · rw [Nat.min_eq_left h]
  · rw [Nat.min_eq_right (by omega), List.take_length, List.take_of_length_le (by omega)]
theorem cut_fromV (xs : List V) (k : Nat) : L2.cutV xs (some (k : Int)) none = xs.drop k := by
  unfold L2.cutV
  rw [HT.sIx_none, HT.sIx_nat]
  by_cases h : k ≤ xs.length
  · rw [Nat.min_eq_left h, List.take_of_length_le (by rw [List.length_drop]; omega)]
  · rw [Nat.min_eq_right (by omega), List.drop_length, List.drop_of_length_le (by omega)]
    simp
theorem set_cut {row : List (Option Nat)} {p k : Nat} (hp : p < row.length) : (stL row).take p ++ [V.int (k : Int)] ++ (stL row).drop (p + 1) = stL (row.set p (some k)) := by
  rw [List.set_eq_take_append_cons_drop, if_pos hp]
  show List.take p (List.map _ _) ++ _ ++ List.drop _ (List.map _ _) = List.map _ _
  rw [List.map_append, List.map_cons, List.map_take, List.map_drop, List.append_assoc]
  rfl
theorem smDs_of : ∀ {ds : List PyData}, (∀ d ∈ ds, smD d = true) → smDs ds = true
  | [], _ => rfl
  | d :: ds, h => by rw [smDs, h d List.mem_cons_self, smDs_of fun e he => h e (List.mem_cons_of_mem _ he)]; rfl
theorem noLs_of : ∀ {ds : List PyData}, (∀ d ∈ ds, noL d = true) → noLs ds = true
  | [], _ => rfl
  | d :: ds, h => by rw [noLs, h d List.mem_cons_self, noLs_of fun e he => h e (List.mem_cons_of_mem _ he)]; rfl
theorem smD_lot {u : List Nat} (h : u.length ≤ 500) : smD (lotD u) = true := by
  unfold lotD
  rw [smD, List.length_map, decide_eq_true h]
  exact smDs_of fun d hd => by obtain ⟨p, _, rfl⟩ := List.mem_map.mp hd; rfl
theorem noL_lot (u : List Nat) : noL (lotD u) = true := noLs_of fun d hd => by obtain ⟨p, _, rfl⟩ := List.mem_map.mp hd; rfl
theorem sh_lot (n : Nat) (u : List Nat) : Sh (n + 2) (lotD u) := .tup fun d hd => by
  obtain ⟨p, _, rfl⟩ := List.mem_map.mp hd
  exact .int _ _
theorem ownL_len (row : List (Option Nat)) (k : Nat) : (ownL row k).length ≤ row.length := by
  have := List.length_filter_le (fun p => decide (row.getD p none = some k)) (List.range row.length)
  rwa [List.length_range] at this
theorem noL_val (m : Nat) (row : List (Option Nat)) : noL (valD m row) = true := noLs_of fun d hd => by obtain ⟨p, _, rfl⟩ := List.mem_map.mp hd; exact noL_lot _
theorem smD_val {m : Nat} {row : List (Option Nat)} (hm : m ≤ 500) (h : row.length ≤ 500) : smD (valD m row) = true := by
  unfold valD
  rw [smD, List.length_map, List.length_range, decide_eq_true hm]
  exact smDs_of fun d hd => by obtain ⟨p, _, rfl⟩ := List.mem_map.mp hd; exact smD_lot (Nat.le_trans (ownL_len _ _) h)
theorem sh_val (n m : Nat) (row : List (Option Nat)) : Sh (n + 3) (valD m row) := .tup fun d hd => by
  obtain ⟨p, _, rfl⟩ := List.mem_map.mp hd
  exact sh_lot _ _
end
section
variable {P : Program} {w : World} {K : PySem.W.Frag} {mg : Str → Option Value} {base : Heap}
theorem dp_lotT {H : Hp} {a : Addr} {r : List Nat} (h : SqT K H a (vsN r)) : Dp K H (.ref a) (lotD r) := .tup h (dpAll_lot r)
def spServings (K : PySem.W.Frag) : Sp := fun vs H Q _ => ∃ (l : V) (t u : Addr) (fs : List Int) (bs : List (Nat × Nat)) (hs ss : List Nat), vs = [l, .ref t, .ref u] ∧ Dp K H l (landD fs bs) ∧ LandOk fs bs ∧ fs.length ≤ 8 ∧ SqT K H t (vsN hs) ∧ SqT K H u (vsN ss) ∧ WishOk fs.length hs ss ∧
  ∀ (q : Addr) (xs : List V) (H' : Hp), Ext H H' → H q = none → H' q = some (.lst xs) → DpAll K H' xs (servL fs.length bs hs ss) → Q (.ref q) H'
abbrev lservingsN : List Str := ["land", "heads", "sizes", "place", "rows", "free", "longer", "row", "k", "one", "found", "value"]
abbrev scSv : Scope := { kind := .function, names := [(".0", .local), ("k", .cell), ("tuple", .globalImplicit), ("range", .globalImplicit), ("len", .globalImplicit), ("row", .cell)], isGenerator := false, isCoroutine := false, more := [] }
theorem sc_servings : FnScope lservingsN ["land", "heads", "sizes"] (defScope st__law_servings) := ⟨rfl, rfl, rfl, by decide +kernel, rfl, by decide +kernel, by decide +kernel⟩
theorem ok_servings {f : Addr} {fd : FuncData} (F : Fun K "_law_servings" "_law_servings" st__law_servings f fd) (B : Bl mg) (c__law_first : Cal P w K mg base 1 "_law_first" ["land", "heads"] (spFirst K)) (c__law_is_serving : Cal P w K mg base 4 "_law_is_serving" ["land", "heads", "sizes", "value"] (spLServing K)) : FnOk P w K mg base CX0 5 f fd ["land", "heads", "sizes"] (spServings K) := by
  refine F.ok sc_servings (fun vs H Q E h => ?_) (fun cdv A outer s H vs Q E hr h => ?_)
  · obtain ⟨l, t, u, fs, bs, hs, ss, rfl, _⟩ := h
    rfl
  · obtain ⟨l, t, u, fs, bs, hs, ss, rfl, hl, ok, hn8, ht, hu, wo, k⟩ := h
    have nd := sc_servings.nd
    refine ⟨_, pss_cons (ps_par (i := 4) (j := 5) (by rfl) nd rfl rfl (by decide) rfl rfl (pa_cons (pe_lst (pa_cons (pe_cal c__law_first (hr.mono (by decide)) rfl (pa_cons (pv 0) (pa_cons (pv 1) pa_nil))) pa_nil)) (pa_cons (pe_lc (own := [("place", 3)]) (g := gName 3) (by rfl) nd (pi_range1 rfl B.range (pa_cons (pe_callB call_len (by rfl) B.len PySem.boot_len (pa_cons (pe_ix ix_tup (pv 0) pe_int (fun _ _ => rfl)) pa_nil)) pa_nil)) (blkOk_by (own := [("place", 3)]) (N := ["land", "heads", "sizes", "place", "rows", "free", "longer", "row", "k", "one", "found", "value"]) (sc := defScope st__law_servings) (by decide +kernel)) (fun _ _ _ _ _ => pg_name (i := 3) nd rfl (Or.inl rfl)) (fun _ _ _ _ _ => pts_one (pt_cmpR (op_notInK (K := K) rfl) (pv 3) (pv 1) (by rfl))) (fun _ _ _ _ _ => pv 3)) pa_nil)) (by rfl))
      (pss_cons (ps_for PassesOwn.never rfl (pi_list (pv 5)) (pg_name (i := 3) nd rfl (Or.inl rfl))
        (pss_cons (ps_set (i := 6) nd rfl (Or.inl rfl) (pe_lst pa_nil))
        (pss_cons (ps_for PassesOwn.never rfl (pi_list (pv 4)) (pg_name (i := 7) nd rfl (Or.inr rfl))
          (pss_one (ps_for PassesOwn.never rfl (pi_range1 rfl B.range (pa_cons (pe_callB call_len (by rfl) B.len PySem.boot_len (pa_cons (pv 1) pa_nil)) pa_nil)) (pg_name (i := 8) nd rfl (Or.inr rfl))
            (pss_one (ps_if (pt_cmpR op_lt (pe_callB call_len (by rfl) B.len PySem.boot_len (pa_cons (pe_lc (own := [("one", 9)]) (g := gName 9) (by rfl) nd (pi_list (pv 7)) (blkOk_by (own := [("one", 9)]) (N := ["land", "heads", "sizes", "place", "rows", "free", "longer", "row", "k", "one", "found", "value"]) (sc := defScope st__law_servings) (by decide +kernel)) (fun _ _ _ _ _ => pg_name (i := 9) nd rfl (Or.inl rfl)) (fun _ _ _ _ _ => pts_one (pt_cmpR op_eq (pv 9) (pv 8) (nomark _))) (fun _ _ _ _ _ => pe_int)) pa_nil)) (pe_ix ix_tup (pv 2) (pv 8) (fun _ _ => rfl)) (nomark _)) (pss_one (ps_expr (pe_bm PySem.F.plainAttrs_list PySem.F.slot_list_append PySem.F.type_list_append mt_append (pv 6) (pa_cons (pe_op op_cat (pe_op op_cat (pe_slice sl_list (pv 7) po_none (po_some (pv 3))) (pe_lst (pa_cons (pv 8) pa_nil))) (pe_slice sl_list (pv 7) (po_some (pe_op op_add (pv 3) pe_int)) po_none)) pa_nil)))) pss_nil)))))
        (pss_one (ps_set (i := 4) nd rfl (Or.inl rfl) (pv 6))))))
      (pss_cons (ps_set (i := 10) nd rfl (Or.inl rfl) (pe_lst pa_nil))
      (pss_cons (ps_for PassesOwn.never rfl (pi_list (pv 4)) (pg_name (i := 7) nd rfl (Or.inr rfl))
        (pss_cons (ps_set (i := 11) nd rfl (Or.inl rfl) (pe_tupleOf rfl B.tuple (pe_lc (own := [("k", 8)]) (g := gName 8) (by rfl) nd (pi_range1 rfl B.range (pa_cons (pe_callB call_len (by rfl) B.len PySem.boot_len (pa_cons (pv 1) pa_nil)) pa_nil)) (blkOk_by (own := [("k", 8)]) (N := ["land", "heads", "sizes", "place", "rows", "free", "longer", "row", "k", "one", "found", "value"]) (sc := defScope st__law_servings) (by decide +kernel)) (fun _ _ _ _ _ => pg_name (i := 8) nd rfl (Or.inr rfl)) (fun _ _ _ _ _ => pts_nil) (fun _ _ _ _ _ => pe_tupleOfK (K := K) rfl rfl B.tuple (pe_lc (own := [("place", 3)]) (g := gName 3) (by rfl) nd (pi_range1 rfl B.range (pa_cons (pe_callB (call_lenKB (K := K) rfl) (by rfl) B.len PySem.boot_len (pa_cons (pv 7) pa_nil)) pa_nil)) (blkOk_by (own := [("place", 3)]) (N := ["land", "heads", "sizes", "place", "rows", "free", "longer", "row", "k", "one", "found", "value"]) (sc := scSv) (by decide +kernel)) (fun _ _ _ _ _ => pg_name (i := 3) nd rfl (Or.inl rfl)) (fun _ _ _ _ _ => pts_one (pt_cmpR op_eq (pe_ix (ix_lstK (K := K) rfl) (pv 7) (pv 3) (fun _ _ => rfl)) (pv 8) (nomark _))) (fun _ _ _ _ _ => pv 3))))))
        (pss_one (ps_if (pt_val (pe_cal c__law_is_serving (hr.mono (by decide)) rfl (pa_cons (pv 0) (pa_cons (pv 1) (pa_cons (pv 2) (pa_cons (pv 11) pa_nil))))) (by intro _; rfl)) (pss_one (ps_expr (pe_bm PySem.F.plainAttrs_list PySem.F.slot_list_append PySem.F.type_list_append mt_append (pv 10) (pa_cons (pv 11) pa_nil)))) pss_nil))))
      (pss_one (ps_ret (pv 10)))))), ?_⟩
    obtain ⟨al, af, vb, rfl, hl1, hl2, hl3⟩ := dp_land hl
    have hm4 := wo.most
    have hfl := freeL_len wo.nd wo.lt
    have hbig : 4 ^ 8 ≤ 65536 := by decide
    have hsz : 1000000 ≤ sizeLine := by decide
    refine ⟨_, rfl, _, rfl, _, t, fs, bs, hs, rfl, hl, ok.most, ht, wo.nd, wo.lt, fun st H1 x1 hst0 hst => ⟨by show 1 ≤ sizeLine; decide, fun r0 hr0 => ?_⟩⟩
    have x2 := x1.trans (.new (o := .lst [.ref st]) hr0)
    have hst2 := (Ext.new hr0 (o := .lst [.ref st])).lst hst
    have hr2 : (upd H1 r0 (.lst [.ref st])) r0 = some (.lst ([st].map V.ref)) := upd_same
    generalize upd H1 r0 (.lst [.ref st]) = H2 at x2 hst2 hr2 ⊢
    refine ⟨_, rfl, _, _, _, _, rfl, rfl, x2.sqT hl1, atI_nat (j := 0) rfl, _, fs.length, rfl, .inr ⟨_, x2.sqT hl2, by simp⟩, _, rfl, by omega, by omega, fun fr hfr => ?_⟩
    refine lc_range (lo := 0) (n := (fs.length : Int).toNat) (fun i H3 => H3 fr = some (.lst (vsN ((List.range i).filter fun p => decide (p ∉ hs)))) ∧ Ext H2 H3) ⟨upd_same, .new hfr⟩ (fun i H3 hi ⟨e3, x3⟩ => ?_) (fun H3 ⟨e3, x3⟩ => ?_)
    · rw [Int.toNat_natCast] at hi
      rw [Int.zero_add]
      refine ⟨rfl, _, rfl, _, rfl, t, _, rfl, .inr ((x2.trans x3).sqT ht), rfl, flat_vsN hs, _, rfl, ?_⟩
      rw [if_pos rfl, inV_vsN, List.range_succ, List.filter_append]
      by_cases hm : i ∈ hs
      · rw [decide_eq_true hm, List.filter_cons_of_neg (by simp [hm])]
        refine iteF ⟨?_, x3⟩
        simpa using e3
      · rw [decide_eq_false hm, List.filter_cons_of_pos (by simp [hm])]
        refine iteT ⟨_, rfl, _, e3, ?_, ?_, x3.write hfr⟩
        · have := List.length_filter_le (fun p => decide (p ∉ hs)) (List.range i)
          rw [List.length_range] at this
          rw [List.length_map]
          exact small1000 (by omega)
        · rw [upd_same]
          show some (HO.lst (List.map _ _ ++ _)) = some (HO.lst (List.map _ (_ ++ [i])))
          rw [List.map_append]
          rfl
    rw [Int.toNat_natCast] at e3
    have e3 : H3 fr = some (.lst (vsN (freeL fs.length hs))) := e3
    have x13 := x2.trans x3
    refine ⟨_, _, rfl, ?_⟩
    dsimp only [gName, tSeq, List.set, L2.start, List.map, List.replicate, List.append, List.length]
    have hr3 : H3 r0 = some (.lst ([st].map V.ref)) := x3.lst hr2
    have hst3 : RowsA H3 [st] [firstS fs.length hs] := .cons (x3.lst hst2) .nil
    have hfl8 : (freeL fs.length hs).length ≤ 8 := by omega
    have fbound : ∀ i, i ≤ (freeL fs.length hs).length → (rowsAt fs.length hs ss i).length ≤ 65536 := fun i hi => by
      refine Nat.le_trans (rowsAt_len i hi) (Nat.le_trans (Nat.pow_le_pow_left hm4 i) (Nat.le_trans (Nat.pow_le_pow_right (by decide) (show i ≤ 8 by omega)) hbig))
    refine ⟨_, rfl, fr, rfl, ⟨_, SqL.of e3⟩, for_list (K := K) (a := fr) (xs := vsN (freeL fs.length hs)) (fun i σ H4 => ∃ (r : Addr) (as : List Addr) (o3 o6 o7 o8 o9 : Option V), σ = [some (.ref al), some (.ref t), some (.ref u), o3, some (.ref r), some (.ref fr), o6, o7, o8, o9, none, none] ∧ Ext H3 H4 ∧ H4 r = some (.lst (as.map V.ref)) ∧ RowsA H4 as (rowsAt fs.length hs ss i))
      ⟨r0, [st], _, _, _, _, _, rfl, .refl _, hr3, hst3⟩ (fun i σ H4 _ ⟨_, _, _, _, _, _, _, _, x, _⟩ => SqL.of (x.lst e3)) ?_ ?_⟩
    · clear hr3 hst3
      rintro i v σ H4 hv ⟨r, as, o3, o6, o7, o8, o9, rfl, x4, hr4, hra⟩
      have hil : i < (freeL fs.length hs).length := by
        have := (List.getElem?_eq_some_iff.mp hv).1
        rwa [List.length_map] at this
      rw [List.getElem?_map, List.getElem?_eq_getElem hil] at hv
      obtain rfl := (Option.some.inj hv).symm
      have hpn : (freeL fs.length hs)[i] < fs.length := List.mem_range.mp (List.mem_filter.mp (List.getElem_mem hil)).1
      rw [rowsAt_succ hil]
      have hrl := hra.len
      have hrb := fbound i (by omega)
      have hall := rowsAt_all (ss := ss) i (show i ≤ (freeL fs.length hs).length by omega)
      generalize (freeL fs.length hs)[i] = p at hpn
      generalize rowsAt fs.length hs ss i = rows at hra hrl hrb hall
      dsimp only [gName, tSeq, List.set]
      refine ⟨Nat.zero_le _, fun D hD => ?_⟩
      have x5 : Ext H4 (upd H4 D (.lst [])) := .new hD
      have hD5 : (upd H4 D (.lst [])) D = some (.lst (([] : List Addr).map V.ref)) := upd_same
      have hDas : D ∉ as := hra.out hD
      generalize upd H4 D (.lst []) = H5 at x5 hD5 ⊢
      dsimp only [gName, tSeq, List.set]
      refine ⟨_, rfl, r, rfl, ⟨_, SqL.of (x5.lst hr4)⟩, for_list (K := K) (a := r) (xs := as.map V.ref) (fun j σ H6 => ∃ (las : List Addr) (o7 o8 o9 : Option V), σ = [some (.ref al), some (.ref t), some (.ref u), some (.int (p : Int)), some (.ref r), some (.ref fr), some (.ref D), o7, o8, o9, none, none] ∧ Ext H4 H6 ∧ H6 D = some (.lst (las.map V.ref)) ∧ D ∉ las ∧ RowsA H6 las (giveR hs.length ss p (rows.take j)))
        ⟨[], _, _, _, rfl, x5, hD5, by simp, .nil⟩ (fun j σ H6 _ ⟨_, _, _, _, _, x, _⟩ => SqL.of (x.lst hr4)) ?_ ?_⟩
      · clear hD5 x5 H5
        rintro j v σ H6 hv ⟨las, o7, o8, o9, rfl, x6, hD6, hDl, hla⟩
        have hjl : j < as.length := by
          have := (List.getElem?_eq_some_iff.mp hv).1
          rwa [List.length_map] at this
        rw [List.getElem?_map, List.getElem?_eq_getElem hjl] at hv
        obtain rfl := (Option.some.inj hv).symm
        obtain ⟨row, hrow, hro⟩ := hra.get (List.getElem?_eq_getElem hjl)
        have hjr : j < rows.length := by omega
        have erow : rows[j] = row := by
          rw [List.getElem?_eq_getElem hjr] at hrow
          exact Option.some.inj hrow
        have hrn := hall row (List.mem_of_getElem? hrow)
        rw [giveR_take hjr, erow]
        generalize as[j] = a at hro
        have hgl := giveR_len hs.length ss p (rows.take j)
        rw [List.length_take] at hgl
        have hgl2 : (giveR hs.length ss p (rows.take j)).length ≤ 65536 * 4 := Nat.le_trans hgl (Nat.mul_le_mul (by omega) hm4)
        generalize giveR hs.length ss p (rows.take j) = base0 at hla hgl2
        dsimp only [gName, tSeq, List.set]
        refine ⟨_, rfl, _, hs.length, rfl, .inr ⟨_, ((x13.trans x4).trans x6).sqT ht, (vsN_len hs).symm⟩, _, rfl, by omega, by omega, for_range (lo := 0) (n := (hs.length : Int).toNat) (fun z σ H7 => ∃ (las : List Addr) (o8 o9 : Option V), σ = [some (.ref al), some (.ref t), some (.ref u), some (.int (p : Int)), some (.ref r), some (.ref fr), some (.ref D), some (.ref a), o8, o9, none, none] ∧ Ext H4 H7 ∧ H7 D = some (.lst (las.map V.ref)) ∧ D ∉ las ∧ RowsA H7 las (base0 ++ giveK z ss p row))
          ⟨las, _, _, rfl, x6, hD6, hDl, by rw [show giveK 0 ss p row = [] from rfl, List.append_nil]; exact hla⟩ ?_ ?_⟩
        · clear hD6 hDl hla x6 H6
          rintro z σ H7 hz ⟨las, o8, o9, rfl, x7, hD7, hDl, hla⟩
          rw [Int.toNat_natCast] at hz
          rw [Int.zero_add, giveK_succ]
          have hzs : z < ss.length := by have := wo.len; omega
          have esz : ss.getD z 0 = ss[z] := by rw [List.getD_eq_getElem?_getD, List.getElem?_eq_getElem hzs]; rfl
          have hkl := giveK_len z ss p row
          have hlal := hla.len
          rw [List.length_append] at hlal
          dsimp only [gName, tSeq, List.set]
          have hro7 := x7.lst hro
          refine ⟨_, rfl, a, rfl, ⟨_, SqL.of hro7⟩, fun D2 hD2 => ?_⟩
          refine lc_list (K := K) (a := a) (xs := stL row) (fun c H8 => H8 D2 = some (.lst (List.replicate ((row.take c).count (some z)) (V.int 1))) ∧ Ext H7 H8) ⟨upd_same, .new hD2⟩ (fun c H8 _ ⟨_, x8⟩ => SqL.of (x8.lst hro7)) (fun c y H8 hy ⟨e8, x8⟩ => ?_) (fun H8 ⟨e8, x8⟩ => ?_)
          · have hcl : c < row.length := by
              have := (List.getElem?_eq_some_iff.mp hy).1
              rwa [List.length_map] at this
            rw [List.getElem?_map, List.getElem?_eq_getElem hcl] at hy
            obtain rfl := (Option.some.inj hy).symm
            refine ⟨rfl, _, rfl, _, rfl, scal_stV _ _, _, rfl, ?_⟩
            rw [stV_eq, count_take hcl]
            by_cases hoc : row[c] = some z
            · rw [decide_eq_true hoc, if_pos hoc]
              refine iteT ⟨_, e8, ?_, ?_, x8.write hD2⟩
              · have := List.count_le_length (a := some z) (l := row.take c)
                rw [List.length_take] at this
                rw [List.length_replicate]
                exact small1000 (by omega)
              · rw [upd_same, List.replicate_succ']
            · rw [decide_eq_false hoc, if_neg hoc]
              exact iteF ⟨e8, x8⟩
          · rw [List.length_map, List.take_length] at e8
            have x78 := x7.trans x8
            have hD8 := x8.lst hD7
            have hla8 := hla.ext x8
            have hro8 := x8.lst hro7
            refine ⟨_, row.count (some z), rfl, .inl ⟨_, SqL.of e8, by rw [List.length_replicate]⟩, _, rfl, _, rfl, u, _, _, _, rfl, rfl, ((x13.trans x4).trans x78).sqT hu, atI_nat (vsN_at hzs), _, _, rfl, rfl, _, rfl, ?_⟩
            rw [esz]
            by_cases hlt : row.count (some z) < ss[z]
            · rw [decide_eq_true (show ((row.count (some z) : Nat) : Int) < ((ss[z] : Nat) : Int) by omega), if_pos hlt]
              refine iteT ⟨_, rfl, .inl ⟨rfl, _, SqL.of hD8⟩, _, rfl, _, rfl, _, rfl, a, _, rfl, SqL.of hro8, fun p1 hp1 => ⟨_, rfl, by show 1 ≤ sizeLine; omega, fun p2 hp2 => ⟨p1, p2, _, _, rfl, rfl, (Ext.new hp2).lst upd_same, upd_same, ?_, fun p3 hp3 => ?_⟩⟩⟩
              · rw [cut_toV, List.length_take, List.length_map]
                show _ + 1 ≤ _
                omega
              rw [cut_toV] at hp2 hp3 ⊢
              have y1 : Ext H8 (upd H8 p1 (.lst ((stL row).take p))) := .new hp1
              have y2 := y1.trans (.new (o := .lst [.int (z : Int)]) hp2)
              have y3 := y2.trans (.new (o := .lst ((stL row).take p ++ [.int (z : Int)])) hp3)
              have hp3e : (upd (upd (upd H8 p1 (.lst ((stL row).take p))) p2 (.lst [.int (z : Int)])) p3 (.lst ((stL row).take p ++ [.int (z : Int)]))) p3 = some (.lst ((stL row).take p ++ [.int (z : Int)])) := upd_same
              generalize upd (upd (upd H8 p1 (.lst ((stL row).take p))) p2 (.lst [.int (z : Int)])) p3 (.lst ((stL row).take p ++ [.int (z : Int)])) = H9 at y3 hp3e ⊢
              have ep1 : (p : Int) + 1 = ((p + 1 : Nat) : Int) := by omega
              refine ⟨_, rfl, _, rfl, _, _, rfl, rfl, _, rfl, a, _, rfl, SqL.of (y3.lst hro8), fun p4 hp4 => ⟨p3, p4, _, _, rfl, rfl, (Ext.new hp4).lst hp3e, upd_same, ?_, fun p5 hp5 => ?_⟩⟩
              · rw [ep1, cut_fromV, List.length_append, List.length_take, List.length_drop, List.length_map, List.length_singleton]
                omega
              dsimp only
              rw [ep1, cut_fromV] at hp5 ⊢
              rw [set_cut (by omega)]
              have y4 := y3.trans (.new (o := .lst ((stL row).drop (p + 1))) hp4)
              have y5 := y4.trans (.new (o := .lst (stL (row.set p (some z)))) hp5)
              have hD9 := y5.lst hD8
              have hDp5 : D ≠ p5 := ne_of_none (y4.lst hD8) hp5
              refine ⟨D, _, _, rfl, rfl, hD9, by rw [List.length_map]; omega, ?_⟩
              refine ⟨las ++ [p5], _, _, rfl, (x78.trans y5).write hD, ?_, ?_, ?_⟩
              · rw [upd_same, List.map_append]
                rfl
              · intro hm
                rcases List.mem_append.mp hm with hm | hm
                · exact hDl hm
                · exact hDp5 (List.mem_singleton.mp hm)
              · rw [← List.append_assoc]
                exact ((hla8.ext y5).upd hDl).app (.cons (by rw [upd_ne hDp5.symm]; exact upd_same) .nil)
            · rw [decide_eq_false (show ¬ ((row.count (some z) : Nat) : Int) < ((ss[z] : Nat) : Int) by omega), if_neg hlt, List.append_nil]
              exact iteF ⟨las, _, _, rfl, x78, hD8, hDl, hla8⟩
        · rintro σ H7 ⟨las, o8, o9, rfl, x7, hD7, hDl, hla⟩
          rw [Int.toNat_natCast] at hla
          exact ⟨las, _, _, _, rfl, x7, hD7, hDl, hla⟩
      · rintro σ H6 ⟨las, o7, o8, o9, rfl, x6, hD6, hDl, hla⟩
        rw [List.length_map, hrl, List.take_length] at hla
        exact ⟨_, rfl, D, las, _, _, _, _, _, rfl, x4.trans x6, hD6, hla⟩
    · rintro σ H4 ⟨r, as, o3, o6, o7, o8, o9, rfl, x4, hr4, hra⟩
      rw [vsN_len] at hra
      have hrl := hra.len
      have hrb := fbound _ (Nat.le_refl _)
      have hall := rowsAt_all (ss := ss) _ (Nat.le_refl (freeL fs.length hs).length)
      have k' : ∀ (q : Addr) (xs : List V) (H' : Hp), Ext H H' → H q = none → H' q = some (.lst xs) → DpAll K H' xs (((rowsAt fs.length hs ss (freeL fs.length hs).length).map (valD hs.length)).filter (servB fs.length bs hs ss)) → Q (.ref q) H' := k
      generalize rowsAt fs.length hs ss (freeL fs.length hs).length = rows at hra hrl hrb hall k'
      dsimp only [gName, tSeq, List.set]
      have y0 := x13.trans x4
      refine ⟨Nat.zero_le _, fun fo hfo => ?_⟩
      have hfoH := y0.free hfo
      have x5 : Ext H4 (upd H4 fo (.lst [])) := .new hfo
      have hfo5 : (upd H4 fo (.lst [])) fo = some (.lst []) := upd_same
      generalize upd H4 fo (.lst []) = H5 at x5 hfo5 ⊢
      dsimp only [gName, tSeq, List.set]
      refine ⟨_, rfl, r, rfl, ⟨_, SqL.of (x5.lst hr4)⟩, for_list (K := K) (a := r) (xs := as.map V.ref) (fun j σ H6 => ∃ (xs : List V) (o3 o7 o8 o9 o11 : Option V), σ = [some (.ref al), some (.ref t), some (.ref u), o3, some (.ref r), some (.ref fr), o6, o7, o8, o9, some (.ref fo), o11] ∧ Ext H4 H6 ∧ H6 fo = some (.lst xs) ∧ DpAll K H6 xs (((rows.take j).map (valD hs.length)).filter (servB fs.length bs hs ss)))
        ⟨[], _, _, _, _, _, rfl, x5, hfo5, .nil⟩ (fun j σ H6 _ ⟨_, _, _, _, _, _, _, x, _⟩ => SqL.of (x.lst hr4)) ?_ ?_⟩
      · clear hfo5 x5 H5
        rintro j v σ H6 hv ⟨xs, o3, o7, o8, o9, o11, rfl, x6, hfo6, hxs⟩
        have hjl : j < as.length := by
          have := (List.getElem?_eq_some_iff.mp hv).1
          rwa [List.length_map] at this
        rw [List.getElem?_map, List.getElem?_eq_getElem hjl] at hv
        obtain rfl := (Option.some.inj hv).symm
        obtain ⟨row, hrow, hro⟩ := hra.get (List.getElem?_eq_getElem hjl)
        have hrn := hall row (List.mem_of_getElem? hrow)
        have hn12 := ok.most
        have hxl := dpAll_len hxs
        have hfl' := List.length_filter_le (servB fs.length bs hs ss) ((rows.take j).map (valD hs.length))
        rw [List.length_map, List.length_take] at hfl'
        rw [show rows.take (j + 1) = rows.take j ++ [row] by rw [List.take_add_one, hrow]; rfl, List.map_append, List.filter_append]
        have nlb : noLs (((rows.take j).map (valD hs.length)).filter (servB fs.length bs hs ss)) = true := noLs_of fun d hd => by obtain ⟨p, _, rfl⟩ := List.mem_map.mp (List.mem_filter.mp hd).1; exact noL_val _ _
        generalize ((rows.take j).map (valD hs.length)).filter (servB fs.length bs hs ss) = base0 at hxs hxl hfl' nlb
        have nbase : ∀ (H7 : Hp), Ext H6 H7 → DpAll K H7 xs base0 := fun H7 x => dpAll_ext x hxs
        generalize as[j] = a at hro
        have hro6 := x6.lst hro
        dsimp only [gName, tSeq, List.set]
        have z06 := y0.trans x6
        refine ⟨_, rfl, _, hs.length, rfl, .inr ⟨_, z06.sqT ht, (vsN_len hs).symm⟩, _, rfl, by omega, by omega, fun D hD => ?_⟩
        refine lc_range (lo := 0) (n := (hs.length : Int).toNat) (fun i H7 => (∃ ys, H7 D = some (.lst ys) ∧ DpAll K H7 ys ((List.range i).map fun k => lotD (ownL row k))) ∧ Ext H6 H7) ⟨⟨[], upd_same, .nil⟩, .new hD⟩ (fun i H7 hi ⟨⟨ys, e7, hys⟩, x7⟩ => ?_) (fun H7 ⟨⟨ys, e7, hys⟩, x7⟩ => ?_)
        · rw [Int.toNat_natCast] at hi
          rw [Int.zero_add]
          have hyl := dpAll_len hys
          rw [List.length_map, List.length_range] at hyl
          have hro7 := x7.lst hro6
          refine ⟨rfl, ?_⟩
          dsimp only [tYes]
          rw [if_pos rfl]
          refine ⟨_, rfl, _, row.length, rfl, .inl ⟨_, SqL.of hro7, by rw [List.length_map]⟩, _, rfl, by omega, by omega, fun D2 hD2 => ?_⟩
          refine lc_range (lo := 0) (n := (row.length : Int).toNat) (fun c H8 => H8 D2 = some (.lst (vsN ((List.range c).filter fun p => decide (row.getD p none = some i)))) ∧ Ext H7 H8) ⟨upd_same, .new hD2⟩ (fun c H8 hc ⟨e8, x8⟩ => ?_) (fun H8 ⟨e8, x8⟩ => ?_)
          · rw [Int.toNat_natCast] at hc
            rw [Int.zero_add]
            have hcv : (stL row)[c]? = some (stV row[c]) := by rw [List.getElem?_map, List.getElem?_eq_getElem hc]; rfl
            have egd : row.getD c none = row[c] := by rw [List.getD_eq_getElem?_getD, List.getElem?_eq_getElem hc]; rfl
            refine ⟨rfl, _, rfl, _, rfl, a, _, _, _, rfl, rfl, SqL.of (x8.lst hro7), atI_nat hcv, _, rfl, scal_stV _ _, _, rfl, ?_⟩
            rw [stV_eq, List.range_succ, List.filter_append]
            by_cases hoc : row[c] = some i
            · rw [decide_eq_true hoc, List.filter_cons_of_pos (by rw [egd]; simpa using hoc)]
              refine iteT ⟨_, rfl, _, e8, ?_, ?_, x8.write hD2⟩
              · have := List.length_filter_le (fun p => decide (row.getD p none = some i)) (List.range c)
                rw [List.length_range] at this
                rw [List.length_map]
                exact small1000 (by omega)
              · rw [upd_same]
                show some (HO.lst (List.map _ _ ++ _)) = some (HO.lst (List.map _ (_ ++ [c])))
                rw [List.map_append]
                rfl
            · rw [decide_eq_false hoc, List.filter_cons_of_neg (by rw [egd]; simpa using hoc)]
              refine iteF ⟨?_, x8⟩
              simpa using e8
          · rw [Int.toNat_natCast] at e8
            refine .inl ⟨D2, _, rfl, SqL.of e8, fun q2 hq2 => ?_⟩
            have x9 : Ext H7 (upd H8 q2 (.tup (vsN (ownL row i)))) := x8.trans (.new hq2)
            have e9 := x9.lst e7
            refine ⟨_, e9, small1000 (by omega), ⟨ys ++ [.ref q2], upd_same, ?_⟩, (x7.trans x9).write hD⟩
            rw [List.range_succ, List.map_append]
            have hDq : D ≠ q2 := ne_of_none (x8.lst e7) hq2
            have hyw : noLs ((List.range i).map fun k => lotD (ownL row k)) = true := noLs_of fun d hd => by obtain ⟨p, _, rfl⟩ := List.mem_map.mp hd; exact noL_lot _
            have xw : ExtS [D] H7 (upd (upd H8 q2 (.tup (vsN (ownL row i)))) D (.lst (ys ++ [.ref q2]))) := (ExtS.of x9).write (.inr ⟨by simp, _, e7⟩)
            refine dpAll_app (dpAll_extS xw hyw hys) (.cons (dp_lotT (SqT.of ?_)) .nil)
            rw [upd_ne hDq.symm]
            exact upd_same
        · rw [Int.toNat_natCast] at hys
          refine .inl ⟨D, _, rfl, SqL.of e7, fun q3 hq3 => ?_⟩
          have x8 : Ext H6 (upd H7 q3 (.tup ys)) := x7.trans (.new hq3)
          have hv3 : Dp K (upd H7 q3 (.tup ys)) (.ref q3) (valD hs.length row) := dp_new hq3 hys
          generalize upd H7 q3 (.tup ys) = H8 at x8 hv3 ⊢
          have z08 := z06.trans x8
          dsimp only [gName, tSeq, List.set]
          refine ⟨_, rfl, _, rfl, _, rfl, _, rfl, .ref al, .ref q3, t, u, fs, bs, hs, ss, valD hs.length row, rfl, dp_ext z08 hl, ok, z08.sqT ht, z08.sqT hu, wo, hv3, smD_val (by omega) (by omega), sh_val 17 _ _, fun H9 x9 => ?_⟩
          have x69 := x8.trans x9
          cases hsb : servB fs.length bs hs ss (valD hs.length row) with
          | false =>
            refine ⟨false, rfl, iteF ⟨xs, _, _, _, _, _, rfl, x6.trans x69, x69.lst hfo6, ?_⟩⟩
            rw [List.map_cons, List.filter_cons_of_neg (by rw [hsb]; simp)]
            simpa using nbase H9 x69
          | true =>
            have h9 := x69.lst hfo6
            refine ⟨true, rfl, iteT ⟨_, rfl, .inl ⟨rfl, _, SqL.of h9⟩, _, rfl, fo, _, _, rfl, rfl, h9, by omega, ?_⟩⟩
            refine ⟨xs ++ [.ref q3], _, _, _, _, _, rfl, (x6.trans x69).write hfo, upd_same, ?_⟩
            rw [List.map_cons, List.filter_cons_of_pos hsb]
            have xw : ExtS [fo] H6 (upd H9 fo (.lst (xs ++ [.ref q3]))) := (ExtS.of x69).write (.inr ⟨by simp, _, hfo6⟩)
            have xw9 : ExtS [fo] H9 (upd H9 fo (.lst (xs ++ [.ref q3]))) := (ExtS.refl _ _).write (.inr ⟨by simp, _, h9⟩)
            refine dpAll_app (dpAll_extS xw nlb hxs) (.cons (dp_extS xw9 (noL_val _ _) (dp_ext x9 hv3)) .nil)
      · rintro σ H6 ⟨xs, o3', o7', o8', o9', o11', rfl, x6, hfo6, hxs⟩
        rw [List.length_map, hrl, List.take_length] at hxs
        exact ⟨_, rfl, k' fo xs H6 (y0.trans x6) hfoH hfo6 hxs⟩
end
end Wd

set_option Elab.async false
set_option linter.all false
set_option maxRecDepth 100000
set_option maxHeartbeats 4000000
namespace Wd
open PySem PySem.Spec PyProof.Rows L2 Bx Gx

























































section
/-! ### servings as lists of lots -/
theorem nodup_sub {α : Type} [DecidableEq α] : ∀ {l m : List α}, l.Nodup → (∀ x ∈ l, x ∈ m) → l.length ≤ m.length
  | [], m, _, _ => Nat.zero_le _
  | x :: l, m, nd, h => by
    rw [List.nodup_cons] at nd
    have hx := h x List.mem_cons_self
    have ih := nodup_sub (l := l) (m := m.erase x) nd.2 fun y hy => (List.mem_erase_of_ne (fun e => nd.1 (by rw [← e]; exact hy))).mpr (h y (List.mem_cons_of_mem _ hy))
    rw [List.length_erase_of_mem hx] at ih
    have := List.length_pos_of_mem hx
    rw [List.length_cons]
    omega
structure SvL (n : Nat) (bs : List (Nat × Nat)) (hs ss : List Nat) (lots : List (List Nat)) : Prop where
  len : lots.length = hs.length
  lot : ∀ k, k < hs.length → LotOk n (lots.getD k [])
  hd : ∀ k, k < hs.length → hs.getD k 0 ∈ lots.getD k []
  sz : ∀ k, k < hs.length → (lots.getD k []).length = ss.getD k 0
  hg : ∀ k, k < hs.length → Hangs bs (lots.getD k [])
  dj : ∀ j k p, j < hs.length → k < hs.length → p ∈ lots.getD j [] → p ∈ lots.getD k [] → j = k
  cov : ∀ p, p < n → ∃ k, k < hs.length ∧ p ∈ lots.getD k []
theorem flat_dj : ∀ {L : List (List Nat)}, L.flatten.Nodup → ∀ j k p, j < L.length → k < L.length → p ∈ L.getD j [] → p ∈ L.getD k [] → j = k
  | [], _, j, k, p, hj, _, _, _ => absurd hj (Nat.not_lt_zero _)
  | u :: L, nd, j, k, p, hj, hk, h1, h2 => by
    rw [List.flatten_cons, List.nodup_append] at nd
    have out : ∀ i, i < L.length → p ∈ L.getD i [] → p ∈ L.flatten := fun i hi h => by
      rw [List.getD_eq_getElem?_getD, List.getElem?_eq_getElem hi] at h
      exact List.mem_flatten.mpr ⟨_, List.getElem_mem hi, h⟩
    match j, k, hj, hk, h1, h2 with
    | 0, 0, _, _, _, _ => rfl
    | 0, k + 1, _, hk, h1, h2 => exact absurd rfl (nd.2.2 p h1 p (out k (by simpa using hk) (by simpa using h2)))
    | j + 1, 0, hj, _, h1, h2 => exact absurd rfl (nd.2.2 p h2 p (out j (by simpa using hj) (by simpa using h1)))
    | j + 1, k + 1, hj, hk, h1, h2 => rw [flat_dj nd.2.1 j k p (by simpa using hj) (by simpa using hk) (by simpa using h1) (by simpa using h2)]
theorem getD_map_nats (ds : List PyData) (k : Nat) : (ds.map natsD).getD k [] = natsD (ds.getD k .none) := by
  rw [List.getD_eq_getElem?_getD, List.getElem?_map, List.getD_eq_getElem?_getD]
  cases ds[k]? <;> rfl
theorem svL_of {n : Nat} {bs : List (Nat × Nat)} {hs ss : List Nat} {ds : List PyData} (wo : WishOk n hs ss) (h : servB n bs hs ss (.tuple ds) = true) : SvL n bs hs ss (ds.map natsD) := by
  rw [servB_eq, Bool.and_eq_true, Bool.and_eq_true, decide_eq_true_eq, decide_eq_true_eq] at h
  obtain ⟨h1, h2, h3⟩ := h
  have h2' : ∀ k, k < ds.length → wardB n bs (hs.getD k 0) (ss.getD k 0) (ds.getD k .none) = true := fun k hk => List.all_eq_true.mp h2 k (List.mem_range.mpr hk)
  have hp := (flat_perm wo h1 h2').mpr h3
  refine ⟨by rw [List.length_map, h1], fun k hk => ?_, fun k hk => ?_, fun k hk => ?_, fun k hk => ?_, fun j k p hj hk a b => flat_dj h3 j k p (by rw [List.length_map]; omega) (by rw [List.length_map]; omega) a b, fun p hp' => ?_⟩
  all_goals try rw [getD_map_nats]
  · exact (wardB_parts (h2' k (by omega))).2.1
  · exact (wardB_parts (h2' k (by omega))).2.2.1
  · exact (wardB_parts (h2' k (by omega))).2.2.2.1
  · exact (wardB_parts (h2' k (by omega))).2.2.2.2
  · obtain ⟨u, hu, hpu⟩ := List.mem_flatten.mp (hp.mem_iff.mpr (List.mem_range.mpr hp'))
    obtain ⟨k, hk, rfl⟩ := List.getElem_of_mem hu
    exact ⟨k, by rw [List.length_map] at hk; omega, by rw [List.getD_eq_getElem?_getD, List.getElem?_eq_getElem hk]; exact hpu⟩
theorem of_svL {n : Nat} {bs : List (Nat × Nat)} {hs ss : List Nat} {lots : List (List Nat)} (h : SvL n bs hs ss lots) : servB n bs hs ss (.tuple (lots.map lotD)) = true := by
  have eg : ∀ k, k < hs.length → (lots.map lotD).getD k .none = lotD (lots.getD k []) := fun k hk => by
    have hk : k < lots.length := by rw [h.len]; exact hk
    rw [List.getD_eq_getElem?_getD, List.getElem?_map, List.getD_eq_getElem?_getD, List.getElem?_eq_getElem hk]
    rfl
  refine servB_ok (by rw [List.length_map, h.len]) (fun k hk => ?_) ?_
  · rw [List.length_map, h.len] at hk
    rw [eg k hk]
    unfold wardB
    rw [lotB_is (h.lot k hk), natsD_lot, decide_eq_true (h.hd k hk), decide_eq_true (h.sz k hk), hangB_iff.mpr (h.hg k hk)]
    rfl
  · have em : (lots.map lotD).map natsD = lots := by
      rw [List.map_map]
      exact (List.map_congr_left fun u _ => natsD_lot u).trans (List.map_id lots)
    rw [em]
    show List.Pairwise _ _
    rw [List.pairwise_flatten]
    constructor
    · intro u hu
      obtain ⟨k, hk, rfl⟩ := List.getElem_of_mem hu
      have := (h.lot k (by rw [← h.len]; exact hk)).asc
      rw [List.getD_eq_getElem?_getD, List.getElem?_eq_getElem hk] at this
      exact this.imp fun z => Nat.ne_of_lt z
    · rw [List.pairwise_iff_getElem]
      intro i j hi hj hij x hx y hy e
      have g : ∀ k (hk : k < lots.length), lots.getD k [] = lots[k] := fun k hk => by rw [List.getD_eq_getElem?_getD, List.getElem?_eq_getElem hk]; rfl
      have := h.dj i j x (by rw [← h.len]; exact hi) (by rw [← h.len]; exact hj) (by rw [g i hi]; exact hx) (by rw [g j hj, e]; exact hy)
      omega
/-! ### states and cases -/
def frL (st : List (Option Nat)) (k : Nat) : List Nat := (List.range st.length).filter fun q => decide (st.getD q none = some k ∨ st.getD q none = none)
noncomputable def comeB (bs : List (Nat × Nat)) (st : List (Option Nat)) (h k p : Nat) : Bool := @decide (Mk.Conn bs (· ∈ frL st k) h p) (Classical.propDecidable _)
noncomputable def comeL (bs : List (Nat × Nat)) (st : List (Option Nat)) (h k : Nat) : List Nat := (List.range st.length).filter fun p => comeB bs st h k p
theorem comeB_iff {bs : List (Nat × Nat)} {st : List (Option Nat)} {h k p : Nat} : comeB bs st h k p = true ↔ Mk.Conn bs (· ∈ frL st k) h p := by
  unfold comeB
  exact @decide_eq_true_iff _ (Classical.propDecidable _)
theorem mem_frL {st : List (Option Nat)} {k q : Nat} : q ∈ frL st k ↔ q < st.length ∧ (st.getD q none = some k ∨ st.getD q none = none) := by
  unfold frL
  rw [List.mem_filter, List.mem_range, decide_eq_true_eq]
theorem mem_comeL {bs : List (Nat × Nat)} {st : List (Option Nat)} {h k p : Nat} : p ∈ comeL bs st h k ↔ Mk.Conn bs (· ∈ frL st k) h p := by
  unfold comeL
  rw [List.mem_filter, List.mem_range, comeB_iff]
  exact ⟨fun z => z.2, fun z => ⟨(mem_frL.mp z.snd).1, z⟩⟩
theorem mem_ownL {st : List (Option Nat)} {k q : Nat} : q ∈ ownL st k ↔ q < st.length ∧ st.getD q none = some k := by
  unfold ownL
  rw [List.mem_filter, List.mem_range, decide_eq_true_eq]
noncomputable def overB (ss : List Nat) (st : List (Option Nat)) (k : Nat) : Bool := decide (ss.getD k 0 < (ownL st k).length)
noncomputable def shutSB (bs : List (Nat × Nat)) (hs ss : List Nat) (st : List (Option Nat)) (k : Nat) : Bool := decide ((comeL bs st (hs.getD k 0) k).length < ss.getD k 0) || (ownL st k).any fun p => !comeB bs st (hs.getD k 0) k p
noncomputable def lostB (bs : List (Nat × Nat)) (hs : List Nat) (st : List (Option Nat)) (p : Nat) : Bool := decide (p < st.length ∧ st.getD p none = none) && (List.range hs.length).all fun k => !comeB bs st (hs.getD k 0) k p
mutual
/-- whether data is cases of a state -/
noncomputable def casesB (bs : List (Nat × Nat)) (hs ss : List Nat) : PyData → List (Option Nat) → Bool
  | .tuple ds, st => casesT bs hs ss ds st
  | _, _ => false
noncomputable def casesT (bs : List (Nat × Nat)) (hs ss : List Nat) : List PyData → List (Option Nat) → Bool
  | [], _ => false
  | w :: ds, st => casesU bs hs ss w ds st
noncomputable def casesU (bs : List (Nat × Nat)) (hs ss : List Nat) (w : PyData) : List PyData → List (Option Nat) → Bool
  | [], _ => false
  | a :: ds, st => casesV bs hs ss w a ds st
noncomputable def casesV (bs : List (Nat × Nat)) (hs ss : List Nat) (w a : PyData) : List PyData → List (Option Nat) → Bool
  | [], st => match w, a with
    | .str w, .int i => (decide (w = Str.ofString "over") && (decide (0 ≤ i ∧ i < hs.length) && overB ss st i.toNat)) || ((decide (w = Str.ofString "shut") && (decide (0 ≤ i ∧ i < hs.length) && shutSB bs hs ss st i.toNat)) || (decide (w = Str.ofString "lost") && (decide (0 ≤ i) && lostB bs hs st i.toNat)))
    | _, _ => false
  | r :: ds, st => match w, a with
    | .str w, .int i => decide (w = Str.ofString "split") && (decide (0 ≤ i ∧ i.toNat < st.length ∧ st.getD i.toNat none = none) && (ds.isEmpty && casesR bs hs ss i.toNat r st))
    | _, _ => false
noncomputable def casesR (bs : List (Nat × Nat)) (hs ss : List Nat) (p : Nat) : PyData → List (Option Nat) → Bool
  | .tuple rows, st => decide (rows.length = hs.length) && casesAll bs hs ss p 0 rows st
  | _, _ => false
noncomputable def casesAll (bs : List (Nat × Nat)) (hs ss : List Nat) (p : Nat) (k : Nat) : List PyData → List (Option Nat) → Bool
  | [], _ => true
  | d :: ds, st => casesB bs hs ss d (st.set p (some k)) && casesAll bs hs ss p (k + 1) ds st
end
theorem casesB_word (bs : List (Nat × Nat)) (hs ss : List Nat) (w : Str) (i : Int) (st : List (Option Nat)) : casesB bs hs ss (.tuple [.str w, .int i]) st = ((decide (w = Str.ofString "over") && (decide (0 ≤ i ∧ i < hs.length) && overB ss st i.toNat)) || ((decide (w = Str.ofString "shut") && (decide (0 ≤ i ∧ i < hs.length) && shutSB bs hs ss st i.toNat)) || (decide (w = Str.ofString "lost") && (decide (0 ≤ i) && lostB bs hs st i.toNat)))) := by
  simp only [casesB, casesT, casesU, casesV]
theorem casesB_split (bs : List (Nat × Nat)) (hs ss : List Nat) (w : Str) (i : Int) (rows : List PyData) (st : List (Option Nat)) : casesB bs hs ss (.tuple [.str w, .int i, .tuple rows]) st = (decide (w = Str.ofString "split") && (decide (0 ≤ i ∧ i.toNat < st.length ∧ st.getD i.toNat none = none) && (decide (rows.length = hs.length) && casesAll bs hs ss i.toNat 0 rows st))) := by
  simp only [casesB, casesT, casesU, casesV, casesR, List.isEmpty_nil, Bool.true_and]
theorem casesAll_get {bs : List (Nat × Nat)} {hs ss : List Nat} {p : Nat} {st : List (Option Nat)} : ∀ {rows : List PyData} {k : Nat}, casesAll bs hs ss p k rows st = true → ∀ j d, rows[j]? = some d → casesB bs hs ss d (st.set p (some (k + j))) = true
  | [], _, _, j, d, e => by simp at e
  | d0 :: rows, k, h, j, d, e => by
    rw [casesAll, Bool.and_eq_true] at h
    cases j with
    | zero => simp at e; subst e; exact h.1
    | succ j =>
      have := casesAll_get (rows := rows) (k := k + 1) h.2 j d (by simpa using e)
      rw [show k + 1 + j = k + (j + 1) by omega] at this
      exact this
theorem casesAll_of {bs : List (Nat × Nat)} {hs ss : List Nat} {p : Nat} {st : List (Option Nat)} : ∀ {rows : List PyData} {k : Nat}, (∀ j d, rows[j]? = some d → casesB bs hs ss d (st.set p (some (k + j))) = true) → casesAll bs hs ss p k rows st = true
  | [], _, _ => by rw [casesAll]
  | d0 :: rows, k, h => by
    rw [casesAll, Bool.and_eq_true]
    refine ⟨h 0 d0 rfl, casesAll_of fun j d e => ?_⟩
    have := h (j + 1) d (by simpa using e)
    rw [show k + (j + 1) = k + 1 + j by omega] at this
    exact this
/-- what cases can look like -/
theorem casesB_inv {bs : List (Nat × Nat)} {hs ss : List Nat} {d : PyData} {st : List (Option Nat)} (h : casesB bs hs ss d st = true) : (∃ w i, d = .tuple [.str w, .int i]) ∨ ∃ w i rows, d = .tuple [.str w, .int i, .tuple rows] := by
  match d, h with
  | .tuple [], h => simp [casesB, casesT] at h
  | .tuple [_], h => simp [casesB, casesT, casesU] at h
  | .tuple [w, a], h =>
    simp only [casesB, casesT, casesU, casesV] at h
    cases w <;> cases a <;> first | exact .inl ⟨_, _, rfl⟩ | exact absurd h Bool.false_ne_true
  | .tuple (w :: a :: r :: ds), h =>
    simp only [casesB, casesT, casesU, casesV] at h
    cases w with
    | str w => cases a with
      | int i =>
        simp only [Bool.and_eq_true] at h
        obtain ⟨_, _, h3, h4⟩ := h
        cases ds with
        | cons _ _ => cases h3
        | nil => cases r with
          | tuple rows => exact .inr ⟨_, _, _, rfl⟩
          | _ => simp [casesR] at h4
      | _ => exact absurd h Bool.false_ne_true
    | _ => exact absurd h Bool.false_ne_true
structure GoodSt (n : Nat) (hs : List Nat) (st : List (Option Nat)) : Prop where
  len : st.length = n
  val : ∀ p k, st.getD p none = some k → k < hs.length
  hd : ∀ k, k < hs.length → st.getD (hs.getD k 0) none = some k
theorem getD_set {st : List (Option Nat)} {p q : Nat} {v : Option Nat} (hp : p < st.length) : (st.set p v).getD q none = if q = p then v else st.getD q none := by
  rw [List.getD_eq_getElem?_getD, List.getElem?_set, List.getD_eq_getElem?_getD]
  by_cases e : q = p
  · subst e; simp [hp]
  · rw [if_neg (fun z => e z.symm), if_neg e]
theorem GoodSt.set {n : Nat} {hs : List Nat} {st : List (Option Nat)} {p k : Nat} (g : GoodSt n hs st) (hp : p < n) (hf : st.getD p none = none) (hk : k < hs.length) : GoodSt n hs (st.set p (some k)) := by
  have hp' : p < st.length := by rw [g.len]; exact hp
  refine ⟨by rw [List.length_set]; exact g.len, fun q j h => ?_, fun j hj => ?_⟩
  · rw [getD_set hp'] at h
    by_cases e : q = p
    · rw [if_pos e] at h; cases h; exact hk
    · rw [if_neg e] at h; exact g.val q j h
  · rw [getD_set hp']
    by_cases e : hs.getD j 0 = p
    · have := g.hd j hj
      rw [e, hf] at this
      cases this
    · rw [if_neg e]; exact g.hd j hj
/-- what cases are told of has no serving -/
theorem refute {n : Nat} {bs : List (Nat × Nat)} {hs ss : List Nat} {lots : List (List Nat)} (sv : SvL n bs hs ss lots) : ∀ (r : Nat) {d : PyData} {st : List (Option Nat)}, d.depth ≤ r → GoodSt n hs st → (∀ p k, st.getD p none = some k → p ∈ lots.getD k []) → casesB bs hs ss d st = true → False := by
  have within : ∀ {st : List (Option Nat)}, GoodSt n hs st → (∀ p k, st.getD p none = some k → p ∈ lots.getD k []) → ∀ k, k < hs.length → ∀ q ∈ lots.getD k [], Mk.Conn bs (· ∈ frL st k) (hs.getD k 0) q := fun {st} g x k hk q hq => by
    have hc := sv.hg k hk _ (sv.hd k hk) q hq
    refine hc.mono fun p hp => mem_frL.mpr ⟨by rw [g.len]; exact (sv.lot k hk).lt p hp, ?_⟩
    cases e : st.getD p none with
    | none => exact .inr rfl
    | some j =>
      have hj := g.val p j e
      have := sv.dj j k p hj hk (x p j e) hp
      rw [this]
      exact .inl rfl
  intro r
  induction r with
  | zero =>
    intro d st hd g x h
    rcases casesB_inv h with ⟨w, i, rfl⟩ | ⟨w, i, rows, rfl⟩ <;> simp [PyData.depth] at hd
  | succ r ih =>
    intro d st hd g x h
    have wi := within g x
    rcases casesB_inv h with ⟨w, i, rfl⟩ | ⟨w, i, rows, rfl⟩
    · rw [casesB_word] at h
      simp only [Bool.or_eq_true, Bool.and_eq_true, decide_eq_true_eq] at h
      rcases h with ⟨_, ⟨h0, h1⟩, h2⟩ | ⟨_, ⟨h0, h1⟩, h2⟩ | ⟨_, h0, h2⟩
      · have hk : i.toNat < hs.length := by omega
        have h2 : ss.getD i.toNat 0 < (ownL st i.toNat).length := of_decide_eq_true h2
        rw [← sv.sz _ hk] at h2
        have := nodup_sub (l := ownL st i.toNat) (m := lots.getD i.toNat []) (List.nodup_range.filter _) fun q hq => x q _ (mem_ownL.mp hq).2
        omega
      · have hk : i.toNat < hs.length := by omega
        unfold shutSB at h2
        rw [Bool.or_eq_true, decide_eq_true_eq, List.any_eq_true] at h2
        rcases h2 with h2 | ⟨q, hq, h2⟩
        · rw [← sv.sz _ hk] at h2
          have := nodup_sub (l := lots.getD i.toNat []) (m := comeL bs st (hs.getD i.toNat 0) i.toNat) ((sv.lot _ hk).asc.imp fun z => Nat.ne_of_lt z) fun q hq => mem_comeL.mpr (wi _ hk q hq)
          omega
        · have := comeB_iff.mpr (wi _ hk q (x q _ (mem_ownL.mp hq).2))
          rw [this] at h2
          cases h2
      · unfold lostB at h2
        rw [Bool.and_eq_true, decide_eq_true_eq, List.all_eq_true] at h2
        obtain ⟨⟨hp, hf⟩, h3⟩ := h2
        obtain ⟨k, hk, hpk⟩ := sv.cov i.toNat (by rw [← g.len]; exact hp)
        have h4 := h3 k (List.mem_range.mpr hk)
        rw [comeB_iff.mpr (wi k hk _ hpk)] at h4
        cases h4
    · rw [casesB_split] at h
      simp only [Bool.and_eq_true, decide_eq_true_eq] at h
      obtain ⟨_, ⟨h0, hp, hf⟩, hl, ha⟩ := h
      have hpn : i.toNat < n := by rw [← g.len]; exact hp
      obtain ⟨k, hk, hpk⟩ := sv.cov i.toNat hpn
      have hkr : k < rows.length := by omega
      have hc := casesAll_get ha k rows[k] (List.getElem?_eq_getElem hkr)
      rw [Nat.zero_add] at hc
      have hdr : (rows[k]).depth ≤ r := by
        simp only [PyData.depth, PyData.depthAll] at hd
        exact depth_get (ds := rows) (n := r) (by omega) _ (List.getElem_mem hkr)
      refine ih hdr (g.set hpn hf hk) (fun q j e => ?_) hc
      rw [getD_set hp] at e
      by_cases z : q = i.toNat
      · rw [if_pos z] at e
        cases e
        rw [z]; exact hpk
      · rw [if_neg z] at e
        exact x q j e
end
end Wd

set_option Elab.async false
set_option linter.all false
set_option maxRecDepth 100000
set_option maxHeartbeats 4000000
namespace Wd
open PySem PySem.Spec PyProof.Rows L2 Bx Gx

























































section
/-! ### all servings are listed -/
theorem own_count (row : List (Option Nat)) (k : Nat) : row.count (some k) = (ownL row k).length := by
  have e : row = (List.range row.length).map fun q => row.getD q none := by
    refine List.ext_getElem (by simp) fun i h1 h2 => ?_
    simp [List.getD_eq_getElem?_getD, List.getElem?_eq_getElem h1]
  have key : ∀ l : List Nat, (l.map fun q => row.getD q none).count (some k) = (l.filter fun q => decide (row.getD q none = some k)).length := fun l => by
    induction l with
    | nil => rfl
    | cons x l ih =>
      rw [List.map_cons, List.count_cons, ih]
      by_cases h : row.getD x none = some k
      · rw [List.filter_cons_of_pos (by simpa using h), List.length_cons, h]; simp
      · rw [List.filter_cons_of_neg (by simpa using h), if_neg (by simpa using h)]; rfl
  exact (congrArg (List.count (some k)) e).trans (key _)
theorem firstS_get {n : Nat} {hs : List Nat} {p : Nat} (hp : p < n) : (firstS n hs).getD p none = hdAt hs p := by
  unfold firstS
  rw [List.getD_eq_getElem?_getD, List.getElem?_map, List.getElem?_range hp]
  rfl
theorem firstS_good {n : Nat} {hs : List Nat} (nd : hs.Nodup) (hlt : ∀ h ∈ hs, h < n) : GoodSt n hs (firstS n hs) := by
  refine ⟨by rw [firstS, List.length_map, List.length_range], fun p k h => ?_, fun k hk => ?_⟩
  · by_cases hp : p < n
    · rw [firstS_get hp] at h
      unfold hdAt at h
      by_cases m : p ∈ hs
      · rw [if_pos m] at h
        cases h
        exact List.idxOf_lt_length_iff.mpr m
      · rw [if_neg m] at h; cases h
    · rw [List.getD_eq_getElem?_getD, List.getElem?_eq_none (by rw [firstS, List.length_map, List.length_range]; omega)] at h
      cases h
  · have e : hs.getD k 0 = hs[k] := by rw [List.getD_eq_getElem?_getD, List.getElem?_eq_getElem hk]; rfl
    have hm := List.getElem_mem hk
    rw [e, firstS_get (hlt _ hm)]
    unfold hdAt
    rw [if_pos hm, nd.idxOf_getElem k hk]
theorem first_within {n : Nat} {bs : List (Nat × Nat)} {hs ss : List Nat} {lots : List (List Nat)} (hlt : ∀ h ∈ hs, h < n) (sv : SvL n bs hs ss lots) : ∀ p k, (firstS n hs).getD p none = some k → p ∈ lots.getD k [] := fun p k h => by
  by_cases hp : p < n
  · rw [firstS_get hp] at h
    unfold hdAt at h
    by_cases m : p ∈ hs
    · rw [if_pos m] at h
      cases h
      have hk := List.idxOf_lt_length_iff.mpr m
      have := sv.hd _ hk
      have e1 : hs.getD (hs.idxOf p) 0 = p := by rw [List.getD_eq_getElem?_getD, List.getElem?_eq_getElem hk, Option.getD_some, List.getElem_idxOf hk]
      rw [e1] at this
      exact this
    · rw [if_neg m] at h; cases h
  · rw [List.getD_eq_getElem?_getD, List.getElem?_eq_none (by rw [firstS, List.length_map, List.length_range]; omega)] at h
    cases h
theorem freeL_nodup (n : Nat) (hs : List Nat) : (freeL n hs).Nodup := List.nodup_range.filter _
theorem mem_freeL {n : Nat} {hs : List Nat} {p : Nat} : p ∈ freeL n hs ↔ p < n ∧ p ∉ hs := by
  unfold freeL
  rw [List.mem_filter, List.mem_range, decide_eq_true_eq]
theorem servL_all {n : Nat} {bs : List (Nat × Nat)} {hs ss : List Nat} {d : PyData} (wo : WishOk n hs ss) (h : servB n bs hs ss d = true) : d ∈ servL n bs hs ss := by
  cases d with
  | tuple ds =>
    have h0 := h
    have sv := svL_of wo h
    rw [servB_eq, Bool.and_eq_true, Bool.and_eq_true, decide_eq_true_eq] at h
    obtain ⟨h1, h2, _⟩ := h
    have step : ∀ i, i ≤ (freeL n hs).length → ∃ row, row ∈ rowsAt n hs ss i ∧ row.length = n ∧ (∀ p, p < n → p ∈ hs ∨ p ∈ (freeL n hs).take i → ∃ k, k < hs.length ∧ row.getD p none = some k ∧ p ∈ (ds.map natsD).getD k []) ∧ ∀ p, p < n → p ∉ hs → p ∉ (freeL n hs).take i → row.getD p none = none := by
      intro i
      induction i with
      | zero =>
        intro _
        refine ⟨firstS n hs, by simp [rowsAt], by rw [firstS, List.length_map, List.length_range], fun p hp hm => ?_, fun p hp hm _ => ?_⟩
        · have hm : p ∈ hs := hm.elim id fun z => by simp at z
          have e : (firstS n hs).getD p none = some (hs.idxOf p) := by rw [firstS_get hp]; unfold hdAt; rw [if_pos hm]
          exact ⟨_, List.idxOf_lt_length_iff.mpr hm, e, first_within wo.lt sv p _ e⟩
        · rw [firstS_get hp]; unfold hdAt; rw [if_neg hm]
      | succ i ih =>
        intro hi
        obtain ⟨row, hr, hl, ha, hb⟩ := ih (by omega)
        have hi' : i < (freeL n hs).length := by omega
        have hpm := List.getElem_mem hi'
        obtain ⟨hpn, hph⟩ := mem_freeL.mp hpm
        obtain ⟨k, hk, hpk⟩ := sv.cov _ hpn
        have hnt : (freeL n hs)[i] ∉ (freeL n hs).take i := fun m => by
          have nd := freeL_nodup n hs
          rw [← List.take_append_drop i (freeL n hs), List.drop_eq_getElem_cons hi'] at nd
          exact (List.nodup_append.mp nd).2.2 _ m _ List.mem_cons_self rfl
        have hf := hb _ hpn hph hnt
        have etk : (freeL n hs).take (i + 1) = (freeL n hs).take i ++ [(freeL n hs)[i]] := by rw [List.take_add_one, List.getElem?_eq_getElem hi']; rfl
        generalize ep : (freeL n hs)[i] = p at hpn hph hpk hnt hf etk hpm
        have hpl : p < row.length := by omega
        have hcnt : row.count (some k) < ss.getD k 0 := by
          rw [own_count, ← sv.sz k hk]
          have := nodup_sub (l := p :: ownL row k) (m := (ds.map natsD).getD k []) (List.nodup_cons.mpr ⟨(fun z => by rw [(mem_ownL.mp z).2] at hf; cases hf), List.nodup_range.filter _⟩) fun q hq => by
            rcases List.mem_cons.mp hq with rfl | hq
            · exact hpk
            · obtain ⟨hq1, hq2⟩ := mem_ownL.mp hq
              by_cases hqm : q ∈ hs ∨ q ∈ (freeL n hs).take i
              · obtain ⟨j, _, e, hqj⟩ := ha q (by omega) hqm
                rw [hq2] at e
                cases e
                exact hqj
              · have := hb q (by omega) (fun z => hqm (.inl z)) fun z => hqm (.inr z)
                rw [hq2] at this
                cases this
          rw [List.length_cons] at this
          omega
        refine ⟨row.set p (some k), ?_, by rw [List.length_set]; exact hl, fun q hq hm => ?_, fun q hq hm hn => ?_⟩
        · rw [rowsAt_succ hi']
          rw [ep]
          exact List.mem_flatMap.mpr ⟨row, hr, List.mem_map.mpr ⟨k, List.mem_filter.mpr ⟨List.mem_range.mpr hk, decide_eq_true hcnt⟩, rfl⟩⟩
        · rw [getD_set hpl]
          by_cases e : q = p
          · exact ⟨k, hk, if_pos e, by rw [e]; exact hpk⟩
          · rw [if_neg e]
            refine ha q hq (hm.imp id fun z => ?_)
            rw [etk] at z
            exact (List.mem_append.mp z).elim id fun z => absurd (List.mem_singleton.mp z) e
        · rw [etk] at hn
          rw [getD_set hpl, if_neg fun e => hn (by rw [e]; simp)]
          exact hb q hq hm fun z => hn (List.mem_append_left _ z)
    obtain ⟨row, hr, hl, ha, _⟩ := step _ (Nat.le_refl _)
    rw [List.take_length] at ha
    have hall : ∀ p, p < n → ∃ k, k < hs.length ∧ row.getD p none = some k ∧ p ∈ (ds.map natsD).getD k [] := fun p hp => ha p hp (by
      by_cases m : p ∈ hs
      · exact .inl m
      · exact .inr (mem_freeL.mpr ⟨hp, m⟩))
    have eown : ∀ k, k < hs.length → ownL row k = (ds.map natsD).getD k [] := fun k hk => Mk.asc_ext ((Mk.range_pair _).filter _) (sv.lot k hk).asc fun q => by
      rw [mem_ownL]
      constructor
      · rintro ⟨hq, e⟩
        obtain ⟨j, _, e2, hj⟩ := hall q (by omega)
        rw [e] at e2
        cases e2
        exact hj
      · intro hq
        have hqn := (sv.lot k hk).lt q hq
        obtain ⟨j, hj, e, hqj⟩ := hall q hqn
        refine ⟨by omega, ?_⟩
        rw [e, sv.dj j k q hj hk hqj hq]
    have ed : valD hs.length row = .tuple ds := by
      unfold valD
      congr 1
      refine List.ext_getElem (by rw [List.length_map, List.length_range, h1]) fun k hk hk2 => ?_
      rw [List.length_map, List.length_range] at hk
      rw [List.getElem_map, List.getElem_range, eown k hk, getD_map_nats]
      have := (wardB_parts (List.all_eq_true.mp h2 k (List.mem_range.mpr hk2))).1
      have eg : ds.getD k .none = ds[k] := by rw [List.getD_eq_getElem?_getD, List.getElem?_eq_getElem hk2]; rfl
      rw [eg] at this ⊢
      exact this.symm
    exact List.mem_filter.mpr ⟨List.mem_map.mpr ⟨row, hr, ed⟩, h0⟩
  | _ => cases h
theorem servL_true {n : Nat} {bs : List (Nat × Nat)} {hs ss : List Nat} {d : PyData} (h : d ∈ servL n bs hs ss) : servB n bs hs ss d = true := (List.mem_filter.mp h).2
/-- a state in which nothing is free, nobody is over, nobody shut in, is a serving -/
theorem full_serv {n : Nat} {bs : List (Nat × Nat)} {hs ss : List Nat} {st : List (Option Nat)} (wo : WishOk n hs ss) (g : GoodSt n hs st) (hf : ∀ p, p < n → st.getD p none ≠ none) (ho : ∀ k, k < hs.length → overB ss st k = false) (hsh : ∀ k, k < hs.length → shutSB bs hs ss st k = false) : servB n bs hs ss (valD hs.length st) = true := by
  have hcome : ∀ k, k < hs.length → ∀ p, p ∈ comeL bs st (hs.getD k 0) k ↔ p ∈ ownL st k := fun k hk p => by
    have h1 := hsh k hk
    unfold shutSB at h1
    rw [Bool.or_eq_false_iff, decide_eq_false_iff_not, List.any_eq_false] at h1
    constructor
    · intro h
      obtain ⟨a, b⟩ := mem_frL.mp (mem_comeL.mp h).snd
      exact mem_ownL.mpr ⟨a, b.resolve_right (hf p (by rw [← g.len]; exact a))⟩
    · intro h
      have := h1.2 p h
      rw [Bool.not_eq_true, Bool.not_eq_false'] at this
      exact mem_comeL.mpr (comeB_iff.mp this)
  have hlen : ∀ k, k < hs.length → (ownL st k).length = ss.getD k 0 := fun k hk => by
    have h1 := hsh k hk
    unfold shutSB at h1
    rw [Bool.or_eq_false_iff, decide_eq_false_iff_not] at h1
    have h2 : ¬ ss.getD k 0 < (ownL st k).length := of_decide_eq_false (ho k hk)
    have h3 := nodup_sub (l := comeL bs st (hs.getD k 0) k) (m := ownL st k) (List.nodup_range.filter _) fun q hq => (hcome k hk q).mp hq
    omega
  have hcon : ∀ k, k < hs.length → ∀ p ∈ ownL st k, Mk.Conn bs (· ∈ ownL st k) (hs.getD k 0) p := fun k hk p hp => by
    refine (mem_comeL.mp ((hcome k hk p).mpr hp)).mono fun q hq => ?_
    obtain ⟨a, b⟩ := mem_frL.mp hq
    exact mem_ownL.mpr ⟨a, b.resolve_right (hf q (by rw [← g.len]; exact a))⟩
  have eg : ∀ k, k < hs.length → ((List.range hs.length).map (ownL st)).getD k [] = ownL st k := fun k hk => by
    rw [List.getD_eq_getElem?_getD, List.getElem?_map, List.getElem?_range hk]
    rfl
  have hh : ∀ k, k < hs.length → hs.getD k 0 ∈ ownL st k := fun k hk => mem_ownL.mpr ⟨by
    have := wo.lt (hs.getD k 0) (by rw [List.getD_eq_getElem?_getD, List.getElem?_eq_getElem hk]; exact List.getElem_mem hk)
    rw [g.len]; exact this, g.hd k hk⟩
  have sv : SvL n bs hs ss ((List.range hs.length).map (ownL st)) := by
    refine ⟨by rw [List.length_map, List.length_range], fun k hk => ?_, fun k hk => by rw [eg k hk]; exact hh k hk, fun k hk => by rw [eg k hk]; exact hlen k hk, fun k hk => ?_, fun j k p hj hk a b => ?_, fun p hp => ?_⟩
    · rw [eg k hk]
      exact ⟨List.ne_nil_of_mem (hh k hk), fun p hp => by rw [← g.len]; exact (mem_ownL.mp hp).1, (Mk.range_pair _).filter _⟩
    · rw [eg k hk]
      exact fun x hx y hy => (hcon k hk x hx).symm.trans (hcon k hk y hy)
    · rw [eg j hj] at a
      rw [eg k hk] at b
      have h1 := (mem_ownL.mp a).2
      rw [(mem_ownL.mp b).2] at h1
      exact (Option.some.inj h1).symm
    · cases e : st.getD p none with
      | none => exact absurd e (hf p hp)
      | some k =>
        have hk := g.val p k e
        exact ⟨k, hk, by rw [eg k hk]; exact mem_ownL.mpr ⟨by rw [g.len]; exact hp, e⟩⟩
  have := of_svL sv
  rw [List.map_map] at this
  exact this
end
end Wd

set_option Elab.async false
set_option linter.all false
set_option maxRecDepth 100000
set_option maxHeartbeats 4000000
namespace Wd
open PySem PySem.Spec PyProof.Rows L2 Bx Gx

























































section
/-! ### states as masks -/
def mkS (st : List (Option Nat)) (m : Nat) : List Nat := (List.range m).map fun k => Mk.mask (ownL st k)
def freS (st : List (Option Nat)) : List Nat := (List.range st.length).filter fun q => decide (st.getD q none = none)
def asgS (st : List (Option Nat)) (m : Nat) : List Nat := (List.range st.length).filter fun q => (List.range m).any fun k => decide (st.getD q none = some k)
theorem mkS_len (st : List (Option Nat)) (m : Nat) : (mkS st m).length = m := by rw [mkS, List.length_map, List.length_range]
theorem mkS_get {st : List (Option Nat)} {m k : Nat} (hk : k < m) : (mkS st m)[k]'(by rw [mkS_len]; exact hk) = Mk.mask (ownL st k) := by simp [mkS]
theorem mkS_at {st : List (Option Nat)} {m k : Nat} (hk : k < m) : (vsN (mkS st m))[k]? = some (.int ((Mk.mask (ownL st k) : Nat) : Int)) := by
  rw [vsN_at (by rw [mkS_len]; exact hk), mkS_get hk]
theorem mem_freS {st : List (Option Nat)} {q : Nat} : q ∈ freS st ↔ q < st.length ∧ st.getD q none = none := by
  unfold freS
  rw [List.mem_filter, List.mem_range, decide_eq_true_eq]
theorem own_asc (st : List (Option Nat)) (k : Nat) : (ownL st k).Pairwise (· < ·) := (Mk.range_pair _).filter _
theorem fre_asc (st : List (Option Nat)) : (freS st).Pairwise (· < ·) := (Mk.range_pair _).filter _
theorem frL_asc (st : List (Option Nat)) (k : Nat) : (frL st k).Pairwise (· < ·) := (Mk.range_pair _).filter _
theorem comeL_asc (bs : List (Nat × Nat)) (st : List (Option Nat)) (h k : Nat) : (comeL bs st h k).Pairwise (· < ·) := (Mk.range_pair _).filter _
theorem own_lt {st : List (Option Nat)} {k : Nat} : ∀ p ∈ ownL st k, p < st.length := fun p hp => (mem_ownL.mp hp).1
theorem fre_lt {st : List (Option Nat)} : ∀ p ∈ freS st, p < st.length := fun p hp => (mem_freS.mp hp).1
theorem frL_lt {st : List (Option Nat)} {k : Nat} : ∀ p ∈ frL st k, p < st.length := fun p hp => (mem_frL.mp hp).1
theorem come_lt {bs : List (Nat × Nat)} {st : List (Option Nat)} {h k : Nat} : ∀ p ∈ comeL bs st h k, p < st.length := fun p hp => frL_lt p (mem_comeL.mp hp).snd
theorem bit_own (st : List (Option Nat)) (k q : Nat) : (Mk.mask (ownL st k)).testBit q = decide (q ∈ ownL st k) := Mk.bit_mask (own_asc st k) q
theorem mask_or (l : List Nat) (f g h : Nat → Bool) (hd : ∀ q, ¬ (f q = true ∧ g q = true)) (hh : ∀ q, h q = (f q || g q)) : Mk.mask (l.filter h) = Mk.mask (l.filter f) + Mk.mask (l.filter g) := by
  induction l with
  | nil => rfl
  | cons x l ih =>
    have e : ∀ u, Mk.mask (x :: u) = 2 ^ x + Mk.mask u := fun _ => rfl
    have h1 := hh x
    have h2 := hd x
    cases ef : f x with
    | true =>
      have eg : g x = false := by cases z : g x with
        | false => rfl
        | true => exact absurd ⟨ef, z⟩ h2
      rw [ef, eg] at h1
      rw [List.filter_cons_of_pos (by rw [h1]; rfl), List.filter_cons_of_pos (by rw [ef]), List.filter_cons_of_neg (by rw [eg]; decide), e, e, ih]
      omega
    | false => cases eg : g x with
      | true =>
        rw [ef, eg] at h1
        rw [List.filter_cons_of_pos (by rw [h1]; rfl), List.filter_cons_of_neg (by rw [ef]; decide), List.filter_cons_of_pos (by rw [eg]), e, e, ih]
        omega
      | false =>
        rw [ef, eg] at h1
        rw [List.filter_cons_of_neg (by rw [h1]; decide), List.filter_cons_of_neg (by rw [ef]; decide), List.filter_cons_of_neg (by rw [eg]; decide), ih]
theorem mkS_sum (st : List (Option Nat)) : ∀ m, (mkS st m).sum = Mk.mask (asgS st m)
  | 0 => by
    have e : asgS st 0 = [] := by
      unfold asgS
      exact List.filter_eq_nil_iff.mpr fun q _ => by simp
    rw [e]; rfl
  | m + 1 => by
    have e : mkS st (m + 1) = mkS st m ++ [Mk.mask (ownL st m)] := by unfold mkS; rw [List.range_succ, List.map_append]; rfl
    rw [e, List.sum_append, mkS_sum st m, List.sum_cons, List.sum_nil, Nat.add_zero]
    symm
    refine mask_or _ _ _ _ (fun q ⟨h1, h2⟩ => ?_) fun q => ?_
    · rw [List.any_eq_true] at h1
      obtain ⟨k, hk, e1⟩ := h1
      have e1 := of_decide_eq_true e1
      have e2 := of_decide_eq_true h2
      rw [e1] at e2
      cases e2
      exact Nat.lt_irrefl _ (List.mem_range.mp hk)
    · rw [List.range_succ, List.any_append]
      simp
theorem fre_xor {st : List (Option Nat)} {m : Nat} (hv : ∀ p k, st.getD p none = some k → k < m) : (2 ^ st.length - 1) ^^^ (mkS st m).sum = Mk.mask (freS st) := by
  rw [mkS_sum]
  refine Mk.eq_of_bits fun q => ?_
  have ha : (Mk.mask (asgS st m)).testBit q = decide (q ∈ asgS st m) := Mk.bit_mask ((Mk.range_pair _).filter _) q
  rw [Nat.testBit_xor, Nat.testBit_two_pow_sub_one, ha, Mk.bit_mask (fre_asc st), decide_eq_true_eq, mem_freS]
  have hm : q ∈ asgS st m ↔ q < st.length ∧ st.getD q none ≠ none := by
    unfold asgS
    rw [List.mem_filter, List.mem_range, List.any_eq_true]
    constructor
    · rintro ⟨h1, k, _, h2⟩
      refine ⟨h1, ?_⟩
      rw [of_decide_eq_true h2]
      exact fun z => nomatch z
    · rintro ⟨h1, h2⟩
      refine ⟨h1, ?_⟩
      cases e : st.getD q none with
      | none => exact absurd e h2
      | some k => exact ⟨k, List.mem_range.mpr (hv q k e), decide_eq_true rfl⟩
  by_cases h1 : q < st.length
  · by_cases h2 : st.getD q none = none
    · rw [decide_eq_true h1, decide_eq_false fun z => (hm.mp z).2 h2]
      exact ⟨fun _ => ⟨h1, h2⟩, fun _ => rfl⟩
    · rw [decide_eq_true h1, decide_eq_true (hm.mpr ⟨h1, h2⟩)]
      exact ⟨fun z => absurd z (by decide), fun z => absurd z.2 h2⟩
  · rw [decide_eq_false h1, decide_eq_false fun z => h1 (hm.mp z).1]
    simp [h1]
theorem own_set {st : List (Option Nat)} {p k j : Nat} (hp : p < st.length) (hf : st.getD p none = none) : Mk.mask (ownL (st.set p (some k)) j) = if j = k then Mk.mask (ownL st k) ||| 2 ^ p else Mk.mask (ownL st j) := by
  have hb : ∀ q, (Mk.mask (ownL (st.set p (some k)) j)).testBit q = true ↔ (q < st.length ∧ if q = p then k = j else st.getD q none = some j) := fun q => by
    rw [bit_own, decide_eq_true_eq, mem_ownL, List.length_set, getD_set hp]
    by_cases e : q = p
    · rw [if_pos e, if_pos e]
      exact and_congr_right fun _ => ⟨fun z => Option.some.inj z, fun z => by rw [z]⟩
    · rw [if_neg e, if_neg e]
  by_cases e : j = k
  · rw [if_pos e]
    subst e
    refine Mk.eq_of_bits fun q => ?_
    rw [hb, Nat.testBit_or, Nat.testBit_two_pow, bit_own, Bool.or_eq_true, decide_eq_true_eq, decide_eq_true_eq, mem_ownL]
    by_cases z : q = p
    · subst z; rw [if_pos rfl]; exact ⟨fun _ => .inr rfl, fun _ => ⟨hp, rfl⟩⟩
    · rw [if_neg z]; exact ⟨fun h => .inl h, fun h => h.elim id fun y => absurd y.symm z⟩
  · rw [if_neg e]
    refine Mk.eq_of_bits fun q => ?_
    rw [hb, bit_own, decide_eq_true_eq, mem_ownL]
    by_cases z : q = p
    · subst z
      rw [if_pos rfl]
      exact ⟨fun h => absurd h.2.symm e, fun h => by rw [hf] at h; exact absurd h.2 fun y => nomatch y⟩
    · rw [if_neg z]
theorem mkS_set {st : List (Option Nat)} {p k m : Nat} (hp : p < st.length) (hf : st.getD p none = none) (hk : k < m) : (mkS st m).take k ++ [Mk.mask (ownL st k) ||| 2 ^ p] ++ (mkS st m).drop (k + 1) = mkS (st.set p (some k)) m := by
  have e : (mkS st m).take k ++ [Mk.mask (ownL st k) ||| 2 ^ p] ++ (mkS st m).drop (k + 1) = (mkS st m).set k (Mk.mask (ownL st k) ||| 2 ^ p) := by
    rw [List.set_eq_take_append_cons_drop, if_pos (by rw [mkS_len]; exact hk), List.append_assoc]
    rfl
  rw [e, mkS, set_rangeMap, mkS]
  refine List.map_congr_left fun j _ => ?_
  rw [own_set hp hf]
theorem mkS_first {n : Nat} {hs : List Nat} (nd : hs.Nodup) (hlt : ∀ h ∈ hs, h < n) : mkS (firstS n hs) hs.length = hs.map fun h => 2 ^ h := by
  refine List.ext_getElem (by rw [mkS_len, List.length_map]) fun k h1 h2 => ?_
  rw [mkS_len] at h1
  rw [mkS_get h1, List.getElem_map]
  have e : ownL (firstS n hs) k = [hs[k]] := by
    have hl : (firstS n hs).length = n := by rw [firstS, List.length_map, List.length_range]
    refine Mk.asc_ext (own_asc _ _) (List.pairwise_singleton ..) fun q => ?_
    rw [mem_ownL, hl, List.mem_singleton]
    constructor
    · rintro ⟨hq, e⟩
      rw [firstS_get hq] at e
      unfold hdAt at e
      by_cases m : q ∈ hs
      · rw [if_pos m] at e
        cases e
        exact (List.getElem_idxOf h1).symm
      · rw [if_neg m] at e; cases e
    · rintro rfl
      have := hlt _ (List.getElem_mem h1)
      refine ⟨this, ?_⟩
      rw [firstS_get this]
      unfold hdAt
      rw [if_pos (List.getElem_mem h1), nd.idxOf_getElem k h1]
  rw [e]
  rfl
theorem fr_or (st : List (Option Nat)) (k : Nat) : Mk.mask (ownL st k) ||| Mk.mask (freS st) = Mk.mask (frL st k) := by
  refine Mk.eq_of_bits fun q => ?_
  rw [Nat.testBit_or, bit_own, Mk.bit_mask (fre_asc st), Mk.bit_mask (frL_asc st k), Bool.or_eq_true, decide_eq_true_eq, decide_eq_true_eq, decide_eq_true_eq, mem_ownL, mem_freS, mem_frL]
  exact ⟨fun h => h.elim (fun z => ⟨z.1, .inl z.2⟩) fun z => ⟨z.1, .inr z.2⟩, fun h => h.2.elim (fun z => .inl ⟨h.1, z⟩) fun z => .inr ⟨h.1, z⟩⟩
theorem come_rch {bs : List (Nat × Nat)} {st : List (Option Nat)} {h k r : Nat} (R : Mk.Rch bs (Mk.mask (frL st k)) (2 ^ h) r) : r = Mk.mask (comeL bs st h k) := by
  refine Mk.eq_of_bits fun q => ?_
  rw [R q, Mk.bit_mask (comeL_asc ..), decide_eq_true_eq, mem_comeL]
  have hm : ∀ x, Mk.In (Mk.mask (frL st k)) x ↔ x ∈ frL st k := fun x => by
    show (Mk.mask (frL st k)).testBit x = true ↔ _
    rw [Mk.bit_mask (frL_asc st k), decide_eq_true_eq]
  constructor
  · rintro ⟨p, hp, c⟩
    rw [Nat.testBit_two_pow, decide_eq_true_eq] at hp
    subst hp
    exact c.mono fun x hx => (hm x).mp hx
  · intro c
    exact ⟨h, by rw [Nat.testBit_two_pow, decide_eq_true_eq], c.mono fun x hx => (hm x).mpr hx⟩
theorem and_ne {a c : List Nat} (ha : a.Pairwise (· < ·)) (hc : c.Pairwise (· < ·)) : decide (Mk.mask a &&& Mk.mask c ≠ Mk.mask a) = a.any fun p => !decide (p ∈ c) := by
  rw [Bool.eq_iff_iff, decide_eq_true_eq, List.any_eq_true]
  constructor
  · intro h
    apply Classical.byContradiction
    intro z
    refine h (Mk.eq_of_bits fun q => ?_)
    rw [Nat.testBit_and, Mk.bit_mask ha, Mk.bit_mask hc, Bool.and_eq_true, decide_eq_true_eq, decide_eq_true_eq]
    refine ⟨fun y => y.1, fun y => ⟨y, ?_⟩⟩
    apply Classical.byContradiction
    intro y2
    exact z ⟨q, y, by rw [decide_eq_false y2]; rfl⟩
  · rintro ⟨p, hp, h⟩ e
    have := congrArg (fun x => x.testBit p) e
    simp only [Nat.testBit_and, Mk.bit_mask ha, Mk.bit_mask hc, decide_eq_true hp, Bool.true_and] at this
    rw [this] at h
    cases h
theorem shutSB_eq {bs : List (Nat × Nat)} {hs ss : List Nat} {st : List (Option Nat)} {k : Nat} : shutSB bs hs ss st k = (decide ((comeL bs st (hs.getD k 0) k).length < ss.getD k 0) || decide (Mk.mask (ownL st k) &&& Mk.mask (comeL bs st (hs.getD k 0) k) ≠ Mk.mask (ownL st k))) := by
  rw [and_ne (own_asc ..) (comeL_asc ..)]
  unfold shutSB
  congr 1
  refine congrArg (fun f => (ownL st k).any f) (funext fun p => ?_)
  congr 1
  rw [Bool.eq_iff_iff, decide_eq_true_eq, mem_comeL, comeB_iff]
end
end Wd

set_option Elab.async false
set_option linter.all false
set_option maxRecDepth 100000
set_option maxHeartbeats 4000000
/-! Gj: sep.join(a generator expression). -/
namespace Gx
open PySem PySem.Spec PyProof.Rows L2 GenW
section
variable {X : Cx} {scope : Scope} {N : List Str} {src : List (Option Nat)} {c P : Addr}
variable {o elt tg iter : Expr} {ifs : List Expr} {apos cpos gpos : Pos} {wi : TI} {g : TG} {tt : TT} {te to : TE} {vs : List Nat} {k : Nat}
abbrev tGJoin (P : Addr) (to : TE) (wi : TI) (g : TG) (tt : TT) (te : TE) (vs : List Nat) (src : List (Option Nat)) : TE := fun σ H Q => to σ H fun v H1 => ∃ sep : Str, v = .str sep ∧
  tGen P wi g tt te vs src (fun _ => pTup) (fun Q ys H => ∃ zs : List Str, ys = zs.map V.str ∧ (zs.map (·.length)).sum + zs.length * sep.length ≤ 16777216 ∧ Q (.str (Txt.join sep zs)) H) σ H1 Q
theorem pe_gjoin (G : GParts X k scope N tg ifs elt g tt te) (hr : Room (k + 3) X.A) (ho : PE X o to) (TB : TabB X.base X.mg c P) (hcode : X.env.code = .ref c) (ok : GOk X.N X.env.scope scope N src) (hi : PI X tg iter wi)
    (hs : ∀ v, genFold iter X.env v = pure v := by intro _; rfl) (hbase : attributeBase o "join" X.env (eval o X.env) = eval o X.env := by rfl)
    (hfew : ((backTo cpos (starEach [.GeneratorExp elt [⟨tg, iter, ifs, 0⟩] scope gpos] X.env)).all (fun x => !x.1) && (backToKw cpos (keywordEach [] X.env)).all (fun x => x.1.isSome)
      && decide (([.GeneratorExp elt [⟨tg, iter, ifs, 0⟩] scope gpos] : List Expr).length + ([] : List Keyword).length + (if ([] : List Keyword).isEmpty then 0 else 1) < 30)) = true := by rfl)
    (hline : (apos.endLine == cpos.line) = true := by rfl)
    (he : starEach [.GeneratorExp elt [⟨tg, iter, ifs, 0⟩] scope gpos] X.env = (false, eval (.GeneratorExp elt [⟨tg, iter, ifs, 0⟩] scope gpos) X.env) :: starEach [] X.env := by rfl)
    (hplain : (backTo cpos (starEach [] X.env)).any (·.1) = false := by rfl) :
    PE X (.Call (.Attribute o "join" apos) [.GeneratorExp elt [⟨tg, iter, ifs, 0⟩] scope gpos] [] cpos) (tGJoin P to wi g tt te vs src) := by
  refine ⟨fun pins s σ H Q I h => ?_⟩
  refine wpAny_Call_method_late hbase hfew hline rfl (thn (ho.run pins s σ H _ I h) fun v s1 ⟨x', H1, I1, r1, sep, ex, q1⟩ => ?_)
  subst ex
  obtain ⟨tk, rfl⟩ := (show ∃ t, v = Value.str sep t from r1)
  refine ⟨"str", _, PySem.F.plainAttrs_str, PySem.F.slot_str_join, PySem.F.type_str_join, typeIs_str _ _ _, (fun _ e => nomatch e), ?_⟩
  rw [he]
  refine Calls.callWith_builtin (by show (false || (backTo cpos (starEach [] X.env)).any (·.1)) = false; rw [hplain] <;> rfl) (Calls.evalArgs_plain ?_)
  show wpAny _ _ (spliced ((false, eval (.GeneratorExp elt [⟨tg, iter, ifs, 0⟩] scope gpos) X.env) :: backTo cpos (starEach [] X.env))) _ _ s1
  refine Calls.spliced_cons (gen_make (gpos := gpos) (elt := elt) (ifs := ifs) hr TB hcode ok hi hs I1 q1 fun it fp tn J H1 H2 s4 code a go gi s5 q hT I4 T st hfp M => ?_)
  obtain ⟨W, ⟨m, w0⟩, turn⟩ := q H2 hT
  refine Calls.spliced_nil ?_
  refine wpAny_call (codeAny_call_builtin F.slot_str_join.plain F.entry_str_join (F.slot_str_join.check _ _ _ _ _ _ _ _ (typeIs_str _ _ _) (F.args_str_join_2 _ _) ?_))
  show wpAny _ X.A.in1 (Builtin.«str.join» ⟨[.str sep tk, .ref a], []⟩) _ _ s5
  rw [join_tree_other]
  have hTI : s5.TypeIs (.ref a) "generator" := Heap.IsGen.typeIs (s := s5) (M.gen _ M.obj)
  refine wpAny_bind (wpAny_typeOf hTI ?_)
  show wpAny _ X.A.in1 ((pyIter (.ref a)).tryCatch _ >>= fun it => collect it >>= fun items => joinTail sep items) _ _ s5
  refine wpAny_bind (wpAny_tryCatch (wpAny_pyIter_gen (M.gen _ M.obj) ?_))
  refine wpAny_bind (collect_gx (B := X.A.in1) G M ok I4 T st hfp (show X.A.in1.frames = some X.stack from I4.ok.frames) hr.in1 turn w0 fun s' ys H acc b q hv hle => ?_)
  obtain ⟨zs, rfl, hz, q⟩ := q
  obtain ⟨l, hl, ht⟩ := strsAre_values (strs_of_vals hv)
  subst ht
  have hok := joinOk_of hz
  unfold JoinOk at hok
  rw [Bool.not_eq_true'] at hok
  have g : Gives (joinTail sep (strValues l)) (joinMade sep l) := by
    have g0 := gives_joinTail sep l hok
    cases l with
    | nil => exact g0
    | cons p r => cases r with
      | nil => exact g0
      | cons q r' => exact g0
  rw [hl]
  have I5 := b.inv I4 fun b hb => (hfp b hb).1
  refine g X.prog X.w X.A (wants _ X.xe) s' (post_join l ⟨joinFit_length hok, fun t' k' => ?_⟩)
  exact ⟨.str _, H, I5.tok k', ⟨t', rfl⟩, q⟩
end
end Gx

set_option Elab.async false
set_option linter.all false
set_option maxRecDepth 100000
set_option maxHeartbeats 4000000
/-! St: a text times a number. -/
namespace Bx
open PySem PySem.Spec PyProof.Rows L2 TL
theorem fold_cat {α : Type} : ∀ (ls : List (Array α)) (a : Array α), (ls.foldl (· ++ ·) a).toList = a.toList ++ (ls.map Array.toList).flatten
  | [], a => by simp
  | l :: ls, a => by
    rw [List.foldl_cons, fold_cat ls (a ++ l)]
    simp
theorem str_len (z : Str) : z.length = (tl z).length := by
  show z.cps.size = z.cps.toList.length
  rw [Array.length_toList]
theorem str_ext {x y : Str} (h : tl x = tl y) : x = y := by
  cases x with
  | mk a => cases y with
    | mk b =>
      have h : a.toList = b.toList := h
      rw [Array.toList_inj.mp h]
section
variable {X : Cx}
def rRepS : R2 := fun x y H Q => ∃ (z : Str) (n : Nat), x = .str z ∧ y = .int (n : Int) ∧ n ≤ 1000 ∧ z.length ≤ 100 ∧ ∀ u : Str, tl u = (List.replicate n (tl z)).flatten → Q (.str u) H
theorem op_repS : OpR X (binaryOp .Mult) rRepS := by
  intro pins s σ H x y v u Q I rx ry h
  obtain ⟨z, n, rfl, rfl, hn, hz, q⟩ := h
  obtain ⟨t, rfl⟩ := rx
  obtain ⟨t', rfl⟩ := ry
  have hr : (decide ((n : Int) < -(2 ^ 63 : Int)) || decide ((n : Int) ≥ 2 ^ 63)) = false := by
    rw [decide_eq_false (by omega), decide_eq_false (by omega)]
    rfl
  refine P.mul_str hr (fun h1 _ => ?_) (fun h1 _ => ?_) ?_
  · have h2 : (0 : Int) < n := by omega
    have h3 : (z.length : Int) ≤ (2 ^ 63 - 1) / n := by
      rw [Int.le_ediv_iff_mul_le h2]
      have : (z.length : Int) * n ≤ 100 * 1000 := Int.mul_le_mul (by omega) (by omega) (by omega) (by omega)
      omega
    omega
  · have : z.length * (n : Int).toNat ≤ 100 * 1000 := Nat.mul_le_mul hz (by omega)
    unfold Builtin.Str.tooLong
    rw [sizeLine_eq]
    exact decide_eq_false (by omega)
  · by_cases h1 : (n : Int) < 1
    · rw [if_pos h1]
      have h0 : n = 0 := by omega
      subst h0
      exact ⟨by decide, .str Str.empty, H, I.tok _, ⟨_, rfl⟩, q _ rfl⟩
    · rw [if_neg h1]
      by_cases h2 : ((n : Int) == 1 || z.length == 0) = true
      · rw [if_pos h2]
        refine ⟨.str z, H, I, ⟨t, rfl⟩, q z ?_⟩
        rcases Bool.or_eq_true_iff.mp h2 with e | e
        · have : n = 1 := by
            have := eq_of_beq e
            omega
          subst this
          simp
        · have : z.length = 0 := eq_of_beq e
          rw [str_len] at this
          rw [List.length_eq_zero_iff.mp this]
          simp
      · rw [if_neg h2]
        have e : tl (⟨(List.replicate (n : Int).toNat z.cps).foldl (· ++ ·) #[]⟩ : Str) = (List.replicate n (tl z)).flatten := by
          show ((List.replicate (n : Int).toNat z.cps).foldl (· ++ ·) #[]).toList = _
          rw [fold_cat, Int.toNat_natCast, List.map_replicate]
          rfl
        refine ⟨?_, .str _, H, I.tok _, ⟨_, rfl⟩, q _ e⟩
        have h3 : (tl (⟨(List.replicate (n : Int).toNat z.cps).foldl (· ++ ·) #[]⟩ : Str)).length ≤ 100 * 1000 := by
          rw [e, List.length_flatten, List.map_replicate, List.sum_replicate_nat, ← str_len]
          exact Nat.le_trans (Nat.mul_le_mul hn hz) (by decide)
        rw [← str_len] at h3
        show _ ≤ sizeLine
        rw [sizeLine_eq]
        omega
end
end Bx

set_option Elab.async false
set_option linter.all false
set_option maxRecDepth 100000
set_option maxHeartbeats 4000000
/-! Jt: not in a tuple of data; the texts of numbers. -/
namespace Bx
open PySem PySem.Spec PyProof.Rows L2
section
variable {X : Cx}
theorem op_notInDT (hu : X.A.units + 65 < cLine) : OpR X (compareOp .NotIn) (rInDT X.K true) := by
  intro pins s σ H x y v u Q I rx ry h
  obtain ⟨d, ds, hd, he, sd, se, q⟩ := h
  obtain ⟨as, r1⟩ := Dp.reads I d x v hd rx
  obtain ⟨bs, r2⟩ := Dp.reads I (.tuple ds) y u he ry
  refine SeqAt.notIn_tuple_reads r2 r1 (SeqAt.canLay_of_shaped se) (SeqAt.canLay_of_shaped sd) (PyProof.Rows.room_in_shaped sd hu) ⟨.bl (!ds.any fun y => y.eqv d), H, I, rfl, ?_⟩
  rw [Bool.true_xor] at q
  exact q
theorem op_notInDTK {K : PySem.W.Frag} (h : X.K = K) (hu : X.A.units + 65 < cLine) : OpR X (compareOp .NotIn) (rInDT K true) := h ▸ op_notInDT hu
end
open Gx GenW in
/-- tuple(..) over a source, whatever comes behind -/
theorem g_tupF {J : It} {n : Nat} {it : Nat → V} {te : TE} {vs : List Nat} {σg : L2.St} {H : Hp} {o : Nat} {Fin : List V → Hp → Prop} {Pw : Nat → List V → Hp → Prop} (S : ∀ i ys, Src J n it (Pw i ys)) (hn : n ≤ sizeLine) (hw : ∀ x, wipe (σg.set o (some x)) vs = σg) (h0 : Pw 0 [] H)
    (len : ∀ i ys H, Pw i ys H → ys.length ≤ i)
    (elt : ∀ i ys H (C : V → Hp → Prop), Pw i ys H → i < n → (∀ v H4, Pw (i + 1) (ys ++ [v]) H4 → C v H4) → te (σg.set o (some (it i))) H C)
    (fin : ∀ ys H, Pw n ys H → Fin ys H) :
    ∃ W : Nat → Nat → List V → Hp → Prop, (∃ m, W 0 m [] H) ∧ GTurn J (gName o) tYes te vs σg pTup Fin W := by
  refine ⟨fun i m ys H => Pw i ys H ∧ i ≤ n ∧ m = n - i, ⟨n, h0, Nat.zero_le _, by omega⟩, fun i m ys H ⟨hp, hi, hm⟩ => ?_⟩
  by_cases e : i = n
  · subst e
    exact .inl ⟨(S i ys).stop H hp, fin ys H hp⟩
  · have hlt : i < n := by omega
    refine .inr ⟨(S i ys).go i H hp hlt, fun x H' y => ?_⟩
    obtain ⟨rfl, rfl⟩ := (S i ys).yld i H x H' hp hlt y
    refine ⟨hw _, ?_⟩
    dsimp only [tYes]
    rw [if_pos rfl]
    exact elt i ys H' _ hp hlt fun v H4 h4 => ⟨by have := len i ys H' hp; omega, n - (i + 1), by omega, h4, hlt, rfl⟩
/-- the text of a whole number -/
def nTx (i : Int) : Str := Str.ofString (toString i)
theorem nTx_len {i : Int} {k : Nat} (hk : 0 < k) (h : i.natAbs < 10 ^ k) : (nTx i).length ≤ k + 1 := by
  have := int_text_length_le10 hk h
  rwa [nTx, PySem.ofString_length]
theorem strOk_num (i : Int) : PyData.strOk (nTx i) = true := by
  unfold PyData.strOk nTx
  rw [Str.ofString_eq_toList, Array.all_eq_true']
  intro x hx
  have hx : x ∈ (toString i).toList.map Char.toNat := by simpa using hx
  obtain ⟨c, _, rfl⟩ := List.mem_map.mp hx
  rw [decide_eq_true_eq]
  have := c.valid
  rcases this with z | z
  · have z : c.toNat < 55296 := z
    omega
  · have z : c.toNat < 1114112 := z.2
    omega
theorem strOk_append {x y : Str} (hx : PyData.strOk x = true) (hy : PyData.strOk y = true) : PyData.strOk (x ++ y) = true := by
  unfold PyData.strOk at *
  rw [Array.all_eq_true'] at *
  intro c hc
  have hc : c ∈ (x ++ y).cps.toList := by simpa using hc
  have e : (x ++ y).cps.toList = x.cps.toList ++ y.cps.toList := TL.tl_append x y
  rw [e] at hc
  rcases List.mem_append.mp hc with z | z
  · exact hx c (by simpa using z)
  · exact hy c (by simpa using z)
end Bx
namespace Bx
open PySem PySem.Spec PyProof.Rows L2
theorem pe_joinK {X : Cx} {K : PySem.W.Frag} {o e : Expr} {to te : TE} {apos pos : Pos} (h : X.K = K) (ho : PE X o to) (he : PE X e te) (hs : starEach [e] X.env = [(false, eval e X.env)] := by rfl) (hbase : attributeBase o "join" X.env (eval o X.env) = eval o X.env := by rfl) (hline : (apos.endLine == pos.line) = true := by rfl) :
    PE X (.Call (.Attribute o "join" apos) [e] [] pos) (tM1 (fun x xs H Q => ∃ a p, ∃ ys : List Str, x = .str a ∧ xs = [.ref p] ∧ (SqL K H p (ys.map V.str) ∨ SqT K H p (ys.map V.str)) ∧
      (ys.map (·.length)).sum + ys.length * a.length ≤ 16777216 ∧ Q (.str (Txt.join a ys)) H) to te) := h ▸ pe_join ho he hs hbase hline
theorem strOk_list {l : List Nat} (h : ∀ x ∈ l, x < 1114112) : PyData.strOk ⟨l.toArray⟩ = true := by
  unfold PyData.strOk
  rw [Array.all_eq_true']
  intro x hx
  rw [decide_eq_true_eq]
  exact h x (by simpa using hx)
theorem strOk_mem {s : Str} (h : PyData.strOk s = true) {x : Nat} (hx : x ∈ s.cps.toList) : x < 1114112 := by
  unfold PyData.strOk at h
  rw [Array.all_eq_true'] at h
  exact of_decide_eq_true (h x (by simpa using hx))
end Bx

set_option Elab.async false
set_option linter.all false
set_option maxRecDepth 100000
set_option maxHeartbeats 4000000
namespace Wd
open PySem PySem.Spec PyProof.Rows L2 Bx Gx

























































section
variable {P : Program} {w : World} {K : PySem.W.Frag} {mg : Str → Option Value} {base : Heap}
/-! ### states of the program -/
theorem slA_use {a : Addr} {xs : List V} {lo hi : Option Int} {H : Hp} {Q : VK} (h : SqT K H a xs) (k : ∀ r H', Ext H H' → SqT K H' r (cutV xs lo hi) → Q (.ref r) H') : rSlA K (.ref a) lo hi H Q := by
  refine ⟨a, xs, rfl, h, fun hf => k a H (.refl _) ?_, fun _ p hp => k p _ (.new hp) (SqT.of upd_same)⟩
  have e : cutV xs lo hi = xs := by
    unfold cutV
    rw [hf.1, hf.2, List.drop_zero, Nat.sub_zero, List.take_length]
  rw [e]
  exact h
theorem catA_use {a b : Addr} {xs ys : List V} {H : Hp} {Q : VK} (h1 : SqT K H a xs) (h2 : SqT K H b ys) (hl : xs.length + ys.length ≤ sizeLine) (k : ∀ r H', Ext H H' → SqT K H' r (xs ++ ys) → Q (.ref r) H') : rCatA K (.ref a) (.ref b) H Q := by
  refine ⟨a, b, xs, ys, rfl, rfl, h1, h2, hl, fun e => k b H (.refl _) ?_, fun _ e => k a H (.refl _) ?_, fun _ _ p hp => k p _ (.new hp) (SqT.of upd_same)⟩
  · rw [e, List.nil_append]; exact h2
  · rw [e, List.append_nil]; exact h1
def spFirstSt (K : PySem.W.Frag) (T1 : Addr) : Sp := fun vs H Q _ => ∃ (t : Addr) (hs : List Nat), vs = [.ref t] ∧ SqT K H t (vsN hs) ∧ hs.length ≤ 4 ∧ (∀ h ∈ hs, h < 12) ∧ TabG H T1 ∧ ∀ p H', Ext H H' → SqT K H' p (vsN (hs.map fun h => 2 ^ h)) → Q (.ref p) H'
abbrev first_stateN : List Str := ["heads"]
theorem sc_first_state : FnScope first_stateN ["heads"] (defScope st_first_state) := ⟨rfl, rfl, rfl, by decide +kernel, rfl, by decide +kernel, by decide +kernel⟩
theorem ok_first_state {f c T1 : Addr} {fd : FuncData} (F : FunC K "first_state" "first_state" st_first_state f fd c) (TB : TabB base mg c T1) (B : Bl mg) : FnOk P w K mg base CX0 5 f fd ["heads"] (spFirstSt K T1) := by
  refine F.ok sc_first_state (fun vs H Q E h => ?_) (fun A outer s H vs Q E hr h => ?_)
  · obtain ⟨t, hs, rfl, _⟩ := h
    rfl
  · obtain ⟨t, hs, rfl, ht, hl4, hlt, hT, k⟩ := h
    refine ⟨_, pss_one (ps_ret (pe_gtup (k := 0) (N := ["head"]) (src := [none]) (vs := [0])
        ⟨fun B s H fp code hB => pg_name (i := 0) (by decide +kernel : (["head"] : List Str).Nodup) rfl (Or.inl rfl), fun B s H fp code hB => pts_nil, fun B s H fp code hB => pe_op op_shl pe_int (pv 0)⟩
        (hr.mono (by decide)) rfl B.tuple TB rfl (gOk (ND := ["heads"]) (sc := defScope st_first_state) (by decide +kernel)) (pi_tup (pv 0)))), ?_⟩
    refine ⟨_, rfl, t, rfl, ⟨_, ht⟩, hT, fun H2 hT2 => ?_⟩
    have x2 : Ext H H2 := Ext.tabbed hT hT2
    refine g_tupF (Pw := fun i ys H4 => H4 = H2 ∧ ys = vsN ((hs.take i).map fun h => 2 ^ h)) (fun _ _ => src_tup fun H4 e => by rw [e.1]; exact x2.sqT ht) (by rw [vsN_len]; exact Nat.le_of_lt (small1000 (by omega))) (fun _ => rfl) ⟨rfl, rfl⟩
      (fun i ys H4 ⟨_, e⟩ => ?_) (fun i ys H4 C ⟨e1, e2⟩ hi k2 => ?_) fun ys H4 e p hp => ?_
    · rw [e, vsN_len, List.length_map, List.length_take]; omega
    · rw [vsN_len] at hi
      have evi : (vsN hs).getD i .non = .int ((hs[i] : Nat) : Int) := by rw [List.getD_eq_getElem?_getD, vsN_at hi]; rfl
      rw [evi]
      have := hlt _ (List.getElem_mem hi)
      refine ⟨_, rfl, 1, _, rfl, rfl, ⟨by omega, by omega, by decide⟩, ?_⟩
      have e : (1 : Int) * 2 ^ ((hs[i] : Nat) : Int).toNat = ((2 ^ hs[i] : Nat) : Int) := shl_pp _
      show C (V.int ((1 : Int) * 2 ^ ((hs[i] : Nat) : Int).toNat)) H4
      rw [e]
      refine k2 _ H4 ⟨e1, ?_⟩
      rw [e2, List.take_add_one, List.getElem?_eq_getElem hi, List.map_append]
      show _ = List.map _ _
      rw [List.map_append]
      rfl
    · obtain ⟨e1, e2⟩ := e
      subst e1
      rw [vsN_len, List.take_length] at e2
      subst e2
      exact k p _ (x2.trans (Ext.new hp)) (SqT.of upd_same)
def spGiven (K : PySem.W.Frag) : Sp := fun vs H Q _ => ∃ (s : Addr) (st : List (Option Nat)) (m k p : Nat), vs = [.ref s, .int (k : Int), .int (p : Int)] ∧ SqT K H s (vsN (mkS st m)) ∧ k < m ∧ m ≤ 4 ∧ p < st.length ∧ st.length ≤ 12 ∧ st.getD p none = none ∧ ∀ r H', Ext H H' → SqT K H' r (vsN (mkS (st.set p (some k)) m)) → Q (.ref r) H'
abbrev givenN : List Str := ["state", "k", "place"]
theorem sc_given : FnScope givenN ["state", "k", "place"] (defScope st_given) := ⟨rfl, rfl, rfl, by decide +kernel, rfl, by decide +kernel, by decide +kernel⟩
theorem ok_given {f : Addr} {fd : FuncData} (F : Fun K "given" "given" st_given f fd) (B : Bl mg) : FnOk P w K mg base CX0 1 f fd ["state", "k", "place"] (spGiven K) := by
  refine F.ok sc_given (fun vs H Q E h => ?_) (fun cdv A outer s H vs Q E hr h => ?_)
  · obtain ⟨s, st, m, k, p, rfl, _⟩ := h
    rfl
  · obtain ⟨s, st, m, k, p, rfl, hs, hk, hm, hp, hl, hf, kont⟩ := h
    refine ⟨_, pss_one (ps_ret (pe_op op_catA (pe_op op_catA (pe_slice sl_tupA (pv 0) po_none (po_some (pv 1))) (pe_tup (pa_cons (pe_op op_or (pe_ix ix_tup (pv 0) (pv 1) (fun _ _ => rfl)) (pe_op op_shl pe_int (pv 2))) pa_nil))) (pe_slice sl_tupA (pv 0) (po_some (pe_op op_add (pv 1) pe_int)) po_none))), ?_⟩
    have hlm : (vsN (mkS st m)).length = m := by rw [vsN_len, mkS_len]
    refine ⟨_, rfl, ?_⟩
    dsimp only [tNoPart]
    refine ⟨_, rfl, _, rfl, slA_use hs fun r1 H1 x1 h1 => ?_⟩
    rw [cut_toV] at h1
    refine ⟨_, rfl, _, rfl, s, _, _, _, rfl, rfl, x1.sqT hs, atI_nat (mkS_at hk), _, rfl, 1, _, rfl, rfl, ⟨by omega, by omega, by decide⟩, ?_⟩
    refine ⟨_, ((2 ^ p : Nat) : Int), rfl, congrArg V.int (shl_pp p), (by show 1 ≤ sizeLine; decide), fun p1 hp1 => ?_⟩
    have hone : SqT K (upd H1 p1 (.tup [V.int (Builtin.bitOr ((Mk.mask (ownL st k) : Nat) : Int) ((2 ^ p : Nat) : Int))])) p1 (vsN [Mk.mask (ownL st k) ||| 2 ^ p]) := SqT.of (by rw [upd_same, or_pp]; rfl)
    refine catA_use ((Ext.new hp1).sqT h1) hone (by rw [List.length_take, hlm, vsN_len]; exact Nat.le_of_lt (small1000 (by show _ + 1 ≤ 1000; omega))) fun r2 H2 x2 h2 => ?_
    have x12 := x1.trans ((Ext.new hp1).trans x2)
    show tSl _ _ _ _ _ _ _
    refine ⟨_, rfl, _, rfl, _, _, rfl, rfl, ((k + 1 : Nat) : Int), congrArg V.int (by omega), ?_⟩
    dsimp only [tNoPart]
    refine slA_use (x12.sqT hs) fun r3 H3 x3 h3 => ?_
    rw [cut_fromV] at h3
    refine catA_use (x3.sqT h2) h3 ?_ fun r4 H4 x4 h4 => ?_
    · rw [List.length_append, List.length_take, List.length_drop, hlm, vsN_len]; exact Nat.le_of_lt (small1000 (by show _ + 1 + _ ≤ 1000; omega))
    · refine kont r4 H4 (x12.trans (x3.trans x4)) ?_
      rw [← mkS_set hp hf hk]
      have e : vsN ((mkS st m).take k ++ [Mk.mask (ownL st k) ||| 2 ^ p] ++ (mkS st m).drop (k + 1)) = List.take k (vsN (mkS st m)) ++ vsN [Mk.mask (ownL st k) ||| 2 ^ p] ++ List.drop (k + 1) (vsN (mkS st m)) := by
        show List.map _ _ = List.take k (List.map _ _) ++ List.map _ _ ++ List.drop (k + 1) (List.map _ _)
        rw [List.map_append, List.map_append, List.map_take, List.map_drop]
      rw [e]
      exact h4
def spFreeOf (K : PySem.W.Frag) : Sp := fun vs H Q _ => ∃ (lk s : Addr) (lks : List Nat) (st : List (Option Nat)) (m : Nat), vs = [.ref lk, .ref s] ∧ H lk = some (.lst (vsN lks)) ∧ lks.length = st.length ∧ st.length ≤ 12 ∧ SqT K H s (vsN (mkS st m)) ∧ (∀ p k, st.getD p none = some k → k < m) ∧ Q (.int ((Mk.mask (freS st) : Nat) : Int)) H
abbrev free_ofN : List Str := ["links", "state"]
theorem sc_free_of : FnScope free_ofN ["links", "state"] (defScope st_free_of) := ⟨rfl, rfl, rfl, by decide +kernel, rfl, by decide +kernel, by decide +kernel⟩
theorem sum_castN (l : List Nat) : (l.map fun (p : Nat) => (p : Int)).sum = ((l.sum : Nat) : Int) := by
  induction l with
  | nil => rfl
  | cons x l ih => rw [List.map_cons, List.sum_cons, List.sum_cons, ih]; omega
theorem ok_free_of {f : Addr} {fd : FuncData} (F : Fun K "free_of" "free_of" st_free_of f fd) (B : Bl mg) : FnOk P w K mg base CX0 1 f fd ["links", "state"] (spFreeOf K) := by
  refine F.ok sc_free_of (fun vs H Q E h => ?_) (fun cdv A outer s H vs Q E hr h => ?_)
  · obtain ⟨lk, s, lks, st, m, rfl, _⟩ := h
    rfl
  · obtain ⟨lk, s, lks, st, m, rfl, hlk, hll, hl, hs, hv, kont⟩ := h
    refine ⟨_, pss_one (ps_ret (pe_op op_xor (pe_op op_sub (pe_op op_shl pe_int (pe_callB call_len (by rfl) B.len PySem.boot_len (pa_cons (pv 0) pa_nil))) pe_int) (pe_callB (cr_sumT rfl) (by rfl) B.sum (by decide +kernel) (pa_cons (pv 1) pa_nil)))), ?_⟩
    refine ⟨_, rfl, _, lks.length, rfl, .inl ⟨_, SqL.of hlk, (vsN_len lks).symm⟩, 1, _, rfl, rfl, ⟨by omega, by omega, by decide⟩, _, _, rfl, rfl, _, rfl, s, (mkS st m).map (fun (p : Nat) => (p : Int)), rfl, by rw [vsN_int]; exact hs, ?_⟩
    have e1 : (1 : Int) * 2 ^ ((lks.length : Nat) : Int).toNat - 1 = ((2 ^ st.length - 1 : Nat) : Int) := by
      rw [shl_pp, hll]
      have := Nat.two_pow_pos st.length
      omega
    refine ⟨_, _, congrArg V.int e1, congrArg V.int (sum_castN _), ?_⟩
    show Q (V.int (Builtin.bitXor _ _)) H
    rw [xor_pp, fre_xor hv]
    exact kont
def spComeTo (K : PySem.W.Frag) (T1 : Addr) : Sp := fun vs H Q _ => ∃ (lk t s : Addr) (lks : List Nat) (bs : List (Nat × Nat)) (n : Nat) (hs : List Nat) (st : List (Option Nat)) (k : Nat), vs = [.ref lk, .ref t, .ref s, .int (k : Int)] ∧ H lk = some (.lst (vsN lks)) ∧ Mk.Lk n bs lks ∧ Mk.Bs n bs ∧ n ≤ 12 ∧ SqT K H t (vsN hs) ∧ SqT K H s (vsN (mkS st hs.length)) ∧ GoodSt n hs st ∧ k < hs.length ∧ (∀ h ∈ hs, h < n) ∧ TabG H T1 ∧ ∀ H', Ext H H' → Q (.int ((Mk.mask (comeL bs st (hs.getD k 0) k) : Nat) : Int)) H'
abbrev come_toN : List Str := ["links", "heads", "state", "k"]
theorem sc_come_to : FnScope come_toN ["links", "heads", "state", "k"] (defScope st_come_to) := ⟨rfl, rfl, rfl, by decide +kernel, rfl, by decide +kernel, by decide +kernel⟩
theorem ok_come_to {f T1 : Addr} {fd : FuncData} (F : Fun K "come_to" "come_to" st_come_to f fd) (B : Bl mg) (c_reached : Cal P w K mg base 7 "reached" ["links", "start", "mask"] (spReached K T1)) (c_free_of : Cal P w K mg base 1 "free_of" ["links", "state"] (spFreeOf K)) : FnOk P w K mg base CX0 8 f fd ["links", "heads", "state", "k"] (spComeTo K T1) := by
  refine F.ok sc_come_to (fun vs H Q E h => ?_) (fun cdv A outer s H vs Q E hr h => ?_)
  · obtain ⟨lk, t, s, lks, bs, n, hs, st, k, rfl, _⟩ := h
    rfl
  · obtain ⟨lk, t, s, lks, bs, n, hs, st, k, rfl, hlk, L, hb, hn, ht, hS, g, hk, hlt, hT, kont⟩ := h
    refine ⟨_, pss_one (ps_ret (pe_cal c_reached (hr.mono (by decide)) rfl (pa_cons (pv 0) (pa_cons (pe_op op_shl pe_int (pe_ix ix_tup (pv 1) (pv 3) (fun _ _ => rfl))) (pa_cons (pe_op op_or (pe_ix ix_tup (pv 2) (pv 3) (fun _ _ => rfl)) (pe_cal c_free_of (hr.mono (by decide)) rfl (pa_cons (pv 0) (pa_cons (pv 2) pa_nil)))) pa_nil))))), ?_⟩
    have ehk : hs.getD k 0 = hs[k] := by rw [List.getD_eq_getElem?_getD, List.getElem?_eq_getElem hk]; rfl
    have hhk := hlt _ (List.getElem_mem hk)
    rw [ehk] at kont
    refine ⟨_, rfl, _, rfl, _, rfl, t, _, _, _, rfl, rfl, ht, atI_nat (vsN_at hk), 1, _, rfl, rfl, ⟨by omega, by omega, by decide⟩, _, rfl, _, rfl, s, _, _, _, rfl, rfl, hS, atI_nat (mkS_at hk), _, rfl, _, rfl, lk, s, lks, st, hs.length, rfl, hlk, by rw [L.len, g.len], by rw [g.len]; exact hn, hS, g.val, _, _, rfl, rfl, lk, lks, n, 2 ^ hs[k], Mk.mask (frL st k), bs, ?_, hlk, L, hb, hn, Mk.mask_lt (frL_asc st k) (fun p hp => by rw [← g.len]; exact frL_lt p hp), ?_, hT, fun r H' x R => ?_⟩
    · show [V.ref lk, V.int (1 * 2 ^ ((hs[k] : Nat) : Int).toNat), V.int (Builtin.bitOr _ _)] = _
      rw [shl_pp, or_pp, fr_or]
    · intro q hq
      rw [Nat.testBit_two_pow, decide_eq_true_eq] at hq
      subst hq
      rw [Mk.bit_mask (frL_asc st k), decide_eq_true_eq, mem_frL]
      refine ⟨by rw [g.len]; exact hhk, .inl ?_⟩
      have := g.hd k hk
      rwa [ehk] at this
    · have := come_rch R
      rw [this]
      exact kont H' x
def spCountOf (K : PySem.W.Frag) (T1 : Addr) : Sp := fun vs H Q _ => ∃ (ps : List Nat), vs = [.int ((Mk.mask ps : Nat) : Int)] ∧ ps.Pairwise (· < ·) ∧ (∀ p ∈ ps, p < 12) ∧ TabG H T1 ∧ ∀ H', Ext H H' → Q (.int (ps.length : Int)) H'
abbrev count_ofN : List Str := ["mask"]
theorem sc_count_of : FnScope count_ofN ["mask"] (defScope st_count_of) := ⟨rfl, rfl, rfl, by decide +kernel, rfl, by decide +kernel, by decide +kernel⟩
theorem ok_count_of {f T1 : Addr} {fd : FuncData} (F : Fun K "count_of" "count_of" st_count_of f fd) (B : Bl mg) (c_lot_of : Cal P w K mg base 6 "lot_of" ["mask"] (spLotOf K T1)) : FnOk P w K mg base CX0 7 f fd ["mask"] (spCountOf K T1) := by
  refine F.ok sc_count_of (fun vs H Q E h => ?_) (fun cdv A outer s H vs Q E hr h => ?_)
  · obtain ⟨ps, rfl, _⟩ := h
    rfl
  · obtain ⟨ps, rfl, ha, hlt, hT, kont⟩ := h
    refine ⟨_, pss_one (ps_ret (pe_callB call_len (by rfl) B.len PySem.boot_len (pa_cons (pe_cal c_lot_of (hr.mono (by decide)) rfl (pa_cons (pv 0) pa_nil)) pa_nil))), ?_⟩
    refine ⟨_, rfl, _, 12, rfl, Mk.mask_lt ha hlt, by omega, hT, fun p H' x hp hd hp' => ⟨_, ps.length, rfl, .inr ⟨_, SqT.of hp', ?_⟩, kont H' x⟩⟩
    rw [Mk.bits_mask ha hlt, List.length_map]
def spIsOver (K : PySem.W.Frag) (T1 : Addr) : Sp := fun vs H Q _ => ∃ (u s : Addr) (ss : List Nat) (st : List (Option Nat)) (m k : Nat), vs = [.ref u, .ref s, .int (k : Int)] ∧ SqT K H u (vsN ss) ∧ ss.length = m ∧ SqT K H s (vsN (mkS st m)) ∧ st.length ≤ 12 ∧ k < m ∧ TabG H T1 ∧ ∀ H', Ext H H' → Q (.bl (overB ss st k)) H'
abbrev is_overN : List Str := ["sizes", "state", "k"]
theorem sc_is_over : FnScope is_overN ["sizes", "state", "k"] (defScope st_is_over) := ⟨rfl, rfl, rfl, by decide +kernel, rfl, by decide +kernel, by decide +kernel⟩
theorem ok_is_over {f T1 : Addr} {fd : FuncData} (F : Fun K "is_over" "is_over" st_is_over f fd) (c_count_of : Cal P w K mg base 7 "count_of" ["mask"] (spCountOf K T1)) : FnOk P w K mg base CX0 8 f fd ["sizes", "state", "k"] (spIsOver K T1) := by
  refine F.ok sc_is_over (fun vs H Q E h => ?_) (fun cdv A outer s H vs Q E hr h => ?_)
  · obtain ⟨u, s, ss, st, m, k, rfl, _⟩ := h
    rfl
  · obtain ⟨u, s, ss, st, m, k, rfl, hu, hl, hS, hn, hk, hT, kont⟩ := h
    refine ⟨_, pss_one (ps_ret (pe_cmpR op_gt (pe_cal c_count_of (hr.mono (by decide)) rfl (pa_cons (pe_ix ix_tup (pv 1) (pv 2) (fun _ _ => rfl)) pa_nil)) (pe_ix ix_tup (pv 0) (pv 2) (fun _ _ => rfl)) (nomark _))), ?_⟩
    have hks : k < ss.length := by omega
    refine ⟨_, rfl, _, rfl, s, _, _, _, rfl, rfl, hS, atI_nat (mkS_at hk), ownL st k, rfl, own_asc st k, fun p hp => by have := own_lt p hp; omega, hT, fun H' x => ?_⟩
    refine ⟨_, rfl, _, rfl, u, _, _, _, rfl, rfl, x.sqT hu, atI_nat (vsN_at hks), _, _, rfl, rfl, ?_⟩
    have e : overB ss st k = decide (((ss[k] : Nat) : Int) < ((ownL st k).length : Int)) := by
      unfold overB
      rw [List.getD_eq_getElem?_getD, List.getElem?_eq_getElem hks]
      exact decide_eq_decide.mpr ⟨fun z => by show ((ss[k] : Nat) : Int) < _; have : ss[k] < _ := z; omega, fun z => by show ss[k] < _; omega⟩
    have q := kont H' x
    rw [e] at q
    exact q
def spIsShutIn (K : PySem.W.Frag) (T1 : Addr) : Sp := fun vs H Q _ => ∃ (u s : Addr) (bs : List (Nat × Nat)) (hs ss : List Nat) (st : List (Option Nat)) (k : Nat), vs = [.ref u, .ref s, .int (k : Int), .int ((Mk.mask (comeL bs st (hs.getD k 0) k) : Nat) : Int)] ∧ SqT K H u (vsN ss) ∧ ss.length = hs.length ∧ SqT K H s (vsN (mkS st hs.length)) ∧ st.length ≤ 12 ∧ k < hs.length ∧ TabG H T1 ∧ ∀ H', Ext H H' → Q (.bl (shutSB bs hs ss st k)) H'
abbrev is_shut_inN : List Str := ["sizes", "state", "k", "come"]
theorem sc_is_shut_in : FnScope is_shut_inN ["sizes", "state", "k", "come"] (defScope st_is_shut_in) := ⟨rfl, rfl, rfl, by decide +kernel, rfl, by decide +kernel, by decide +kernel⟩
theorem ok_is_shut_in {f T1 : Addr} {fd : FuncData} (F : Fun K "is_shut_in" "is_shut_in" st_is_shut_in f fd) (c_count_of : Cal P w K mg base 7 "count_of" ["mask"] (spCountOf K T1)) : FnOk P w K mg base CX0 8 f fd ["sizes", "state", "k", "come"] (spIsShutIn K T1) := by
  refine F.ok sc_is_shut_in (fun vs H Q E h => ?_) (fun cdv A outer s H vs Q E hr h => ?_)
  · obtain ⟨u, s, bs, hs, ss, st, k, rfl, _⟩ := h
    rfl
  · obtain ⟨u, s, bs, hs, ss, st, k, rfl, hu, hl, hS, hn, hk, hT, kont⟩ := h
    refine ⟨_, pss_one (ps_ret (pe_or (pe_cmpR op_lt (pe_cal c_count_of (hr.mono (by decide)) rfl (pa_cons (pv 3) pa_nil)) (pe_ix ix_tup (pv 0) (pv 2) (fun _ _ => rfl)) (nomark _)) (pe_one (pe_cmpR op_ne (pe_op op_and (pe_ix ix_tup (pv 1) (pv 2) (fun _ _ => rfl)) (pv 3)) (pe_ix ix_tup (pv 1) (pv 2) (fun _ _ => rfl)) (nomark _))))), ?_⟩
    have hks : k < ss.length := by omega
    refine ⟨_, rfl, comeL bs st (hs.getD k 0) k, rfl, comeL_asc .., fun p hp => by have := come_lt p hp; omega, hT, fun H' x => ?_⟩
    refine ⟨_, rfl, _, rfl, u, _, _, _, rfl, rfl, x.sqT hu, atI_nat (vsN_at hks), _, _, rfl, rfl, ?_⟩
    have q := kont H' x
    rw [shutSB_eq] at q
    have e : decide ((comeL bs st (hs.getD k 0) k).length < ss.getD k 0) = decide (((comeL bs st (hs.getD k 0) k).length : Int) < ((ss[k] : Nat) : Int)) := by
      rw [List.getD_eq_getElem?_getD (l := ss), List.getElem?_eq_getElem hks]
      exact decide_eq_decide.mpr ⟨fun z => by have : _ < ss[k] := z; omega, fun z => by show _ < ss[k]; omega⟩
    rw [e] at q
    refine ⟨_, rfl, ?_⟩
    cases e1 : decide (((comeL bs st (hs.getD k 0) k).length : Int) < ((ss[k] : Nat) : Int)) with
    | true =>
      rw [e1] at q
      exact iteT q
    | false =>
      rw [e1] at q
      refine iteF ⟨_, rfl, _, rfl, s, _, _, _, rfl, rfl, x.sqT hS, atI_nat (mkS_at hk), _, rfl, _, _, rfl, rfl, _, rfl, _, rfl, s, _, _, _, rfl, rfl, x.sqT hS, atI_nat (mkS_at hk), rfl, ?_⟩
      show Q (.bl (!decide (V.int (Builtin.bitAnd _ _) = V.int _))) H'
      rw [and_pp]
      have e2 : (!decide (V.int ((Mk.mask (ownL st k) &&& Mk.mask (comeL bs st (hs.getD k 0) k) : Nat) : Int) = V.int ((Mk.mask (ownL st k) : Nat) : Int))) = decide (Mk.mask (ownL st k) &&& Mk.mask (comeL bs st (hs.getD k 0) k) ≠ Mk.mask (ownL st k)) := by
        rw [← decide_not]
        exact decide_eq_decide.mpr ⟨fun z y => z (by rw [y]), fun z y => z (by injection y with y; omega)⟩
      rw [e2]
      exact q
def spHasPlace : Sp := fun vs H Q _ => ∃ (m p : Nat), vs = [.int (m : Int), .int (p : Int)] ∧ p ≤ 1000 ∧ Q (.bl (m.testBit p)) H
abbrev has_placeN : List Str := ["mask", "place"]
theorem sc_has_place : FnScope has_placeN ["mask", "place"] (defScope st_has_place) := ⟨rfl, rfl, rfl, by decide +kernel, rfl, by decide +kernel, by decide +kernel⟩
theorem ok_has_place {f : Addr} {fd : FuncData} (F : Fun K "has_place" "has_place" st_has_place f fd) : FnOk P w K mg base CX0 1 f fd ["mask", "place"] spHasPlace := by
  refine F.ok sc_has_place (fun vs H Q E h => ?_) (fun cdv A outer s H vs Q E hr h => ?_)
  · obtain ⟨m, p, rfl, _⟩ := h
    rfl
  · obtain ⟨m, p, rfl, hp, kont⟩ := h
    refine ⟨_, pss_one (ps_ret (pe_cmpR op_eq (pe_op op_and (pe_op op_shr (pv 0) (pv 1)) pe_int) pe_int (nomark _))), ?_⟩
    refine ⟨_, rfl, _, rfl, _, _, rfl, rfl, by omega, _, _, rfl, rfl, rfl, ?_⟩
    show Q (.bl (decide (V.int (Builtin.bitAnd _ 1) = V.int 1))) H
    rw [Int.toNat_natCast, shr_and]
    cases e : m.testBit p with
    | false => rw [e] at kont; exact kont
    | true => rw [e] at kont; exact kont
end
end Wd

set_option Elab.async false
set_option linter.all false
set_option maxRecDepth 100000
set_option maxHeartbeats 4000000
/-! Mn: min(xs, default=None) of data; repr of data where nothing is being shown. -/
namespace Bx
open PySem PySem.Spec PyProof.Rows L2
open PySem.W (dataLt)
/-! ### the order of alike data -/
theorem lt_irr (d : PyData) : dataLt d d = false := PyProof.Rows.lex_irrefl (O := PyProof.Rows.itemOrd) _
theorem lt_asym {d e : PyData} (h : dataLt d e = true) : dataLt e d = false := by
  cases z : dataLt e d with
  | false => rfl
  | true => exact (Bool.noConfusion ((lt_irr d).symm.trans (PyProof.Rows.lex_trans (O := PyProof.Rows.itemOrd) _ _ _ h z)))
theorem lt_neg {d e f : PyData} (h1 : dataLt e d = false) (h2 : dataLt f e = false) : dataLt f d = false := by
  cases z : dataLt f d with
  | false => rfl
  | true =>
    rcases PyProof.Rows.lex_negTrans (O := PyProof.Rows.itemOrd) _ (PySem.W.keyToks e) _ z with q | q
    · exact Bool.noConfusion (q.symm.trans h2)
    · exact Bool.noConfusion (q.symm.trans h1)
/-- neither is less: they are equal -/
theorem lt_tri {d e : PyData} (h : PySem.W.alike d e = true) (h1 : dataLt d e = false) (h2 : dataLt e d = false) : PyData.eqv d e = true := by
  have et : PySem.W.keyToks d = PySem.W.keyToks e := PyProof.Rows.lex_total (O := PyProof.Rows.itemOrd) _ _ h1 h2
  cases q : PyData.eqv d e with
  | true => rfl
  | false =>
    have z := (PySem.W.toks_eqv d e h).2 q [.inl 0] [.inl 1]
    rw [et, PySem.W.lex_pre, PyProof.Rows.lex_irrefl] at z
    exact absurd z (by decide +kernel)
theorem foldMin_le : ∀ (xs : List PyData) (x : PyData), (∀ y, y = x ∨ y ∈ xs → dataLt y (xs.foldl (fun a y => if dataLt y a then y else a) x) = false) ∧ (xs.foldl (fun a y => if dataLt y a then y else a) x = x ∨ xs.foldl (fun a y => if dataLt y a then y else a) x ∈ xs)
  | [], x => ⟨(fun y h => h.elim (fun e => e ▸ lt_irr y) fun h => nomatch h), .inl rfl⟩
  | z :: xs, x => by
    rw [List.foldl_cons]
    by_cases c : dataLt z x = true
    · rw [if_pos c]
      obtain ⟨h1, h2⟩ := foldMin_le xs z
      refine ⟨fun y h => ?_, .inr (h2.elim (fun e => by rw [e]; exact List.mem_cons_self) fun m => List.mem_cons_of_mem _ m)⟩
      rcases h with rfl | h
      · exact lt_neg (h1 z (.inl rfl)) (lt_asym c)
      · rcases List.mem_cons.mp h with rfl | h
        · exact h1 _ (.inl rfl)
        · exact h1 _ (.inr h)
    · rw [if_neg c]
      obtain ⟨h1, h2⟩ := foldMin_le xs x
      refine ⟨fun y h => ?_, h2.elim .inl fun m => .inr (List.mem_cons_of_mem _ m)⟩
      rcases h with rfl | h
      · exact h1 _ (.inl rfl)
      · rcases List.mem_cons.mp h with rfl | h
        · exact lt_neg (h1 x (.inl rfl)) (by simpa using c)
        · exact h1 _ (.inr h)
/-! ### min(xs, default=None) -/
def rMinDt (K : PySem.W.Frag) : List V → List V → Hp → VK → Prop := fun vs zs H Q => ∃ (a : Addr) (xs : List V) (ds : List PyData), vs = [V.ref a] ∧ zs = [V.non] ∧ SqL K H a xs ∧ DpAll K H xs ds ∧ PySem.W.AlikeAll ds ∧ PyData.depthAll ds ≤ 40 ∧
  (ds = [] → Q .non H) ∧ ∀ x d, x ∈ xs → d ∈ ds → Dp K H x d → (∀ e ∈ ds, dataLt e d = false) → Q x H
theorem cr_minDt {X : Cx} (hc : X.calm = true) (hu : X.A.units + 64 < cLine) : CallRK X (.builtin "min") ["default"] (rMinDt X.K) := by
  intro pins s σ H vs zs us ws Q I r1 r2 h
  obtain ⟨a, xs, ds, rfl, rfl, hs, hd, ha, hdp, q0, q⟩ := h
  obtain rfl : us = [Value.ref a] := Vals.ref1 r1
  obtain ⟨u, rfl, ru⟩ := vals1 r2
  cases (show u = Value.none from ru)
  obtain ⟨its, rv, hl, hz⟩ := I.list hs
  obtain ⟨as, hr⟩ := Dp.readsAll I ds xs its hd rv
  have hl' : s.heap.IsList a its.toArray := hl.isList
  have hr' : ReadsAll s.heap its.toArray.toList ds as := by simpa using hr
  refine PySem.W.min_list_default (I.ok.hd hc) hl' hr' ha (by omega) (fun e h' tk hk => ?_) fun y ys i v h' tk bs e hv rd hk => ?_
  · exact ⟨.non, H, I.kept (t' := tk) hk, rfl, q0 e⟩
  · have hv' : its[i]? = some v := by simpa using hv
    have hxl := rv.length
    have hi := (List.getElem?_eq_some_iff.mp hv').1
    have hx : xs[i]? = some xs[i] := List.getElem?_eq_getElem (by omega)
    obtain ⟨d, hd1, hd2⟩ := dpAll_get' hd hx
    have rel := vals_at rv hx hv'
    have I' := I.kept (t' := tk) hk
    obtain ⟨bs2, rd2⟩ := Dp.reads I' d _ v hd2 rel
    obtain ⟨m1, m2⟩ := foldMin_le ys y
    have md : PySem.W.minD y ys ∈ ds := by
      rw [e]
      rcases m2 with z | z
      · exact List.mem_cons.mpr (.inl z)
      · exact List.mem_cons_of_mem _ z
    have ed : PySem.W.minD y ys = d := PySem.W.alike_unique _ _ v _ _ (ha.1 _ md _ (List.mem_of_getElem? hd1)) rd rd2
    refine ⟨xs[i], H, I', rel, q _ d (List.getElem_mem _) (List.mem_of_getElem? hd1) hd2 fun e' he' => ?_⟩
    rw [← ed]
    refine m1 e' ?_
    rw [e] at he'
    exact List.mem_cons.mp he'
/-! ### repr of data -/
def rReprD (K : PySem.W.Frag) : List V → Hp → VK → Prop := fun vs H Q => ∃ (a : Addr) (d : PyData), vs = [V.ref a] ∧ Dp K H (.ref a) d ∧ d.showable = true ∧ d.hasDict = false ∧ d.depth ≤ 40 ∧ d.shown.length ≤ sizeLine ∧ Q (.str d.shown) H
theorem cr_reprD {X : Cx} (hg : X.A.guards = some []) (hu : X.A.units + 64 < cLine) : CallR X (.builtin "repr") (rReprD X.K) := by
  intro pins s σ H vs us Q I r h
  obtain ⟨a, d, rfl, hd, h1, h2, h3, h4, q⟩ := h
  obtain rfl : us = [Value.ref a] := Vals.ref1 r
  obtain ⟨as, rd⟩ := Dp.reads I d _ _ hd (rfl : RelV (V.ref a) (Value.ref a))
  exact repr_of_reads' rd h1 (PyData.noDict_hsm h2) hg (by omega) (fun _ _ e => e) (fun h' u tk hk => ⟨.str d.shown, H, I.kept (t' := tk) hk, ⟨u, rfl⟩, q⟩) h4
/-- data that repr tells: its depth, and how much it holds -/
structure Rp (n W : Nat) (d : PyData) : Prop where
  show_ : d.showable = true
  dict : d.hasDict = false
  short : d.leavesShort 13 = true
  dep : d.depth ≤ n
  wt : d.weight ≤ W
theorem Rp.mono {n W m V : Nat} {d : PyData} (h : Rp n W d) (h1 : n ≤ m) (h2 : W ≤ V) : Rp m V d := ⟨h.show_, h.dict, h.short, Nat.le_trans h.dep h1, Nat.le_trans h.wt h2⟩
theorem Rp.int {i : Int} (h1 : -999999999999 ≤ i) (h2 : i ≤ 999999999999) : Rp 0 40 (.int i) := by
  have e : i.natAbs < 2 ^ 40 := by
    have : (2 : Nat) ^ 40 = 1099511627776 := by decide
    omega
  have hlog : i ≠ 0 → i.natAbs.log2 < 40 := fun hz => (Nat.log2_lt (by omega)).mpr e
  refine ⟨?_, by simp [PyData.hasDict], ?_, by simp [PyData.depth], ?_⟩
  · simp only [PyData.showable, decide_eq_true_eq]
    by_cases hz : i = 0
    · subst hz; decide
    · have := hlog hz
      omega
  · simp only [PyData.leavesShort, decide_eq_true_eq]
    exact PyData.shown_int_le2 h1 h2
  · simp only [PyData.weight]
    by_cases hz : i = 0
    · subst hz; decide
    · have := hlog hz
      rw [if_neg (by simpa using hz)]
      omega
theorem Rp.non : Rp 0 40 .none := ⟨by simp [PyData.showable], by simp [PyData.hasDict], by simp [PyData.leavesShort], by simp [PyData.depth], by simp [PyData.weight]⟩
theorem rp_all {n W : Nat} : ∀ {ds : List PyData}, (∀ d ∈ ds, Rp n W d) → PyData.showableAll ds = true ∧ PyData.hasDictAll ds = false ∧ PyData.leavesShortAll 13 ds = true ∧ PyData.depthAll ds ≤ n ∧ PyData.weightAll ds ≤ ds.length * (W + 1)
  | [], _ => by simp [PyData.showableAll, PyData.hasDictAll, PyData.leavesShortAll, PyData.depthAll, PyData.weightAll]
  | d :: ds, h => by
    obtain ⟨h1, h2, h3, h4, h5⟩ := rp_all fun x hx => h x (List.mem_cons_of_mem _ hx)
    have g := h d List.mem_cons_self
    refine ⟨by simp [PyData.showableAll, g.show_, h1], by simp [PyData.hasDictAll, g.dict, h2], by simp [PyData.leavesShortAll, g.short, h3], ?_, ?_⟩
    · simp only [PyData.depthAll]
      have := g.dep
      omega
    · simp only [PyData.weightAll, List.length_cons, Nat.succ_mul]
      have := g.wt
      omega
theorem Rp.tup {n W : Nat} {ds : List PyData} (h : ∀ d ∈ ds, Rp n W d) {V : Nat} (hv : ds.length * (W + 1) ≤ V) : Rp (n + 1) V (.tuple ds) := by
  obtain ⟨h1, h2, h3, h4, h5⟩ := rp_all h
  exact ⟨by simpa [PyData.showable] using h1, by simpa [PyData.hasDict] using h2, by simpa [PyData.leavesShort] using h3, by simp only [PyData.depth]; omega, by simp only [PyData.weight]; omega⟩
theorem Rp.lst {n W : Nat} {ds : List PyData} (h : ∀ d ∈ ds, Rp n W d) {V : Nat} (hv : ds.length * (W + 1) ≤ V) : Rp (n + 1) V (.list ds) := by
  obtain ⟨h1, h2, h3, h4, h5⟩ := rp_all h
  exact ⟨by simpa [PyData.showable] using h1, by simpa [PyData.hasDict] using h2, by simpa [PyData.leavesShort] using h3, by simp only [PyData.depth]; omega, by simp only [PyData.weight]; omega⟩
theorem Rp.len {n W : Nat} {d : PyData} (h : Rp n W d) (hW : W ≤ 1000000) : d.shown.length ≤ sizeLine := by
  have h2 := PyData.shown_le 13 (by decide) d h.short
  have := h.wt
  rw [sizeLine_eq]
  omega
theorem rp_repr {K : PySem.W.Frag} {H : Hp} {a : Addr} {d : PyData} {Q : VK} {n W : Nat} (h : Rp n W d) (hn : n ≤ 40) (hW : W ≤ 1000000) (hd : Dp K H (.ref a) d) (q : Q (.str d.shown) H) : rReprD K [V.ref a] H Q :=
  ⟨a, d, rfl, hd, h.show_, h.dict, Nat.le_trans h.dep hn, h.len hW, q⟩
end Bx

set_option Elab.async false
set_option linter.all false
set_option maxRecDepth 100000
set_option maxHeartbeats 4000000
/-! Mt: max(t) of a tuple of ints. -/
namespace Bx
open PySem PySem.Spec PyProof.Rows L2
open PySem.W (dataLt)
theorem maxD_ints : ∀ (ns : List Int) (n : Int), ∃ m, PySem.W.maxD (.int n) (ns.map PyData.int) = .int m ∧ (m = n ∨ m ∈ ns) ∧ n ≤ m ∧ ∀ y ∈ ns, y ≤ m
  | [], n => ⟨n, rfl, .inl rfl, Int.le_refl _, fun _ h => nomatch h⟩
  | x :: ns, n => by
    have e : PySem.W.maxD (.int n) ((x :: ns).map PyData.int) = PySem.W.maxD (if dataLt (.int n) (.int x) then .int x else .int n) (ns.map PyData.int) := rfl
    rw [PySem.W.dataLt_int] at e
    by_cases h : n < x
    · rw [decide_eq_true h, if_pos rfl] at e
      obtain ⟨m, h1, h2, h3, h4⟩ := maxD_ints ns x
      refine ⟨m, e.trans h1, .inr ?_, by omega, fun y hy => ?_⟩
      · rcases h2 with rfl | h2
        · exact List.mem_cons_self
        · exact List.mem_cons_of_mem _ h2
      · rcases List.mem_cons.mp hy with rfl | hy
        · exact h3
        · exact h4 y hy
    · rw [decide_eq_false h, if_neg Bool.false_ne_true] at e
      obtain ⟨m, h1, h2, h3, h4⟩ := maxD_ints ns n
      refine ⟨m, e.trans h1, ?_, h3, fun y hy => ?_⟩
      · rcases h2 with rfl | h2
        · exact .inl rfl
        · exact .inr (List.mem_cons_of_mem _ h2)
      · rcases List.mem_cons.mp hy with rfl | hy
        · omega
        · exact h4 y hy
def rMaxTI (K : PySem.W.Frag) : List V → Hp → VK → Prop := fun vs H Q => ∃ (a : Addr) (ns : List Int), vs = [V.ref a] ∧ SqT K H a (ns.map V.int) ∧ ns ≠ [] ∧ ∀ m, m ∈ ns → (∀ y ∈ ns, y ≤ m) → Q (.int m) H
theorem cr_maxTI {X : Cx} (hc : X.calm = true) (hu : X.A.units + 64 < cLine) : CallR X (.builtin "max") (rMaxTI X.K) := by
  intro pins s σ H vs us Q I r h
  obtain ⟨a, ns, rfl, hs, hne, q⟩ := h
  obtain rfl : us = [Value.ref a] := Vals.ref1 r
  obtain ⟨its, rv, hl, hz⟩ := I.tuple hs
  have hd : DpAll X.K H (ns.map V.int) (ns.map PyData.int) := dpAll_of_ints ns
  obtain ⟨as, hr⟩ := Dp.readsAll I _ _ its hd rv
  have hr' : ReadsAll s.heap its.toArray.toList (ns.map PyData.int) as := by simpa using hr
  obtain ⟨n, ms, rfl⟩ : ∃ n ms, ns = n :: ms := by
    cases ns with
    | nil => exact absurd rfl hne
    | cons n ms => exact ⟨n, ms, rfl⟩
  have ha : PySem.W.AlikeAll ((n :: ms).map PyData.int) := ⟨fun d h d' h' => by
    obtain ⟨i, _, rfl⟩ := List.mem_map.mp h
    obtain ⟨j, _, rfl⟩ := List.mem_map.mp h'
    simp [PySem.W.alike], fun d h => by
    obtain ⟨i, _, rfl⟩ := List.mem_map.mp h
    exact fun z => nomatch z⟩
  have key : ∀ l : List Int, PyData.depthAll (l.map PyData.int) ≤ 1 := fun l => by
    induction l with
    | nil => simp [PyData.depthAll]
    | cons x l ih =>
      rw [List.map_cons]
      simp [PyData.depthAll, PyData.depth]
      omega
  have hdp := key (n :: ms)
  obtain ⟨m, e1, e2, e3, e4⟩ := maxD_ints ms n
  refine PySem.W.max_tuple_data (I.ok.hd hc) hl hr' ha (by rw [List.map_cons] at hdp; omega) fun i v h' tk bs hv rd hk => ?_
  rw [e1] at rd
  cases rd
  refine ⟨.int m, H, I.kept (t' := tk) hk, ⟨_, rfl⟩, q m ?_ fun y hy => ?_⟩
  · rcases e2 with rfl | e2
    · exact List.mem_cons_self
    · exact List.mem_cons_of_mem _ e2
  · rcases List.mem_cons.mp hy with rfl | hy
    · exact e3
    · exact e4 y hy
end Bx

set_option Elab.async false
set_option linter.all false
set_option maxRecDepth 100000
set_option maxHeartbeats 4000000
namespace Wd
open PySem PySem.Spec PyProof.Rows L2 Bx Gx

























































section
/-! ### any(..) of a generator, min(..) of pairs -/
open Gx GenW in
theorem g_any {J : It} {n : Nat} {it : Nat → V} {Ph : Hp → Prop} {g : TG} {te : TE} {vs : List Nat} {σg : L2.St} {H : Hp} {Qt Qf : Hp → Prop} (S : Src J n it Ph) (p : Nat → Bool) (h0 : Ph H)
    (step : ∀ i H (C : V → Hp → Prop), Ph H → i < n → (∀ H4, Ph H4 → C (.bl (p i)) H4) → g (it i) σg H fun σ2 H2 => wipe σ2 vs = σg ∧ te σ2 H2 C)
    (fin : ∀ H, Ph H → (List.range n).any p = true → Qt H) (finF : ∀ H, Ph H → (List.range n).any p = false → Qf H) :
    ∃ W : Nat → Nat → List V → Hp → Prop, (∃ m, W 0 m [] H) ∧ GTurn J g tYes te vs σg (pAny Qt) (fun _ H => Qf H) W := by
  refine ⟨fun i m _ H => Ph H ∧ i ≤ n ∧ m = n - i ∧ ∀ j, j < i → p j = false, ⟨n, h0, Nat.zero_le _, by omega, fun j hj => by omega⟩, fun i m ys H ⟨hp, hi, hm, ha⟩ => ?_⟩
  by_cases hn : i = n
  · subst hn
    exact .inl ⟨S.stop H hp, finF H hp (List.any_eq_false.mpr fun j hj => by rw [ha j (List.mem_range.mp hj)]; exact Bool.false_ne_true)⟩
  · have hlt : i < n := by omega
    refine .inr ⟨S.go i H hp hlt, fun x H' y => ?_⟩
    obtain ⟨rfl, rfl⟩ := S.yld i H x H' hp hlt y
    refine step i H' _ hp hlt fun H4 hp4 => ⟨p i, rfl, ?_⟩
    cases e : p i with
    | false => exact iteF ⟨n - (i + 1), by omega, hp4, hlt, rfl, fun j hj => by
        by_cases z : j = i
        · rw [z]; exact e
        · exact ha j (by omega)⟩
    | true => exact iteT (fin H4 hp4 (List.any_eq_true.mpr ⟨i, List.mem_range.mpr hlt, e⟩))
def rMinP (K : PySem.W.Frag) : List V → Hp → VK → Prop := fun vs H Q => ∃ (a : Addr) (xs : List V) (ps : List (Int × Int)), vs = [V.ref a] ∧ SqL K H a xs ∧ DpAll K H xs (ps.map fun q => .tuple [.int q.1, .int q.2]) ∧ ps ≠ [] ∧ ∀ x ∈ xs, Q x H
theorem cr_minP {X : Cx} (hc : X.calm = true) (hu : X.A.units + 64 < cLine) : CallR X (.builtin "min") (rMinP X.K) := by
  intro pins s σ H vs us Q I r h
  obtain ⟨a, xs, ps, rfl, hs, hd, hne, q⟩ := h
  obtain rfl : us = [Value.ref a] := Vals.ref1 r
  obtain ⟨its, rv, hl, hz⟩ := I.list hs
  obtain ⟨as, hr⟩ := Dp.readsAll I _ xs its hd rv
  have hl' : s.heap.IsList a its.toArray := hl.isList
  have hr' : ReadsAll s.heap its.toArray.toList (ps.map fun q => .tuple [.int q.1, .int q.2]) as := by simpa using hr
  obtain ⟨n, ms, rfl⟩ : ∃ n ms, ps = n :: ms := by
    cases ps with
    | nil => exact absurd rfl hne
    | cons n ms => exact ⟨n, ms, rfl⟩
  have ha : PySem.W.AlikeAll ((n :: ms).map fun q => PyData.tuple [.int q.1, .int q.2]) := ⟨fun d h d' h' => by
    obtain ⟨i, _, rfl⟩ := List.mem_map.mp h
    obtain ⟨j, _, rfl⟩ := List.mem_map.mp h'
    simp [PySem.W.alike, PySem.W.alikeAll], fun d h => by
    obtain ⟨i, _, rfl⟩ := List.mem_map.mp h
    exact fun z => nomatch z⟩
  have key : ∀ l : List (Int × Int), PyData.depthAll (l.map fun q => PyData.tuple [.int q.1, .int q.2]) ≤ 3 := fun l => by
    induction l with
    | nil => simp [PyData.depthAll]
    | cons x l ih =>
      rw [List.map_cons]
      simp [PyData.depthAll, PyData.depth]
      omega
  have hdp := key (n :: ms)
  refine PySem.W.min_list_data (I.ok.hd hc) hl' hr' ha (Nat.lt_of_le_of_lt (Nat.add_le_add_left hdp _) (by omega)) fun i v h' tk bs hv rd hk => ?_
  have hv' : its[i]? = some v := by simpa using hv
  have hxl := rv.length
  have hi := (List.getElem?_eq_some_iff.mp hv').1
  have hx : xs[i]? = some xs[i] := List.getElem?_eq_getElem (by omega)
  have rel := vals_at rv hx hv'
  exact ⟨xs[i], H, I.kept (t' := tk) hk, rel, q _ (List.getElem_mem _)⟩
end
section
variable {P : Program} {w : World} {K : PySem.W.Frag} {mg : Str → Option Value} {base : Heap}
/-! ### short cases, and where to split -/
def spIsLost (K : PySem.W.Frag) (T1 T2 : Addr) : Sp := fun vs H Q _ => ∃ (lk t s : Addr) (lks : List Nat) (bs : List (Nat × Nat)) (n : Nat) (hs : List Nat) (st : List (Option Nat)) (p : Nat), vs = [.ref lk, .ref t, .ref s, .int (p : Int)] ∧ H lk = some (.lst (vsN lks)) ∧ Mk.Lk n bs lks ∧ Mk.Bs n bs ∧ n ≤ 12 ∧ SqT K H t (vsN hs) ∧ SqT K H s (vsN (mkS st hs.length)) ∧ GoodSt n hs st ∧ hs.length ≤ 4 ∧ p < 100 ∧ (∀ h ∈ hs, h < n) ∧ TabG H T1 ∧ TabG H T2 ∧ ∀ H', Ext H H' → Q (.bl (lostB bs hs st p)) H'
abbrev is_lostN : List Str := ["links", "heads", "state", "place"]
theorem sc_is_lost : FnScope is_lostN ["links", "heads", "state", "place"] (defScope st_is_lost) := ⟨rfl, rfl, rfl, by decide +kernel, rfl, by decide +kernel, by decide +kernel⟩
theorem ok_is_lost {f c T1 T2 : Addr} {fd : FuncData} (F : FunC K "is_lost" "is_lost" st_is_lost f fd c) (TB : TabB base mg c T2) (B : Bl mg) (hany : mg "any" = none) (c_has_place : Cal P w K mg base 1 "has_place" ["mask", "place"] spHasPlace) (c_free_of : Cal P w K mg base 1 "free_of" ["links", "state"] (spFreeOf K)) (c_come_to : Cal P w K mg base 8 "come_to" ["links", "heads", "state", "k"] (spComeTo K T1)) : FnOk P w K mg base CX0 12 f fd ["links", "heads", "state", "place"] (spIsLost K T1 T2) := by
  refine F.ok sc_is_lost (fun vs H Q E h => ?_) (fun A outer s H vs Q E hr h => ?_)
  · obtain ⟨lk, t, s, lks, bs, n, hs, st, p, rfl, _⟩ := h
    rfl
  · obtain ⟨lk, t, s, lks, bs, n, hs, st, p, rfl, hlk, L, hb, hn, ht, hS, g, h4, hp, hlt, hT1, hT2, kont⟩ := h
    have nd := sc_is_lost.nd
    refine ⟨_, pss_cons (ps_if (pt_not (pt_val (pe_cal c_has_place (hr.mono (by decide)) rfl (pa_cons (pe_cal c_free_of (hr.mono (by decide)) rfl (pa_cons (pv 0) (pa_cons (pv 2) pa_nil))) (pa_cons (pv 3) pa_nil))) (by intro _; rfl))) (pss_one (ps_ret pe_bl)) pss_nil)
      (pss_one (ps_ret (pe_not (pe_gany (k := 9) (N := ["k", "links", "heads", "state", "place"]) (src := [none, some 0, some 1, some 2, some 3]) (vs := [0])
        ⟨fun B s H fp code hB => pg_name (i := 0) (by decide +kernel : (["k", "links", "heads", "state", "place"] : List Str).Nodup) rfl (Or.inl rfl), fun B s H fp code hB => pts_nil, fun B s H fp code hB => pe_cal c_has_place ((hB.deeper _).mono (by decide)) rfl (pa_cons (pe_cal c_come_to (hB.deeper _) rfl (pa_cons (pv 1) (pa_cons (pv 2) (pa_cons (pv 3) (pa_cons (pv 0) pa_nil))))) (pa_cons (pv 4) pa_nil))⟩
        hr rfl hany TB rfl (gOk (ND := ["links", "heads", "state", "place"]) (sc := defScope st_is_lost) (by decide +kernel)) (pi_range1 rfl B.range (pa_cons (pe_callB call_len (by rfl) B.len PySem.boot_len (pa_cons (pv 1) pa_nil)) pa_nil)))))), ?_⟩
    have ebit : (Mk.mask (freS st)).testBit p = decide (p < st.length ∧ st.getD p none = none) := by
      rw [Mk.bit_mask (fre_asc st)]
      exact decide_eq_decide.mpr mem_freS
    refine ⟨_, rfl, _, rfl, lk, s, lks, st, hs.length, rfl, hlk, by rw [L.len, g.len], by rw [g.len]; exact hn, hS, g.val, _, rfl, _, p, rfl, by omega, _, rfl, ?_⟩
    rw [ebit]
    cases e : decide (p < st.length ∧ st.getD p none = none) with
    | false =>
      refine iteT ?_
      have q := kont H (.refl H)
      unfold lostB at q
      rw [e] at q
      exact q
    | true =>
      refine iteF ⟨_, rfl, _, hs.length, rfl, .inr ⟨_, ht, (vsN_len hs).symm⟩, _, rfl, by omega, by omega, hT2, fun H2 hT2' => ?_⟩
      have x2 : Ext H H2 := Ext.tabbed hT2 hT2'
      refine g_any (Ph := fun H4 => Ext H H4) src_range (fun k => comeB bs st (hs.getD k 0) k p) x2 (fun i H4 C x4 hi k2 => ?_) (fun H4 x4 ea => ?_) fun H4 x4 ea => ?_
      · rw [Int.toNat_natCast] at hi
        rw [Int.zero_add]
        refine ⟨rfl, _, rfl, _, rfl, _, rfl, _, rfl, lk, t, s, lks, bs, n, hs, st, i, rfl, x4.lst hlk, L, hb, hn, x4.sqT ht, x4.sqT hS, g, hi, hlt, x4.tabs _ hT1, fun H5 x5 => ?_⟩
        refine ⟨_, rfl, _, p, rfl, by omega, ?_⟩
        have eb : (Mk.mask (comeL bs st (hs.getD i 0) i)).testBit p = comeB bs st (hs.getD i 0) i p := by
          rw [Mk.bit_mask (comeL_asc ..), Bool.eq_iff_iff, decide_eq_true_eq, mem_comeL, comeB_iff]
        rw [eb]
        exact k2 H5 (x4.trans x5)
      · refine ⟨_, rfl, ?_⟩
        have q := kont H4 x4
        unfold lostB at q
        rw [e, Bool.true_and] at q
        rw [Int.toNat_natCast, List.any_eq_true] at ea
        obtain ⟨k, hk, ek⟩ := ea
        rw [show ((List.range hs.length).all fun k => !comeB bs st (hs.getD k 0) k p) = false from List.all_eq_false.mpr ⟨k, hk, by rw [ek]; exact Bool.false_ne_true⟩] at q
        exact q
      · refine ⟨_, rfl, ?_⟩
        have q := kont H4 x4
        unfold lostB at q
        rw [e, Bool.true_and] at q
        rw [Int.toNat_natCast, List.any_eq_false] at ea
        rw [show ((List.range hs.length).all fun k => !comeB bs st (hs.getD k 0) k p) = true from List.all_eq_true.mpr fun k hk => by rw [Bool.eq_false_iff.mpr (ea k hk)]; rfl] at q
        exact q
def spHeadsTo (K : PySem.W.Frag) : Sp := fun vs H Q _ => ∃ (cs : Addr) (cl : List Nat) (p : Nat), vs = [.ref cs, .int (p : Int)] ∧ H cs = some (.lst (vsN cl)) ∧ cl.length ≤ 4 ∧ p < 100 ∧ ∀ H', Ext H H' → Q (.int ((cl.filter fun m => m.testBit p).length : Int)) H'
abbrev heads_toN : List Str := ["comes", "place", "come"]
theorem sc_heads_to : FnScope heads_toN ["comes", "place"] (defScope st_heads_to) := ⟨rfl, rfl, rfl, by decide +kernel, rfl, by decide +kernel, by decide +kernel⟩
theorem ok_heads_to {f : Addr} {fd : FuncData} (F : Fun K "heads_to" "heads_to" st_heads_to f fd) (B : Bl mg) (c_has_place : Cal P w K mg base 1 "has_place" ["mask", "place"] spHasPlace) : FnOk P w K mg base CX0 3 f fd ["comes", "place"] (spHeadsTo K) := by
  refine F.ok sc_heads_to (fun vs H Q E h => ?_) (fun cdv A outer s H vs Q E hr h => ?_)
  · obtain ⟨cs, cl, p, rfl, _⟩ := h
    rfl
  · obtain ⟨cs, cl, p, rfl, hcs, h4, hp, kont⟩ := h
    have nd := sc_heads_to.nd
    refine ⟨_, pss_one (ps_ret (pe_callB call_len (by rfl) B.len PySem.boot_len (pa_cons (pe_lc (own := [("come", 2)]) (g := gName 2) (by rfl) nd (pi_list (pv 0)) (blkOk_by (own := [("come", 2)]) (N := ["comes", "place", "come"]) (sc := defScope st_heads_to) (by decide +kernel)) (fun _ _ _ _ _ => pg_name (i := 2) nd rfl (Or.inl rfl)) (fun _ _ _ _ _ => pts_one (pt_val (pe_cal c_has_place (hr.mono (by decide)) rfl (pa_cons (pv 2) (pa_cons (pv 1) pa_nil))) (by intro _; rfl))) (fun _ _ _ _ _ => pv 2)) pa_nil))), ?_⟩
    refine ⟨_, rfl, cs, rfl, ⟨_, SqL.of hcs⟩, fun D hD => ?_⟩
    refine lc_list (K := K) (a := cs) (xs := vsN cl) (fun i H4 => H4 D = some (.lst (vsN ((cl.take i).filter fun m => m.testBit p))) ∧ Ext H H4) ⟨upd_same, .new hD⟩ (fun i H4 _ ⟨_, x4⟩ => SqL.of (x4.lst hcs)) (fun i y H4 hy ⟨e4, x4⟩ => ?_) (fun H4 ⟨e4, x4⟩ => ?_)
    · have hi : i < cl.length := by
        have := (List.getElem?_eq_some_iff.mp hy).1
        rwa [vsN_len] at this
      rw [vsN_at hi] at hy
      obtain rfl := (Option.some.inj hy).symm
      refine ⟨rfl, _, rfl, _, rfl, cl[i], p, rfl, by omega, _, rfl, ?_⟩
      rw [List.take_add_one, List.getElem?_eq_getElem hi, Option.toList_some, List.filter_append]
      cases e : cl[i].testBit p with
      | true =>
        rw [List.filter_cons_of_pos (by exact e)]
        refine iteT ⟨_, rfl, _, e4, ?_, ?_, x4.write hD⟩
        · have := List.length_filter_le (fun m => m.testBit p) (cl.take i)
          rw [List.length_take] at this
          rw [vsN_len]
          exact small1000 (by omega)
        · rw [upd_same]
          show some (HO.lst (List.map _ _ ++ _)) = some (HO.lst (List.map _ (_ ++ [cl[i]])))
          rw [List.map_append]
          rfl
      | false =>
        rw [List.filter_cons_of_neg (by rw [e]; decide)]
        refine iteF ⟨?_, x4⟩
        simpa using e4
    · rw [vsN_len, List.take_length] at e4
      exact ⟨_, _, rfl, .inl ⟨_, SqL.of e4, (vsN_len _).symm⟩, kont H4 x4⟩
def spNarrowest (K : PySem.W.Frag) : Sp := fun vs H Q _ => ∃ (lo cs : Addr) (fr cl : List Nat), vs = [.ref lo, .ref cs] ∧ SqT K H lo (vsN fr) ∧ fr ≠ [] ∧ fr.length ≤ 12 ∧ (∀ p ∈ fr, p < 12) ∧ H cs = some (.lst (vsN cl)) ∧ cl.length ≤ 4 ∧ ∀ p ∈ fr, ∀ H', Ext H H' → Q (.int (p : Int)) H'
abbrev narrowestN : List Str := ["lot", "comes", "place"]
theorem sc_narrowest : FnScope narrowestN ["lot", "comes"] (defScope st_narrowest) := ⟨rfl, rfl, rfl, by decide +kernel, rfl, by decide +kernel, by decide +kernel⟩
theorem ok_narrowest {f : Addr} {fd : FuncData} (F : Fun K "narrowest" "narrowest" st_narrowest f fd) (B : Bl mg) (c_heads_to : Cal P w K mg base 3 "heads_to" ["comes", "place"] (spHeadsTo K)) : FnOk P w K mg base CX0 4 f fd ["lot", "comes"] (spNarrowest K) := by
  refine F.ok sc_narrowest (fun vs H Q E h => ?_) (fun cdv A outer s H vs Q E hr h => ?_)
  · obtain ⟨lo, cs, fr, cl, rfl, _⟩ := h
    rfl
  · obtain ⟨lo, cs, fr, cl, rfl, hlo, hne, hf12, hf, hcs, h4, kont⟩ := h
    have nd := sc_narrowest.nd
    refine ⟨_, pss_one (ps_ret (pe_ix ix_tup (pe_callB (cr_minP rfl hr.units) (by rfl) B.min (by decide +kernel) (pa_cons (pe_lc (own := [("place", 2)]) (g := gName 2) (by rfl) nd (pi_tup (pv 0)) (blkOk_by (own := [("place", 2)]) (N := ["lot", "comes", "place"]) (sc := defScope st_narrowest) (by decide +kernel)) (fun _ _ _ _ _ => pg_name (i := 2) nd rfl (Or.inl rfl)) (fun _ _ _ _ _ => pts_nil) (fun _ _ _ _ _ => pe_tup (pa_cons (pe_cal c_heads_to (hr.mono (by decide)) rfl (pa_cons (pv 1) (pa_cons (pv 2) pa_nil))) (pa_cons (pv 2) pa_nil)))) pa_nil)) pe_int (fun _ _ => rfl))), ?_⟩
    have hfl : ∀ i (hi : i < fr.length), fr[i] < 12 := fun i hi => hf _ (List.getElem_mem hi)
    refine ⟨_, rfl, lo, rfl, ⟨_, hlo⟩, fun D hD => ?_⟩
    refine lc_tup (K := K) (a := lo) (xs := vsN fr) (fun i H4 => (∃ (ys : List V) (qs : List (Int × Int)), H4 D = some (.lst ys) ∧ DpAll K H4 ys (qs.map fun q => .tuple [.int q.1, .int q.2]) ∧ qs.length = i ∧ ys.length = i ∧ ∀ y ∈ ys, ∃ (a : Addr) (c : Int) (p : Nat), y = .ref a ∧ SqT K H4 a [.int c, .int (p : Int)] ∧ p ∈ fr) ∧ Ext H H4) ⟨⟨[], [], upd_same, .nil, rfl, rfl, fun y hy => nomatch hy⟩, .new hD⟩ (fun i H4 _ ⟨_, x4⟩ => x4.sqT hlo) (fun i y H4 hy ⟨⟨ys, qs, e4, hys, hql, hyl, hin⟩, x4⟩ => ?_) (fun H4 ⟨⟨ys, qs, e4, hys, hql, hyl, hin⟩, x4⟩ => ?_)
    · have hi : i < fr.length := by
        have := (List.getElem?_eq_some_iff.mp hy).1
        rwa [vsN_len] at this
      rw [vsN_at hi] at hy
      obtain rfl := (Option.some.inj hy).symm
      refine ⟨rfl, ?_⟩
      dsimp only [tYes]
      rw [if_pos rfl]
      refine ⟨_, rfl, _, rfl, cs, cl, fr[i], rfl, x4.lst hcs, h4, by have := hfl i hi; omega, fun H5 x5 => ?_⟩
      refine ⟨_, rfl, (by show 2 ≤ sizeLine; decide), fun p hp => ?_⟩
      have x45 : Ext H4 (upd H5 p (.tup [.int ((cl.filter fun m => m.testBit fr[i]).length : Int), .int ((fr[i] : Nat) : Int)])) := x5.trans (.new hp)
      have e5 := x45.lst e4
      have hDp : D ≠ p := ne_of_none (x5.lst e4) hp
      have hyw : noLs (qs.map fun q => PyData.tuple [.int q.1, .int q.2]) = true := noLs_of fun d hd => by obtain ⟨q, _, rfl⟩ := List.mem_map.mp hd; rfl
      have xw : ExtS [D] H4 (upd (upd H5 p (.tup [.int ((cl.filter fun m => m.testBit fr[i]).length : Int), .int ((fr[i] : Nat) : Int)])) D (.lst (ys ++ [.ref p]))) := (ExtS.of x45).write (.inr ⟨by simp, _, e4⟩)
      have hpt : SqT K (upd (upd H5 p (.tup [.int ((cl.filter fun m => m.testBit fr[i]).length : Int), .int ((fr[i] : Nat) : Int)])) D (.lst (ys ++ [.ref p]))) p [.int ((cl.filter fun m => m.testBit fr[i]).length : Int), .int ((fr[i] : Nat) : Int)] := SqT.of (by rw [upd_ne hDp.symm]; exact upd_same)
      refine ⟨_, e5, small1000 (by omega), ⟨ys ++ [.ref p], qs ++ [(((cl.filter fun m => m.testBit fr[i]).length : Int), ((fr[i] : Nat) : Int))], upd_same, ?_, by rw [List.length_append, hql]; rfl, by rw [List.length_append, hyl]; rfl, fun y hy => ?_⟩, (x4.trans x45).write hD⟩
      · rw [List.map_append]
        exact dpAll_app (dpAll_extS xw hyw hys) (.cons (.tup hpt (.cons (.int _) (.cons (.int _) .nil))) .nil)
      · rcases List.mem_append.mp hy with m | m
        · obtain ⟨a, c, q, e, h1, h2⟩ := hin y m
          exact ⟨a, c, q, e, xw.sqT h1, h2⟩
        · rw [List.mem_singleton.mp m]
          exact ⟨p, _, _, rfl, hpt, List.getElem_mem hi⟩
    · rw [vsN_len] at hql
      have hfp := List.length_pos_iff.mpr hne
      refine ⟨D, ys, qs, rfl, SqL.of e4, hys, (fun z => by rw [z] at hql; simp at hql; omega), fun y hy => ?_⟩
      obtain ⟨a, c, q, rfl, h1, h2⟩ := hin y hy
      exact ⟨a, _, _, _, rfl, rfl, h1, atI_nat (j := 1) rfl, kont q h2 H4 x4⟩
def ovD (wd : String) (k : Nat) : PyData := .tuple [.str (Str.ofString wd), .int (k : Int)]
theorem ovD_depth (wd : String) (k : Nat) : (ovD wd k).depth ≤ 1 := by simp [ovD, PyData.depth, PyData.depthAll]
noncomputable def comesN (bs : List (Nat × Nat)) (hs : List Nat) (st : List (Option Nat)) : List Nat := (List.range hs.length).map fun k => Mk.mask (comeL bs st (hs.getD k 0) k)
theorem comesN_len {bs : List (Nat × Nat)} {hs : List Nat} {st : List (Option Nat)} : (comesN bs hs st).length = hs.length := by rw [comesN, List.length_map, List.length_range]
theorem comesN_at {bs : List (Nat × Nat)} {hs : List Nat} {st : List (Option Nat)} {k : Nat} (hk : k < hs.length) : (vsN (comesN bs hs st))[k]? = some (.int ((Mk.mask (comeL bs st (hs.getD k 0) k) : Nat) : Int)) := by
  rw [vsN_at (by rw [comesN_len]; exact hk)]
  simp [comesN]
def spShort (K : PySem.W.Frag) (T1 T2 : Addr) : Sp := fun vs H Q _ => ∃ (lk u s cs : Addr) (lks : List Nat) (bs : List (Nat × Nat)) (hs ss : List Nat) (st : List (Option Nat)), vs = [.ref lk, .ref u, .ref s, .ref cs] ∧ H lk = some (.lst (vsN lks)) ∧ lks.length = st.length ∧ st.length ≤ 12 ∧ SqT K H u (vsN ss) ∧ ss.length = hs.length ∧ hs.length ≤ 4 ∧ SqT K H s (vsN (mkS st hs.length)) ∧ (∀ p k, st.getD p none = some k → k < hs.length) ∧ H cs = some (.lst (vsN (comesN bs hs st))) ∧ TabG H T1 ∧ TabG H T2 ∧
  (∀ (a : Addr) (d : PyData) (H' : Hp), Ext H H' → Dp K H' (.ref a) d → casesB bs hs ss d st = true → d.depth ≤ 1 → Q (.ref a) H') ∧
  ∀ H', Ext H H' → (∀ k, k < hs.length → overB ss st k = false ∧ shutSB bs hs ss st k = false) → Q .non H'
abbrev short_casesN : List Str := ["links", "sizes", "state", "comes", "k", "place"]
theorem sc_short : FnScope short_casesN ["links", "sizes", "state", "comes"] (defScope st_short_cases) := ⟨rfl, rfl, rfl, by decide +kernel, rfl, by decide +kernel, by decide +kernel⟩
theorem ok_short {f T1 T2 : Addr} {fd : FuncData} (F : Fun K "short_cases" "short_cases" st_short_cases f fd) (B : Bl mg) (c_is_over : Cal P w K mg base 8 "is_over" ["sizes", "state", "k"] (spIsOver K T1)) (c_is_shut_in : Cal P w K mg base 8 "is_shut_in" ["sizes", "state", "k", "come"] (spIsShutIn K T1)) (c_lot_of : Cal P w K mg base 6 "lot_of" ["mask"] (spLotOf K T2)) (c_free_of : Cal P w K mg base 1 "free_of" ["links", "state"] (spFreeOf K)) (c_heads_to : Cal P w K mg base 3 "heads_to" ["comes", "place"] (spHeadsTo K)) : FnOk P w K mg base CX0 9 f fd ["links", "sizes", "state", "comes"] (spShort K T1 T2) := by
  refine F.ok sc_short (fun vs H Q E h => ?_) (fun cdv A outer s H vs Q E hr h => ?_)
  · obtain ⟨lk, u, s, cs, lks, bs, hs, ss, st, rfl, _⟩ := h
    rfl
  · obtain ⟨lk, u, s, cs, lks, bs, hs, ss, st, rfl, hlk, hll, hn, hu, hsl, h4, hS, hv, hcs, hT1, hT2, kY, kN⟩ := h
    have nd := sc_short.nd
    refine ⟨_, pss_cons (ps_for PassesOwn.never rfl (pi_range1 rfl B.range (pa_cons (pe_callB call_len (by rfl) B.len PySem.boot_len (pa_cons (pv 2) pa_nil)) pa_nil)) (pg_name (i := 4) nd rfl (Or.inl rfl))
        (pss_cons (ps_if (pt_val (pe_cal c_is_over (hr.mono (by decide)) rfl (pa_cons (pv 1) (pa_cons (pv 2) (pa_cons (pv 4) pa_nil)))) (by intro _; rfl)) (pss_one (ps_ret (pe_tup (pa_cons pe_str (pa_cons (pv 4) pa_nil))))) pss_nil)
        (pss_one (ps_if (pt_val (pe_cal c_is_shut_in (hr.mono (by decide)) rfl (pa_cons (pv 1) (pa_cons (pv 2) (pa_cons (pv 4) (pa_cons (pe_ix ix_list (pv 3) (pv 4) (fun _ _ => rfl)) pa_nil))))) (by intro _; rfl)) (pss_one (ps_ret (pe_tup (pa_cons pe_str (pa_cons (pv 4) pa_nil))))) pss_nil))))
      (pss_cons (ps_for PassesOwn.never rfl (pi_tup (pe_cal c_lot_of (hr.mono (by decide)) rfl (pa_cons (pe_cal c_free_of (hr.mono (by decide)) rfl (pa_cons (pv 0) (pa_cons (pv 2) pa_nil))) pa_nil))) (pg_name (i := 5) nd rfl (Or.inl rfl))
        (pss_one (ps_if (pt_cmpR op_eq (pe_cal c_heads_to (hr.mono (by decide)) rfl (pa_cons (pv 3) (pa_cons (pv 5) pa_nil))) pe_int (nomark _)) (pss_one (ps_ret (pe_tup (pa_cons pe_str (pa_cons (pv 5) pa_nil))))) pss_nil)))
      (pss_one (ps_ret pe_non))), ?_⟩
    have e12 : mkS st hs.length = mkS st hs.length := rfl
    refine ⟨_, rfl, _, hs.length, rfl, .inr ⟨_, hS, by rw [vsN_len, mkS_len]⟩, _, rfl, by omega, by omega, for_range (lo := 0) (n := (hs.length : Int).toNat) (fun i σ H2 => ∃ (o4 o5 : Option V), σ = [some (.ref lk), some (.ref u), some (.ref s), some (.ref cs), o4, o5] ∧ Ext H H2 ∧ ∀ k, k < i → overB ss st k = false ∧ shutSB bs hs ss st k = false)
      ⟨_, _, rfl, .refl _, fun k hk => absurd hk (Nat.not_lt_zero k)⟩ ?_ ?_⟩
    · rintro i σ H2 hi ⟨o4, o5, rfl, x2, hok⟩
      rw [Int.toNat_natCast] at hi
      rw [Int.zero_add]
      dsimp only [gName, tSeq, List.set]
      refine ⟨_, rfl, _, rfl, _, rfl, u, s, ss, st, hs.length, i, rfl, x2.sqT hu, hsl, x2.sqT hS, hn, hi, x2.tabs _ hT1, fun H3 x3 => ?_⟩
      have x13 := x2.trans x3
      cases eo : overB ss st i with
      | true =>
        refine ⟨true, rfl, iteT ⟨_, rfl, (by show 2 ≤ sizeLine; decide), fun p hp => ?_⟩⟩
        refine kY p (ovD "over" i) _ (x13.trans (.new hp)) (dp_new hp (.cons (.str _) (.cons (.int _) .nil))) ?_ (ovD_depth ..)
        unfold ovD
        rw [casesB_word, Int.toNat_natCast, eo, decide_eq_true rfl, decide_eq_true (by omega)]
        rfl
      | false =>
        refine ⟨false, rfl, iteF ?_⟩
        refine ⟨_, rfl, _, rfl, _, rfl, _, rfl, _, rfl, cs, _, _, _, rfl, rfl, SqL.of (x13.lst hcs), atI_nat (comesN_at hi), u, s, bs, hs, ss, st, i, rfl, x13.sqT hu, hsl, x13.sqT hS, hn, hi, x13.tabs _ hT1, fun H4 x4 => ?_⟩
        have x14 := x13.trans x4
        cases es : shutSB bs hs ss st i with
        | true =>
          refine ⟨true, rfl, iteT ⟨_, rfl, (by show 2 ≤ sizeLine; decide), fun p hp => ?_⟩⟩
          refine kY p (ovD "shut" i) _ (x14.trans (.new hp)) (dp_new hp (.cons (.str _) (.cons (.int _) .nil))) ?_ (ovD_depth ..)
          unfold ovD
          rw [casesB_word, Int.toNat_natCast, es, decide_eq_true (p := 0 ≤ (i : Int) ∧ (i : Int) < hs.length) (by omega), decide_eq_true (p := Str.ofString "shut" = Str.ofString "shut") rfl]
          simp
        | false =>
          refine ⟨false, rfl, iteF ⟨_, _, rfl, x14, fun k hk => ?_⟩⟩
          by_cases e : k = i
          · rw [e]; exact ⟨eo, es⟩
          · exact hok k (by omega)
    · rintro σ H2 ⟨o4, o5, rfl, x2, hok⟩
      rw [Int.toNat_natCast] at hok
      dsimp only [gName, tSeq, List.set]
      refine ⟨_, rfl, _, rfl, lk, s, lks, st, hs.length, rfl, x2.lst hlk, hll, hn, x2.sqT hS, hv, Mk.mask (freS st), 12, rfl, Mk.mask_lt (fre_asc st) (fun p hp => by have := fre_lt p hp; omega), by omega, x2.tabs _ hT2, fun p H3 x3 hp hd hp' => ?_⟩
      rw [Mk.bits_mask (fre_asc st) (fun p hp => by have := fre_lt p hp; omega)] at hp'
      have x13 := x2.trans x3
      refine ⟨p, rfl, ⟨_, SqT.of hp'⟩, for_tup (K := K) (a := p) (xs := vsN (freS st)) (fun i σ H4 => ∃ (o4 o5 : Option V), σ = [some (.ref lk), some (.ref u), some (.ref s), some (.ref cs), o4, o5] ∧ Ext H3 H4)
        ⟨_, _, rfl, .refl _⟩ (fun i σ H4 _ ⟨_, _, _, x4⟩ => x4.sqT (SqT.of hp')) ?_ ?_⟩
      · rintro i x σ H4 hx ⟨o4, o5, rfl, x4⟩
        have hi : i < (freS st).length := by
          have := (List.getElem?_eq_some_iff.mp hx).1
          rwa [vsN_len] at this
        rw [vsN_at hi] at hx
        obtain rfl := (Option.some.inj hx).symm
        obtain ⟨hq1, hq2⟩ := mem_freS.mp (List.getElem_mem hi)
        generalize (freS st)[i] = q at hq1 hq2
        have x14 := x13.trans x4
        dsimp only [gName, tSeq, List.set]
        refine ⟨_, rfl, _, rfl, cs, comesN bs hs st, q, rfl, x14.lst hcs, by rw [comesN_len]; exact h4, by omega, fun H5 x5 => ?_⟩
        have x15 := x14.trans x5
        refine ⟨rfl, _, rfl, ?_⟩
        by_cases hz : ((comesN bs hs st).filter fun m => m.testBit q).length = 0
        · rw [decide_eq_true (by rw [hz]; rfl)]
          refine iteT ⟨_, rfl, (by show 2 ≤ sizeLine; decide), fun r hr' => ?_⟩
          refine kY r (ovD "lost" q) _ (x15.trans (.new hr')) (dp_new hr' (.cons (.str _) (.cons (.int _) .nil))) ?_ (ovD_depth ..)
          unfold ovD
          have el : lostB bs hs st q = true := by
            unfold lostB
            rw [decide_eq_true ⟨hq1, hq2⟩, Bool.true_and, List.all_eq_true]
            intro k hk
            rw [List.mem_range] at hk
            have h0 := List.filter_eq_nil_iff.mp (List.eq_nil_of_length_eq_zero hz) (Mk.mask (comeL bs st (hs.getD k 0) k)) (List.mem_map.mpr ⟨k, List.mem_range.mpr hk, rfl⟩)
            rw [Mk.bit_mask (comeL_asc ..), decide_eq_true_eq, mem_comeL] at h0
            rw [Bool.eq_false_iff.mpr fun z => h0 (comeB_iff.mp z)]
            rfl
          rw [casesB_word, Int.toNat_natCast, el, decide_eq_true (p := 0 ≤ (q : Int)) (by omega), decide_eq_true (p := Str.ofString "lost" = Str.ofString "lost") rfl]
          simp
        · rw [decide_eq_false (fun z => hz (by injection z with z; omega))]
          exact iteF ⟨_, _, rfl, x4.trans x5⟩
      · rintro σ H4 ⟨o4, o5, rfl, x4⟩
        exact kN H4 (x13.trans x4) hok
end
end Wd

set_option Elab.async false
set_option linter.all false
set_option maxRecDepth 100000
set_option maxHeartbeats 4000000
namespace Wd
open PySem PySem.Spec PyProof.Rows L2 Bx Gx

























































section
/-! ### cases of any value: how they are looked at -/
variable {bs : List (Nat × Nat)} {hs ss : List Nat} {st : List (Option Nat)}
theorem casesB_not {d : PyData} (h : ∀ ds, d ≠ .tuple ds) : casesB bs hs ss d st = false := by
  cases d with
  | tuple ds => exact absurd rfl (h ds)
  | _ => simp [casesB]
theorem casesB_short {ds : List PyData} (h : ds.length < 2) : casesB bs hs ss (.tuple ds) st = false := by
  match ds, h with
  | [], _ => simp [casesB, casesT]
  | [_], _ => simp [casesB, casesT, casesU]
theorem casesB_noW {wd : PyData} {ds : List PyData} (h : ∀ z, wd ≠ .str z) : casesB bs hs ss (.tuple (wd :: ds)) st = false := by
  match ds with
  | [] => simp [casesB, casesT, casesU]
  | [a] =>
    simp only [casesB, casesT, casesU, casesV]
    cases wd with
    | str z => exact absurd rfl (h z)
    | _ => rfl
  | a :: r :: ds =>
    simp only [casesB, casesT, casesU, casesV]
    cases wd with
    | str z => exact absurd rfl (h z)
    | _ => rfl
theorem casesB_noSp {z : Str} {ds : List PyData} (hz : z ≠ Str.ofString "split") (h : ds.length ≠ 1) : casesB bs hs ss (.tuple (.str z :: ds)) st = false := by
  match ds, h with
  | [], _ => simp [casesB, casesT, casesU]
  | a :: r :: ds, _ =>
    simp only [casesB, casesT, casesU, casesV]
    cases a with
    | int i => simp only [decide_eq_false hz, Bool.false_and]
    | _ => rfl
theorem casesB_two {z : Str} {a : PyData} : casesB bs hs ss (.tuple [.str z, a]) st = match a with
    | .int i => (decide (z = Str.ofString "over") && (decide (0 ≤ i ∧ i < hs.length) && overB ss st i.toNat)) || ((decide (z = Str.ofString "shut") && (decide (0 ≤ i ∧ i < hs.length) && shutSB bs hs ss st i.toNat)) || (decide (z = Str.ofString "lost") && (decide (0 ≤ i) && lostB bs hs st i.toNat)))
    | _ => false := by
  cases a with
  | int i => exact casesB_word ..
  | _ => simp only [casesB, casesT, casesU, casesV]
theorem casesB_splen {ds : List PyData} (h : ds.length ≠ 2) : casesB bs hs ss (.tuple (.str (Str.ofString "split") :: ds)) st = false := by
  match ds, h with
  | [], _ => simp [casesB, casesT, casesU]
  | [a], _ =>
    rw [casesB_two]
    cases a with
    | int i =>
      show ((decide (Str.ofString "split" = Str.ofString "over") && _) || ((decide (Str.ofString "split" = Str.ofString "shut") && _) || (decide (Str.ofString "split" = Str.ofString "lost") && _))) = false
      rw [decide_eq_false (p := Str.ofString "split" = Str.ofString "over") (by decide), decide_eq_false (p := Str.ofString "split" = Str.ofString "shut") (by decide), decide_eq_false (p := Str.ofString "split" = Str.ofString "lost") (by decide)]
      rfl
    | _ => rfl
  | a :: r :: x :: ds, _ =>
    simp only [casesB, casesT, casesU, casesV]
    cases a with
    | int i => simp
    | _ => rfl
theorem casesB_sp3 {a rw' : PyData} : casesB bs hs ss (.tuple [.str (Str.ofString "split"), a, rw']) st = match a with
    | .int i => decide (0 ≤ i ∧ i.toNat < st.length ∧ st.getD i.toNat none = none) && casesR bs hs ss i.toNat rw' st
    | _ => false := by
  cases a with
  | int i => simp [casesB, casesT, casesU, casesV]
  | _ => simp only [casesB, casesT, casesU, casesV]
theorem casesB_sp3no {a rw' : PyData} (h : isIntD 0 ((st.length : Int) - 1) a = false) : casesB bs hs ss (.tuple [.str (Str.ofString "split"), a, rw']) st = false := by
  rw [casesB_sp3]
  cases a with
  | int i =>
    show (decide _ && _) = false
    rw [decide_eq_false, Bool.false_and]
    rintro ⟨h1, h2, _⟩
    have h : decide (0 ≤ i ∧ i ≤ (st.length : Int) - 1) = false := h
    rw [decide_eq_false_iff_not] at h
    omega
  | _ => rfl
theorem casesB_sp3int {i : Nat} {rw' : PyData} (h : i < st.length) : casesB bs hs ss (.tuple [.str (Str.ofString "split"), .int (i : Int), rw']) st = (decide (st.getD i none = none) && casesR bs hs ss i rw' st) := by
  rw [casesB_sp3]
  show (decide (0 ≤ (i : Int) ∧ ((i : Nat) : Int).toNat < st.length ∧ st.getD ((i : Nat) : Int).toNat none = none) && casesR bs hs ss ((i : Nat) : Int).toNat rw' st) = _
  rw [Int.toNat_natCast]
  congr 1
  exact decide_eq_decide.mpr ⟨fun z => z.2.2, fun z => ⟨by omega, h, z⟩⟩
theorem casesR_not {p : Nat} {d : PyData} (h : ∀ ds, d ≠ .tuple ds) : casesR bs hs ss p d st = false := by
  cases d with
  | tuple ds => exact absurd rfl (h ds)
  | _ => simp [casesR]
theorem casesR_tup {p : Nat} {rows : List PyData} : casesR bs hs ss p (.tuple rows) st = (decide (rows.length = hs.length) && (List.range rows.length).all fun k => casesB bs hs ss (rows.getD k .none) (st.set p (some k))) := by
  rw [casesR]
  congr 1
  rw [Bool.eq_iff_iff, List.all_eq_true]
  constructor
  · intro h k hk
    rw [List.mem_range] at hk
    have := casesAll_get h k rows[k] (List.getElem?_eq_getElem hk)
    rw [Nat.zero_add] at this
    rw [List.getD_eq_getElem?_getD, List.getElem?_eq_getElem hk]
    exact this
  · intro h
    refine casesAll_of fun j d e => ?_
    have hj := (List.getElem?_eq_some_iff.mp e).1
    have := h j (List.mem_range.mpr hj)
    rw [List.getD_eq_getElem?_getD, e] at this
    rw [Nat.zero_add]
    exact this
end
section
variable {P : Program} {w : World} {K : PySem.W.Frag} {mg : Str → Option Value} {base : Heap}
theorem str_dp {H : Hp} {v : V} {d : PyData} (h : Dp K H v d) : (∃ z, d = .str z ∧ v = .str z) ∨ (∃ T, T ∈ tyNames ∧ TyB K H v T ∧ T ≠ "str" ∧ ∀ z, d ≠ .str z) := by
  cases h with
  | non => exact .inr ⟨"NoneType", by decide, .non, by decide, fun _ z => nomatch z⟩
  | bl b => exact .inr ⟨"bool", by decide, .bl b, by decide, fun _ z => nomatch z⟩
  | int i => exact .inr ⟨"int", by decide, .int i, by decide, fun _ z => nomatch z⟩
  | str x => exact .inl ⟨_, rfl, rfl⟩
  | lst h _ => exact .inr ⟨"list", by decide, .lst h, by decide, fun _ z => nomatch z⟩
  | tup h hs => exact .inr ⟨"tuple", by decide, .tup h, by decide, fun _ z => nomatch z⟩
/-- what stands around a state -/
structure StCx (K : PySem.W.Frag) (H : Hp) (lk t u s : Addr) (n : Nat) (bs : List (Nat × Nat)) (hs ss : List Nat) (st : List (Option Nat)) : Prop where
  lk : ∃ lks, H lk = some (.lst (vsN lks)) ∧ Mk.Lk n bs lks
  bs : Mk.Bs n bs
  n12 : n ≤ 12
  t : SqT K H t (vsN hs)
  u : SqT K H u (vsN ss)
  s : SqT K H s (vsN (mkS st hs.length))
  g : GoodSt n hs st
  sl : ss.length = hs.length
  h4 : hs.length ≤ 4
  lt : ∀ h ∈ hs, h < n
theorem StCx.ext {H H' : Hp} {lk t u s : Addr} {n : Nat} {bs : List (Nat × Nat)} {hs ss : List Nat} {st : List (Option Nat)} (c : StCx K H lk t u s n bs hs ss st) (x : Ext H H') : StCx K H' lk t u s n bs hs ss st := by
  obtain ⟨lks, h1, h2⟩ := c.lk
  exact ⟨⟨lks, x.lst h1, h2⟩, c.bs, c.n12, x.sqT c.t, x.sqT c.u, x.sqT c.s, c.g, c.sl, c.h4, c.lt⟩
def spCasesOf (K : PySem.W.Frag) (T1 T2 T3 T4 : Addr) (r : Nat) : Sp := fun vs H Q _ => ∃ (lk t u s : Addr) (v : V) (n : Nat) (bs : List (Nat × Nat)) (hs ss : List Nat) (st : List (Option Nat)) (d : PyData), vs = [.ref lk, .ref t, .ref u, .ref s, v] ∧ StCx K H lk t u s n bs hs ss st ∧ Dp K H v d ∧ d.depth < 2 * r ∧ TabG H T1 ∧ TabG H T2 ∧ TabG H T3 ∧ TabG H T4 ∧ ∀ H', Ext H H' → Q (.bl (casesB bs hs ss d st)) H'
def spIsSplit (K : PySem.W.Frag) (T1 T2 T3 T4 : Addr) (r : Nat) : Sp := fun vs H Q _ => ∃ (lk t u s a : Addr) (xs : List V) (n : Nat) (bs : List (Nat × Nat)) (hs ss : List Nat) (st : List (Option Nat)) (ds : List PyData), vs = [.ref lk, .ref t, .ref u, .ref s, .ref a] ∧ StCx K H lk t u s n bs hs ss st ∧ SqT K H a xs ∧ DpAll K H xs (.str (Str.ofString "split") :: ds) ∧ PyData.depthAll ds < 2 * r + 1 ∧ TabG H T1 ∧ TabG H T2 ∧ TabG H T3 ∧ TabG H T4 ∧ ∀ H', Ext H H' → Q (.bl (casesB bs hs ss (.tuple (.str (Str.ofString "split") :: ds)) st)) H'
abbrev is_splitN : List Str := ["links", "heads", "sizes", "state", "value", "place", "rows"]
theorem sc_is_split : FnScope is_splitN ["links", "heads", "sizes", "state", "value"] (defScope st_is_split) := ⟨rfl, rfl, rfl, by decide +kernel, rfl, by decide +kernel, by decide +kernel⟩
theorem ok_is_split {f c T1 T2 T3 T4 : Addr} {fd : FuncData} {L r : Nat} (hL : 1 ≤ L) (F : FunC K "is_split" "is_split" st_is_split f fd c) (TB : TabB base mg c T4) (B : Bl mg) (c_is_integer : Cal P w K mg base 1 "is_integer" ["value", "low", "high"] (spIsInteger K)) (c_has_place : Cal P w K mg base 1 "has_place" ["mask", "place"] spHasPlace) (c_free_of : Cal P w K mg base 1 "free_of" ["links", "state"] (spFreeOf K)) (c_given : Cal P w K mg base 1 "given" ["state", "k", "place"] (spGiven K)) (c_are : Cal P w K mg base L "are_cases_of" ["links", "heads", "sizes", "state", "value"] (spCasesOf K T1 T2 T3 T4 r)) : FnOk P w K mg base CX0 (L + 4) f fd ["links", "heads", "sizes", "state", "value"] (spIsSplit K T1 T2 T3 T4 r) := by
  refine F.ok (k := L + 3) sc_is_split (fun vs H Q E h => ?_) (fun A outer s H vs Q E hr h => ?_)
  · obtain ⟨lk, t, u, s, a, xs, n, bs, hs, ss, st, ds, rfl, _⟩ := h
    rfl
  · obtain ⟨lk, t, u, s, a, xs, n, bs, hs, ss, st, ds, rfl, cx, ha, hxs, hdp, hT1, hT2, hT3, hT4, kont⟩ := h
    have nd := sc_is_split.nd
    refine ⟨_, pss_cons (ps_if (pt_cmpR op_ne (pe_callB call_len (by rfl) B.len PySem.boot_len (pa_cons (pv 4) pa_nil)) pe_int (nomark _)) (pss_one (ps_ret pe_bl)) pss_nil)
      (pss_cons (ps_asg (pe_tup (pa_cons (pe_ix ix_tup (pv 4) pe_int (fun _ _ => rfl)) (pa_cons (pe_ix ix_tup (pv 4) pe_int (fun _ _ => rfl)) pa_nil))) (pg_tup (by rfl) (pgs_cons (pg_name (i := 5) nd rfl (Or.inr rfl)) (pgs_cons (pg_name (i := 6) nd rfl (Or.inr rfl)) pgs_nil))))
      (pss_cons (ps_if (PW.pt (pw_or (pt_not (pt_val (pe_cal c_is_integer (hr.mono (by omega)) rfl (pa_cons (pv 5) (pa_cons pe_int (pa_cons (pe_op op_sub (pe_callB call_len (by rfl) B.len PySem.boot_len (pa_cons (pv 0) pa_nil)) pe_int) pa_nil)))) (by intro _; rfl))) (pw_or1 (pt_not (pt_val (pe_cal c_has_place (hr.mono (by omega)) rfl (pa_cons (pe_cal c_free_of (hr.mono (by omega)) rfl (pa_cons (pv 0) (pa_cons (pv 3) pa_nil))) (pa_cons (pv 5) pa_nil))) (by intro _; rfl)))))) (pss_one (ps_ret pe_bl)) pss_nil)
      (pss_cons (ps_if (PW.pt (pw_or (pt_cmpR op_neTy (pe_callTy call_type1 rfl B.type (by decide +kernel) (pa_cons (pv 6) pa_nil)) (pe_bltn rfl B.tuple (by decide +kernel) (v := .ty "tuple") rfl) (nomark _)) (pw_or1 (pt_cmpR op_ne (pe_callB call_len (by rfl) B.len PySem.boot_len (pa_cons (pv 6) pa_nil)) (pe_callB call_len (by rfl) B.len PySem.boot_len (pa_cons (pv 1) pa_nil)) (nomark _))))) (pss_one (ps_ret pe_bl)) pss_nil)
      (pss_one (ps_ret (pe_gall (k := L + 1) (N := ["k", "links", "heads", "sizes", "state", "place", "rows"]) (src := [none, some 0, some 1, some 2, some 3, some 5, some 6]) (vs := [0]) ⟨fun B s H fp code hB => pg_name (i := 0) (by decide +kernel : (["k", "links", "heads", "sizes", "state", "place", "rows"] : List Str).Nodup) rfl (Or.inl rfl), fun B s H fp code hB => pts_nil, fun B s H fp code hB => pe_cal c_are (hB.deeper _) rfl (pa_cons (pv 1) (pa_cons (pv 2) (pa_cons (pv 3) (pa_cons (pe_cal c_given ((hB.deeper _).mono hL) rfl (pa_cons (pv 4) (pa_cons (pv 0) (pa_cons (pv 5) pa_nil)))) (pa_cons (pe_ix (ix_tupK (K := K) rfl) (pv 6) (pv 0) (fun _ _ => rfl)) pa_nil)))))⟩ hr rfl B.all TB rfl (gOk (ND := ["links", "heads", "sizes", "state", "value", "place", "rows"]) (sc := defScope st_is_split) (by decide +kernel)) (pi_range1 rfl B.range (pa_cons (pe_callB call_len (by rfl) B.len PySem.boot_len (pa_cons (pv 1) pa_nil)) pa_nil)))))))), ?_⟩
    obtain ⟨lks, hlk, L'⟩ := cx.lk
    have hdl := dpAll_len hxs
    refine ⟨_, rfl, _, xs.length, rfl, .inr ⟨_, ha, rfl⟩, rfl, _, rfl, ?_⟩
    by_cases h3 : ds.length = 2
    · have ex : xs.length = 3 := by rw [hdl, List.length_cons, h3]
      rw [show (!decide (V.int (xs.length : Int) = V.int 3)) = false by rw [ex]; rfl]
      refine iteF ?_
      obtain ⟨at', rw', rfl⟩ : ∃ x y, ds = [x, y] := by
        match ds, h3 with
        | [x, y], _ => exact ⟨x, y, rfl⟩
      obtain ⟨v0, v1, v2, rfl⟩ : ∃ x y z, xs = [x, y, z] := by
        match xs, ex with
        | [x, y, z], _ => exact ⟨x, y, z, rfl⟩
      cases hxs with
      | cons hv0 hxs => cases hxs with
        | cons hv1 hxs => cases hxs with
          | cons hv2 hxs =>
            dsimp only [gName, tSeq, List.set, L2.start, List.map, List.replicate, List.append, List.length]
            refine ⟨_, rfl, a, _, _, _, rfl, rfl, ha, atI_nat (j := 1) rfl, _, rfl, a, _, _, _, rfl, rfl, ha, atI_nat (j := 2) rfl, (by show 2 ≤ sizeLine; decide), fun q hq => ?_⟩
            have x1 : Ext H (upd H q (.tup [v1, v2])) := .new hq
            have hq1 : (upd H q (.tup [v1, v2])) q = some (.tup [v1, v2]) := upd_same
            generalize upd H q (.tup [v1, v2]) = H1 at x1 hq1 ⊢
            have gl := cx.g.len
            have n12 := cx.n12
            have cx1 := cx.ext x1
            refine ⟨q, _, rfl, SqT.of hq1, rfl, v1, _, rfl, v2, _, rfl, rfl, ?_⟩
            dsimp only [gName, tSeq, List.set, List.map, List.replicate, List.append, List.length]
            have ell : (lks.length : Int) - 1 = (st.length : Int) - 1 := by rw [L'.len, gl]
            refine ⟨_, rfl, _, rfl, _, lks.length, rfl, .inl ⟨_, SqL.of (x1.lst hlk), (vsN_len lks).symm⟩, _, _, rfl, rfl, v1, at', 0, (st.length : Int) - 1, by rw [← ell]; rfl, dp_ext x1 hv1, _, rfl, ?_⟩
            cases ei : isIntD 0 ((st.length : Int) - 1) at' with
            | false =>
              refine iteT (iteT ?_)
              have q := kont H1 x1
              rw [casesB_sp3no ei] at q
              exact q
            | true =>
              obtain ⟨i, rfl, hi⟩ : ∃ i : Nat, at' = .int (i : Int) ∧ i < st.length := by
                cases at' with
                | int i =>
                  have ei : decide (0 ≤ i ∧ i ≤ (st.length : Int) - 1) = true := ei
                  rw [decide_eq_true_eq] at ei
                  exact ⟨i.toNat, by rw [Int.toNat_of_nonneg ei.1], by omega⟩
                | _ => cases ei
              obtain rfl : v1 = .int (i : Int) := by cases hv1; rfl
              have kont : ∀ H', Ext H H' → Q (.bl (decide (st.getD i none = none) && casesR bs hs ss i rw' st)) H' := fun H' x => by
                have q := kont H' x
                rw [casesB_sp3int hi] at q
                exact q
              have ebit : (Mk.mask (freS st)).testBit i = decide (st.getD i none = none) := by
                rw [Mk.bit_mask (fre_asc st)]
                exact decide_eq_decide.mpr ⟨fun z => (mem_freS.mp z).2, fun z => mem_freS.mpr ⟨hi, z⟩⟩
              refine iteF ⟨_, rfl, _, rfl, lk, s, lks, st, hs.length, rfl, x1.lst hlk, by rw [L'.len, gl], by rw [gl]; exact n12, cx1.s, cx.g.val, _, rfl, _, i, rfl, by omega, _, rfl, ?_⟩
              rw [ebit]
              cases ef : decide (st.getD i none = none) with
              | false =>
                refine iteT ?_
                have q := kont H1 x1
                rw [ef] at q
                exact q
              | true =>
                refine iteF ?_
                have hf := of_decide_eq_true ef
                rw [ef] at kont
                refine ⟨_, rfl, ?_⟩
                rcases tup_dp hv2 with ⟨rows, a2, ys, rfl, rfl, g1, g2⟩ | ⟨T, hT', ht', hne, hno⟩
                · have hrl := dpAll_len g2
                  refine ⟨_, "tuple", rfl, .tup (x1.sqT g1), "tuple", "tuple", rfl, rfl, by decide, by decide, false, rfl, ?_⟩
                  refine iteF ⟨_, rfl, _, rows.length, rfl, .inr ⟨_, x1.sqT g1, hrl.symm⟩, _, rfl, _, hs.length, rfl, .inr ⟨_, cx1.t, (vsN_len hs).symm⟩, rfl, _, rfl, ?_⟩
                  by_cases hle : rows.length = hs.length
                  · rw [show (!decide (V.int (rows.length : Int) = V.int (hs.length : Int))) = false by rw [hle]; simp]
                    refine iteF ?_
                    refine ⟨_, rfl, _, hs.length, rfl, .inr ⟨_, cx1.t, (vsN_len hs).symm⟩, _, rfl, by have := cx.h4; omega, by have := cx.h4; omega, x1.tabs _ hT4, fun H2 hT2' => ?_⟩
                    have x2 : Ext H H2 := x1.trans (Ext.tabbed (x1.tabs _ hT4) hT2')
                    have kont : ∀ H', Ext H H' → Q (.bl ((List.range hs.length).all fun k => casesB bs hs ss (rows.getD k .none) (st.set i (some k)))) H' := fun H' x => by
                      have q := kont H' x
                      rw [casesR_tup, decide_eq_true hle, hle] at q
                      exact q
                    refine g_all (Ph := fun H4 => Ext H H4) src_range (fun k => casesB bs hs ss (rows.getD k .none) (st.set i (some k))) x2 (fun j H4 C x4 hj k2 => ?_) (fun H4 x4 ea => ?_) fun H4 x4 ea => ?_
                    · rw [Int.toNat_natCast] at hj
                      rw [Int.zero_add]
                      have hjr : j < rows.length := by omega
                      obtain ⟨wv, hwv, hdw⟩ := dpAll_get g2 (List.getElem?_eq_getElem hjr)
                      have egj : rows.getD j .none = rows[j] := by rw [List.getD_eq_getElem?_getD, List.getElem?_eq_getElem hjr]; rfl
                      refine ⟨rfl, _, rfl, _, rfl, _, rfl, _, rfl, _, rfl, _, rfl, s, st, hs.length, j, i, rfl, x4.sqT cx.s, hj, cx.h4, hi, by omega, hf, fun r5 H5 x5 h5 => ?_⟩
                      have x45 := x4.trans x5
                      have cx5 := cx.ext x45
                      have hdr : (rows[j]).depth < 2 * r := by
                        simp only [PyData.depthAll, PyData.depth] at hdp
                        have := depth_get (ds := rows) (n := 2 * r - 1) (by omega) _ (List.getElem_mem hjr)
                        omega
                      refine ⟨_, rfl, _, rfl, a2, _, _, _, rfl, rfl, x45.sqT g1, atI_nat hwv, lk, t, u, r5, wv, n, bs, hs, ss, st.set i (some j), rows[j], rfl, ⟨cx5.lk, cx5.bs, cx5.n12, cx5.t, cx5.u, h5, cx.g.set (by omega) hf hj, cx.sl, cx.h4, cx.lt⟩, dp_ext x45 hdw, hdr, x45.tabs _ hT1, x45.tabs _ hT2, x45.tabs _ hT3, x45.tabs _ hT4, fun H6 x6 => ?_⟩
                      have q := k2 H6 (x45.trans x6)
                      rw [egj] at q
                      exact q
                    · have q := kont H4 x4
                      rw [Int.toNat_natCast] at ea
                      rw [ea] at q
                      exact q
                    · have q := kont H4 x4
                      rw [Int.toNat_natCast] at ea
                      rw [ea] at q
                      exact q
                  · rw [show (!decide (V.int (rows.length : Int) = V.int (hs.length : Int))) = true by
                      rw [decide_eq_false]
                      · rfl
                      · intro z
                        injection z with z
                        omega]
                    refine iteT ?_
                    have q := kont H1 x1
                    rw [casesR_tup, decide_eq_false hle] at q
                    exact q
                · refine ⟨_, T, rfl, tyB_ext x1 ht' hT', T, "tuple", rfl, rfl, hT', by decide, true, ?_, ?_⟩
                  · rw [decide_eq_false hne]
                    rfl
                  · refine iteT (iteT ?_)
                    have q := kont H1 x1
                    rw [casesR_not hno] at q
                    exact q
    · rw [show (!decide (V.int (xs.length : Int) = V.int 3)) = true by
        rw [decide_eq_false]
        · rfl
        · intro z
          injection z with z
          rw [hdl, List.length_cons] at z
          omega]
      refine iteT ?_
      have q := kont H (.refl H)
      rw [casesB_splen h3] at q
      exact q
end
end Wd

set_option Elab.async false
set_option linter.all false
set_option maxRecDepth 100000
set_option maxHeartbeats 4000000
namespace Wd
open PySem PySem.Spec PyProof.Rows L2 Bx Gx

























































section
variable {bs : List (Nat × Nat)} {hs ss : List Nat} {st : List (Option Nat)}
theorem two_lost {a : PyData} : casesB bs hs ss (.tuple [.str (Str.ofString "lost"), a]) st = (isIntD 0 ((st.length : Int) - 1) a && lostB bs hs st (intD a).toNat) := by
  rw [casesB_two]
  cases a with
  | int i =>
    show ((decide (Str.ofString "lost" = Str.ofString "over") && _) || ((decide (Str.ofString "lost" = Str.ofString "shut") && _) || (decide (Str.ofString "lost" = Str.ofString "lost") && (decide (0 ≤ i) && lostB bs hs st i.toNat)))) = (decide (0 ≤ i ∧ i ≤ (st.length : Int) - 1) && lostB bs hs st i.toNat)
    rw [decide_eq_false (p := Str.ofString "lost" = Str.ofString "over") (by decide), decide_eq_false (p := Str.ofString "lost" = Str.ofString "shut") (by decide), decide_eq_true (p := Str.ofString "lost" = Str.ofString "lost") rfl, Bool.false_and, Bool.false_and, Bool.false_or, Bool.false_or, Bool.true_and]
    cases e : lostB bs hs st i.toNat with
    | false => rw [Bool.and_false, Bool.and_false]
    | true =>
      unfold lostB at e
      rw [Bool.and_eq_true, decide_eq_true_eq] at e
      rw [Bool.and_true, Bool.and_true]
      exact decide_eq_decide.mpr ⟨fun q => ⟨q, by have := e.1.1; omega⟩, fun q => q.1⟩
  | _ => rfl
theorem two_over {a : PyData} : casesB bs hs ss (.tuple [.str (Str.ofString "over"), a]) st = (isIntD 0 ((hs.length : Int) - 1) a && overB ss st (intD a).toNat) := by
  rw [casesB_two]
  cases a with
  | int i =>
    show ((decide (Str.ofString "over" = Str.ofString "over") && (decide (0 ≤ i ∧ i < hs.length) && overB ss st i.toNat)) || ((decide (Str.ofString "over" = Str.ofString "shut") && _) || (decide (Str.ofString "over" = Str.ofString "lost") && _))) = (decide (0 ≤ i ∧ i ≤ (hs.length : Int) - 1) && overB ss st i.toNat)
    rw [decide_eq_false (p := Str.ofString "over" = Str.ofString "lost") (by decide), decide_eq_false (p := Str.ofString "over" = Str.ofString "shut") (by decide), decide_eq_true (p := Str.ofString "over" = Str.ofString "over") rfl, Bool.false_and, Bool.false_and, Bool.false_or, Bool.or_false, Bool.true_and]
    congr 1
    exact decide_eq_decide.mpr ⟨fun q => by omega, fun q => by omega⟩
  | _ => rfl
theorem two_shut {a : PyData} : casesB bs hs ss (.tuple [.str (Str.ofString "shut"), a]) st = (isIntD 0 ((hs.length : Int) - 1) a && shutSB bs hs ss st (intD a).toNat) := by
  rw [casesB_two]
  cases a with
  | int i =>
    show ((decide (Str.ofString "shut" = Str.ofString "over") && _) || ((decide (Str.ofString "shut" = Str.ofString "shut") && (decide (0 ≤ i ∧ i < hs.length) && shutSB bs hs ss st i.toNat)) || (decide (Str.ofString "shut" = Str.ofString "lost") && _))) = (decide (0 ≤ i ∧ i ≤ (hs.length : Int) - 1) && shutSB bs hs ss st i.toNat)
    rw [decide_eq_false (p := Str.ofString "shut" = Str.ofString "lost") (by decide), decide_eq_false (p := Str.ofString "shut" = Str.ofString "over") (by decide), decide_eq_true (p := Str.ofString "shut" = Str.ofString "shut") rfl, Bool.false_and, Bool.false_and, Bool.false_or, Bool.or_false, Bool.true_and]
    congr 1
    exact decide_eq_decide.mpr ⟨fun q => by omega, fun q => by omega⟩
  | _ => rfl
theorem two_none {z : Str} {a : PyData} (h1 : z ≠ Str.ofString "lost") (h2 : z ≠ Str.ofString "over") (h3 : z ≠ Str.ofString "shut") : casesB bs hs ss (.tuple [.str z, a]) st = false := by
  rw [casesB_two]
  cases a with
  | int i =>
    show ((decide (z = Str.ofString "over") && _) || ((decide (z = Str.ofString "shut") && _) || (decide (z = Str.ofString "lost") && _))) = false
    rw [decide_eq_false h1, decide_eq_false h2, decide_eq_false h3]
    rfl
  | _ => rfl
theorem two_nint {z : Str} {a : PyData} (h1 : z ≠ Str.ofString "lost") (h : isIntD 0 ((hs.length : Int) - 1) a = false) : casesB bs hs ss (.tuple [.str z, a]) st = false := by
  by_cases h2 : z = Str.ofString "over"
  · rw [h2, two_over, h]; rfl
  · by_cases h3 : z = Str.ofString "shut"
    · rw [h3, two_shut, h]; rfl
    · exact two_none h1 h2 h3
theorem isInt_nat {n : Nat} {a : PyData} (h : isIntD 0 ((n : Int) - 1) a = true) : ∃ i : Nat, a = .int (i : Int) ∧ i < n := by
  cases a with
  | int i =>
    have ei : decide (0 ≤ i ∧ i ≤ (n : Int) - 1) = true := h
    rw [decide_eq_true_eq] at ei
    exact ⟨i.toNat, by rw [Int.toNat_of_nonneg ei.1], by omega⟩
  | _ => cases h
end
section
variable {P : Program} {w : World} {K : PySem.W.Frag} {mg : Str → Option Value} {base : Heap}
/-! ### are_cases_of -/
abbrev are_cases_ofN : List Str := ["links", "heads", "sizes", "state", "value", "word", "at"]
theorem sc_cases : FnScope are_cases_ofN ["links", "heads", "sizes", "state", "value"] (defScope st_are_cases_of) := ⟨rfl, rfl, rfl, by decide +kernel, rfl, by decide +kernel, by decide +kernel⟩
theorem ok_cases {f fS cS T1 T2 T3 T4 : Addr} {fd fdS : FuncData} (F : Fun K "are_cases_of" "are_cases_of" st_are_cases_of f fd) (FS : FunC K "is_split" "is_split" st_is_split fS fdS cS) (TB : TabB base mg cS T4) (B : Bl mg) (hm : mg "are_cases_of" = some (.ref f)) (hb : Binds K fd ["links", "heads", "sizes", "state", "value"] []) (hmS : mg "is_split" = some (.ref fS)) (hbS : Binds K fdS ["links", "heads", "sizes", "state", "value"] [])
    (c_is_integer : Cal P w K mg base 1 "is_integer" ["value", "low", "high"] (spIsInteger K)) (c_has_place : Cal P w K mg base 1 "has_place" ["mask", "place"] spHasPlace) (c_free_of : Cal P w K mg base 1 "free_of" ["links", "state"] (spFreeOf K)) (c_given : Cal P w K mg base 1 "given" ["state", "k", "place"] (spGiven K)) (c_is_lost : Cal P w K mg base 12 "is_lost" ["links", "heads", "state", "place"] (spIsLost K T1 T2)) (c_is_over : Cal P w K mg base 8 "is_over" ["sizes", "state", "k"] (spIsOver K T3)) (c_is_shut_in : Cal P w K mg base 8 "is_shut_in" ["sizes", "state", "k", "come"] (spIsShutIn K T3)) (c_come_to : Cal P w K mg base 8 "come_to" ["links", "heads", "state", "k"] (spComeTo K T1)) :
    ∀ r : Nat, FnOk P w K mg base CX0 (13 + 5 * r) f fd ["links", "heads", "sizes", "state", "value"] (spCasesOf K T1 T2 T3 T4 r)
  | 0 => by
    refine F.ok (k := 12) sc_cases (fun vs H Q E h => ?_) (fun cdv A outer s H vs Q E hr h => ?_)
    · obtain ⟨lk, t, u, s, v, n, bs, hs, ss, st, d, rfl, _⟩ := h
      rfl
    · obtain ⟨lk, t, u, s, v, n, bs, hs, ss, st, d, rfl, _, _, h0, _⟩ := h
      omega
  | r + 1 => by
    have c_is_split : Cal P w K mg base (13 + 5 * r + 4) "is_split" ["links", "heads", "sizes", "state", "value"] (spIsSplit K T1 T2 T3 T4 r) := ⟨fS, fdS, ok_is_split (by omega) FS TB B c_is_integer c_has_place c_free_of c_given ⟨f, fd, ok_cases F FS TB B hm hb hmS hbS c_is_integer c_has_place c_free_of c_given c_is_lost c_is_over c_is_shut_in c_come_to r, hm, F.kp, hb⟩, hmS, FS.kp, hbS⟩
    refine F.ok (k := 13 + 5 * r + 4) sc_cases (fun vs H Q E h => ?_) (fun cdv A outer s H vs Q E hr h => ?_)
    · obtain ⟨lk, t, u, s, v, n, bs, hs, ss, st, d, rfl, _⟩ := h
      rfl
    · obtain ⟨lk, t, u, s, v, n, bs, hs, ss, st, d, rfl, cx, hv, hdp, hT1, hT2, hT3, hT4, kont⟩ := h
      have nd := sc_cases.nd
      refine ⟨_, pss_cons (ps_if (PW.pt (pw_or (pt_cmpR op_neTy (pe_callTy call_type1 rfl B.type (by decide +kernel) (pa_cons (pv 4) pa_nil)) (pe_bltn rfl B.tuple (by decide +kernel) (v := .ty "tuple") rfl) (nomark _)) (pw_or1 (pt_cmpR op_lt (pe_callB call_len (by rfl) B.len PySem.boot_len (pa_cons (pv 4) pa_nil)) pe_int (nomark _))))) (pss_one (ps_ret pe_bl)) pss_nil)
        (pss_cons (ps_par (i := 5) (j := 6) (by rfl) nd rfl rfl (by decide) rfl rfl (pa_cons (pe_ix ix_tup (pv 4) pe_int (fun _ _ => rfl)) (pa_cons (pe_ix ix_tup (pv 4) pe_int (fun _ _ => rfl)) pa_nil)) (by rfl))
        (pss_cons (ps_if (pt_cmpR op_neTy (pe_callTy call_type1 rfl B.type (by decide +kernel) (pa_cons (pv 5) pa_nil)) (pe_bltn rfl B.str (by decide +kernel) (v := .ty "str") rfl) (nomark _)) (pss_one (ps_ret pe_bl)) pss_nil)
        (pss_cons (ps_if (pt_cmpR op_eq (pv 5) pe_str (nomark _)) (pss_one (ps_ret (pe_cal c_is_split (hr.mono (by omega)) rfl (pa_cons (pv 0) (pa_cons (pv 1) (pa_cons (pv 2) (pa_cons (pv 3) (pa_cons (pv 4) pa_nil)))))))) pss_nil)
        (pss_cons (ps_if (pt_cmpR op_ne (pe_callB call_len (by rfl) B.len PySem.boot_len (pa_cons (pv 4) pa_nil)) pe_int (nomark _)) (pss_one (ps_ret pe_bl)) pss_nil)
        (pss_cons (ps_if (pt_cmpR op_eq (pv 5) pe_str (nomark _)) (pss_one (ps_ret (pe_and (pe_cal c_is_integer (hr.mono (by omega)) rfl (pa_cons (pv 6) (pa_cons pe_int (pa_cons (pe_op op_sub (pe_callB call_len (by rfl) B.len PySem.boot_len (pa_cons (pv 0) pa_nil)) pe_int) pa_nil)))) (pe_one (pe_cal c_is_lost (hr.mono (by omega)) rfl (pa_cons (pv 0) (pa_cons (pv 1) (pa_cons (pv 3) (pa_cons (pv 6) pa_nil))))))))) pss_nil)
        (pss_cons (ps_if (pt_not (pt_val (pe_cal c_is_integer (hr.mono (by omega)) rfl (pa_cons (pv 6) (pa_cons pe_int (pa_cons (pe_op op_sub (pe_callB call_len (by rfl) B.len PySem.boot_len (pa_cons (pv 1) pa_nil)) pe_int) pa_nil)))) (by intro _; rfl))) (pss_one (ps_ret pe_bl)) pss_nil)
        (pss_cons (ps_if (pt_cmpR op_eq (pv 5) pe_str (nomark _)) (pss_one (ps_ret (pe_cal c_is_over (hr.mono (by omega)) rfl (pa_cons (pv 2) (pa_cons (pv 3) (pa_cons (pv 6) pa_nil)))))) pss_nil)
        (pss_one (ps_ret (pe_and (pe_cmpR op_eq (pv 5) pe_str (nomark _)) (pe_one (pe_cal c_is_shut_in (hr.mono (by omega)) rfl (pa_cons (pv 2) (pa_cons (pv 3) (pa_cons (pv 6) (pa_cons (pe_cal c_come_to (hr.mono (by omega)) rfl (pa_cons (pv 0) (pa_cons (pv 1) (pa_cons (pv 3) (pa_cons (pv 6) pa_nil))))) pa_nil)))))))))))))))), ?_⟩
      rcases tup_dp hv with ⟨ds, a, xs, rfl, rfl, h1, h2⟩ | ⟨T, hT', ht', hne, hno⟩
      · have hlen := dpAll_len h2
        refine ⟨_, rfl, _, "tuple", rfl, .tup h1, "tuple", "tuple", rfl, rfl, by decide, by decide, false, rfl, ?_⟩
        refine iteF ⟨_, rfl, _, ds.length, rfl, .inr ⟨_, h1, hlen.symm⟩, _, _, rfl, rfl, _, rfl, ?_⟩
        by_cases hl2 : ds.length < 2
        · rw [decide_eq_true (by omega)]
          refine iteT ?_
          have q := kont H (.refl H)
          rw [casesB_short hl2] at q
          exact q
        · rw [decide_eq_false (by omega)]
          refine iteF ?_
          obtain ⟨w0, a0, dr, rfl⟩ : ∃ x y z, ds = x :: y :: z := by
            match ds, hl2 with
            | [], hl2 => exact absurd (Nat.zero_lt_succ _) hl2
            | [_], hl2 => exact absurd (Nat.lt_succ_self _) hl2
            | x :: y :: z, _ => exact ⟨x, y, z, rfl⟩
          obtain ⟨vw, va, vr, rfl⟩ : ∃ x y z, xs = x :: y :: z := by
            match xs, hlen with
            | x :: y :: z, _ => exact ⟨x, y, z, rfl⟩
          have hw : Dp K H vw w0 := by cases h2 with | cons a _ => exact a
          have hat : Dp K H va a0 := by cases h2 with | cons _ b => cases b with | cons a _ => exact a
          refine ⟨_, rfl, a, _, _, _, rfl, rfl, h1, atI_nat (j := 0) rfl, _, rfl, a, _, _, _, rfl, rfl, h1, atI_nat (j := 1) rfl, _, _, rfl, ?_⟩
          dsimp only [gName, tSeq, List.set, List.map, List.replicate, List.append, List.length]
          rcases str_dp hw with ⟨z, rfl, rfl⟩ | ⟨T, hT', ht', hne, hno⟩
          · refine ⟨_, rfl, _, "str", rfl, .str z, "str", "str", rfl, rfl, by decide, by decide, false, rfl, ?_⟩
            refine iteF ⟨_, rfl, rfl, _, rfl, ?_⟩
            have estr : ∀ y : String, decide (V.str z = V.str (Str.ofString y)) = decide (z = Str.ofString y) := fun y => decide_eq_decide.mpr ⟨fun q => by injection q, fun q => by rw [q]⟩
            have hdp' : PyData.depthAll (a0 :: dr) < 2 * r + 1 := by
              simp only [PyData.depth, PyData.depthAll] at hdp ⊢
              omega
            obtain ⟨lks, hlk, L'⟩ := cx.lk
            have gl := cx.g.len
            have n12 := cx.n12
            have h4 := cx.h4
            by_cases hz : z = Str.ofString "split"
            · rw [estr, decide_eq_true hz]
              subst hz
              exact iteT ⟨_, rfl, _, rfl, _, rfl, _, rfl, _, rfl, lk, t, u, s, a, _, n, bs, hs, ss, st, a0 :: dr, rfl, cx, h1, h2, hdp', hT1, hT2, hT3, hT4, kont⟩
            rw [estr, decide_eq_false hz]
            refine iteF ⟨_, rfl, _, (V.str z :: va :: vr).length, rfl, .inr ⟨_, h1, rfl⟩, rfl, _, rfl, ?_⟩
            by_cases hd : dr.length = 0
            · have hv0 : vr = [] := by
                rw [List.length_cons, List.length_cons, List.length_cons, List.length_cons] at hlen
                exact List.eq_nil_of_length_eq_zero (by omega)
              subst hv0
              obtain rfl := List.eq_nil_of_length_eq_zero hd
              refine iteF ?_
              by_cases hlo : z = Str.ofString "lost"
              · subst hlo
                refine ⟨_, rfl, rfl, _, rfl, ?_⟩
                rw [decide_eq_true rfl]
                refine iteT ?_
                have ell : (lks.length : Int) - 1 = (st.length : Int) - 1 := by rw [L'.len, gl]
                rw [two_lost] at kont
                refine ⟨_, rfl, _, rfl, _, lks.length, rfl, .inl ⟨_, SqL.of hlk, (vsN_len lks).symm⟩, _, _, rfl, rfl, va, a0, 0, (st.length : Int) - 1, by rw [← ell]; rfl, hat, _, rfl, ?_⟩
                cases ei : isIntD 0 ((st.length : Int) - 1) a0 with
                | false =>
                  refine iteF ?_
                  have q := kont H (.refl H)
                  rw [ei] at q
                  exact q
                | true =>
                  obtain ⟨i, rfl, hi⟩ := isInt_nat ei
                  obtain rfl : va = .int (i : Int) := by cases hat; rfl
                  refine iteT ⟨_, rfl, _, rfl, _, rfl, _, rfl, lk, t, s, lks, bs, n, hs, st, i, rfl, hlk, L', cx.bs, n12, cx.t, cx.s, cx.g, h4, by omega, cx.lt, hT1, hT2, fun H' x => ?_⟩
                  have q := kont H' x
                  rw [ei] at q
                  exact q
              · refine ⟨_, rfl, rfl, _, rfl, ?_⟩
                rw [estr, decide_eq_false hlo]
                refine iteF ?_
                refine ⟨_, rfl, _, rfl, _, hs.length, rfl, .inr ⟨_, cx.t, (vsN_len hs).symm⟩, _, _, rfl, rfl, va, a0, 0, (hs.length : Int) - 1, rfl, hat, _, rfl, ?_⟩
                cases ei : isIntD 0 ((hs.length : Int) - 1) a0 with
                | false =>
                  refine iteT ?_
                  have q := kont H (.refl H)
                  rw [two_nint hlo ei] at q
                  exact q
                | true =>
                  obtain ⟨i, rfl, hi⟩ := isInt_nat ei
                  obtain rfl : va = .int (i : Int) := by cases hat; rfl
                  refine iteF ⟨_, rfl, rfl, _, rfl, ?_⟩
                  by_cases hov : z = Str.ofString "over"
                  · subst hov
                    rw [decide_eq_true rfl]
                    rw [two_over, ei] at kont
                    exact iteT ⟨_, rfl, _, rfl, _, rfl, u, s, ss, st, hs.length, i, rfl, cx.u, cx.sl, cx.s, by omega, hi, hT3, fun H' x => kont H' x⟩
                  · rw [estr, decide_eq_false hov]
                    refine iteF ⟨_, rfl, rfl, _, rfl, ?_⟩
                    by_cases hsh : z = Str.ofString "shut"
                    · subst hsh
                      rw [decide_eq_true rfl]
                      rw [two_shut, ei] at kont
                      refine iteT ⟨_, rfl, _, rfl, _, rfl, _, rfl, _, rfl, _, rfl, _, rfl, lk, t, s, lks, bs, n, hs, st, i, rfl, hlk, L', cx.bs, n12, cx.t, cx.s, cx.g, hi, cx.lt, hT1, fun H1 x1 => ?_⟩
                      exact ⟨u, s, bs, hs, ss, st, i, rfl, x1.sqT cx.u, cx.sl, x1.sqT cx.s, by omega, hi, x1.tabs _ hT3, fun H' x => kont H' (x1.trans x)⟩
                    · rw [estr, decide_eq_false hsh]
                      refine iteF ?_
                      have q := kont H (.refl H)
                      rw [two_none hlo hov hsh] at q
                      exact q
            · rw [show (!decide (V.int ((V.str z :: va :: vr).length : Int) = V.int 2)) = true by
                rw [decide_eq_false]
                · rfl
                · intro q
                  injection q with q
                  rw [hlen, List.length_cons, List.length_cons] at q
                  omega]
              refine iteT ?_
              have q := kont H (.refl H)
              rw [casesB_noSp hz (by rw [List.length_cons]; omega)] at q
              exact q
          · refine ⟨_, rfl, _, T, rfl, ht', T, "str", rfl, rfl, hT', by decide, true, ?_, ?_⟩
            · rw [decide_eq_false hne]
              rfl
            · refine iteT ?_
              have q := kont H (.refl H)
              rw [casesB_noW hno] at q
              exact q
      · refine ⟨_, rfl, _, T, rfl, ht', T, "tuple", rfl, rfl, hT', by decide, true, ?_, ?_⟩
        · rw [decide_eq_false hne]
          rfl
        · refine iteT (iteT ?_)
          have q := kont H (.refl H)
          rw [casesB_not hno] at q
          exact q
end
end Wd

set_option Elab.async false
set_option linter.all false
set_option maxRecDepth 100000
set_option maxHeartbeats 4000000
namespace Wd
open PySem PySem.Spec PyProof.Rows L2 Bx Gx

























































section
theorem noL_cases {bs : List (Nat × Nat)} {hs ss : List Nat} : ∀ (r : Nat) {d : PyData} {st : List (Option Nat)}, d.depth ≤ r → casesB bs hs ss d st = true → noL d = true := by
  intro r
  induction r with
  | zero =>
    intro d st hd h
    rcases casesB_inv h with ⟨w, i, rfl⟩ | ⟨w, i, rows, rfl⟩ <;> simp [PyData.depth] at hd
  | succ r ih =>
    intro d st hd h
    rcases casesB_inv h with ⟨w, i, rfl⟩ | ⟨w, i, rows, rfl⟩
    · rfl
    · rw [casesB_split] at h
      simp only [Bool.and_eq_true, decide_eq_true_eq] at h
      obtain ⟨_, _, _, ha⟩ := h
      have : noLs rows = true := noLs_of fun d hdm => by
        obtain ⟨j, hj, rfl⟩ := List.getElem_of_mem hdm
        have hdr : (rows[j]).depth ≤ r := by
          simp only [PyData.depth, PyData.depthAll] at hd
          exact depth_get (ds := rows) (n := r) (by omega) _ hdm
        exact ih hdr (casesAll_get ha j _ (List.getElem?_eq_getElem hj))
      simp [noL, noLs, this]
theorem fre_set {st : List (Option Nat)} {p k : Nat} (hp : p < st.length) (hf : st.getD p none = none) : (freS (st.set p (some k))).length + 1 ≤ (freS st).length := by
  have := nodup_sub (l := p :: freS (st.set p (some k))) (m := freS st) (List.nodup_cons.mpr ⟨(fun m => by
    have := (mem_freS.mp m).2
    rw [getD_set hp, if_pos rfl] at this
    cases this), (fre_asc _).imp fun z => Nat.ne_of_lt z⟩) fun x hx => by
      rcases List.mem_cons.mp hx with rfl | hx
      · exact mem_freS.mpr ⟨hp, hf⟩
      · obtain ⟨h1, h2⟩ := mem_freS.mp hx
        rw [List.length_set] at h1
        rw [getD_set hp] at h2
        by_cases e : x = p
        · rw [if_pos e] at h2; cases h2
        · rw [if_neg e] at h2
          exact mem_freS.mpr ⟨h1, h2⟩
  rwa [List.length_cons] at this
theorem depthAll_le : ∀ {ds : List PyData} {n : Nat}, (∀ d ∈ ds, d.depth ≤ n) → PyData.depthAll ds ≤ n
  | [], _, _ => by simp [PyData.depthAll]
  | d :: ds, n, h => by
    have h1 := h d List.mem_cons_self
    have h2 := depthAll_le (ds := ds) fun x hx => h x (List.mem_cons_of_mem _ hx)
    simp only [PyData.depthAll]
    omega
end
section
variable {P : Program} {w : World} {K : PySem.W.Frag} {mg : Str → Option Value} {base : Heap}
/-! ### answer_of -/
def spAnswer (K : PySem.W.Frag) (T1 T2 T3 T4 : Addr) (r : Nat) : Sp := fun vs H Q _ => ∃ (lk t u s : Addr) (n : Nat) (bs : List (Nat × Nat)) (hs ss : List Nat) (st : List (Option Nat)), vs = [.ref lk, .ref t, .ref u, .ref s] ∧ StCx K H lk t u s n bs hs ss st ∧ WishOk n hs ss ∧ (freS st).length < r ∧ TabG H T1 ∧ TabG H T2 ∧ TabG H T3 ∧ TabG H T4 ∧
  (∀ (a : Addr) (v : V) (d : PyData) (H' : Hp), Ext H H' → SqT K H' a [.str (Str.ofString "yes"), v] → Dp K H' v d → servB n bs hs ss d = true → Q (.ref a) H') ∧
  ∀ (a : Addr) (v : V) (d : PyData) (H' : Hp), Ext H H' → SqT K H' a [.str (Str.ofString "no"), v] → Dp K H' v d → casesB bs hs ss d st = true → d.depth ≤ 2 * (freS st).length + 1 → Q (.ref a) H'
abbrev answer_ofN : List Str := ["links", "heads", "sizes", "state", "k", "comes", "found", "free", "place", "rows", "word", "part"]
theorem sc_answer : FnScope answer_ofN ["links", "heads", "sizes", "state"] (defScope st_answer_of) := ⟨rfl, rfl, rfl, by decide +kernel, rfl, by decide +kernel, by decide +kernel⟩
theorem ok_answer {f c T1 T2 T3 T4 : Addr} {fd : FuncData} (F : FunC K "answer_of" "answer_of" st_answer_of f fd c) (TB : TabB base mg c T4) (B : Bl mg) (hm : mg "answer_of" = some (.ref f)) (hb : Binds K fd ["links", "heads", "sizes", "state"] [])
    (c_come_to : Cal P w K mg base 8 "come_to" ["links", "heads", "state", "k"] (spComeTo K T1)) (c_short_cases : Cal P w K mg base 9 "short_cases" ["links", "sizes", "state", "comes"] (spShort K T2 T3)) (c_free_of : Cal P w K mg base 1 "free_of" ["links", "state"] (spFreeOf K)) (c_narrowest : Cal P w K mg base 4 "narrowest" ["lot", "comes"] (spNarrowest K)) (c_lot_of : Cal P w K mg base 6 "lot_of" ["mask"] (spLotOf K T3)) (c_given : Cal P w K mg base 1 "given" ["state", "k", "place"] (spGiven K)) :
    ∀ r : Nat, FnOk P w K mg base CX0 (12 + r) f fd ["links", "heads", "sizes", "state"] (spAnswer K T1 T2 T3 T4 r)
  | 0 => by
    refine F.ok (k := 11) sc_answer (fun vs H Q E h => ?_) (fun A outer s H vs Q E hr h => ?_)
    · obtain ⟨lk, t, u, s, n, bs, hs, ss, st, rfl, _⟩ := h
      rfl
    · obtain ⟨lk, t, u, s, n, bs, hs, ss, st, rfl, _, _, h0, _⟩ := h
      omega
  | r + 1 => by
    have c_answer_of : Cal P w K mg base (12 + r) "answer_of" ["links", "heads", "sizes", "state"] (spAnswer K T1 T2 T3 T4 r) := ⟨f, fd, ok_answer F TB B hm hb c_come_to c_short_cases c_free_of c_narrowest c_lot_of c_given r, hm, F.kp, hb⟩
    refine F.ok (k := 12 + r) sc_answer (fun vs H Q E h => ?_) (fun A outer s H vs Q E hr h => ?_)
    · obtain ⟨lk, t, u, s, n, bs, hs, ss, st, rfl, _⟩ := h
      rfl
    · obtain ⟨lk, t, u, s, n, bs, hs, ss, st, rfl, cx, wo, hfr, hT1, hT2, hT3, hT4, kY, kN⟩ := h
      have nd := sc_answer.nd
      refine ⟨_, pss_cons (ps_setLc (i := 5) (own := [("k", 4)]) (g := gName 4) (by rfl) nd rfl rfl (sw_true rfl rfl rfl (by decide +kernel)) (pi_range1 rfl B.range (pa_cons (pe_callB call_len (by rfl) B.len PySem.boot_len (pa_cons (pv 1) pa_nil)) pa_nil)) (blkOk_by (own := [("k", 4)]) (N := ["links", "heads", "sizes", "state", "k", "comes", "found", "free", "place", "rows", "word", "part"]) (sc := defScope st_answer_of) (by decide +kernel)) (fun _ _ _ _ _ => pg_name (i := 4) nd rfl (Or.inl rfl)) (fun _ _ _ _ _ => pts_nil) (fun _ _ _ _ _ => pe_cal c_come_to (hr.mono (by omega)) rfl (pa_cons (pv 0) (pa_cons (pv 1) (pa_cons (pv 3) (pa_cons (pv 4) pa_nil))))))
        (pss_cons (ps_set (i := 6) nd rfl (Or.inl rfl) (pe_cal c_short_cases (hr.mono (by omega)) rfl (pa_cons (pv 0) (pa_cons (pv 2) (pa_cons (pv 3) (pa_cons (pv 5) pa_nil))))))
        (pss_cons (ps_if (pt_cmpR op_notN (pv 6) pe_non (nomark _)) (pss_one (ps_ret (pe_tup (pa_cons pe_str (pa_cons (pv 6) pa_nil))))) pss_nil)
        (pss_cons (ps_set (i := 7) nd rfl (Or.inl rfl) (pe_cal c_free_of (hr.mono (by omega)) rfl (pa_cons (pv 0) (pa_cons (pv 3) pa_nil))))
        (pss_cons (ps_if (pt_cmpR op_eq (pv 7) pe_int (nomark _)) (pss_one (ps_ret (pe_tup (pa_cons pe_str (pa_cons (pe_gtup (k := 7) (N := ["own"]) (src := [none]) (vs := [0]) ⟨fun B s H fp code hB => pg_name (i := 0) (by decide +kernel : (["own"] : List Str).Nodup) rfl (Or.inl rfl), fun B s H fp code hB => pts_nil, fun B s H fp code hB => pe_cal c_lot_of (hB.deeper _) rfl (pa_cons (pv 0) pa_nil)⟩ (hr.mono (by omega)) rfl B.tuple TB rfl (gOk (ND := answer_ofN) (sc := defScope st_answer_of) (by decide +kernel)) (pi_tup (pv 3))) pa_nil))))) pss_nil)
        (pss_cons (ps_set (i := 8) nd rfl (Or.inl rfl) (pe_cal c_narrowest (hr.mono (by omega)) rfl (pa_cons (pe_cal c_lot_of (hr.mono (by omega)) rfl (pa_cons (pv 7) pa_nil)) (pa_cons (pv 5) pa_nil))))
        (pss_cons (ps_set (i := 9) nd rfl (Or.inl rfl) (pe_lst pa_nil))
        (pss_cons (ps_for PassesOwn.never rfl (pi_range1 rfl B.range (pa_cons (pe_callB call_len (by rfl) B.len PySem.boot_len (pa_cons (pv 1) pa_nil)) pa_nil)) (pg_name (i := 4) nd rfl (Or.inl rfl))
          (pss_cons (ps_asg (pe_cal c_answer_of (hr.mono (by omega)) rfl (pa_cons (pv 0) (pa_cons (pv 1) (pa_cons (pv 2) (pa_cons (pe_cal c_given (hr.mono (by omega)) rfl (pa_cons (pv 3) (pa_cons (pv 4) (pa_cons (pv 8) pa_nil)))) pa_nil))))) (pg_tup (by rfl) (pgs_cons (pg_name (i := 10) nd rfl (Or.inl rfl)) (pgs_cons (pg_name (i := 11) nd rfl (Or.inl rfl)) pgs_nil))))
          (pss_cons (ps_if (pt_cmpR op_eq (pv 10) pe_str (nomark _)) (pss_one (ps_ret (pe_tup (pa_cons pe_str (pa_cons (pv 11) pa_nil))))) pss_nil)
          (pss_one (ps_expr (pe_bm PySem.F.plainAttrs_list PySem.F.slot_list_append PySem.F.type_list_append mt_append (pv 9) (pa_cons (pv 11) pa_nil)))))))
        (pss_one (ps_ret (pe_tup (pa_cons pe_str (pa_cons (pe_tup (pa_cons pe_str (pa_cons (pv 8) (pa_cons (pe_tupleOf rfl B.tuple (pv 9)) pa_nil)))) pa_nil)))))))))))), ?_⟩
      obtain ⟨lks, hlk, L'⟩ := cx.lk
      have gl := cx.g.len
      have n12 := cx.n12
      have h4 := cx.h4
      refine ⟨_, rfl, _, hs.length, rfl, .inr ⟨_, cx.t, (vsN_len hs).symm⟩, _, rfl, by omega, by omega, fun D hD => ?_⟩
      refine lc_range (lo := 0) (n := (hs.length : Int).toNat) (fun i H4 => H4 D = some (.lst (vsN ((comesN bs hs st).take i))) ∧ Ext H H4) ⟨upd_same, .new hD⟩ (fun i H4 hi ⟨e4, x4⟩ => ?_) (fun H4 ⟨e4, x4⟩ => ?_)
      · rw [Int.toNat_natCast] at hi
        rw [Int.zero_add]
        refine ⟨rfl, ?_⟩
        dsimp only [tYes]
        rw [if_pos rfl]
        refine ⟨_, rfl, _, rfl, _, rfl, _, rfl, lk, t, s, lks, bs, n, hs, st, i, rfl, x4.lst hlk, L', cx.bs, n12, x4.sqT cx.t, x4.sqT cx.s, cx.g, hi, cx.lt, x4.tabs _ hT1, fun H5 x5 => ?_⟩
        have e5 := x5.lst e4
        refine ⟨_, e5, ?_, ?_, (x4.trans x5).write hD⟩
        · rw [vsN_len, List.length_take]
          exact small1000 (by omega)
        · rw [upd_same, List.take_add_one, List.getElem?_eq_getElem (by rw [comesN_len]; exact hi)]
          show some (HO.lst (List.map _ _ ++ _)) = some (HO.lst (List.map _ (_ ++ [_])))
          rw [List.map_append]
          congr 3
          simp [comesN]
      · rw [Int.toNat_natCast, List.take_of_length_le (by rw [comesN_len]; exact Nat.le_refl _)] at e4
        have cx4 := cx.ext x4
        dsimp only [gName, tSeq, List.set, L2.start, List.map, List.replicate, List.append, List.length]
        refine ⟨_, rfl, _, rfl, _, rfl, _, rfl, lk, u, s, D, lks, bs, hs, ss, st, rfl, x4.lst hlk, by rw [L'.len, gl], by omega, cx4.u, cx.sl, h4, cx4.s, cx.g.val, e4, x4.tabs _ hT2, x4.tabs _ hT3, fun a d H5 x5 hd hc hdd => ?_, fun H5 x5 hok => ?_⟩
        · dsimp only [gName, tSeq, List.set]
          refine ⟨_, rfl, rfl, _, rfl, ?_⟩
          rw [show (!decide (V.ref a = V.non)) = true by simp]
          exact iteT ⟨_, rfl, (by show 2 ≤ sizeLine; decide), fun p hp => kN p (.ref a) d _ (x4.trans (x5.trans (.new hp))) (SqT.of upd_same) (dp_ext (.new hp) hd) hc (by omega)⟩
        · dsimp only [gName, tSeq, List.set]
          have x05 := x4.trans x5
          have cx5 := cx.ext x05
          refine ⟨_, rfl, rfl, _, rfl, ?_⟩
          rw [show (!decide (V.non = V.non)) = false by simp]
          refine iteF ⟨_, rfl, _, rfl, lk, s, lks, st, hs.length, rfl, x05.lst hlk, by rw [L'.len, gl], by omega, cx5.s, cx.g.val, ?_⟩
          refine ⟨_, rfl, rfl, _, rfl, ?_⟩
          have hfl : ∀ q ∈ freS st, q < 12 := fun q hq => by have := fre_lt q hq; omega
          by_cases hfe : freS st = []
          · rw [decide_eq_true (by rw [hfe]; rfl)]
            refine iteT ⟨_, rfl, s, rfl, ⟨_, cx5.s⟩, x05.tabs _ hT4, fun H6 hT6 => ?_⟩
            have x6 : Ext H H6 := x05.trans (Ext.tabbed (x05.tabs _ hT4) hT6)
            refine g_tupF (Pw := fun i ys H7 => Ext H H7 ∧ DpAll K H7 ys ((List.range i).map fun k => lotD (ownL st k))) (fun _ _ => src_tup fun H7 e => e.1.sqT cx.s) (by rw [vsN_len, mkS_len]; exact Nat.le_of_lt (small1000 (by omega))) (fun _ => rfl) ⟨x6, .nil⟩
              (fun i ys H7 e => ?_) (fun i ys H7 C e hi k2 => ?_) fun ys H7 e p hp => ?_
            · have := dpAll_len e.2
              rw [List.length_map, List.length_range] at this
              omega
            · rw [vsN_len, mkS_len] at hi
              obtain ⟨x7, hys⟩ := e
              have evi : (vsN (mkS st hs.length)).getD i .non = .int ((Mk.mask (ownL st i) : Nat) : Int) := by rw [List.getD_eq_getElem?_getD, mkS_at hi]; rfl
              rw [evi]
              have hol : ∀ q ∈ ownL st i, q < 12 := fun q hq => by have := own_lt q hq; omega
              refine ⟨_, rfl, Mk.mask (ownL st i), 12, rfl, Mk.mask_lt (own_asc st i) hol, by omega, x7.tabs _ hT3, fun p H8 x8 hp hd hp' => ?_⟩
              rw [Mk.bits_mask (own_asc st i) hol] at hd
              refine k2 _ H8 ⟨x7.trans x8, ?_⟩
              rw [List.range_succ, List.map_append]
              exact dpAll_app (dpAll_ext x8 hys) (.cons hd .nil)
            · obtain ⟨x7, hys⟩ := e
              rw [vsN_len, mkS_len] at hys
              have hv : Dp K (upd H7 p (.tup ys)) (.ref p) (valD hs.length st) := dp_new hp hys
              refine ⟨(by show 2 ≤ sizeLine; decide), fun p2 hp2 => kY p2 (.ref p) (valD hs.length st) _ (x7.trans ((Ext.new hp).trans (.new hp2))) (SqT.of upd_same) (dp_ext (.new hp2) hv) ?_⟩
              refine full_serv wo cx.g (fun q hq e => ?_) (fun k hk => (hok k hk).1) fun k hk => (hok k hk).2
              have := mem_freS.mpr ⟨by rw [gl]; exact hq, e⟩
              rw [hfe] at this
              cases this
          · rw [decide_eq_false (fun z => hfe ?_)]
            · refine iteF ⟨_, rfl, Mk.mask (freS st), 12, rfl, Mk.mask_lt (fre_asc st) hfl, by omega, x05.tabs _ hT3, fun p6 H6 x6 hp6 hd6 hp6' => ?_⟩
              rw [Mk.bits_mask (fre_asc st) hfl] at hp6'
              refine ⟨_, rfl, p6, D, freS st, comesN bs hs st, rfl, SqT.of hp6', hfe, ?_, hfl, (x5.trans x6).lst e4, by rw [comesN_len]; exact h4, fun p hp H7 x7 => ?_⟩
              · exact Nat.le_trans (Mk.nodup_le 12 (freS st) ((fre_asc st).imp fun z => Nat.ne_of_lt z) hfl) (Nat.le_refl _)
              · obtain ⟨hpl, hpf⟩ := mem_freS.mp hp
                have hfs := fun k => fre_set (k := k) hpl hpf
                have x07 := x05.trans (x6.trans x7)
                dsimp only [gName, tSeq, List.set, List.map, List.replicate, List.append, List.length]
                refine ⟨Nat.zero_le _, fun R hR => ?_⟩
                have y0 := x07.trans (.new hR (o := .lst []))
                have hRH := x07.free hR
                have hR0 : (upd H7 R (.lst [])) R = some (.lst []) := upd_same
                generalize upd H7 R (.lst []) = H7' at y0 hR0 ⊢
                dsimp only [gName, tSeq, List.set, List.map, List.replicate, List.append, List.length]
                refine ⟨_, rfl, _, hs.length, rfl, .inr ⟨_, y0.sqT cx.t, (vsN_len hs).symm⟩, _, rfl, by omega, by omega, for_range (lo := 0) (n := (hs.length : Int).toNat) (fun i σ H8 => ∃ (o4 o10 o11 : Option V) (ys : List V) (ds : List PyData), σ = [some (.ref lk), some (.ref t), some (.ref u), some (.ref s), o4, some (.ref D), some .non, some (.int ((Mk.mask (freS st) : Nat) : Int)), some (.int (p : Int)), some (.ref R), o10, o11] ∧ Ext H H8 ∧ H8 R = some (.lst ys) ∧ DpAll K H8 ys ds ∧ ds.length = i ∧ ∀ j d, ds[j]? = some d → casesB bs hs ss d (st.set p (some j)) = true ∧ d.depth ≤ 2 * (freS st).length - 1)
                  ⟨_, _, _, [], [], rfl, y0, hR0, .nil, rfl, fun j d e => by simp at e⟩ ?_ ?_⟩
                · rintro i σ H8 hi ⟨o4, o10, o11, ys, ds, rfl, x8, h8, hys, hdl, hall⟩
                  rw [Int.toNat_natCast] at hi
                  rw [Int.zero_add]
                  have hyl := dpAll_len hys
                  dsimp only [gName, tSeq, List.set]
                  refine ⟨_, rfl, _, rfl, _, rfl, _, rfl, _, rfl, _, rfl, s, st, hs.length, i, p, rfl, x8.sqT cx.s, hi, h4, hpl, by omega, hpf, fun r9 H9 x9 h9 => ?_⟩
                  have x09 := x8.trans x9
                  have cx9 := cx.ext x09
                  have hfi := hfs i
                  refine ⟨lk, t, u, r9, n, bs, hs, ss, st.set p (some i), rfl, ⟨cx9.lk, cx9.bs, cx9.n12, cx9.t, cx9.u, h9, cx.g.set (by omega) hpf hi, cx.sl, cx.h4, cx.lt⟩, wo, by omega, x09.tabs _ hT1, x09.tabs _ hT2, x09.tabs _ hT3, x09.tabs _ hT4, fun a v d H10 x10 hsq hd hsv => ?_, fun a v d H10 x10 hsq hd hc hdd => ?_⟩
                  · refine ⟨a, _, rfl, hsq, rfl, _, _, rfl, _, _, rfl, rfl, ?_⟩
                    dsimp only [gName, tSeq, List.set]
                    refine ⟨_, rfl, rfl, _, rfl, ?_⟩
                    rw [decide_eq_true rfl]
                    exact iteT ⟨_, rfl, (by show 2 ≤ sizeLine; decide), fun p2 hp2 => kY p2 v d _ (x09.trans (x10.trans (.new hp2))) (SqT.of upd_same) (dp_ext (.new hp2) hd) hsv⟩
                  · refine ⟨a, _, rfl, hsq, rfl, _, _, rfl, _, _, rfl, rfl, ?_⟩
                    dsimp only [gName, tSeq, List.set]
                    refine ⟨_, rfl, rfl, _, rfl, ?_⟩
                    rw [decide_eq_false (by decide)]
                    have h10 := (x9.trans x10).lst h8
                    refine iteF ⟨_, rfl, .inl ⟨rfl, _, SqL.of h10⟩, _, rfl, R, ys, v, rfl, rfl, h10, small1000 (by omega), ?_⟩
                    have xw : ExtS [R] H8 (upd H10 R (.lst (ys ++ [v]))) := (ExtS.of (x9.trans x10)).write (.inr ⟨by simp, _, h8⟩)
                    have xw2 : ExtS [R] H10 (upd H10 R (.lst (ys ++ [v]))) := (ExtS.of (.refl _)).write (.inr ⟨by simp, _, h10⟩)
                    refine ⟨_, _, _, ys ++ [v], ds ++ [d], rfl, (x09.trans x10).write hRH, upd_same, dpAll_app (dpAll_extS xw (noLs_of fun e he => ?_) hys) (.cons (dp_extS xw2 (noL_cases _ (Nat.le_refl _) hc) hd) .nil), by rw [List.length_append, hdl]; rfl, fun j e he => ?_⟩
                    · obtain ⟨j, hj, rfl⟩ := List.getElem_of_mem he
                      exact noL_cases _ (Nat.le_refl _) (hall j _ (List.getElem?_eq_getElem hj)).1
                    · by_cases hj : j < ds.length
                      · rw [List.getElem?_append_left hj] at he
                        exact hall j e he
                      · have hj2 := (List.getElem?_eq_some_iff.mp he).1
                        rw [List.length_append, List.length_singleton] at hj2
                        obtain rfl : j = i := by omega
                        rw [List.getElem?_append_right (by omega)] at he
                        rw [show j - ds.length = 0 by omega] at he
                        cases he
                        exact ⟨hc, by omega⟩
                · rintro σ H8 ⟨o4, o10, o11, ys, ds, rfl, x8, h8, hys, hdl, hall⟩
                  rw [Int.toNat_natCast] at hdl
                  refine ⟨_, rfl, _, rfl, .inl ⟨R, ys, rfl, SqL.of h8, fun q1 hq1 => ⟨(by show 3 ≤ sizeLine; decide), fun q2 hq2 => ⟨(by show 2 ≤ sizeLine; decide), fun q3 hq3 => ?_⟩⟩⟩⟩
                  have x1 : Ext H8 (upd H8 q1 (.tup ys)) := .new hq1
                  refine kN q3 (.ref q2) (.tuple [.str (Str.ofString "split"), .int (p : Int), .tuple ds]) _ (x8.trans (x1.trans ((Ext.new hq2).trans (.new hq3)))) (SqT.of upd_same) (dp_ext (.new hq3) (dp_new hq2 (.cons (.str _) (.cons (.int _) (.cons (dp_new hq1 hys) .nil))))) ?_ ?_
                  · rw [casesB_sp3int hpl, decide_eq_true hpf, casesR_tup, decide_eq_true hdl]
                    show (List.range ds.length).all _ = true
                    rw [List.all_eq_true]
                    intro k hk
                    rw [List.mem_range] at hk
                    rw [List.getD_eq_getElem?_getD, List.getElem?_eq_getElem hk]
                    exact (hall k _ (List.getElem?_eq_getElem hk)).1
                  · have hda : PyData.depthAll ds ≤ 2 * (freS st).length - 1 := depthAll_le fun d hd => by
                      obtain ⟨j, hj, rfl⟩ := List.getElem_of_mem hd
                      exact (hall j _ (List.getElem?_eq_getElem hj)).2
                    have := hfs 0
                    simp only [PyData.depth, PyData.depthAll]
                    omega
            · injection z with z
              have := mask_pos (fre_asc st) hfe
              omega
end
end Wd

set_option Elab.async false
set_option linter.all false
set_option maxRecDepth 100000
set_option maxHeartbeats 4000000
namespace Wd
open PySem PySem.Spec PyProof.Rows L2 Bx Gx

























































section
variable {P : Program} {w : World} {K : PySem.W.Frag} {mg : Str → Option Value} {base : Heap}
/-! ### wished, are_cases -/
theorem first_cx {H : Hp} {lk t u s : Addr} {n : Nat} {bs : List (Nat × Nat)} {hs ss : List Nat} {lks : List Nat} (hlk : H lk = some (.lst (vsN lks))) (L : Mk.Lk n bs lks) (hb : Mk.Bs n bs) (hn : n ≤ 12) (ht : SqT K H t (vsN hs)) (hu : SqT K H u (vsN ss)) (hs' : SqT K H s (vsN (hs.map fun h => 2 ^ h))) (wo : WishOk n hs ss) : StCx K H lk t u s n bs hs ss (firstS n hs) :=
  ⟨⟨lks, hlk, L⟩, hb, hn, ht, hu, by rw [mkS_first wo.nd wo.lt]; exact hs', firstS_good wo.nd wo.lt, wo.len, wo.most, wo.lt⟩
def spWished (K : PySem.W.Frag) (U1 U2 T1 T2 T3 T4 T5 : Addr) : Sp := fun vs H Q _ => ∃ (l : V) (t u : Addr) (fs : List Int) (bs : List (Nat × Nat)) (hs ss : List Nat), vs = [l, .ref t, .ref u] ∧ Dp K H l (landD fs bs) ∧ LandOk fs bs ∧ SqT K H t (vsN hs) ∧ SqT K H u (vsN ss) ∧ WishOk fs.length hs ss ∧ TabG H U1 ∧ TabG H U2 ∧ TabG H T1 ∧ TabG H T2 ∧ TabG H T3 ∧ TabG H T4 ∧ TabG H T5 ∧
  (∀ (a : Addr) (v : V) (d : PyData) (H' : Hp), Ext H H' → SqT K H' a [.str (Str.ofString "yes"), v] → Dp K H' v d → servB fs.length bs hs ss d = true → Q (.ref a) H') ∧
  ∀ (a : Addr) (v : V) (d : PyData) (H' : Hp), Ext H H' → SqT K H' a [.str (Str.ofString "no"), v] → Dp K H' v d → casesB bs hs ss d (firstS fs.length hs) = true → d.depth ≤ 2 * fs.length + 1 → Q (.ref a) H'
abbrev wishedN : List Str := ["land", "heads", "sizes"]
theorem sc_wished : FnScope wishedN ["land", "heads", "sizes"] (defScope st_wished) := ⟨rfl, rfl, rfl, by decide +kernel, rfl, by decide +kernel, by decide +kernel⟩
theorem ok_wished {f U1 U2 T1 T2 T3 T4 T5 : Addr} {fd : FuncData} (F : Fun K "wished" "wished" st_wished f fd) (c_check_wish : Cal P w K mg base 7 "check_wish" ["land", "heads", "sizes"] (spCheckWish K U1 U2)) (c_links_of : Cal P w K mg base 1 "links_of" ["land"] (spLinksOf K)) (c_first_state : Cal P w K mg base 5 "first_state" ["heads"] (spFirstSt K T5)) (c_answer_of : Cal P w K mg base 25 "answer_of" ["links", "heads", "sizes", "state"] (spAnswer K T1 T2 T3 T4 13)) : FnOk P w K mg base CX0 26 f fd ["land", "heads", "sizes"] (spWished K U1 U2 T1 T2 T3 T4 T5) := by
  refine F.ok sc_wished (fun vs H Q E h => ?_) (fun cdv A outer s H vs Q E hr h => ?_)
  · obtain ⟨l, t, u, fs, bs, hs, ss, rfl, _⟩ := h
    rfl
  · obtain ⟨l, t, u, fs, bs, hs, ss, rfl, hl, ok, ht, hu, wo, hU1, hU2, hT1, hT2, hT3, hT4, hT5, kY, kN⟩ := h
    refine ⟨_, pss_cons (ps_expr (pe_cal c_check_wish (hr.mono (by decide)) rfl (pa_cons (pv 0) (pa_cons (pv 1) (pa_cons (pv 2) pa_nil)))))
      (pss_one (ps_ret (pe_cal c_answer_of (hr.mono (by decide)) rfl (pa_cons (pe_cal c_links_of (hr.mono (by decide)) rfl (pa_cons (pv 0) pa_nil)) (pa_cons (pv 1) (pa_cons (pv 2) (pa_cons (pe_cal c_first_state (hr.mono (by decide)) rfl (pa_cons (pv 1) pa_nil)) pa_nil))))))), ?_⟩
    have h12 := ok.most
    refine ⟨_, rfl, _, rfl, _, rfl, l, t, u, fs, bs, hs, ss, rfl, hl, ok, ht, hu, wo, hU1, hU2, fun H1 x1 => ?_⟩
    refine ⟨_, rfl, l, fs, bs, rfl, dp_ext x1 hl, h12, ok.bord, fun q H2 lk x2 hq0 hq L => ?_⟩
    have x12 := x1.trans x2
    refine ⟨_, rfl, _, rfl, _, rfl, t, hs, rfl, x12.sqT ht, wo.most, fun h hh => by have := wo.lt h hh; omega, x12.tabs _ hT5, fun p H3 x3 h3 => ?_⟩
    have x13 := x12.trans x3
    have hfn : (freS (firstS fs.length hs)).length ≤ fs.length := Mk.nodup_le fs.length _ ((fre_asc _).imp fun z => Nat.ne_of_lt z) fun x hx => by
      have := fre_lt x hx
      rwa [firstS, List.length_map, List.length_range] at this
    exact ⟨q, t, u, p, fs.length, bs, hs, ss, firstS fs.length hs, rfl, first_cx (x3.lst hq) L ok.bord h12 (x13.sqT ht) (x13.sqT hu) h3 wo, wo, by omega, x13.tabs _ hT1, x13.tabs _ hT2, x13.tabs _ hT3, x13.tabs _ hT4, fun a v d H' x => kY a v d H' (x13.trans x), fun a v d H' x g1 g2 g3 g4 => kN a v d H' (x13.trans x) g1 g2 g3 (by omega)⟩
def spAreCases (K : PySem.W.Frag) (U1 U2 T1 T2 T3 T4 T5 : Addr) (r : Nat) : Sp := fun vs H Q _ => ∃ (l v : V) (t u : Addr) (fs : List Int) (bs : List (Nat × Nat)) (hs ss : List Nat) (d : PyData), vs = [l, .ref t, .ref u, v] ∧ Dp K H l (landD fs bs) ∧ LandOk fs bs ∧ SqT K H t (vsN hs) ∧ SqT K H u (vsN ss) ∧ WishOk fs.length hs ss ∧ Dp K H v d ∧ d.depth < 2 * r ∧ TabG H U1 ∧ TabG H U2 ∧ TabG H T1 ∧ TabG H T2 ∧ TabG H T3 ∧ TabG H T4 ∧ TabG H T5 ∧ ∀ H', Ext H H' → Q (.bl (casesB bs hs ss d (firstS fs.length hs))) H'
abbrev are_casesN : List Str := ["land", "heads", "sizes", "value"]
theorem sc_are_cases : FnScope are_casesN ["land", "heads", "sizes", "value"] (defScope st_are_cases) := ⟨rfl, rfl, rfl, by decide +kernel, rfl, by decide +kernel, by decide +kernel⟩
theorem ok_are_cases {f U1 U2 T1 T2 T3 T4 T5 : Addr} {fd : FuncData} {r : Nat} (F : Fun K "are_cases" "are_cases" st_are_cases f fd) (c_check_wish : Cal P w K mg base 7 "check_wish" ["land", "heads", "sizes"] (spCheckWish K U1 U2)) (c_links_of : Cal P w K mg base 1 "links_of" ["land"] (spLinksOf K)) (c_first_state : Cal P w K mg base 5 "first_state" ["heads"] (spFirstSt K T5)) (c_are_cases_of : Cal P w K mg base (13 + 5 * r) "are_cases_of" ["links", "heads", "sizes", "state", "value"] (spCasesOf K T1 T2 T3 T4 r)) : FnOk P w K mg base CX0 (14 + 5 * r) f fd ["land", "heads", "sizes", "value"] (spAreCases K U1 U2 T1 T2 T3 T4 T5 r) := by
  rw [show 14 + 5 * r = 13 + 5 * r + 1 by omega]
  refine F.ok (k := 13 + 5 * r) sc_are_cases (fun vs H Q E h => ?_) (fun cdv A outer s H vs Q E hr h => ?_)
  · obtain ⟨l, v, t, u, fs, bs, hs, ss, d, rfl, _⟩ := h
    rfl
  · obtain ⟨l, v, t, u, fs, bs, hs, ss, d, rfl, hl, ok, ht, hu, wo, hv, hdp, hU1, hU2, hT1, hT2, hT3, hT4, hT5, kont⟩ := h
    refine ⟨_, pss_cons (ps_expr (pe_cal c_check_wish (hr.mono (by omega)) rfl (pa_cons (pv 0) (pa_cons (pv 1) (pa_cons (pv 2) pa_nil)))))
      (pss_one (ps_ret (pe_cal c_are_cases_of (hr.mono (by omega)) rfl (pa_cons (pe_cal c_links_of (hr.mono (by omega)) rfl (pa_cons (pv 0) pa_nil)) (pa_cons (pv 1) (pa_cons (pv 2) (pa_cons (pe_cal c_first_state (hr.mono (by omega)) rfl (pa_cons (pv 1) pa_nil)) (pa_cons (pv 3) pa_nil)))))))), ?_⟩
    have h12 := ok.most
    refine ⟨_, rfl, _, rfl, _, rfl, l, t, u, fs, bs, hs, ss, rfl, hl, ok, ht, hu, wo, hU1, hU2, fun H1 x1 => ?_⟩
    refine ⟨_, rfl, l, fs, bs, rfl, dp_ext x1 hl, h12, ok.bord, fun q H2 lk x2 hq0 hq L => ?_⟩
    have x12 := x1.trans x2
    refine ⟨_, rfl, _, rfl, _, rfl, t, hs, rfl, x12.sqT ht, wo.most, fun h hh => by have := wo.lt h hh; omega, x12.tabs _ hT5, fun p H3 x3 h3 => ?_⟩
    have x13 := x12.trans x3
    exact ⟨_, rfl, q, t, u, p, v, fs.length, bs, hs, ss, firstS fs.length hs, d, rfl, first_cx (x3.lst hq) L ok.bord h12 (x13.sqT ht) (x13.sqT hu) h3 wo, dp_ext x13 hv, hdp, x13.tabs _ hT1, x13.tabs _ hT2, x13.tabs _ hT3, x13.tabs _ hT4, fun H' x => kont H' (x13.trans x)⟩
end
end Wd

set_option Elab.async false
set_option linter.all false
set_option maxRecDepth 100000
set_option maxHeartbeats 4000000
namespace Wd
open PySem PySem.Spec PyProof.Rows L2 Bx Gx

























































section
variable {P : Program} {w : World} {K : PySem.W.Frag} {mg : Str → Option Value} {base : Heap}
/-! ### the law: what a head can come to -/
theorem inV_fr (o : Option Nat) (k : Nat) : inV (stV o) [.int (k : Int), .non] = decide (o = some k ∨ o = none) := by
  cases o with
  | none => rw [decide_eq_true (.inr rfl)]; simp [inV, stV, eqV]
  | some j =>
    by_cases e : j = k
    · subst e; rw [decide_eq_true (.inl rfl)]; simp [inV, stV, eqV]
    · rw [decide_eq_false (fun z => z.elim (fun y => e (Option.some.inj y)) fun y => nomatch y)]
      simp [inV, stV, eqV]
      omega
def spReach (K : PySem.W.Frag) : Sp := fun vs H Q _ => ∃ (l : V) (so : Addr) (fs : List Int) (bs : List (Nat × Nat)) (st : List (Option Nat)) (k h : Nat), vs = [l, .ref so, .int (k : Int), .int (h : Int)] ∧ Dp K H l (landD fs bs) ∧ LandOk fs bs ∧ st.length = fs.length ∧ H so = some (.lst (stL st)) ∧ h ∈ frL st k ∧
  ∀ (q : Addr) (fnd : List Nat) (H' : Hp), Ext H H' → H' q = some (.lst (vsN fnd)) → fnd.Nodup → (∀ x, x ∈ fnd ↔ Mk.Conn bs (· ∈ frL st k) h x) → Q (.ref q) H'
abbrev lreachN : List Str := ["land", "state", "k", "head", "place"]
theorem sc_reach : FnScope lreachN ["land", "state", "k", "head"] (defScope st__law_reach) := ⟨rfl, rfl, rfl, by decide +kernel, rfl, by decide +kernel, by decide +kernel⟩
theorem ok_reach {f : Addr} {fd : FuncData} (F : Fun K "_law_reach" "_law_reach" st__law_reach f fd) (B : Bl mg) (c__law_come : Cal P w K mg base 2 "_law_come" ["land", "start", "lot"] (spCome K)) : FnOk P w K mg base CX0 3 f fd ["land", "state", "k", "head"] (spReach K) := by
  refine F.ok sc_reach (fun vs H Q E h => ?_) (fun cdv A outer s H vs Q E hr h => ?_)
  · obtain ⟨l, so, fs, bs, st, k, hd, rfl, _⟩ := h
    rfl
  · obtain ⟨l, so, fs, bs, st, k, hd, rfl, hl, ok, hsl, hso, hhd, kont⟩ := h
    have nd := sc_reach.nd
    refine ⟨_, pss_one (ps_ret (pe_cal c__law_come (hr.mono (by decide)) rfl (pa_cons (pv 0) (pa_cons (pv 3) (pa_cons (pe_lc (own := [("place", 4)]) (g := gName 4) (by rfl) nd (pi_range1 rfl B.range (pa_cons (pe_callB call_len (by rfl) B.len PySem.boot_len (pa_cons (pv 1) pa_nil)) pa_nil)) (blkOk_by (own := [("place", 4)]) (N := ["land", "state", "k", "head", "place"]) (sc := defScope st__law_reach) (by decide +kernel)) (fun _ _ _ _ _ => pg_name (i := 4) nd rfl (Or.inl rfl)) (fun _ _ _ _ _ => pts_one (pt_cmpR (op_inK (K := K) rfl) (pe_ix (ix_lstK (K := K) rfl) (pv 1) (pv 4) (fun _ _ => rfl)) (pe_tup (pa_cons (pv 2) (pa_cons pe_non pa_nil))) (by rfl))) (fun _ _ _ _ _ => pv 4)) pa_nil))))), ?_⟩
    have h12 := ok.most
    have hbl := bs_len ok.most ok.bord ok.asc
    refine ⟨_, rfl, _, rfl, _, rfl, _, st.length, rfl, .inl ⟨_, SqL.of hso, by rw [List.length_map]⟩, _, rfl, by omega, by omega, fun D hD => ?_⟩
    refine lc_range (lo := 0) (n := (st.length : Int).toNat) (fun c H8 => H8 D = some (.lst (vsN ((List.range c).filter fun q => decide (st.getD q none = some k ∨ st.getD q none = none)))) ∧ Ext H H8) ⟨upd_same, .new hD⟩ (fun c H8 hc ⟨e8, x8⟩ => ?_) (fun H8 ⟨e8, x8⟩ => ?_)
    · rw [Int.toNat_natCast] at hc
      rw [Int.zero_add]
      have hcv : (stL st)[c]? = some (stV st[c]) := by rw [List.getElem?_map, List.getElem?_eq_getElem hc]; rfl
      have egd : st.getD c none = st[c] := by rw [List.getD_eq_getElem?_getD, List.getElem?_eq_getElem hc]; rfl
      refine ⟨rfl, _, rfl, _, rfl, so, _, _, _, rfl, rfl, SqL.of (x8.lst hso), atI_nat hcv, _, rfl, ?_⟩
      refine ⟨(by show 2 ≤ sizeLine; decide), fun p8 hp8 => ⟨p8, _, rfl, .inr (SqT.of upd_same), (by cases st[c] <;> rfl), rfl, _, rfl, ?_⟩⟩
      dsimp only
      rw [if_neg Bool.false_ne_true, inV_fr, List.range_succ, List.filter_append]
      have e9 := (Ext.new hp8 (o := .tup [.int (k : Int), .non])).lst e8
      cases e1 : decide (st[c] = some k ∨ st[c] = none) with
      | true =>
        rw [List.filter_cons_of_pos (by rw [egd]; exact e1)]
        refine iteT ⟨_, rfl, _, e9, ?_, ?_, (x8.trans (.new hp8)).write hD⟩
        · have := List.length_filter_le (fun q => decide (st.getD q none = some k ∨ st.getD q none = none)) (List.range c)
          rw [List.length_range] at this
          rw [vsN_len]
          exact small1000 (by omega)
        · rw [upd_same]
          show some (HO.lst (List.map _ _ ++ _)) = some (HO.lst (List.map _ (_ ++ [c])))
          rw [List.map_append]
          rfl
      | false =>
        rw [List.filter_cons_of_neg (by rw [egd, e1]; decide)]
        refine iteF ⟨?_, x8.trans (.new hp8)⟩
        simpa using e9
    · rw [Int.toNat_natCast] at e8
      refine ⟨l, D, fs, bs, hd, frL st k, rfl, dp_ext x8 hl, h12, ok.bord, hbl, .inl (SqL.of e8), hhd, fun p hp => by rw [← hsl]; exact frL_lt p hp, fun q fnd H' x hq hf nd' hx => kont q fnd H' (x8.trans x) hf nd' hx⟩
def spIsIndex : Sp := fun vs H Q _ => ∃ (i m : Int), vs = [.int i, .int m] ∧ 0 ≤ i ∧ i < m ∧ Q (.bl true) H
abbrev lis_indexN : List Str := ["value", "many"]
theorem sc_is_index : FnScope lis_indexN ["value", "many"] (defScope st__law_is_index) := ⟨rfl, rfl, rfl, by decide +kernel, rfl, by decide +kernel, by decide +kernel⟩
theorem ok_is_index {f : Addr} {fd : FuncData} (F : Fun K "_law_is_index" "_law_is_index" st__law_is_index f fd) (B : Bl mg) : FnOk P w K mg base CX0 1 f fd ["value", "many"] spIsIndex := by
  refine F.ok sc_is_index (fun vs H Q E h => ?_) (fun cdv A outer s H vs Q E hr h => ?_)
  · obtain ⟨i, m, rfl, _⟩ := h
    rfl
  · obtain ⟨i, m, rfl, h0, h1, kont⟩ := h
    refine ⟨_, pss_one (ps_ret (pe_and (pe_callB call_isi (by rfl) B.isinstance (by decide +kernel) (pa_cons (pv 0) (pa_cons (pe_bltn rfl B.int (by decide +kernel) (v := .ty "int") rfl) pa_nil))) (pe_and (pe_not (pe_callB call_isi (by rfl) B.isinstance (by decide +kernel) (pa_cons (pv 0) (pa_cons (pe_bltn rfl B.bool (by decide +kernel) (v := .ty "bool") rfl) pa_nil)))) (pe_one (pe_chain op_le op_lt pe_int (pv 0) (pv 1)))))), ?_⟩
    have kk := fun T (hT : T ∈ ["NoneType", "bool", "int", "str", "list", "tuple"]) U hU => kit_in (K := K) T U hT hU
    have k1 : PySem.W.kitOne K (.type "int") (.type "int") = some true := (kk "int" (by simp) "int" (by simp)).trans (by simp)
    have k2 : PySem.W.kitOne K (.type "int") (.type "bool") = some false := (kk "int" (by simp) "bool" (by simp)).trans (by simp)
    have tv : TyX K H (.int i) (.type "int") := (tyX_dp (Dp.int (K := K) (H := H) i)).1
    refine ⟨_, rfl, _, _, _, _, _, rfl, .ty "int", tv, k1, _, rfl, iteT ?_⟩
    refine ⟨_, rfl, _, _, _, _, _, rfl, .ty "bool", tv, k2, _, rfl, _, rfl, iteT ?_⟩
    refine ⟨_, rfl, _, _, rfl, rfl, true, (by show V.bl (decide _) = _; rw [decide_eq_true h0]), iteT ⟨_, rfl, _, _, rfl, rfl, ?_⟩⟩
    show Q (.bl (decide (i < m))) H
    rw [decide_eq_true h1]
    exact kont
end
end Wd

set_option Elab.async false
set_option linter.all false
set_option maxRecDepth 100000
set_option maxHeartbeats 4000000
namespace Wd
open PySem PySem.Spec PyProof.Rows L2 Bx Gx

























































section
variable {P : Program} {w : World} {K : PySem.W.Frag} {mg : Str → Option Value} {base : Heap}
/-! ### the law's judge of cases, of right ones -/
def spLCases (K : PySem.W.Frag) (r : Nat) : Sp := fun vs H Q _ => ∃ (l v : V) (t u so : Addr) (fs : List Int) (bs : List (Nat × Nat)) (hs ss : List Nat) (st : List (Option Nat)) (d : PyData), vs = [l, .ref t, .ref u, .ref so, v] ∧ Dp K H l (landD fs bs) ∧ LandOk fs bs ∧ SqT K H t (vsN hs) ∧ SqT K H u (vsN ss) ∧ WishOk fs.length hs ss ∧ H so = some (.lst (stL st)) ∧ GoodSt fs.length hs st ∧ Dp K H v d ∧ casesB bs hs ss d st = true ∧ d.depth < 2 * r ∧ ∀ H', Ext H H' → Q (.bl true) H'
abbrev lare_casesN : List Str := ["land", "heads", "sizes", "state", "value", "word", "at", "place", "own", "there", "k"]
theorem sc_lcases : FnScope lare_casesN ["land", "heads", "sizes", "state", "value"] (defScope st__law_are_cases) := ⟨rfl, rfl, rfl, by decide +kernel, rfl, by decide +kernel, by decide +kernel⟩
theorem ok_lcases {f : Addr} {fd : FuncData} (F : Fun K "_law_are_cases" "_law_are_cases" st__law_are_cases f fd) (B : Bl mg) (hm : mg "_law_are_cases" = some (.ref f)) (hb : Binds K fd ["land", "heads", "sizes", "state", "value"] []) (c__law_is_index : Cal P w K mg base 1 "_law_is_index" ["value", "many"] spIsIndex) (c__law_reach : Cal P w K mg base 3 "_law_reach" ["land", "state", "k", "head"] (spReach K)) :
    ∀ r : Nat, FnOk P w K mg base CX0 (5 + r) f fd ["land", "heads", "sizes", "state", "value"] (spLCases K r)
  | 0 => by
    refine F.ok (k := 4) sc_lcases (fun vs H Q E h => ?_) (fun cdv A outer s H vs Q E hr h => ?_)
    · obtain ⟨l, v, t, u, so, fs, bs, hs, ss, st, d, rfl, _⟩ := h
      rfl
    · obtain ⟨l, v, t, u, so, fs, bs, hs, ss, st, d, rfl, _, _, _, _, _, _, _, _, _, h0, _⟩ := h
      omega
  | r + 1 => by
    have c__law_are_cases : Cal P w K mg base (5 + r) "_law_are_cases" ["land", "heads", "sizes", "state", "value"] (spLCases K r) := ⟨f, fd, ok_lcases F B hm hb c__law_is_index c__law_reach r, hm, F.kp, hb⟩
    refine F.ok (k := 5 + r) sc_lcases (fun vs H Q E h => ?_) (fun cdv A outer s H vs Q E hr h => ?_)
    · obtain ⟨l, v, t, u, so, fs, bs, hs, ss, st, d, rfl, _⟩ := h
      rfl
    · obtain ⟨l, v, t, u, so, fs, bs, hs, ss, st, d, rfl, hl, ok, ht, hu, wo, hso, g, hv, hc, hdp, kont⟩ := h
      have nd := sc_lcases.nd
      refine ⟨_, pss_cons (ps_if (PW.pt (pw_or (pt_not (pt_val (pe_callB call_isi (by rfl) B.isinstance (by decide +kernel) (pa_cons (pv 4) (pa_cons (pe_bltn rfl B.tuple (by decide +kernel) (v := .ty "tuple") rfl) pa_nil))) (by intro _; rfl))) (pw_or (pt_cmpR op_notIn_seq (pe_callB call_len (by rfl) B.len PySem.boot_len (pa_cons (pv 4) pa_nil)) (pe_tup (pa_cons pe_int (pa_cons pe_int pa_nil))) (by rfl)) (pw_or1 (pt_not (pt_val (pe_callB call_isi (by rfl) B.isinstance (by decide +kernel) (pa_cons (pe_ix ix_tup (pv 4) pe_int (fun _ _ => rfl)) (pa_cons (pe_bltn rfl B.str (by decide +kernel) (v := .ty "str") rfl) pa_nil))) (by intro _; rfl))))))) (pss_one (ps_ret pe_bl)) pss_nil)
        (pss_cons (ps_asg (pe_tup (pa_cons (pe_ix ix_tup (pv 4) pe_int (fun _ _ => rfl)) (pa_cons (pe_ix ix_tup (pv 4) pe_int (fun _ _ => rfl)) pa_nil))) (pg_tup (by rfl) (pgs_cons (pg_name (i := 5) nd rfl (Or.inl rfl)) (pgs_cons (pg_name (i := 6) nd rfl (Or.inr rfl)) pgs_nil))))
        (pss_cons (ps_if (PW.pt (pw_and (pt_cmpR op_eq (pe_callB call_len (by rfl) B.len PySem.boot_len (pa_cons (pv 4) pa_nil)) pe_int (nomark _)) (pw_and1 (pt_cmpR op_in_seq (pv 5) (pe_tup (pa_cons pe_str (pa_cons pe_str pa_nil))) (by rfl))))) (pss_cons (ps_if (pt_not (pt_val (pe_cal c__law_is_index (hr.mono (by omega)) rfl (pa_cons (pv 6) (pa_cons (pe_callB call_len (by rfl) B.len PySem.boot_len (pa_cons (pv 1) pa_nil)) pa_nil))) (by intro _; rfl))) (pss_one (ps_ret pe_bl)) pss_nil)
          (pss_cons (ps_asg (pe_tup (pa_cons (pe_lc (own := [("place", 7)]) (g := gName 7) (by rfl) nd (pi_range1 rfl B.range (pa_cons (pe_callB call_len (by rfl) B.len PySem.boot_len (pa_cons (pv 3) pa_nil)) pa_nil)) (blkOk_by (own := [("place", 7)]) (N := ["land", "heads", "sizes", "state", "value", "word", "at", "place", "own", "there", "k"]) (sc := defScope st__law_are_cases) (by decide +kernel)) (fun _ _ _ _ _ => pg_name (i := 7) nd rfl (Or.inl rfl)) (fun _ _ _ _ _ => pts_one (pt_cmpR op_eq (pe_ix (ix_lstK (K := K) rfl) (pv 3) (pv 7) (fun _ _ => rfl)) (pv 6) (nomark _))) (fun _ _ _ _ _ => pv 7)) (pa_cons (pe_cal c__law_reach (hr.mono (by omega)) rfl (pa_cons (pv 0) (pa_cons (pv 3) (pa_cons (pv 6) (pa_cons (pe_ix ix_tup (pv 1) (pv 6) (fun _ _ => rfl)) pa_nil))))) pa_nil))) (pg_tup (by rfl) (pgs_cons (pg_name (i := 8) nd rfl (Or.inl rfl)) (pgs_cons (pg_name (i := 9) nd rfl (Or.inr rfl)) pgs_nil))))
          (pss_cons (ps_if (pt_cmpR op_eq (pv 5) pe_str (nomark _)) (pss_one (ps_ret (pe_cmpR op_gt (pe_callB call_len (by rfl) B.len PySem.boot_len (pa_cons (pv 8) pa_nil)) (pe_ix ix_tup (pv 2) (pv 6) (fun _ _ => rfl)) (nomark _)))) pss_nil)
          (pss_one (ps_ret (pe_or (pe_cmpR op_lt (pe_callB call_len (by rfl) B.len PySem.boot_len (pa_cons (pv 9) pa_nil)) (pe_ix ix_tup (pv 2) (pv 6) (fun _ _ => rfl)) (nomark _)) (pe_one (pe_cmpR (op_neD hr.units) (pe_lc (own := [("place", 7)]) (g := gName 7) (by rfl) nd (pi_list (pv 8)) (blkOk_by (own := [("place", 7)]) (N := ["land", "heads", "sizes", "state", "value", "word", "at", "place", "own", "there", "k"]) (sc := defScope st__law_are_cases) (by decide +kernel)) (fun _ _ _ _ _ => pg_name (i := 7) nd rfl (Or.inl rfl)) (fun _ _ _ _ _ => pts_one (pt_cmpR (op_notInK (K := K) rfl) (pv 7) (pv 9) (by rfl))) (fun _ _ _ _ _ => pv 7)) (pe_lst pa_nil) (nomark _))))))))) pss_nil)
        (pss_cons (ps_if (PW.pt (pw_or (pt_not (pt_val (pe_cal c__law_is_index (hr.mono (by omega)) rfl (pa_cons (pv 6) (pa_cons (pe_callB call_len (by rfl) B.len PySem.boot_len (pa_cons (pv 3) pa_nil)) pa_nil))) (by intro _; rfl))) (pw_or1 (pt_cmpR op_notN (pe_ix ix_list (pv 3) (pv 6) (fun _ _ => rfl)) pe_non (nomark _))))) (pss_one (ps_ret pe_bl)) pss_nil)
        (pss_cons (ps_if (pt_cmpR op_eq (pe_callB call_len (by rfl) B.len PySem.boot_len (pa_cons (pv 4) pa_nil)) pe_int (nomark _)) (pss_one (ps_ret (pe_and (pe_cmpR op_eq (pv 5) pe_str (nomark _)) (pe_one (pe_cmpR (op_eqD hr.units) (pe_lc (own := [("k", 10)]) (g := gName 10) (by rfl) nd (pi_range1 rfl B.range (pa_cons (pe_callB call_len (by rfl) B.len PySem.boot_len (pa_cons (pv 1) pa_nil)) pa_nil)) (blkOk_by (own := [("k", 10)]) (N := ["land", "heads", "sizes", "state", "value", "word", "at", "place", "own", "there", "k"]) (sc := defScope st__law_are_cases) (by decide +kernel)) (fun _ _ _ _ _ => pg_name (i := 10) nd rfl (Or.inl rfl)) (fun _ _ _ _ _ => pts_one (pt_cmpR (op_inK (K := K) rfl) (pv 6) (pe_cal c__law_reach (hr.mono (by omega)) rfl (pa_cons (pv 0) (pa_cons (pv 3) (pa_cons (pv 10) (pa_cons (pe_ix (ix_tupK (K := K) rfl) (pv 1) (pv 10) (fun _ _ => rfl)) pa_nil))))) (by rfl))) (fun _ _ _ _ _ => pv 10)) (pe_lst pa_nil) (nomark _)))))) pss_nil)
        (pss_cons (ps_if (PW.pt (pw_or (pt_cmpR op_ne (pv 5) pe_str (nomark _)) (pw_or (pt_not (pt_val (pe_callB call_isi (by rfl) B.isinstance (by decide +kernel) (pa_cons (pe_ix ix_tup (pv 4) pe_int (fun _ _ => rfl)) (pa_cons (pe_bltn rfl B.tuple (by decide +kernel) (v := .ty "tuple") rfl) pa_nil))) (by intro _; rfl))) (pw_or1 (pt_cmpR op_ne (pe_callB call_len (by rfl) B.len PySem.boot_len (pa_cons (pe_ix ix_tup (pv 4) pe_int (fun _ _ => rfl)) pa_nil)) (pe_callB call_len (by rfl) B.len PySem.boot_len (pa_cons (pv 1) pa_nil)) (nomark _)))))) (pss_one (ps_ret pe_bl)) pss_nil)
        (pss_cons (ps_for PassesOwn.never rfl (pi_range1 rfl B.range (pa_cons (pe_callB call_len (by rfl) B.len PySem.boot_len (pa_cons (pv 1) pa_nil)) pa_nil)) (pg_name (i := 10) nd rfl (Or.inl rfl))
          (pss_one (ps_if (pt_not (pt_val (pe_cal c__law_are_cases (hr.mono (by omega)) rfl (pa_cons (pv 0) (pa_cons (pv 1) (pa_cons (pv 2) (pa_cons (pe_op op_cat (pe_op op_cat (pe_slice sl_list (pv 3) po_none (po_some (pv 6))) (pe_lst (pa_cons (pv 10) pa_nil))) (pe_slice sl_list (pv 3) (po_some (pe_op op_add (pv 6) pe_int)) po_none)) (pa_cons (pe_ix ix_tup (pe_ix ix_tup (pv 4) pe_int (fun _ _ => rfl)) (pv 10) (fun _ _ => rfl)) pa_nil)))))) (by intro _; rfl))) (pss_one (ps_ret pe_bl)) pss_nil)))
        (pss_one (ps_ret pe_bl)))))))), ?_⟩
      have kk := fun T (hT : T ∈ ["NoneType", "bool", "int", "str", "list", "tuple"]) U hU => kit_in (K := K) T U hT hU
      have kT : PySem.W.kitOne K (.type "tuple") (.type "tuple") = some true := (kk "tuple" (by simp) "tuple" (by simp)).trans (by simp)
      have kS : PySem.W.kitOne K (.type "str") (.type "str") = some true := (kk "str" (by simp) "str" (by simp)).trans (by simp)
      have h12 := ok.most
      have hbl := bs_len ok.most ok.bord ok.asc
      obtain ⟨wd, i, rest, hrl, rfl⟩ : ∃ wd i rest, List.length rest ≤ 1 ∧ d = .tuple (.str wd :: .int i :: rest) := by
        rcases casesB_inv hc with ⟨w, i, rfl⟩ | ⟨w, i, rows, rfl⟩
        · exact ⟨w, i, [], Nat.zero_le _, rfl⟩
        · exact ⟨w, i, [.tuple rows], Nat.le_refl _, rfl⟩
      have tvT := (tyX_dp hv).1
      have hvv := hv
      obtain ⟨ds, a, xs, e, rfl, h1, h2⟩ : ∃ ds a xs, PyData.tuple (.str wd :: .int i :: rest) = .tuple ds ∧ v = .ref a ∧ SqT K H a xs ∧ DpAll K H xs ds := by
        rcases tup_dp hv with z | ⟨_, _, _, _, hno⟩
        · exact z
        · exact absurd rfl (hno _)
      cases e
      cases h2 with
      | cons hw h2 => cases h2 with
        | cons hat h2 =>
          cases hw
          cases hat
          rename_i vr
          have hvr := dpAll_len h2
          have hN : (V.str wd :: V.int i :: vr).length = 2 + rest.length := by rw [List.length_cons, List.length_cons, hvr]; omega
          have hin : inV (.int ((2 + rest.length : Nat) : Int)) [.int 2, .int 3] = true := by
            match rest, hrl with
            | [], _ => simp [inV, eqV]
            | [_], _ => simp [inV, eqV]
          refine ⟨_, rfl, _, _, _, _, _, rfl, .ty "tuple", tvT, kT, true, rfl, iteF ?_⟩
          refine ⟨_, rfl, _, 2 + rest.length, rfl, .inr ⟨_, h1, hN.symm⟩, (by show 2 ≤ sizeLine; decide), fun p1 hp1 => ⟨p1, _, rfl, .inr (SqT.of upd_same), rfl, rfl, _, rfl, ?_⟩⟩
          dsimp only
          rw [if_pos rfl, hin]
          have x1 : Ext H (upd H p1 (.tup [.int 2, .int 3])) := .new hp1
          generalize upd H p1 (.tup [.int 2, .int 3]) = H1 at x1 ⊢
          refine iteF ⟨_, rfl, a, _, _, _, rfl, rfl, x1.sqT h1, atI_nat (j := 0) rfl, _, _, _, _, _, rfl, .ty "str", (tyX_dp (Dp.str (K := K) (H := H1) wd)).1, kS, true, rfl, iteF ?_⟩
          refine ⟨_, rfl, a, _, _, _, rfl, rfl, x1.sqT h1, atI_nat (j := 0) rfl, _, rfl, a, _, _, _, rfl, rfl, x1.sqT h1, atI_nat (j := 1) rfl, (by show 2 ≤ sizeLine; decide), fun q2 hq2 => ⟨q2, _, rfl, SqT.of upd_same, rfl, _, _, rfl, _, _, rfl, rfl, ?_⟩⟩
          have x2 : Ext H (upd H1 q2 (.tup [.str wd, .int i])) := x1.trans (.new hq2)
          generalize upd H1 q2 (.tup [.str wd, .int i]) = H2 at x2 ⊢
          dsimp only [gName, tSeq, List.set, L2.start, List.map, List.replicate, List.append, List.length]
          have eow : ∀ y : String, decide (V.str wd = V.str (Str.ofString y)) = decide (wd = Str.ofString y) := fun y => decide_eq_decide.mpr ⟨fun q => by injection q, fun q => by rw [q]⟩
          have hinw : inV (.str wd) [.str (Str.ofString "over"), .str (Str.ofString "shut")] = (decide (wd = Str.ofString "over") || decide (wd = Str.ofString "shut")) := by
            simp [inV, eqV]
            rw [Bool.eq_iff_iff]
            simp only [Bool.or_eq_true, beq_iff_eq, decide_eq_true_eq]
            exact or_congr eq_comm eq_comm
          refine ⟨_, rfl, _, 2 + rest.length, rfl, .inr ⟨_, x2.sqT h1, hN.symm⟩, rfl, _, rfl, ?_⟩
          match rest, hrl, hN, hc, hdp, h2 with
          | [], _, hN, hc, hdp, h2 =>
            rw [casesB_word] at hc
            have hgl := g.len
            rw [decide_eq_true (p := V.int ((2 + ([] : List PyData).length : Nat) : Int) = V.int 2) rfl]
            refine iteT ⟨_, rfl, (by show 2 ≤ sizeLine; decide), fun p3 hp3 => ⟨p3, _, rfl, .inr (SqT.of upd_same), rfl, rfl, _, rfl, ?_⟩⟩
            dsimp only
            rw [if_neg Bool.false_ne_true, hinw]
            have x3 : Ext H (upd H2 p3 (.tup [.str (Str.ofString "over"), .str (Str.ofString "shut")])) := x2.trans (.new hp3)
            generalize upd H2 p3 (.tup [.str (Str.ofString "over"), .str (Str.ofString "shut")]) = H3 at x3 ⊢
            cases ew : (decide (wd = Str.ofString "over") || decide (wd = Str.ofString "shut")) with
            | true =>
              refine iteT ?_
              obtain ⟨k, rfl, hk, hwk⟩ : ∃ k : Nat, i = (k : Int) ∧ k < hs.length ∧ ((wd = Str.ofString "over" ∧ overB ss st k = true) ∨ (wd = Str.ofString "shut" ∧ shutSB bs hs ss st k = true)) := by
                simp only [Bool.or_eq_true, Bool.and_eq_true, decide_eq_true_eq] at hc ew
                rcases hc with ⟨h1, ⟨h2, h3⟩, h4⟩ | ⟨h1, ⟨h2, h3⟩, h4⟩ | ⟨h1, _⟩
                · exact ⟨i.toNat, by omega, by omega, .inl ⟨h1, h4⟩⟩
                · exact ⟨i.toNat, by omega, by omega, .inr ⟨h1, h4⟩⟩
                · rw [h1] at ew
                  exact absurd ew (by decide)
              refine ⟨_, rfl, _, rfl, _, hs.length, rfl, .inr ⟨_, x3.sqT ht, (vsN_len hs).symm⟩, _, _, rfl, by omega, by omega, _, rfl, iteF ?_⟩
              refine ⟨_, rfl, _, st.length, rfl, .inl ⟨_, SqL.of (x3.lst hso), by rw [List.length_map]⟩, _, rfl, by omega, by omega, fun D hD => ?_⟩
              refine lc_range (lo := 0) (n := (st.length : Int).toNat) (fun c H8 => H8 D = some (.lst (vsN ((List.range c).filter fun p => decide (st.getD p none = some k)))) ∧ Ext H3 H8) ⟨upd_same, .new hD⟩ (fun c H8 hcc ⟨e8, x8⟩ => ?_) (fun H8 ⟨e8, x8⟩ => ?_)
              · rw [Int.toNat_natCast] at hcc
                rw [Int.zero_add]
                have hcv : (stL st)[c]? = some (stV st[c]) := by rw [List.getElem?_map, List.getElem?_eq_getElem hcc]; rfl
                have egd : st.getD c none = st[c] := by rw [List.getD_eq_getElem?_getD, List.getElem?_eq_getElem hcc]; rfl
                refine ⟨rfl, _, rfl, _, rfl, so, _, _, _, rfl, rfl, SqL.of ((x3.trans x8).lst hso), atI_nat hcv, _, rfl, scal_stV _ _, _, rfl, ?_⟩
                rw [stV_eq, List.range_succ, List.filter_append]
                by_cases hoc : st[c] = some k
                · rw [decide_eq_true hoc, List.filter_cons_of_pos (by rw [egd]; simpa using hoc)]
                  refine iteT ⟨_, rfl, _, e8, ?_, ?_, x8.write hD⟩
                  · have := List.length_filter_le (fun p => decide (st.getD p none = some k)) (List.range c)
                    rw [List.length_range] at this
                    rw [vsN_len]
                    exact small1000 (by omega)
                  · rw [upd_same]
                    show some (HO.lst (List.map _ _ ++ _)) = some (HO.lst (List.map _ (_ ++ [c])))
                    rw [List.map_append]
                    rfl
                · rw [decide_eq_false hoc, List.filter_cons_of_neg (by rw [egd]; simpa using hoc)]
                  refine iteF ⟨?_, x8⟩
                  simpa using e8
              · rw [Int.toNat_natCast] at e8
                have e8 : H8 D = some (.lst (vsN (ownL st k))) := e8
                have x38 := x3.trans x8
                have ehk : hs.getD k 0 = hs[k] := by rw [List.getD_eq_getElem?_getD, List.getElem?_eq_getElem hk]; rfl
                have hhf : hs[k] ∈ frL st k := mem_frL.mpr ⟨by rw [hgl]; exact wo.lt _ (List.getElem_mem hk), .inl (by have := g.hd k hk; rwa [ehk] at this)⟩
                refine ⟨_, rfl, _, rfl, _, rfl, _, rfl, _, rfl, t, _, _, _, rfl, rfl, x38.sqT ht, atI_nat (vsN_at hk), l, so, fs, bs, st, k, hs[k], rfl, dp_ext x38 hl, ok, hgl, x38.lst hso, hhf, fun q fnd H9 x9 hq hfn hfx => ?_⟩
                have hks : k < ss.length := by rw [wo.len]; exact hk
                have hqD : H9 D = some (.lst (vsN (ownL st k))) := x9.lst e8
                refine ⟨(by show 2 ≤ sizeLine; decide), fun p4 hp4 => ⟨p4, _, rfl, SqT.of upd_same, rfl, _, _, rfl, _, _, rfl, rfl, ?_⟩⟩
                have x4 : Ext H9 (upd H9 p4 (.tup [.ref D, .ref q])) := .new hp4
                generalize upd H9 p4 (.tup [.ref D, .ref q]) = H10 at x4 ⊢
                have e10 := x4.lst hqD
                have h10 := x4.lst hq
                have x010 := x38.trans (x9.trans x4)
                dsimp only [gName, tSeq, List.set]
                refine ⟨_, rfl, rfl, _, rfl, ?_⟩
                have efl : fnd.length = (comeL bs st (hs.getD k 0) k).length := ((List.perm_ext_iff_of_nodup hfn ((comeL_asc ..).imp fun z => Nat.ne_of_lt z)).mpr fun x => by rw [hfx, mem_comeL, ehk]).length_eq
                have esk : ss.getD k 0 = ss[k] := by rw [List.getD_eq_getElem?_getD, List.getElem?_eq_getElem hks]; rfl
                rcases hwk with ⟨rfl, hov⟩ | ⟨rfl, hsh⟩
                · rw [decide_eq_true rfl]
                  refine iteT ⟨_, rfl, _, (ownL st k).length, rfl, .inl ⟨_, SqL.of e10, (vsN_len _).symm⟩, _, rfl, _, rfl, u, _, _, _, rfl, rfl, x010.sqT hu, atI_nat (vsN_at hks), _, _, rfl, rfl, ?_⟩
                  have hov : ss.getD k 0 < (ownL st k).length := of_decide_eq_true hov
                  rw [esk] at hov
                  have q' := kont H10 x010
                  rw [← decide_eq_true (p := ((ss[k] : Nat) : Int) < ((ownL st k).length : Int)) (by omega)] at q'
                  exact q'
                · rw [eow, decide_eq_false (by decide)]
                  refine iteF ⟨_, rfl, _, fnd.length, rfl, .inl ⟨_, SqL.of h10, (vsN_len _).symm⟩, _, rfl, _, rfl, u, _, _, _, rfl, rfl, x010.sqT hu, atI_nat (vsN_at hks), _, _, rfl, rfl, _, rfl, ?_⟩
                  cases el : decide ((fnd.length : Int) < ((ss[k] : Nat) : Int)) with
                  | true => exact iteT (kont H10 x010)
                  | false =>
                    refine iteF ⟨_, rfl, D, rfl, ⟨_, SqL.of e10⟩, fun D3 hD3 => ?_⟩
                    have hex : ∃ p ∈ ownL st k, p ∉ fnd := by
                      unfold shutSB at hsh
                      rw [Bool.or_eq_true, decide_eq_true_eq, List.any_eq_true] at hsh
                      rcases hsh with z | ⟨p, hp, z⟩
                      · rw [decide_eq_false_iff_not] at el
                        rw [esk, ← efl] at z
                        omega
                      · refine ⟨p, hp, fun m => ?_⟩
                        rw [hfx] at m
                        rw [ehk, comeB_iff.mpr m] at z
                        cases z
                    refine lc_list (K := K) (a := D) (xs := vsN (ownL st k)) (fun c H11 => H11 D3 = some (.lst (vsN (((ownL st k).take c).filter fun p => decide (p ∉ fnd)))) ∧ Ext H10 H11) ⟨upd_same, .new hD3⟩ (fun c H11 _ ⟨_, x11⟩ => SqL.of (x11.lst e10)) (fun c y H11 hy ⟨e11, x11⟩ => ?_) (fun H11 ⟨e11, x11⟩ => ?_)
                    · have hcl : c < (ownL st k).length := by
                        have := (List.getElem?_eq_some_iff.mp hy).1
                        rwa [vsN_len] at this
                      rw [vsN_at hcl] at hy
                      obtain rfl := (Option.some.inj hy).symm
                      refine ⟨rfl, _, rfl, _, rfl, q, vsN fnd, rfl, .inl (SqL.of (x11.lst h10)), rfl, flat_vsN fnd, _, rfl, ?_⟩
                      dsimp only
                      rw [if_pos rfl, inV_vsN, List.take_add_one, List.getElem?_eq_getElem hcl, Option.toList_some, List.filter_append]
                      by_cases hm : (ownL st k)[c] ∈ fnd
                      · rw [decide_eq_true hm, List.filter_cons_of_neg (by simpa using hm)]
                        refine iteF ⟨?_, x11⟩
                        simpa using e11
                      · rw [decide_eq_false hm, List.filter_cons_of_pos (by simpa using hm)]
                        refine iteT ⟨_, rfl, _, e11, ?_, ?_, x11.write hD3⟩
                        · have := List.length_filter_le (fun p => decide (p ∉ fnd)) ((ownL st k).take c)
                          rw [List.length_take] at this
                          have h3 := Mk.nodup_le 12 (ownL st k) ((own_asc st k).imp fun z => Nat.ne_of_lt z) fun x hx => by have := own_lt x hx; omega
                          rw [vsN_len]
                          exact small1000 (by omega)
                        · rw [upd_same]
                          show some (HO.lst (List.map _ _ ++ _)) = some (HO.lst (List.map _ (_ ++ [_])))
                          rw [List.map_append]
                          rfl
                    · rw [vsN_len, List.take_length] at e11
                      refine ⟨Nat.zero_le _, fun z hz => ?_⟩
                      obtain ⟨d1, d2, g1, g2, g3, g4, g5⟩ := nil_ne (K := K) _ ((Ext.new hz (o := .lst [])).lst e11) upd_same
                      refine ⟨d1, d2, g1, g2, g3, g4, ?_⟩
                      rw [g5]
                      obtain ⟨p, hp, hpn⟩ := hex
                      have hne : (((ownL st k).filter fun p => decide (p ∉ fnd)).isEmpty) = false := by
                        cases e : (ownL st k).filter fun p => decide (p ∉ fnd) with
                        | nil =>
                          have := List.filter_eq_nil_iff.mp e p hp
                          exact absurd (decide_eq_true hpn) this
                        | cons _ _ => rfl
                      rw [hne]
                      exact kont _ (x010.trans (x11.trans (.new hz)))
            | false =>
              refine iteF ?_
              obtain ⟨p, rfl, hwd, hpl, hpf, hno⟩ : ∃ p : Nat, i = (p : Int) ∧ wd = Str.ofString "lost" ∧ p < st.length ∧ st.getD p none = none ∧ ∀ k, k < hs.length → ¬ Mk.Conn bs (· ∈ frL st k) (hs.getD k 0) p := by
                simp only [Bool.or_eq_true, Bool.and_eq_true, decide_eq_true_eq] at hc
                rw [Bool.or_eq_false_iff, decide_eq_false_iff_not, decide_eq_false_iff_not] at ew
                rcases hc with ⟨h1, _⟩ | ⟨h1, _⟩ | ⟨h1, h2, h3⟩
                · exact absurd h1 ew.1
                · exact absurd h1 ew.2
                · unfold lostB at h3
                  rw [Bool.and_eq_true, decide_eq_true_eq, List.all_eq_true] at h3
                  refine ⟨i.toNat, by omega, h1, h3.1.1, h3.1.2, fun k hk c => ?_⟩
                  have := h3.2 k (List.mem_range.mpr hk)
                  rw [comeB_iff.mpr c] at this
                  cases this
              subst hwd
              have hcv : (stL st)[p]? = some (stV st[p]) := by rw [List.getElem?_map, List.getElem?_eq_getElem hpl]; rfl
              have egd : st[p] = none := by rw [List.getD_eq_getElem?_getD, List.getElem?_eq_getElem hpl] at hpf; exact hpf
              refine ⟨_, rfl, _, rfl, _, st.length, rfl, .inl ⟨_, SqL.of (x3.lst hso), by rw [List.length_map]⟩, _, _, rfl, by omega, by omega, _, rfl, iteF ?_⟩
              refine ⟨_, rfl, _, rfl, so, _, _, _, rfl, rfl, SqL.of (x3.lst hso), atI_nat hcv, rfl, _, rfl, ?_⟩
              rw [egd, show (!decide (stV none = V.non)) = false from by simp [stV]]
              refine iteF ?_
              refine ⟨_, rfl, _, 2 + ([] : List PyData).length, rfl, .inr ⟨_, x3.sqT h1, hN.symm⟩, rfl, _, rfl, ?_⟩
              rw [decide_eq_true (p := V.int ((2 + ([] : List PyData).length : Nat) : Int) = V.int 2) rfl]
              refine iteT ⟨_, rfl, rfl, _, rfl, ?_⟩
              rw [decide_eq_true rfl]
              refine iteT ⟨_, rfl, _, hs.length, rfl, .inr ⟨_, x3.sqT ht, (vsN_len hs).symm⟩, _, rfl, by have := wo.most; omega, by have := wo.most; omega, fun D hD => ?_⟩
              refine lc_range (lo := 0) (n := (hs.length : Int).toNat) (fun c H8 => H8 D = some (.lst []) ∧ Ext H3 H8) ⟨upd_same, .new hD⟩ (fun c H8 hcc ⟨e8, x8⟩ => ?_) (fun H8 ⟨e8, x8⟩ => ?_)
              · rw [Int.toNat_natCast] at hcc
                rw [Int.zero_add]
                have ehk : hs.getD c 0 = hs[c] := by rw [List.getD_eq_getElem?_getD, List.getElem?_eq_getElem hcc]; rfl
                have hhf : hs[c] ∈ frL st c := mem_frL.mpr ⟨by rw [hgl]; exact wo.lt _ (List.getElem_mem hcc), .inl (by have := g.hd c hcc; rwa [ehk] at this)⟩
                have x38 := x3.trans x8
                refine ⟨rfl, _, rfl, _, rfl, _, rfl, _, rfl, _, rfl, _, rfl, t, _, _, _, rfl, rfl, x38.sqT ht, atI_nat (vsN_at hcc), l, so, fs, bs, st, c, hs[c], rfl, dp_ext x38 hl, ok, hgl, x38.lst hso, hhf, fun q fnd H9 x9 hq hfn hfx => ⟨q, vsN fnd, rfl, .inl (SqL.of hq), rfl, flat_vsN fnd, _, rfl, ?_⟩⟩
                dsimp only
                have hpn : p ∉ fnd := fun m => hno c hcc (by rw [ehk]; exact (hfx p).mp m)
                rw [if_neg Bool.false_ne_true, inV_vsN, decide_eq_false hpn]
                exact iteF ⟨x9.lst e8, x8.trans x9⟩
              · refine ⟨Nat.zero_le _, fun z hz => ?_⟩
                obtain ⟨d1, d2, g1, g2, g3, g4, g5⟩ := nil_ne (K := K) (D := D) [] ((Ext.new hz (o := .lst [])).lst e8) upd_same
                refine ⟨d1, d2, g1, g2, g3, g4, ?_⟩
                rw [show PyData.eqv d1 d2 = true by
                  cases e : PyData.eqv d1 d2 with
                  | true => rfl
                  | false => rw [e] at g5; cases g5]
                exact kont _ (x3.trans (x8.trans (.new hz)))
          | [rw'], _, hN, hc, hdp, h2 =>
            have hgl := g.len
            rcases casesB_inv hc with ⟨_, _, e⟩ | ⟨_, _, rows, e⟩
            · cases e
            · cases e
              rw [casesB_split] at hc
              simp only [Bool.and_eq_true, decide_eq_true_eq] at hc
              obtain ⟨hwd, ⟨hi0, hil, hif⟩, hrl, hall⟩ := hc
              subst hwd
              obtain ⟨p, rfl⟩ : ∃ p : Nat, i = (p : Int) := ⟨i.toNat, by omega⟩
              rw [Int.toNat_natCast] at hil hif hall
              have hcv : (stL st)[p]? = some (stV st[p]) := by rw [List.getElem?_map, List.getElem?_eq_getElem hil]; rfl
              have egd : st[p] = none := by rw [List.getD_eq_getElem?_getD, List.getElem?_eq_getElem hil] at hif; exact hif
              have e23 : decide (V.int ((2 + ([PyData.tuple rows] : List PyData).length : Nat) : Int) = V.int 2) = false := decide_eq_false fun z => by
                injection z with z
                rw [List.length_singleton] at z
                omega
              rw [e23]
              refine iteF (iteF ?_)
              refine ⟨_, rfl, _, rfl, _, st.length, rfl, .inl ⟨_, SqL.of (x2.lst hso), by rw [List.length_map]⟩, _, _, rfl, by omega, by omega, _, rfl, iteF ?_⟩
              refine ⟨_, rfl, _, rfl, so, _, _, _, rfl, rfl, SqL.of (x2.lst hso), atI_nat hcv, rfl, _, rfl, ?_⟩
              rw [egd, show (!decide (stV none = V.non)) = false from by simp [stV]]
              refine iteF ?_
              refine ⟨_, rfl, _, 2 + ([PyData.tuple rows] : List PyData).length, rfl, .inr ⟨_, x2.sqT h1, hN.symm⟩, rfl, _, rfl, ?_⟩
              rw [e23]
              obtain ⟨vw, rfl⟩ : ∃ y, vr = [y] := by
                match vr, hvr with
                | [y], _ => exact ⟨y, rfl⟩
              have hvw : Dp K H vw (.tuple rows) := by cases h2 with | cons a _ => exact a
              obtain ⟨a2, ys, rfl, g1, g2⟩ : ∃ a2 ys, vw = .ref a2 ∧ SqT K H a2 ys ∧ DpAll K H ys rows := by
                cases hvw with
                | tup a b => exact ⟨_, _, rfl, a, b⟩
              have hrl2 := dpAll_len g2
              refine iteF ⟨_, rfl, rfl, _, rfl, ?_⟩
              rw [show (!decide (V.str (Str.ofString "split") = V.str (Str.ofString "split"))) = false by rw [decide_eq_true rfl]; rfl]
              refine iteF ⟨_, rfl, a, _, _, _, rfl, rfl, x2.sqT h1, atI_nat (j := 2) rfl, _, _, _, _, _, rfl, .ty "tuple", (tyX_dp (dp_ext x2 hvw)).1, kT, true, rfl, iteF ⟨_, rfl, a, _, _, _, rfl, rfl, x2.sqT h1, atI_nat (j := 2) rfl, _, rows.length, rfl, .inr ⟨_, x2.sqT g1, hrl2.symm⟩, _, rfl, _, hs.length, rfl, .inr ⟨_, x2.sqT ht, (vsN_len hs).symm⟩, rfl, _, rfl, ?_⟩⟩
              rw [show (!decide (V.int (rows.length : Int) = V.int (hs.length : Int))) = false by rw [hrl]; simp]
              refine iteF ?_
              have hm4 := wo.most
              refine ⟨_, rfl, _, hs.length, rfl, .inr ⟨_, x2.sqT ht, (vsN_len hs).symm⟩, _, rfl, by omega, by omega, for_range (lo := 0) (n := (hs.length : Int).toNat) (fun j σ H8 => ∃ (o10 : Option V), σ = [some l, some (.ref t), some (.ref u), some (.ref so), some (.ref a), some (.str (Str.ofString "split")), some (.int (p : Int)), none, none, none, o10] ∧ Ext H H8)
                ⟨_, rfl, x2⟩ ?_ ?_⟩
              · rintro j σ H8 hj ⟨o10, rfl, x8⟩
                rw [Int.toNat_natCast] at hj
                rw [Int.zero_add]
                dsimp only [gName, tSeq, List.set]
                have hjr : j < rows.length := by omega
                obtain ⟨wv, hwv, hdw⟩ := dpAll_get g2 (List.getElem?_eq_getElem hjr)
                have hcj := casesAll_get hall j rows[j] (List.getElem?_eq_getElem hjr)
                rw [Nat.zero_add] at hcj
                have hdr : (rows[j]).depth < 2 * r := by
                  simp only [PyData.depthAll, PyData.depth] at hdp
                  have := depth_get (ds := rows) (n := 2 * r - 1) (by omega) _ (List.getElem_mem hjr)
                  omega
                have hso8 := x8.lst hso
                refine ⟨_, rfl, _, rfl, _, rfl, _, rfl, _, rfl, _, rfl, so, _, rfl, SqL.of hso8, fun p1 hp1 => ⟨_, rfl, by show 1 ≤ sizeLine; decide, fun p2 hp2 => ⟨p1, p2, _, _, rfl, rfl, (Ext.new hp2).lst upd_same, upd_same, ?_, fun p3 hp3 => ?_⟩⟩⟩
                · rw [cut_toV, List.length_take, List.length_map]
                  show _ + 1 ≤ _
                  exact Nat.le_of_lt (small1000 (by omega))
                rw [cut_toV] at hp2 hp3 ⊢
                have y1 : Ext H8 (upd H8 p1 (.lst ((stL st).take p))) := .new hp1
                have y2 := y1.trans (.new (o := .lst [.int (j : Int)]) hp2)
                have y3 := y2.trans (.new (o := .lst ((stL st).take p ++ [.int (j : Int)])) hp3)
                have hp3e : (upd (upd (upd H8 p1 (.lst ((stL st).take p))) p2 (.lst [.int (j : Int)])) p3 (.lst ((stL st).take p ++ [.int (j : Int)]))) p3 = some (.lst ((stL st).take p ++ [.int (j : Int)])) := upd_same
                generalize upd (upd (upd H8 p1 (.lst ((stL st).take p))) p2 (.lst [.int (j : Int)])) p3 (.lst ((stL st).take p ++ [.int (j : Int)])) = H9 at y3 hp3e ⊢
                have ep1 : (p : Int) + 1 = ((p + 1 : Nat) : Int) := by omega
                refine ⟨_, rfl, _, rfl, _, _, rfl, rfl, _, rfl, so, _, rfl, SqL.of (y3.lst hso8), fun p4 hp4 => ⟨p3, p4, _, _, rfl, rfl, (Ext.new hp4).lst hp3e, upd_same, ?_, fun p5 hp5 => ?_⟩⟩
                · rw [ep1, cut_fromV, List.length_append, List.length_take, List.length_drop, List.length_map, List.length_singleton]
                  exact Nat.le_of_lt (small1000 (by omega))
                dsimp only
                rw [ep1, cut_fromV] at hp5 ⊢
                rw [set_cut (by omega)]
                have y4 := y3.trans (.new (o := .lst ((stL st).drop (p + 1))) hp4)
                have y5 := y4.trans (.new (o := .lst (stL (st.set p (some j)))) hp5)
                have hp5e : (upd (upd H9 p4 (.lst ((stL st).drop (p + 1)))) p5 (.lst (stL (st.set p (some j))))) p5 = some (.lst (stL (st.set p (some j)))) := upd_same
                generalize upd (upd H9 p4 (.lst ((stL st).drop (p + 1)))) p5 (.lst (stL (st.set p (some j)))) = H10 at y5 hp5e ⊢
                have z10 := x8.trans y5
                refine ⟨_, rfl, a, _, _, _, rfl, rfl, z10.sqT h1, atI_nat (j := 2) rfl, _, rfl, a2, _, _, _, rfl, rfl, z10.sqT g1, atI_nat hwv, l, wv, t, u, p5, fs, bs, hs, ss, st.set p (some j), rows[j], rfl, dp_ext z10 hl, ok, z10.sqT ht, z10.sqT hu, wo, hp5e, g.set (by omega) hif hj, dp_ext z10 hdw, hcj, hdr, fun H11 x11 => ?_⟩
                exact ⟨_, rfl, iteF ⟨_, rfl, z10.trans x11⟩⟩
              · rintro σ H8 ⟨o10, rfl, x8⟩
                exact kont H8 x8
end
end Wd

set_option Elab.async false
set_option linter.all false
set_option maxRecDepth 100000
set_option maxHeartbeats 4000000
/-! Gd: the law's own def, run by the caller of laws, around whom nothing is being shown (repr asks that). -/
namespace Gd
open PySem PySem.Spec PyProof.Rows L2
/-- a promise of the law's def at its caller -/
def RunC (P : Program) (w : World) (K : PySem.W.Frag) (mg : Str → Option Value) (base : Heap) (f : Addr) (fd : FuncData) (x : Str) (sp : Sp) : Prop :=
  ∀ (s : Shared) (H : Hp) (u : Value) (v : V) (Q : VK), Env0 P w K mg base callerA [] s H → BindsTo s fd ⟨[u], []⟩ [(x, u)] → RelV v u → sp [v] H Q E0 →
    codeAny (model P w) callerA (.call (.ref f) ⟨[u], []⟩) (CR CX0 [] P w H s Q E0) s
section
variable {P : Program} {w : World} {K : PySem.W.Frag} {mg mb : Str → Option Value} {base : Heap}
theorem Fun.runC {x qual : Str} {st : Stmt} {f : Addr} {fd : FuncData} {N : List Str} {k : Nat} {y : Str} {sp : Sp} (F : Fun K x qual st f fd) (S : FnScope N [y] (defScope st)) (hk : Room (k + 1) callerA)
    (hbody : ∀ (cdv : Value) (s : Shared) (H : Hp) (v : V) (Q : VK), Room k (callerA.deeper (envOfC qual (defScope st) s.heap.objs.size f cdv)) → (callerA.deeper (envOfC qual (defScope st) s.heap.objs.size f cdv)).guards = some [] → sp [v] H Q E0 →
      ∃ t, PSs (cxOf CX0 P w K mg base N qual (defScope st) f cdv callerA [] s H E0).nox (defBody st) t ∧ t { nx := fun _ H' => Q .non H', rt := Q } (start N [v]) H) : RunC P w K mg base f fd y sp := by
  obtain ⟨oc, od, kV, doc, pm, an, cdv, ct, osl, rfl, lk, hcd⟩ := F.ex
  intro s H u v Q env bind rel promise
  have stays : ∀ b o, base.get? b = some o → s.heap.get? b = some o := fun b o e => (env.bs b o e).1
  have inK := env.mod.kin.keeps stays
  have kinds : ∀ z ∈ [(y, u)], (defScope st).names.lookup z.1 = some .local ∨ ((defScope st).names.lookup z.1 = some .cell ∧ ((cellsFrom (s.heap.objs.size + 1) (defScope st).names []).lookup z.1).isSome = true) := fun z hz => by
    rw [List.mem_singleton.mp hz]
    exact (S.par y List.mem_cons_self).elim .inl fun q => .inr ⟨q, PySem.W.cellsFrom_some _ _ _ (.inl q)⟩
  refine codeAny_call_function hk.depth (inK _ _ lk) rfl S.co S.gen rfl (PySem.W.codeRec_of inK hcd) (bind _ _ _ _ (wpAny_newFunctionEnv_cells S.kind kinds fun ev he s1 laid => ?_))
  subst he
  refine ⟨(env.mod.nolimit.keeps stays).keeps laid.toInCall.keep, codeAny_func ?_⟩
  obtain ⟨t, reads, holds⟩ := hbody cdv s H v Q (hk.deeper _) rfl promise
  have I : Inv (cxOf CX0 P w K mg base N qual (defScope st) f cdv callerA [] s H E0) [] (start N [v]) H s1 := inv_start S rfl env rfl (.cons rel .nil) laid
  refine wpAny_mono (reads.nox.run [] s1 (start N [v]) H _ I holds) (fun fl s' hs => ?_) fun _ _ z => z
  match fl, hs with
  | .ret _, ⟨_, _, _, J, r, q⟩ => exact ⟨_, _, J.os, J.bare, J.base, J.hok, r, q⟩
  | .next, ⟨_, H', J, q⟩ => exact (⟨V.non, H', J.os, J.bare, J.base, J.hok, rfl, q⟩ : CE [] P w H s Q Value.none s')
  | .brk, ⟨_, _, _, q⟩ => exact False.elim q
  | .cont, ⟨_, _, _, q⟩ => exact False.elim q

/-- the heap in which the tables and, if the written part lacks it, the script are followed -/
noncomputable def stage (K : PySem.W.Frag) (cs : List Addr) (a : Addr) (lo : Obj) (xs : List V) : Hp := fun b => open Classical in
  if b ∈ cs then some (.tbl #[]) else if b = a ∧ K.lookup a = none then some (.frz lo (.lst xs)) else none
theorem stage_tab {cs : List Addr} {a b : Addr} {lo : Obj} {xs : List V} (h : b ∈ cs) : stage K cs a lo xs b = some (.tbl #[]) := if_pos h
theorem stage_at {cs : List Addr} {a : Addr} {lo : Obj} {xs : List V} (h : a ∉ cs) (k : K.lookup a = none) : stage K cs a lo xs a = some (.frz lo (.lst xs)) := (if_neg h).trans (if_pos ⟨rfl, k⟩)
theorem stage_inv {cs : List Addr} {a b : Addr} {lo : Obj} {xs : List V} {u : HO} (h : stage K cs a lo xs b = some u) : (b ∈ cs ∧ u = .tbl #[]) ∨ (b ∉ cs ∧ b = a ∧ K.lookup a = none ∧ u = .frz lo (.lst xs)) := by
  unfold stage at h
  split at h
  · next m => exact .inl ⟨m, (Option.some.inj h).symm⟩
  · next m =>
    split at h
    · next m2 => exact .inr ⟨m, m2.1, m2.2, (Option.some.inj h).symm⟩
    · cases h
theorem stage_off {cs : List Addr} {a b : Addr} {lo : Obj} {xs : List V} (h : b ∉ cs) (k : b ≠ a) : stage K cs a lo xs b = none := (if_neg h).trans (if_neg fun z => k z.1)
abbrev listOf (us : List Value) : Obj := { cls := .type "list", data := .seq us.toArray }
abbrev bareTab : Obj := { cls := .none, data := .fields #[] }
theorem law_run {fa a : Addr} {cs : List (Addr × Addr)} {fd : FuncData} {x : Str} {sp : Sp} {s : Shared} {us : List Value} {ns : List Int} (inK : K.In s.heap) (nsG : s.heap.Ns mainGlobals mg) (nsB : s.heap.Ns builtinsNs mb) (boot : ∀ y : Str, y ≠ "__name__" → mb y = bootBuiltins y) (lim : s.heap.NoLimit)
    (gens : s.gens = #[]) (tabs : ∀ p ∈ cs, s.heap.get? p.2 = some bareTab) (tabK : ∀ p ∈ cs, K.lookup p.2 = none) (codes : ∀ p ∈ cs, PySem.W.CodeHd s.heap p.1 p.2)
    (bmod : ∃ (m : Addr) (o : Obj), mg "__builtins__" = some (.ref m) ∧ m ≠ builtinsNs ∧ s.heap.get? m = some o ∧ o.cls = .type "module" ∧ o.dict = some builtinsNs ∧ o.data = .plain)
    (list : s.heap.get? a = some (listOf us)) (cells : IntsAre us ns) (few : ns.length ≤ sizeLine)
    (F : ∀ base : Heap, K.In base → base.Ns mainGlobals mg → (∀ p ∈ cs, Gx.TabB base mg p.1 p.2) → RunC P w K mg base fa fd x sp) (bind : ∀ (s' : Shared) (u : Value), BindsTo s' fd ⟨[u], []⟩ [(x, u)])
    (promise : ∀ H : Hp, (∀ p ∈ cs, H p.2 = some (.tbl #[])) → SqL K H a (ns.map V.int) → sp [.ref a] H (fun v _ => v = .bl true) E0) :
    codeAny (model P w) callerA (.call (.ref fa) ⟨[.ref a], []⟩) (fun r s' => r = .ok (.ret (.bool true)) ∧ OldK s.heap s'.heap ∧ s'.os = s.os ∧ AllBare s'.gens) s := by
  have rv := vals_ints cells
  have lens := cells.length
  -- what is followed: a bare table or the list, no other kind of object
  obtain ⟨H, eH⟩ : ∃ H, H = stage K (cs.map (·.2)) a (listOf us) (ns.map V.int) := ⟨_, rfl⟩
  have tabOf : ∀ b ∈ cs.map (·.2), ∃ p ∈ cs, p.2 = b := fun b hb => let ⟨p, hp, e⟩ := List.mem_map.mp hb; ⟨p, hp, e⟩
  have tabAt : ∀ b ∈ cs.map (·.2), s.heap.get? b = some bareTab := fun b hb => let ⟨p, hp, e⟩ := tabOf b hb; e ▸ tabs p hp
  have aNot : a ∉ cs.map (·.2) := fun z => by
    have := (tabAt a z).symm.trans list
    simp only [Option.some.injEq, Obj.mk.injEq] at this
    cases this.1
  have at_ : ∀ {b : Addr} {u : HO}, H b = some u → (b ∈ cs.map (·.2) ∧ u = .tbl #[]) ∨ (b ∉ cs.map (·.2) ∧ b = a ∧ K.lookup a = none ∧ u = .frz (listOf us) (.lst (ns.map V.int))) := fun {b u} e => by rw [eH] at e; exact stage_inv e
  have free : ∀ {b : Addr} {o : Obj}, s.heap.get? b = some o → o.data ≠ .fields #[] → (∀ ys n, o.data ≠ .seq ys n) → H b = none := fun {b o} e d1 d2 => by
    cases q : H b with
    | none => rfl
    | some u =>
      rcases at_ q with ⟨m, _⟩ | ⟨_, rfl, _, _⟩
      · rw [tabAt b m] at e
        cases e
        exact absurd rfl d1
      · rw [list] at e
        cases e
        exact absurd rfl (d2 _ _)
  have names : ∀ {b : Addr} {m : Str → Option Value}, s.heap.Ns b m → (hidT s.heap H).Ns b m := fun {b m} ⟨o, es, ep, e, d, r⟩ => ⟨o, es, ep, hidT_get e (free e (by rw [d]; nofun) (by rw [d]; nofun)), d, r⟩
  have below : K.In (hidT s.heap H) := fun b o e => by
    refine hidT_get (inK b o e) ?_
    cases q : H b with
    | none => rfl
    | some u =>
      rcases at_ q with ⟨m, _⟩ | ⟨_, rfl, k, _⟩
      · obtain ⟨p, hp, rfl⟩ := tabOf b m
        rw [tabK p hp] at e
        cases e
      · rw [k] at e
        cases e
  have mod : L2.Mod K mg (hidT s.heap H) := by
    obtain ⟨m, l1, l2⟩ := lim
    exact ⟨below, names nsG, ⟨mb, names nsB, boot⟩, m, names l1, l2⟩
  have tb : ∀ p ∈ cs, Gx.TabB (hidT s.heap H) mg p.1 p.2 := fun p hp => by
    obtain ⟨o, ys, f1, f2, f3, f4, f5, f6, f7, c1, c2, c3, c4, rest⟩ := codes p hp
    obtain ⟨m, ob, b1, b2, b3, b4, b5, b6⟩ := bmod
    refine ⟨⟨o, ys, f1, f2, f3, f4, f5, f6, f7, hidT_get c1 (free c1 (fun z => ?_) (by rw [c3]; nofun)), c2, c3, c4, rest⟩, ⟨m, ob, b1, b2, fun z => ?_, fun z => ?_, hidT_get b3 (free b3 (by rw [b6]; nofun) (by rw [b6]; nofun)), b4, b5, b6⟩, fun z => ?_⟩
    · rw [c3] at z
      cases z
      simp at c4
    · obtain ⟨og, es, ep, e, d, _⟩ := nsG
      rw [← z, b3] at e
      cases e
      rw [b6] at d
      cases d
    · rw [z, tabs p hp] at b3
      cases b3
      cases b6
    · obtain ⟨og, es, ep, e, d, _⟩ := nsG
      rw [z, tabs p hp] at e
      cases e
      cases d
  have hok : HOk P w H s.heap := fun b u q => by
    rcases at_ q with ⟨m, rfl⟩ | ⟨_, rfl, _, rfl⟩
    · exact tabAt b m
    · exact ⟨list, by rw [List.length_map]; exact few, us, _, rv, list⟩
  have env : Env0 P w K mg (hidT s.heap H) callerA [] s H := ⟨rfl, mod, fun b o e => of_hidT e, Nat.le_of_eq (hidT_size _ _), trivial, (fun b z => nomatch z), hok, .of_eq gens⟩
  have script : SqL K H a (ns.map V.int) := by
    cases k : K.lookup a with
    | none => exact .inl (.inr ⟨listOf us, by rw [eH]; exact stage_at aNot k⟩)
    | some o =>
      have e := inK a o k
      rw [list] at e
      cases e
      exact .inr ⟨_, us.toArray, _, k, rfl, rfl, rfl, by rw [List.size_toArray, lens]; exact few, by simpa using rv⟩
  refine codeAny_mono (F _ below (names nsG) tb s H (.ref a) (.ref a) _ env (bind s _) rfl (promise H (fun p hp => by rw [eH]; exact stage_tab (List.mem_map.mpr ⟨p, hp, rfl⟩)) script)) fun r s' h => ?_
  match r, h with
  | .ok (.ret u), h =>
    obtain ⟨v, H', os, bare, un, hok', rel, rfl⟩ := (show CE [] P w H s (fun v _ => v = .bl true) u s' from h)
    obtain rfl : u = Value.bool true := rel
    have kept : ∀ b o, b ∉ cs.map (·.2) → s.heap.get? b = some o → s'.heap.get? b = some o := fun b o nb e => by
      cases q : H b with
      | none => exact un.keep b o e q (fun z => nomatch z) (fun z => nomatch z)
      | some u =>
        rcases at_ q with ⟨m, _⟩ | ⟨_, rfl, _, rfl⟩
        · exact absurd m nb
        · rw [list] at e
          rw [← e]
          exact (hok' _ _ (un.frzs _ _ _ q)).1
    have more : ∀ b ∈ cs.map (·.2), ∃ zs : Array Value, s'.heap.get? b = some { cls := .none, data := .fields zs } := fun b hb => by
      obtain ⟨zs, e⟩ := un.tbls b #[] (by rw [eH]; exact stage_tab hb)
      exact ⟨_, hok' b _ e⟩
    refine ⟨rfl, ⟨fun b o e => ?_, fun b o e => ?_⟩, os, bare⟩
    · by_cases hb : b ∈ cs.map (·.2)
      · obtain ⟨p, hp, rfl⟩ := tabOf b hb
        obtain ⟨zs, z⟩ := more _ hb
        have e2 := tabs p hp
        rw [e2] at e
        cases e
        exact .inr (.inl ⟨((codes p hp).tab e2).isCodeTable, rfl, #[], zs, rfl, by rw [Array.empty_append]; exact z⟩)
      · exact .inl (kept b o hb e)
    · by_cases hb : b ∈ cs.map (·.2)
      · obtain ⟨zs, z⟩ := more b hb
        exact ⟨_, z⟩
      · exact ⟨o, kept b o hb e⟩
  | .ok .next, h => exact False.elim h
  | .ok .brk, h => exact False.elim h
  | .ok .cont, h => exact False.elim h
  | .error e, h => exact False.elim h
end
/-- what the head has to say of the law's def -/
def LawC (l : PySem.W.OpenLaw) (w : World) (K : PySem.W.Frag) (n : Nat) (x : Str) (mg : Str → Option Value) (fa : Addr) (h : Heap) : Prop :=
  ∃ (fd : FuncData) (cs : List (Addr × Addr)) (sp : Sp), (∀ p ∈ cs, h.get? p.2 = some bareTab) ∧ (∀ p ∈ cs, K.lookup p.2 = none) ∧ (∀ p ∈ cs, PySem.W.CodeHd h p.1 p.2) ∧ (∀ (s : Shared) (u : Value), BindsTo s fd ⟨[u], []⟩ [(x, u)]) ∧
    (∀ (H : Hp) (a : Addr) (ns : List Int), ns.length ≤ n → (∀ p ∈ cs, H p.2 = some (.tbl #[])) → SqL K H a (ns.map V.int) → sp [.ref a] H (fun v _ => v = .bl true) E0) ∧
    ∀ base : Heap, K.In base → base.Ns mainGlobals mg → (∀ p ∈ cs, Gx.TabB base mg p.1 p.2) → RunC l.prog w K mg base fa fd x sp
theorem walk_C {l : PySem.W.OpenLaw} {n : Nat} {q : Program} {loose : List Str} {XP : (Str → Option Value) → Heap → Prop} {YP : World → Heap → Prop} {d : DefRec} {x : Str} (most : l.most = some n) (small : n ≤ sizeLine) (plain : d.params.defaults = [])
    (F : ∀ (w : World) (mg : Str → Option Value) (fa : Addr) (h : Heap), YP w h → h.Ns mainGlobals mg → mg d.name = some (.ref fa) → ∃ K : PySem.W.Frag, K.In h ∧ LawC l w K n x mg fa h) :
    PySem.W.WalkO q loose XP YP l.row.toRowW d [] (fun f vs => PySem.call f vs) := by
  refine Att.attach_callB most plain fun w _ s mg _ fa _ _ _ _ a us ns G Y _ _ _ named list cells len _ gens => ?_
  obtain ⟨K, inK, fd, cs, sp, t1, t2, t3, bind, promise, F'⟩ := F w mg fa _ Y G.T.g named
  exact law_run inK G.T.g G.T.b G.T.builtins G.T.nolimit gens t1 t2 t3 G.T.bmain list cells (Nat.le_trans len small) F' bind fun H t i => promise H a ns len t i
end Gd

set_option Elab.async false
set_option linter.all false
set_option maxRecDepth 100000
set_option maxHeartbeats 4000000
namespace Wd
open PySem PySem.Spec PyProof.Rows L2 Bx Gx

























































section
/-! ### a land's size as repr tells it -/
theorem rp_pair {i j : Nat} (hi : i < 100) (hj : j < 100) : Rp 1 82 (.tuple [.int (i : Int), .int (j : Int)]) := .tup (n := 0) (W := 40) (fun d hd => by
  simp only [List.mem_cons, List.not_mem_nil, or_false] at hd
  rcases hd with rfl | rfl
  · exact .int (by omega) (by omega)
  · exact .int (by omega) (by omega)) (Nat.le_refl _)
theorem rp_land {fs : List Int} {bs : List (Nat × Nat)} (ok : LandOk fs bs) : Rp 3 300000 (landD fs bs) := by
  have hl := bs_len ok.most ok.bord ok.asc
  have hm := ok.most
  refine .tup (n := 2) (W := 100000) (fun d hd => ?_) (by simp only [List.length_cons, List.length_nil]; omega)
  simp only [List.mem_cons, List.not_mem_nil, or_false] at hd
  rcases hd with rfl | rfl
  · refine (Rp.tup (n := 0) (W := 40) (V := 100000) (fun d hd => ?_) (by rw [List.length_map]; omega)).mono (by decide) (Nat.le_refl _)
    obtain ⟨i, hi, rfl⟩ := List.mem_map.mp hd
    obtain ⟨h1, h2⟩ := ok.folk i hi
    exact .int (by omega) (by omega)
  · refine Rp.tup (n := 1) (W := 82) (fun d hd => ?_) (by rw [List.length_map]; omega)
    obtain ⟨b, hb, rfl⟩ := List.mem_map.mp hd
    have := ok.bord b hb
    exact rp_pair (by omega) (by omega)
theorem shown_ne {x y : Str} (h : x = y) : (!decide (V.str x = V.str y)) = false := by rw [h, decide_eq_true rfl]; rfl
/-- a value laid in two lists of two, found equal -/
theorem alike_two {K : PySem.W.Frag} {H : Hp} {l1 l2 : Addr} {v1 v2 w1 w2 : V} {d : PyData} {Q : VK} {E : XK} (h1 : H l1 = some (.lst [v1, v2])) (h2 : H l2 = some (.lst [w1, w2])) (e1 : Dp K H v1 d) (e2 : Dp K H v2 d) (e3 : Dp K H w1 d) (e4 : Dp K H w2 d) (hs : Sh 3 d) (hm : smD d = true) (hd : d.depth ≤ 2)
    (k : ∀ H', Ext H H' → Q (.bl true) H') : spAlike K 4 [.ref l1, .ref l2] H Q E := by
  have g3 : Sh 4 (.list [d, d]) := .lst fun e he => by
    simp only [List.mem_cons, List.not_mem_nil, or_false, or_self] at he
    rw [he]; exact hs
  have g4 : smD (.list [d, d]) = true := by simp [smD, smDs, hm]
  have g5 : (PyData.list [d, d]).depth < 4 := by
    simp only [PyData.depth, PyData.depthAll]
    omega
  exact ⟨.ref l1, .ref l2, .list [d, d], rfl, .lst (SqL.of h1) (.cons e1 (.cons e2 .nil)), .lst (SqL.of h2) (.cons e3 (.cons e4 .nil)), g3.lay, g4, g5, k⟩
end
section
variable {P : Program} {w : World} {K : PySem.W.Frag} {mg : Str → Option Value} {base : Heap}
/-! ### the law -/
theorem noL_bord (bs : List (Nat × Nat)) : noL (bordD bs) = true := by
  show noLs _ = true
  exact noLs_map _ (fun _ => rfl) bs
theorem noL_land (fs : List Int) (bs : List (Nat × Nat)) : noL (landD fs bs) = true := by
  show (noL (.tuple (fs.map .int)) && (noL (bordD bs) && true)) = true
  rw [noL_bord]
  show (noLs _ && true) = true
  rw [noLs_map _ (fun _ => rfl) fs]
  rfl
theorem te_via {t : TE} {σ : L2.St} {H : Hp} {Q : VK} (Pz : V → Hp → Prop) (h2 : ∀ Q' : VK, (∀ v H', Pz v H' → Q' v H') → t σ H Q') (h1 : ∀ v H', Pz v H' → Q v H') : t σ H Q := h2 Q h1
theorem rp_lot {u : List Nat} (hl : u.length ≤ 12) (h : ∀ x ∈ u, x < 100) : Rp 1 100000 (lotD u) := .tup (n := 0) (W := 40) (fun d hd => by
  obtain ⟨x, hx, rfl⟩ := List.mem_map.mp hd
  have := h x hx
  exact .int (by omega) (by omega)) (by rw [List.length_map]; omega)
def wishD (fs : List Int) (bs : List (Nat × Nat)) (hs ss : List Nat) : PyData := .list [landD fs bs, lotD hs, lotD ss]
theorem rp_wish {fs : List Int} {bs : List (Nat × Nat)} {hs ss : List Nat} (ok : LandOk fs bs) (wo : WishOk fs.length hs ss) : Rp 4 1000000 (wishD fs bs hs ss) := by
  have hm := ok.most
  refine .lst (n := 3) (W := 300000) (fun d hd => ?_) (by show 3 * 300001 ≤ 1000000; decide)
  simp only [List.mem_cons, List.mem_nil_iff, or_false] at hd
  rcases hd with rfl | rfl | rfl
  · exact rp_land ok
  · exact (rp_lot (by have := wo.most; omega) fun x hx => by have := wo.lt x hx; omega).mono (by decide) (by decide)
  · exact (rp_lot (by have := wo.most; have := wo.len; omega) fun x hx => by have := le_sum hx; rw [wo.sum] at this; omega).mono (by decide) (by decide)
def spLaw (K : PySem.W.Frag) (ts : List Addr) : Sp := fun vs H Q _ => ∃ (a : Addr) (ns : List Int), vs = [.ref a] ∧ SqL K H a (ns.map V.int) ∧ ns.length ≤ 63 ∧ Tabs ts H ∧ ∀ H', Q (.bl true) H'
theorem same_two {H : Hp} {l1 l2 : Addr} {b : Bool} {Q : VK} {E : XK} (h1 : H l1 = some (.lst [.bl b, .bl b])) (h2 : H l2 = some (.lst [.bl b, .bl b])) (k : ∀ H', Ext H H' → Q (.bl true) H') : spSameW K 4 [.ref l1, .ref l2] H Q E :=
  ⟨.ref l1, .ref l2, .list [.bool b, .bool b], rfl, .lst (SqL.of h1) (.cons (.bl b) (.cons (.bl b) .nil)), .lst (SqL.of h2) (.cons (.bl b) (.cons (.bl b) .nil)), by simp [PyData.canLay0, PyData.canLayAll0], by simp [lgD, lgDs], by simp [PyData.depth, PyData.depthAll], k⟩
/-- a ward for each head: lots of few places -/
def FewL (us : List (List Nat)) : Prop := 0 < us.length ∧ us.length ≤ 4 ∧ ∀ u ∈ us, u.length ≤ 12 ∧ ∀ x ∈ u, x < 12
theorem few_val {m : Nat} {row : List (Option Nat)} (h0 : 0 < m) (h4 : m ≤ 4) (hr : row.length ≤ 12) : ∃ us, valD m row = .tuple (us.map lotD) ∧ FewL us := by
  refine ⟨(List.range m).map (ownL row), by unfold valD; rw [List.map_map]; rfl, by rw [List.length_map, List.length_range]; exact h0, by rw [List.length_map, List.length_range]; exact h4, fun u hu => ?_⟩
  obtain ⟨k, _, rfl⟩ := List.mem_map.mp hu
  refine ⟨Nat.le_trans (ownL_len _ _) hr, fun x hx => ?_⟩
  have := List.mem_range.mp (List.mem_filter.mp hx).1
  omega
theorem few_dat {us : List (List Nat)} (h : FewL us) : noL (.tuple (us.map lotD)) = true ∧ Sh 5 (.tuple (us.map lotD)) ∧ smD (.tuple (us.map lotD)) = true := by
  refine ⟨noLs_of fun d hd => ?_, .tup fun d hd => ?_, ?_⟩
  · obtain ⟨u, _, rfl⟩ := List.mem_map.mp hd; exact noL_lot _
  · obtain ⟨u, _, rfl⟩ := List.mem_map.mp hd; exact sh_lot 2 _
  · rw [smD, List.length_map, decide_eq_true (by have := h.2.1; omega)]
    exact smDs_of fun d hd => by obtain ⟨u, hu, rfl⟩ := List.mem_map.mp hd; exact smD_lot (by have := (h.2.2 u hu).1; omega)
theorem servL_few {n : Nat} {bs : List (Nat × Nat)} {hs ss : List Nat} (wo : WishOk n hs ss) (hn : n ≤ 12) : ∀ d ∈ servL n bs hs ss, ∃ us, d = .tuple (us.map lotD) ∧ FewL us := fun d hd => by
  obtain ⟨row, hr, rfl⟩ := List.mem_map.mp (List.mem_filter.mp hd).1
  have := rowsAt_all (ss := ss) _ (Nat.le_refl (freeL n hs).length) row hr
  exact few_val (by have := wo.few; omega) wo.most (by omega)
theorem servL_len {n : Nat} {bs : List (Nat × Nat)} {hs ss : List Nat} (wo : WishOk n hs ss) (hn : n ≤ 8) : (servL n bs hs ss).length ≤ 65536 := by
  have h1 := List.length_filter_le (servB n bs hs ss) ((rowsAt n hs ss (freeL n hs).length).map (valD hs.length))
  rw [List.length_map] at h1
  have h2 := rowsAt_len (ss := ss) (freeL n hs).length (Nat.le_refl _)
  have h3 := freeL_len wo.nd wo.lt
  have h4 : hs.length ^ (freeL n hs).length ≤ 65536 := Nat.le_trans (Nat.pow_le_pow_left wo.most _) (Nat.le_trans (Nat.pow_le_pow_right (by decide) (show (freeL n hs).length ≤ 8 by omega)) (by decide))
  exact Nat.le_trans h1 (Nat.le_trans h2 h4)
theorem serv_by {ts : List Addr} {l v : V} {t u : Addr} {fs : List Int} {bs : List (Nat × Nat)} {hs ss : List Nat} {d : PyData} {H : Hp} {Q : VK} {E : XK} (hl : Dp K H l (landD fs bs)) (ok : LandOk fs bs) (ht : SqT K H t (vsN hs)) (hu : SqT K H u (vsN ss)) (wo : WishOk fs.length hs ss) (hv : Dp K H v d) (hm : smD d = true) (hT : Tabs ts H) (k : ∀ H', Ext H H' → Q (.bl (servB fs.length bs hs ss d)) H') : spIsServing K ts [l, .ref t, .ref u, v] H Q E :=
  ⟨l, v, t, u, fs, bs, hs, ss, d, rfl, hl, ok, ht, hu, wo, hv, hm, hT, k⟩
theorem rows_ne {H : Hp} {r l6 : Addr} {rs : List V} {ds : List PyData} {Q : VK} (hr : H r = some (.lst rs)) (hrs : DpAll K H rs ds) (hfew : ∀ d ∈ ds, Sh 5 d) (hl6 : H l6 = none) (q : Q (.bl (!ds.isEmpty)) (upd H l6 (.lst []))) : rNeD K (.ref r) (.ref l6) (upd H l6 (.lst [])) Q := by
  refine ⟨.list ds, .list [], .lst (SqL.of ((Ext.new hl6).lst hr)) (dpAll_ext (.new hl6) hrs), .lst (SqL.of upd_same) .nil, (Sh.lst (n := 5) hfew).shaped (by decide), (Sh.lst (n := 0) (fun d hd => by cases hd)).shaped (by decide), ?_⟩
  rw [eqv_nil]
  exact q
theorem rows_eq {H : Hp} {r l6 : Addr} {rs : List V} {ds : List PyData} {Q : VK} (hr : H r = some (.lst rs)) (hrs : DpAll K H rs ds) (hfew : ∀ d ∈ ds, Sh 5 d) (hl6 : H l6 = none) (q : Q (.bl ds.isEmpty) (upd H l6 (.lst []))) : rEqD K (.ref r) (.ref l6) (upd H l6 (.lst [])) Q := by
  refine ⟨.list ds, .list [], .lst (SqL.of ((Ext.new hl6).lst hr)) (dpAll_ext (.new hl6) hrs), .lst (SqL.of upd_same) .nil, (Sh.lst (n := 5) hfew).shaped (by decide), (Sh.lst (n := 0) (fun d hd => by cases hd)).shaped (by decide), ?_⟩
  rw [eqv_nil]
  exact q
/-- what wished tells -/
def ToldOk (K : PySem.W.Frag) (H : Hp) (n : Nat) (bs : List (Nat × Nat)) (hs ss : List Nat) (a : Addr) : Prop :=
  (∃ v d, SqT K H a [.str (Str.ofString "yes"), v] ∧ Dp K H v d ∧ servB n bs hs ss d = true) ∨ ∃ v d, SqT K H a [.str (Str.ofString "no"), v] ∧ Dp K H v d ∧ casesB bs hs ss d (firstS n hs) = true ∧ d.depth ≤ 2 * n + 1
theorem ToldOk.ext {H H' : Hp} {n : Nat} {bs : List (Nat × Nat)} {hs ss : List Nat} {a : Addr} (h : ToldOk K H n bs hs ss a) (x : Ext H H') : ToldOk K H' n bs hs ss a := by
  rcases h with ⟨v, d, h1, h2, h3⟩ | ⟨v, d, h1, h2, h3⟩
  · exact .inl ⟨v, d, x.sqT h1, dp_ext x h2, h3⟩
  · exact .inr ⟨v, d, x.sqT h1, dp_ext x h2, h3⟩
abbrev tabsW (A1 A2 A3 A4 A5 A6 A7 A8 A9 A10 : Addr) : List Addr := [A1, A2, A3, A4, A5, A6, A7, A8, A9, A10]
section
variable {A1 A2 A3 A4 A5 A6 A7 A8 A9 A10 : Addr}
theorem wished_by {l : V} {t u : Addr} {fs : List Int} {bs : List (Nat × Nat)} {hs ss : List Nat} {H : Hp} {Q : VK} {E : XK} (hl : Dp K H l (landD fs bs)) (ok : LandOk fs bs) (ht : SqT K H t (vsN hs)) (hu : SqT K H u (vsN ss)) (wo : WishOk fs.length hs ss) (hT : Tabs (tabsW A1 A2 A3 A4 A5 A6 A7 A8 A9 A10) H) (k : ∀ (a : Addr) (H' : Hp), Ext H H' → ToldOk K H' fs.length bs hs ss a → Q (.ref a) H') : spWished K A1 A2 A6 A6 A6 A9 A10 [l, .ref t, .ref u] H Q E :=
  ⟨l, t, u, fs, bs, hs, ss, rfl, hl, ok, ht, hu, wo, hT A1 (by simp), hT A2 (by simp), hT A6 (by simp), hT A6 (by simp), hT A6 (by simp), hT A9 (by simp), hT A10 (by simp), fun a v d H' x h1 h2 h3 => k a H' x (.inl ⟨v, d, h1, h2, h3⟩), fun a v d H' x h1 h2 h3 h4 => k a H' x (.inr ⟨v, d, h1, h2, h3, h4⟩)⟩
theorem cases_by {l v : V} {t u : Addr} {fs : List Int} {bs : List (Nat × Nat)} {hs ss : List Nat} {d : PyData} {H : Hp} {Q : VK} {E : XK} (hl : Dp K H l (landD fs bs)) (ok : LandOk fs bs) (ht : SqT K H t (vsN hs)) (hu : SqT K H u (vsN ss)) (wo : WishOk fs.length hs ss) (hv : Dp K H v d) (hd : d.depth < 2 * 9) (hT : Tabs (tabsW A1 A2 A3 A4 A5 A6 A7 A8 A9 A10) H) (k : ∀ H', Ext H H' → Q (.bl (casesB bs hs ss d (firstS fs.length hs))) H') : spAreCases K A1 A2 A6 A7 A6 A8 A10 9 [l, .ref t, .ref u, v] H Q E :=
  ⟨l, v, t, u, fs, bs, hs, ss, d, rfl, hl, ok, ht, hu, wo, hv, hd, hT A1 (by simp), hT A2 (by simp), hT A6 (by simp), hT A7 (by simp), hT A6 (by simp), hT A8 (by simp), hT A10 (by simp), k⟩
end
theorem no_serv {n : Nat} {bs : List (Nat × Nat)} {hs ss : List Nat} {d : PyData} (wo : WishOk n hs ss) (h : casesB bs hs ss d (firstS n hs) = true) : servL n bs hs ss = [] := by
  cases e : servL n bs hs ss with
  | nil => rfl
  | cons d' _ =>
    have hs' := servL_true (d := d') (n := n) (bs := bs) (hs := hs) (ss := ss) (by rw [e]; simp)
    exfalso
    have : ∃ ds, d' = .tuple ds := by
      cases d' with
      | tuple ds => exact ⟨ds, rfl⟩
      | _ => cases hs'
    obtain ⟨ds, rfl⟩ := this
    have sv := svL_of wo hs'
    exact refute sv d.depth (Nat.le_refl _) (firstS_good wo.nd wo.lt) (first_within wo.lt sv) h
abbrev lawN : List Str := ["script", "cell", "well", "land", "turn", "heads", "sizes", "rows", "kept", "told", "judge"]
theorem sc_law : FnScope lawN ["script"] (defScope st_law) := ⟨rfl, rfl, rfl, by decide +kernel, rfl, by decide +kernel, by decide +kernel⟩
theorem ok_law {f A1 A2 A3 A4 A5 A6 A7 A8 A9 A10 : Addr} {fd : FuncData} (F : Fun K "law" "law" st_law f fd) (B : Bl mg) (hrp : mg "repr" = none) (hk : Room 60 callerA) (c__law_well : Cal P w K mg base 1 "_law_well" ["cell"] (spWell K)) (c__law_land : Cal P w K mg base 2 "_law_land" ["well", "least_many", "many"] (spLandW K))
    (c__law_wish : Cal P w K mg base 2 "_law_wish" ["well", "land", "most_heads"] (spWish K)) (c__law_servings : Cal P w K mg base 5 "_law_servings" ["land", "heads", "sizes"] (spServings K)) (c__law_is_serving : Cal P w K mg base 4 "_law_is_serving" ["land", "heads", "sizes", "value"] (spLServing K)) (c__law_first : Cal P w K mg base 1 "_law_first" ["land", "heads"] (spFirst K)) (c__law_are_cases : Cal P w K mg base 14 "_law_are_cases" ["land", "heads", "sizes", "state", "value"] (spLCases K 9))
    (c_wished : Cal P w K mg base 26 "wished" ["land", "heads", "sizes"] (spWished K A1 A2 A6 A6 A6 A9 A10)) (k_wished : CalK P w K mg base 26 "wished" ["land", "heads", "sizes"] ["sizes", "heads", "land"] rev3 (spWished K A1 A2 A6 A6 A6 A9 A10)) (c_is_serving : Cal P w K mg base 10 "is_serving" ["land", "heads", "sizes", "value"] (spIsServing K [A1, A2, A3, A4, A5, A6])) (c_are_cases : Cal P w K mg base 59 "are_cases" ["land", "heads", "sizes", "value"] (spAreCases K A1 A2 A6 A7 A6 A8 A10 9)) : Gd.RunC P w K mg base f fd "script" (spLaw K (tabsW A1 A2 A3 A4 A5 A6 A7 A8 A9 A10)) := by
  refine Gd.Fun.runC (k := 59) F sc_law hk (fun cdv s H v Q hr hgd h => ?_)
  obtain ⟨a, ns, ev, hS, hlen, hT, k⟩ := h
  obtain rfl : v = .ref a := by injection ev
  have nd := sc_law.nd
  have hsz : 1000000 ≤ sizeLine := by decide
  refine ⟨_, pss_cons (ps_for PassesOwn.never rfl (pi_list (pe_op op_cat (pe_lst (pa_cons pe_int (pa_cons (pe_op op_add (pe_op op_pow pe_int pe_int) (pe_op op_pow pe_int pe_int)) pa_nil))) (pe_slice sl_list (pv 0) po_none (po_some pe_int)))) (pg_name (i := 1) nd rfl (Or.inl rfl))
      (pss_cons (ps_set (i := 2) nd rfl (Or.inl rfl) (pe_cal c__law_well (hr.mono (by decide)) rfl (pa_cons (pv 1) pa_nil)))
      (pss_cons (ps_set (i := 3) nd rfl (Or.inl rfl) (pe_cal c__law_land (hr.mono (by decide)) rfl (pa_cons (pv 2) (pa_cons pe_int (pa_cons pe_int pa_nil)))))
      (pss_one (ps_for PassesOwn.never rfl (pi_range1 rfl B.range (pa_cons pe_int pa_nil)) (pg_name (i := 4) nd rfl (Or.inl rfl))
        (pss_cons (ps_asg (pe_cal c__law_wish (hr.mono (by decide)) rfl (pa_cons (pv 2) (pa_cons (pv 3) (pa_cons pe_int pa_nil)))) (pg_unl (by rfl) (pgs_cons (pg_name (i := 5) nd rfl (Or.inl rfl)) (pgs_cons (pg_name (i := 6) nd rfl (Or.inl rfl)) pgs_nil))))
        (pss_cons (ps_par (i := 7) (j := 8) (by rfl) nd rfl rfl (by decide) rfl rfl (pa_cons (pe_cal c__law_servings (hr.mono (by decide)) rfl (pa_cons (pv 3) (pa_cons (pv 5) (pa_cons (pv 6) pa_nil)))) (pa_cons (pe_callB (cr_reprD hgd hr.units) (by rfl) hrp (by decide +kernel) (pa_cons (pe_lst (pa_cons (pv 3) (pa_cons (pv 5) (pa_cons (pv 6) pa_nil)))) pa_nil)) pa_nil)) (by rfl))
        (pss_cons (ps_for PassesOwn.never rfl (pi_list (pe_lst (pa_cons (pe_cal c_wished (hr.mono (by decide)) rfl (pa_cons (pv 3) (pa_cons (pv 5) (pa_cons (pv 6) pa_nil)))) (pa_cons (pe_calK k_wished (hr.mono (by decide)) rfl (pk_cons (pv 6) (pk_cons (pv 5) (pk_cons (pv 3) pk_nil)))) pa_nil)))) (pg_name (i := 9) nd rfl (Or.inl rfl))
          (pss_cons (ps_if (PW.pt (pw_or (pt_not (pt_val (pe_callB call_isi (by rfl) B.isinstance (by decide +kernel) (pa_cons (pv 9) (pa_cons (pe_bltn rfl B.tuple (by decide +kernel) (v := .ty "tuple") rfl) pa_nil))) (by intro _; rfl))) (pw_or (pt_cmpR op_ne (pe_callB call_len (by rfl) B.len PySem.boot_len (pa_cons (pv 9) pa_nil)) pe_int (nomark _)) (pw_or1 (pt_cmpR op_ne (pe_ix ix_tup (pv 9) pe_int (fun _ _ => rfl)) (pe_ix ix_list (pe_lst (pa_cons pe_str (pa_cons pe_str pa_nil))) (pe_callTy call_int1 rfl B.int (by decide +kernel) (pa_cons (pe_cmpR (op_neD hr.units) (pv 7) (pe_lst pa_nil) (nomark _)) pa_nil)) (fun _ _ => rfl)) (nomark _)))))) (pss_one (ps_ret pe_bl)) pss_nil)
          (pss_cons (ps_if (PW.pt (pw_and (pt_cmpR (op_neD hr.units) (pv 7) (pe_lst pa_nil) (nomark _)) (pw_and1 (PW.pt (pw_or (pt_cmpR (op_notInD (u65 hr)) (pe_ix ix_tup (pv 9) pe_int (fun _ _ => rfl)) (pv 7) (by rfl)) (pw_or1 (pt_not (pt_val (pe_cal c__law_is_serving (hr.mono (by decide)) rfl (pa_cons (pv 3) (pa_cons (pv 5) (pa_cons (pv 6) (pa_cons (pe_ix ix_tup (pv 9) pe_int (fun _ _ => rfl)) pa_nil))))) (by intro _; rfl))))))))) (pss_one (ps_ret pe_bl)) pss_nil)
          (pss_cons (ps_if (PW.pt (pw_and (pt_cmpR (op_eqD hr.units) (pv 7) (pe_lst pa_nil) (nomark _)) (pw_and1 (pt_not (pt_val (pe_cal c__law_are_cases (hr.mono (by decide)) rfl (pa_cons (pv 3) (pa_cons (pv 5) (pa_cons (pv 6) (pa_cons (pe_cal c__law_first (hr.mono (by decide)) rfl (pa_cons (pv 3) (pa_cons (pv 5) pa_nil))) (pa_cons (pe_ix ix_tup (pv 9) pe_int (fun _ _ => rfl)) pa_nil)))))) (by intro _; rfl)))))) (pss_one (ps_ret pe_bl)) pss_nil)
          (pss_cons (ps_set (i := 10) nd rfl (Or.inl rfl) (pe_ifExp (pt_cmpR (op_neD hr.units) (pv 7) (pe_lst pa_nil) (nomark _)) (pe_cal c_is_serving (hr.mono (by decide)) rfl (pa_cons (pv 3) (pa_cons (pv 5) (pa_cons (pv 6) (pa_cons (pe_ix ix_tup (pv 9) pe_int (fun _ _ => rfl)) pa_nil))))) (pe_cal c_are_cases (hr.mono (by decide)) rfl (pa_cons (pv 3) (pa_cons (pv 5) (pa_cons (pv 6) (pa_cons (pe_ix ix_tup (pv 9) pe_int (fun _ _ => rfl)) pa_nil)))))))
          (pss_one (ps_if (pt_cmpR op_notBl (pv 10) pe_bl (nomark _)) (pss_one (ps_ret pe_bl)) pss_nil)))))))
        (pss_one (ps_if (pt_cmpR op_ne (pe_callB (cr_reprD hgd hr.units) (by rfl) hrp (by decide +kernel) (pa_cons (pe_lst (pa_cons (pv 3) (pa_cons (pv 5) (pa_cons (pv 6) pa_nil)))) pa_nil)) (pv 8) (nomark _)) (pss_one (ps_ret pe_bl)) pss_nil))))))))))
    (pss_one (ps_ret pe_bl)), ?_⟩
  refine ⟨_, _, rfl, rfl, ⟨by decide, by decide, by decide⟩, _, _, rfl, rfl, ⟨by decide, by decide, by decide⟩, _, _, rfl, rfl, by show 2 ≤ sizeLine; omega, fun l1 hl1 => ⟨_, rfl, _, rfl, a, _, rfl, (Ext.new hl1).sqL hS, fun l2 hl2 => ⟨l1, l2, _, _, rfl, rfl, (Ext.new hl2).lst upd_same, upd_same, ?_, fun l3 hl3 => ?_⟩⟩⟩
  · have := cutV_length (ns.map V.int) none (some 6)
    rw [List.length_map] at this
    show 2 + _ ≤ _
    omega
  have z3 := ((Ext.new hl1 (o := .lst [.int 2400, .int ((10 : Int) ^ Int.toNat 61 + 5 ^ Int.toNat 58)])).trans (.new (o := .lst (cutV (ns.map V.int) none (some 6))) hl2)).trans (.new (o := .lst ([.int 2400, .int ((10 : Int) ^ Int.toNat 61 + 5 ^ Int.toNat 58)] ++ cutV (ns.map V.int) none (some 6))) hl3)
  have cm : ∀ v ∈ ([.int 2400, .int ((10 : Int) ^ Int.toNat 61 + 5 ^ Int.toNat 58)] ++ cutV (ns.map V.int) none (some 6) : List V), ∃ c : Int, v = .int c := fun v hv => by
    rcases List.mem_append.mp hv with hv | hv
    · simp only [List.mem_cons, List.mem_nil_iff, or_false] at hv
      rcases hv with rfl | rfl
      · exact ⟨_, rfl⟩
      · exact ⟨_, rfl⟩
    · unfold cutV at hv
      obtain ⟨c, _, rfl⟩ := List.mem_map.mp (List.mem_of_mem_drop (List.mem_of_mem_take hv))
      exact ⟨c, rfl⟩
  have e3 : (upd (upd (upd H l1 (.lst [.int 2400, .int ((10 : Int) ^ Int.toNat 61 + 5 ^ Int.toNat 58)])) l2 (.lst (cutV (ns.map V.int) none (some 6)))) l3 (.lst ([.int 2400, .int ((10 : Int) ^ Int.toNat 61 + 5 ^ Int.toNat 58)] ++ cutV (ns.map V.int) none (some 6)))) l3 = some (.lst ([.int 2400, .int ((10 : Int) ^ Int.toNat 61 + 5 ^ Int.toNat 58)] ++ cutV (ns.map V.int) none (some 6))) := upd_same
  have hT3 := hT.ext z3
  generalize ([.int 2400, .int ((10 : Int) ^ Int.toNat 61 + 5 ^ Int.toNat 58)] ++ cutV (ns.map V.int) none (some 6) : List V) = cs at e3 cm hl3 hT3 z3 ⊢
  generalize upd (upd (upd H l1 (.lst [.int 2400, .int ((10 : Int) ^ Int.toNat 61 + 5 ^ Int.toNat 58)])) l2 (.lst (cutV (ns.map V.int) none (some 6)))) l3 (.lst cs) = H3 at e3 hT3 z3 ⊢
  clear z3 hl3 hl2 hl1 hT hS
  refine ⟨l3, rfl, ⟨_, SqL.of e3⟩, for_list (K := K) (a := l3) (xs := cs) (fun i σ H2 => ∃ o1 o2 o3 o4 o5 o6 o7 o8 o9 o10 : Option V, σ = [some (.ref a), o1, o2, o3, o4, o5, o6, o7, o8, o9, o10] ∧ H2 l3 = some (.lst cs) ∧ Tabs (tabsW A1 A2 A3 A4 A5 A6 A7 A8 A9 A10) H2)
    ⟨_, _, _, _, _, _, _, _, _, _, rfl, e3, hT3⟩ (fun i σ H2 _ ⟨_, _, _, _, _, _, _, _, _, _, _, e, _⟩ => SqL.of e) ?_ ?_⟩
  · clear e3 hT3 H3
    rintro i v σ H2 hv ⟨o1, o2, o3, o4, o5, o6, o7, o8, o9, o10, rfl, e2, hT2⟩
    obtain ⟨c, rfl⟩ := cm v (List.mem_of_getElem? hv)
    clear hv
    dsimp only [gName, tSeq, List.set]
    refine ⟨_, rfl, c, rfl, fun p H3 x3 hp0 W3 => ?_⟩
    dsimp only [gName, tSeq, List.set]
    have nl3 : l3 ∉ [p] := fun m => by rw [List.mem_singleton.mp m, hp0] at e2; cases e2
    refine ⟨_, rfl, 0, p, 2, 8, rfl, W3, by decide, by decide, by decide, by decide, fun ld fs bs H4 x4 W4 hld0 hld4 ok hf2 hf8 => ?_⟩
    dsimp only [gName, tSeq, List.set]
    have nlo := noL_land fs bs
    have x24 := (ExtS.of x3).trans x4
    have e4 := x24.lst nl3 e2
    have T4 : Tabs (tabsW A1 A2 A3 A4 A5 A6 A7 A8 A9 A10) H4 := fun Pt hPt => x24.tabs Pt (hT2 Pt hPt)
    clear x24 x4 x3 W3 hT2 e2 hld0 hp0
    refine ⟨_, rfl, by decide, by decide, for_range (lo := 0) (n := (3 : Int).toNat) (fun i σ H2 => ∃ o4 o5 o6 o7 o8 o9 o10 : Option V, σ = [some (.ref a), some (.int c), some (.ref p), some (.ref ld), o4, o5, o6, o7, o8, o9, o10] ∧ H2 l3 = some (.lst cs) ∧ Tabs (tabsW A1 A2 A3 A4 A5 A6 A7 A8 A9 A10) H2 ∧ Dp K H2 (.ref ld) (landD fs bs) ∧ WellAt (100 + 20 * i) H2 p)
      ⟨_, _, _, _, _, _, _, rfl, e4, T4, hld4, W4⟩ ?_ ?_⟩
    · clear e4 T4 hld4 W4
      rintro i σ H4 hi ⟨o4, o5, o6, o7, o8, o9, o10, rfl, e4, T4, hld4, W4⟩
      have hi3 : i < 3 := hi
      dsimp only [gName, tSeq, List.set]
      refine ⟨_, rfl, _, rfl, 100 + 20 * i, p, .ref ld, fs, bs, 4, rfl, W4, by omega, hld4, hf2, ok.most, by decide, by decide, fun q qh qs hs ss H5 x5 W5 hq0 hq hqh hqs wo hm4 => ⟨q, _, rfl, SqL.of hq, rfl, _, _, rfl, _, _, rfl, rfl, ?_⟩⟩
      have hld5 := dp_extS x5 nlo hld4
      have e5 := x5.lst nl3 e4
      have T5' : Tabs (tabsW A1 A2 A3 A4 A5 A6 A7 A8 A9 A10) H5 := fun Pt hPt => x5.tabs Pt (T4 Pt hPt)
      clear x5 W4 hld4 T4 e4 hq hq0
      dsimp only [gName, tSeq, List.set]
      refine ⟨_, rfl, _, rfl, _, rfl, .ref ld, qh, qs, fs, bs, hs, ss, rfl, hld5, ok, hf8, SqT.of hqh, SqT.of hqs, wo, fun r rs H6 x6 hr0 hr hrs => ?_⟩
      have rpw := rp_wish ok wo
      have dlot : ∀ {H' : Hp} {t : Addr} {u : List Nat}, SqT K H' t (vsN u) → Dp K H' (.ref t) (lotD u) := fun h => dp_lotT h
      refine ⟨_, rfl, _, rfl, _, rfl, by show 3 ≤ sizeLine; omega, fun l5 hl5 => ?_⟩
      have x67 : Ext H6 (upd H6 l5 (.lst [.ref ld, .ref qh, .ref qs])) := .new hl5
      have x57 := x6.trans x67
      have hld7 := dp_ext x57 hld5
      have hqh7 := x57.sqT (K := K) (SqT.of hqh)
      have hqs7 := x57.sqT (K := K) (SqT.of hqs)
      refine ⟨l5, wishD fs bs hs ss, rfl, .lst (SqL.of upd_same) (.cons hld7 (.cons (dlot hqh7) (.cons (dlot hqs7) .nil))), rpw.show_, rpw.dict, Nat.le_trans rpw.dep (by decide), rpw.len (by decide), _, _, rfl, ?_⟩
      have hr7 := x67.lst hr
      have hrs7 := dpAll_ext x67 hrs
      have W7 := W5.ext x57
      have e7 := x57.lst e5
      have T7' := T5'.ext x57
      generalize upd H6 l5 (.lst [.ref ld, .ref qh, .ref qs]) = H7 at hld7 hqh7 hqs7 hr7 hrs7 W7 e7 T7' ⊢
      clear x57 x67 x6 hl5 hr hrs hr0 hld5 hqh hqs W5 e5 T5'
      dsimp only [gName, tSeq, List.set, tAsg]
      have hfew := servL_few (bs := bs) (ss := ss) wo (by omega : fs.length ≤ 12)
      have hsh5 : ∀ d ∈ servL fs.length bs hs ss, Sh 5 d := fun d hd => by obtain ⟨us, rfl, hu⟩ := hfew d hd; exact (few_dat hu).2.1
      refine ⟨_, rfl, _, rfl, _, rfl, ?_⟩
      delta tNil
      refine wished_by hld7 ok hqh7 hqs7 wo T7' fun b1 H8 x8 t8 => ?_
      refine ⟨_, rfl, _, rfl, _, rfl, ?_⟩
      refine wished_by (dp_ext x8 hld7) ok (x8.sqT hqh7) (x8.sqT hqs7) wo (T7'.ext x8) fun b2 H9 x9 t9 => ?_
      have t8 := t8.ext x9
      have x79 := x8.trans x9
      refine ⟨by show 2 ≤ sizeLine; omega, fun la hla => ?_⟩
      have x10 : Ext H9 (upd H9 la (.lst [.ref b1, .ref b2])) := .new hla
      have ela : (upd H9 la (.lst [.ref b1, .ref b2])) la = some (.lst [.ref b1, .ref b2]) := upd_same
      have tall : ∀ v ∈ [V.ref b1, V.ref b2], ∃ b, v = .ref b ∧ ToldOk K (upd H9 la (.lst [.ref b1, .ref b2])) fs.length bs hs ss b := fun v hv => by
        simp only [List.mem_cons, List.mem_nil_iff, or_false] at hv
        rcases hv with rfl | rfl
        · exact ⟨_, rfl, t8.ext x10⟩
        · exact ⟨_, rfl, t9.ext x10⟩
      have x7a := x79.trans x10
      have hlda := dp_ext x7a hld7
      have hqha := x7a.sqT hqh7
      have hqsa := x7a.sqT hqs7
      have hra := x7a.lst hr7
      have hrsa := dpAll_ext x7a hrs7
      have Wa := W7.ext x7a
      have ea := x7a.lst e7
      have Ta := T7'.ext x7a
      generalize upd H9 la (.lst [.ref b1, .ref b2]) = Ha at x10 ela tall x7a hlda hqha hqsa hra hrsa Wa ea Ta ⊢
      generalize [V.ref b1, V.ref b2] = vb at ela tall
      clear hrs7
      refine ⟨la, rfl, ⟨_, SqL.of ela⟩, for_list (K := K) (a := la) (xs := vb) (fun j σ H10 => ∃ o9 o10 : Option V, σ = [some (.ref a), some (.int c), some (.ref p), some (.ref ld), some (.int ((0 : Int) + (i : Int))), some (.ref qh), some (.ref qs), some (.ref r), some (.str (wishD fs bs hs ss).shown), o9, o10] ∧ Ext Ha H10)
        ⟨_, _, rfl, .refl _⟩ (fun j σ H10 _ ⟨_, _, _, x⟩ => SqL.of (x.lst ela)) ?_ ?_⟩
      · rintro j y σ H10 hy ⟨o9', o10', rfl, x10⟩
        obtain ⟨b, rfl, tb⟩ := tall y (List.mem_of_getElem? hy)
        have tb := tb.ext x10
        dsimp only [gName, tSeq, List.set]
        have kT : PySem.W.kitOne K (.type "tuple") (.type "tuple") = some true := (kit_in "tuple" "tuple" (by simp) (by simp)).trans (by simp)
        have hld := dp_ext x10 hlda
        have hqh := x10.sqT hqha
        have hqs := x10.sqT hqsa
        have hr := x10.lst hra
        have hrs := dpAll_ext x10 hrsa
        have hT10 := Ta.ext x10
        rcases tb with ⟨vd, d, sq, hvd, hsv⟩ | ⟨vd, d, sq, hvd, hcs, hdd⟩
        · have hdm := servL_all wo hsv
          have hem : (servL fs.length bs hs ss).isEmpty = false := by
            cases e : servL fs.length bs hs ss with
            | nil => rw [e] at hdm; cases hdm
            | cons _ _ => rfl
          have hbd : Dp K H10 (.ref b) (.tuple [.str (Str.ofString "yes"), d]) := .tup sq (.cons (.str _) (.cons hvd .nil))
          refine ⟨_, rfl, _, _, _, _, _, rfl, .ty "tuple", (tyX_dp hbd).1, kT, true, rfl, iteF ?_⟩
          refine ⟨_, rfl, _, 2, rfl, .inr ⟨_, sq, rfl⟩, rfl, _, rfl, iteF ?_⟩
          refine ⟨_, rfl, b, _, _, _, rfl, rfl, sq, atI_nat (j := 0) rfl, (by show 2 ≤ sizeLine; omega), fun l2 hl2 => ⟨_, rfl, Nat.zero_le _, fun l6 hl6 => ?_⟩⟩
          have y2 : Ext H10 (upd H10 l2 (.lst [.str (Str.ofString "no"), .str (Str.ofString "yes")])) := .new hl2
          have el2 : (upd H10 l2 (.lst [.str (Str.ofString "no"), .str (Str.ofString "yes")])) l2 = some (.lst [.str (Str.ofString "no"), .str (Str.ofString "yes")]) := upd_same
          generalize upd H10 l2 (.lst [.str (Str.ofString "no"), .str (Str.ofString "yes")]) = H11 at y2 el2 hl6 ⊢
          refine rows_ne (y2.lst hr) (dpAll_ext y2 hrs) hsh5 hl6 (.inr ⟨_, rfl, ?_⟩)
          rw [hem]
          have y3 := y2.trans (.new hl6 (o := .lst []))
          have el3 := (Ext.new hl6 (o := .lst [])).lst el2
          generalize upd H11 l6 (.lst []) = H12 at y3 el3 ⊢
          refine ⟨l2, _, 1, _, rfl, rfl, SqL.of el3, atI_nat (j := 1) rfl, rfl, _, rfl, ?_⟩
          rw [decide_eq_true rfl]
          refine iteF ?_
          have hr12 := y3.lst hr
          have hrs12 := dpAll_ext y3 hrs
          refine ⟨_, rfl, Nat.zero_le _, fun l7 hl7 => ?_⟩
          refine rows_ne hr12 hrs12 hsh5 hl7 ⟨_, rfl, ?_⟩
          rw [hem]
          have y4 := y3.trans (.new hl7 (o := .lst []))
          generalize upd H12 l7 (.lst []) = H13 at y4 ⊢
          have hld13 := dp_ext y4 hld
          have hv13 := dp_ext y4 hvd
          obtain ⟨us, rfl, hu⟩ := hfew d hdm
          have hfd := few_dat hu
          have hany : ((servL fs.length bs hs ss).any fun z => PyData.eqv z (.tuple (us.map lotD))) = true := List.any_eq_true.mpr ⟨_, hdm, SeqAt.eqv_refl _ hfd.2.1.lay⟩
          refine iteT ⟨_, rfl, b, _, _, _, rfl, rfl, y4.sqT sq, atI_nat (j := 1) rfl, _, rfl, .tuple (us.map lotD), servL fs.length bs hs ss, hv13, .lst (SqL.of (y4.lst hr)) (dpAll_ext y4 hrs), hfd.2.1.shaped (by decide), (Sh.lst (n := 5) hsh5).shaped (by decide), _, rfl, ?_⟩
          rw [hany]
          refine iteF ⟨_, rfl, _, rfl, _, rfl, _, rfl, b, _, _, _, rfl, rfl, y4.sqT sq, atI_nat (j := 1) rfl, .ref ld, vd, qh, qs, fs, bs, hs, ss, .tuple (us.map lotD), rfl, hld13, ok, y4.sqT hqh, y4.sqT hqs, wo, hv13, hfd.2.2, ⟨hfd.2.1.lay, Nat.le_trans hfd.2.1.dep (by decide)⟩, fun H14 x14 => ⟨_, rfl, ?_⟩⟩
          rw [hsv]
          refine iteF ?_
          have y5 := y4.trans x14
          refine ⟨_, rfl, Nat.zero_le _, fun l8 hl8 => ?_⟩
          refine rows_eq (y5.lst hr) (dpAll_ext y5 hrs) hsh5 hl8 ⟨_, rfl, ?_⟩
          rw [hem]
          refine iteF (iteF ?_)
          have y6 := y5.trans (.new hl8 (o := .lst []))
          generalize upd H14 l8 (.lst []) = H15 at y6 ⊢
          refine ⟨_, rfl, Nat.zero_le _, fun l9 hl9 => ?_⟩
          refine rows_ne (y6.lst hr) (dpAll_ext y6 hrs) hsh5 hl9 ⟨_, rfl, ?_⟩
          rw [hem]
          have y7 := y6.trans (.new hl9 (o := .lst []))
          generalize upd H15 l9 (.lst []) = H16 at y7 ⊢
          refine iteT ⟨_, rfl, _, rfl, _, rfl, _, rfl, b, _, _, _, rfl, rfl, y7.sqT sq, atI_nat (j := 1) rfl, ?_⟩
          refine serv_by (d := .tuple (us.map lotD)) (v := vd) (dp_ext y7 hld) ok (y7.sqT hqh) (y7.sqT hqs) wo (dp_ext y7 hvd) hfd.2.2 (fun P hP => y7.tabs _ (hT10 P (List.mem_of_mem_take (i := 6) hP))) fun H17 x17 => ?_
          rw [hsv]
          dsimp only [gName, tSeq, List.set]
          refine ⟨_, rfl, true, true, rfl, rfl, _, rfl, iteF ?_⟩
          exact ⟨_, _, rfl, x10.trans (y7.trans x17)⟩
        · have hdm := no_serv wo hcs
          have hem : (servL fs.length bs hs ss).isEmpty = true := by
            rw [hdm]; rfl
          have hbd : Dp K H10 (.ref b) (.tuple [.str (Str.ofString "no"), d]) := .tup sq (.cons (.str _) (.cons hvd .nil))
          refine ⟨_, rfl, _, _, _, _, _, rfl, .ty "tuple", (tyX_dp hbd).1, kT, true, rfl, iteF ?_⟩
          refine ⟨_, rfl, _, 2, rfl, .inr ⟨_, sq, rfl⟩, rfl, _, rfl, iteF ?_⟩
          refine ⟨_, rfl, b, _, _, _, rfl, rfl, sq, atI_nat (j := 0) rfl, (by show 2 ≤ sizeLine; omega), fun l2 hl2 => ⟨_, rfl, Nat.zero_le _, fun l6 hl6 => ?_⟩⟩
          have y2 : Ext H10 (upd H10 l2 (.lst [.str (Str.ofString "no"), .str (Str.ofString "yes")])) := .new hl2
          have el2 : (upd H10 l2 (.lst [.str (Str.ofString "no"), .str (Str.ofString "yes")])) l2 = some (.lst [.str (Str.ofString "no"), .str (Str.ofString "yes")]) := upd_same
          generalize upd H10 l2 (.lst [.str (Str.ofString "no"), .str (Str.ofString "yes")]) = H11 at y2 el2 hl6 ⊢
          refine rows_ne (y2.lst hr) (dpAll_ext y2 hrs) hsh5 hl6 (.inr ⟨_, rfl, ?_⟩)
          rw [hem]
          have y3 := y2.trans (.new hl6 (o := .lst []))
          have el3 := (Ext.new hl6 (o := .lst [])).lst el2
          generalize upd H11 l6 (.lst []) = H12 at y3 el3 ⊢
          refine ⟨l2, _, 0, _, rfl, rfl, SqL.of el3, atI_nat (j := 0) rfl, rfl, _, rfl, ?_⟩
          rw [decide_eq_true rfl]
          refine iteF ?_
          have hr12 := y3.lst hr
          have hrs12 := dpAll_ext y3 hrs
          refine ⟨_, rfl, Nat.zero_le _, fun l7 hl7 => ?_⟩
          refine rows_ne hr12 hrs12 hsh5 hl7 ⟨_, rfl, ?_⟩
          rw [hem]
          have y4 := y3.trans (.new hl7 (o := .lst []))
          generalize upd H12 l7 (.lst []) = H13 at y4 ⊢
          refine iteF (iteF ?_)
          refine ⟨_, rfl, Nat.zero_le _, fun l8 hl8 => ?_⟩
          refine rows_eq (y4.lst hr) (dpAll_ext y4 hrs) hsh5 hl8 ⟨_, rfl, ?_⟩
          rw [hem]
          have y6 := y4.trans (.new hl8 (o := .lst []))
          generalize upd H13 l8 (.lst []) = H15 at y6 ⊢
          refine iteT ⟨_, rfl, _, rfl, _, rfl, _, rfl, _, rfl, .ref ld, qh, fs, bs, hs, rfl, dp_ext y6 hld, ok.most, y6.sqT hqh, wo.nd, wo.lt, fun so H16 x16 hso0 hso => ?_⟩
          have y7 := y6.trans x16
          have hd18 : d.depth < 2 * 9 := by omega
          refine ⟨_, rfl, b, _, _, _, rfl, rfl, y7.sqT sq, atI_nat (j := 1) rfl, .ref ld, vd, qh, qs, so, fs, bs, hs, ss, firstS fs.length hs, d, rfl, dp_ext y7 hld, ok, y7.sqT hqh, y7.sqT hqs, wo, hso, firstS_good wo.nd wo.lt, dp_ext y7 hvd, hcs, hd18, fun H17 x17 => ⟨_, rfl, iteF ?_⟩⟩
          have y8 := y7.trans x17
          refine ⟨_, rfl, Nat.zero_le _, fun l9 hl9 => ?_⟩
          refine rows_ne (y8.lst hr) (dpAll_ext y8 hrs) hsh5 hl9 ⟨_, rfl, ?_⟩
          rw [hem]
          have y9 := y8.trans (.new hl9 (o := .lst []))
          generalize upd H17 l9 (.lst []) = H18 at y9 ⊢
          refine iteF ⟨_, rfl, _, rfl, _, rfl, _, rfl, b, _, _, _, rfl, rfl, y9.sqT sq, atI_nat (j := 1) rfl, ?_⟩
          refine cases_by (d := d) (v := vd) (dp_ext y9 hld) ok (y9.sqT hqh) (y9.sqT hqs) wo (dp_ext y9 hvd) hd18 (hT10.ext y9) fun H19 x19 => ?_
          rw [hcs]
          dsimp only [gName, tSeq, List.set]
          refine ⟨_, rfl, true, true, rfl, rfl, _, rfl, iteF ?_⟩
          exact ⟨_, _, rfl, x10.trans (y9.trans x19)⟩
      · rintro σ H15 ⟨o9', o10', rfl, x15⟩
        dsimp only [gName, tSeq, List.set]
        refine ⟨_, rfl, _, rfl, _, rfl, by show 3 ≤ sizeLine; omega, fun l9 hl9 => ?_⟩
        have x16 : Ext Ha (upd H15 l9 (.lst [.ref ld, .ref qh, .ref qs])) := x15.trans (.new hl9)
        refine ⟨l9, wishD fs bs hs ss, rfl, .lst (SqL.of upd_same) (.cons (dp_ext x16 hlda) (.cons (dlot (x16.sqT hqha)) (.cons (dlot (x16.sqT hqsa)) .nil))), rpw.show_, rpw.dict, Nat.le_trans rpw.dep (by decide), rpw.len (by decide), _, rfl, rfl, _, rfl, ?_⟩
        rw [shown_ne rfl]
        exact iteF ⟨_, _, _, _, _, _, _, rfl, x16.lst ea, Ta.ext x16, dp_ext x16 hlda, (Wa.ext x16).mono (by omega)⟩
    · rintro σ H4 ⟨o4, o5, o6, o7, o8, o9, o10, rfl, e4, T4, hld4, W4⟩
      exact ⟨_, _, _, _, _, _, _, _, _, _, rfl, e4, T4⟩
  · rintro σ H2 ⟨o1, o2, o3, o4, o5, o6, o7, o8, o9, o10, rfl, e2, hT2⟩
    exact k H2
end
end Wd

set_option Elab.async false
set_option linter.all false
set_option maxRecDepth 100000
set_option maxHeartbeats 4000000
namespace Wd
open PySem PySem.Spec PyProof.Rows L2 Bx Gx

























































/-! ### the head -/
theorem funC_of {K : PySem.W.Frag} {x qual : Str} {st : Stmt} {p : Str × Option Str} {fd : FuncData} (F : FunD K x qual (defArgs st) (defBody st) (defScope st) [] [] (He.fAd K p) fd) : FunC K x qual st (He.fAd K p) fd (He.codeOf K p) := by
  obtain ⟨oc, od, dV, kV, doc, pm, an, cdv, ct, osl, e, l, c, hd, _⟩ := F.ex
  rcases hd with ⟨_, e2⟩ | ⟨e2, _⟩
  · subst e2
    obtain ⟨c0, rfl⟩ := He.codeIn_ref c
    have ec : He.codeOf K p = c0 := He.codeOf_eq l (by rw [e])
    rw [ec]
    exact ⟨⟨oc, od, kV, doc, pm, an, ct, osl, e, l, c⟩, F.kp⟩
  · exact absurd rfl e2
theorem kb_swp {K : PySem.W.Frag} {x qual : Str} {st : Stmt} {f : Addr} {fd : FuncData} {a b : Str} (F : Fun K x qual st f fd)
    (h : ∀ (kV doc pm : Value) (an : Option Addr) (cdv ct : Value) (u v : Value), bindArgs (PySem.W.fnOf x qual (defArgs st) (defBody st) (defScope st) .none kV doc pm an cdv ct) ⟨[], [(b, v), (a, u)]⟩ = pure [(a, u), (b, v)]) : KBinds K fd [a, b] [b, a] swp swp := by
  obtain ⟨oc, od, kV, doc, pm, an, cdv, ct, osl, rfl, lk, hc⟩ := F.ex
  refine ⟨fun s us ws _ hl => ?_, swp_rel⟩
  match us, ws, hl with
  | [], [v, u], _ => exact .of_eq (h kV doc pm an cdv ct u v)
  | [], [], hl => cases hl
  | [], [_], hl => cases hl
  | [], _ :: _ :: _ :: _, hl => cases hl
  | _ :: _, _, hl => cases hl

theorem kb_rev3 {K : PySem.W.Frag} {x qual : Str} {st : Stmt} {f : Addr} {fd : FuncData} {a b c : Str} (F : Fun K x qual st f fd)
    (h : ∀ (kV doc pm : Value) (an : Option Addr) (cdv ct : Value) (u v z : Value), bindArgs (PySem.W.fnOf x qual (defArgs st) (defBody st) (defScope st) .none kV doc pm an cdv ct) ⟨[], [(c, z), (b, v), (a, u)]⟩ = pure [(a, u), (b, v), (c, z)]) : KBinds K fd [a, b, c] [c, b, a] rev3 rev3 := by
  obtain ⟨oc, od, kV, doc, pm, an, cdv, ct, osl, rfl, lk, hc⟩ := F.ex
  refine ⟨fun s us ws hu hl => ?_, rev3_rel⟩
  match us, ws, hl with
  | [], [z, v, u], _ => exact .of_eq (h kV doc pm an cdv ct u v z)
  | [], [], hl => cases hl
  | [], [_], hl => cases hl
  | [], [_, _], hl => cases hl
  | [], _ :: _ :: _ :: _ :: _, hl => cases hl
  | _ :: _, _, hl => cases hl

def d_is_integer : He.DefD := ⟨("is_integer", none), "is_integer", "is_integer", defArgs st_is_integer, defBody st_is_integer, defScope st_is_integer, [], []⟩
def d_is_place : He.DefD := ⟨("is_place", none), "is_place", "is_place", defArgs st_is_place, defBody st_is_place, defScope st_is_place, [], []⟩
def d_is_ascending : He.DefD := ⟨("is_ascending", none), "is_ascending", "is_ascending", defArgs st_is_ascending, defBody st_is_ascending, defScope st_is_ascending, [], []⟩
def d_is_lot : He.DefD := ⟨("is_lot", none), "is_lot", "is_lot", defArgs st_is_lot, defBody st_is_lot, defScope st_is_lot, [], []⟩
def d_mask_of : He.DefD := ⟨("mask_of", none), "mask_of", "mask_of", defArgs st_mask_of, defBody st_mask_of, defScope st_mask_of, [], []⟩
def d_lot_of : He.DefD := ⟨("lot_of", none), "lot_of", "lot_of", defArgs st_lot_of, defBody st_lot_of, defScope st_lot_of, [], []⟩
def d_links_of : He.DefD := ⟨("links_of", none), "links_of", "links_of", defArgs st_links_of, defBody st_links_of, defScope st_links_of, [], []⟩
def d_reached : He.DefD := ⟨("reached", none), "reached", "reached", defArgs st_reached, defBody st_reached, defScope st_reached, [], []⟩
def d_hangs_together : He.DefD := ⟨("hangs_together", none), "hangs_together", "hangs_together", defArgs st_hangs_together, defBody st_hangs_together, defScope st_hangs_together, [], []⟩
def d_is_border : He.DefD := ⟨("is_border", none), "is_border", "is_border", defArgs st_is_border, defBody st_is_border, defScope st_is_border, [], []⟩
def d_fault_of_folk : He.DefD := ⟨("fault_of_folk", none), "fault_of_folk", "fault_of_folk", defArgs st_fault_of_folk, defBody st_fault_of_folk, defScope st_fault_of_folk, [], []⟩
def d_fault_of_borders : He.DefD := ⟨("fault_of_borders", none), "fault_of_borders", "fault_of_borders", defArgs st_fault_of_borders, defBody st_fault_of_borders, defScope st_fault_of_borders, [], []⟩
def d_fault_of_land : He.DefD := ⟨("fault_of_land", none), "fault_of_land", "fault_of_land", defArgs st_fault_of_land, defBody st_fault_of_land, defScope st_fault_of_land, [], []⟩
def d_check_land : He.DefD := ⟨("check_land", none), "check_land", "check_land", defArgs st_check_land, defBody st_check_land, defScope st_check_land, [], []⟩
def d_are_heads : He.DefD := ⟨("are_heads", none), "are_heads", "are_heads", defArgs st_are_heads, defBody st_are_heads, defScope st_are_heads, [], []⟩
def d_are_sizes : He.DefD := ⟨("are_sizes", none), "are_sizes", "are_sizes", defArgs st_are_sizes, defBody st_are_sizes, defScope st_are_sizes, [], []⟩
def d_check_wish : He.DefD := ⟨("check_wish", none), "check_wish", "check_wish", defArgs st_check_wish, defBody st_check_wish, defScope st_check_wish, [], []⟩
def d_is_ward : He.DefD := ⟨("is_ward", none), "is_ward", "is_ward", defArgs st_is_ward, defBody st_is_ward, defScope st_is_ward, [], []⟩
def d_has_place : He.DefD := ⟨("has_place", none), "has_place", "has_place", defArgs st_has_place, defBody st_has_place, defScope st_has_place, [], []⟩
def d_free_of : He.DefD := ⟨("free_of", none), "free_of", "free_of", defArgs st_free_of, defBody st_free_of, defScope st_free_of, [], []⟩
def d_given : He.DefD := ⟨("given", none), "given", "given", defArgs st_given, defBody st_given, defScope st_given, [], []⟩
def d_come_to : He.DefD := ⟨("come_to", none), "come_to", "come_to", defArgs st_come_to, defBody st_come_to, defScope st_come_to, [], []⟩
def d_count_of : He.DefD := ⟨("count_of", none), "count_of", "count_of", defArgs st_count_of, defBody st_count_of, defScope st_count_of, [], []⟩
def d_is_over : He.DefD := ⟨("is_over", none), "is_over", "is_over", defArgs st_is_over, defBody st_is_over, defScope st_is_over, [], []⟩
def d_is_shut_in : He.DefD := ⟨("is_shut_in", none), "is_shut_in", "is_shut_in", defArgs st_is_shut_in, defBody st_is_shut_in, defScope st_is_shut_in, [], []⟩
def d_is_lost : He.DefD := ⟨("is_lost", none), "is_lost", "is_lost", defArgs st_is_lost, defBody st_is_lost, defScope st_is_lost, [], []⟩
def d_heads_to : He.DefD := ⟨("heads_to", none), "heads_to", "heads_to", defArgs st_heads_to, defBody st_heads_to, defScope st_heads_to, [], []⟩
def d_narrowest : He.DefD := ⟨("narrowest", none), "narrowest", "narrowest", defArgs st_narrowest, defBody st_narrowest, defScope st_narrowest, [], []⟩
def d_short_cases : He.DefD := ⟨("short_cases", none), "short_cases", "short_cases", defArgs st_short_cases, defBody st_short_cases, defScope st_short_cases, [], []⟩
def d_first_state : He.DefD := ⟨("first_state", none), "first_state", "first_state", defArgs st_first_state, defBody st_first_state, defScope st_first_state, [], []⟩
def d_are_cases_of : He.DefD := ⟨("are_cases_of", none), "are_cases_of", "are_cases_of", defArgs st_are_cases_of, defBody st_are_cases_of, defScope st_are_cases_of, [], []⟩
def d_is_split : He.DefD := ⟨("is_split", none), "is_split", "is_split", defArgs st_is_split, defBody st_is_split, defScope st_is_split, [], []⟩
def d_answer_of : He.DefD := ⟨("answer_of", none), "answer_of", "answer_of", defArgs st_answer_of, defBody st_answer_of, defScope st_answer_of, [], []⟩
def d_wished : He.DefD := ⟨("wished", none), "wished", "wished", defArgs st_wished, defBody st_wished, defScope st_wished, [], []⟩
def d_is_serving : He.DefD := ⟨("is_serving", none), "is_serving", "is_serving", defArgs st_is_serving, defBody st_is_serving, defScope st_is_serving, [], []⟩
def d_are_cases : He.DefD := ⟨("are_cases", none), "are_cases", "are_cases", defArgs st_are_cases, defBody st_are_cases, defScope st_are_cases, [], []⟩
def d__law_well : He.DefD := ⟨("_law_well", none), "_law_well", "_law_well", defArgs st__law_well, defBody st__law_well, defScope st__law_well, [], []⟩
def d__law_dip : He.DefD := ⟨("_law_dip", none), "_law_dip", "_law_dip", defArgs st__law_dip, defBody st__law_dip, defScope st__law_dip, [], []⟩
def d__law_land : He.DefD := ⟨("_law_land", none), "_law_land", "_law_land", defArgs st__law_land, defBody st__law_land, defScope st__law_land, [], []⟩
def d__law_beside : He.DefD := ⟨("_law_beside", none), "_law_beside", "_law_beside", defArgs st__law_beside, defBody st__law_beside, defScope st__law_beside, [], []⟩
def d__law_come : He.DefD := ⟨("_law_come", none), "_law_come", "_law_come", defArgs st__law_come, defBody st__law_come, defScope st__law_come, [], []⟩
def d__law_hangs : He.DefD := ⟨("_law_hangs", none), "_law_hangs", "_law_hangs", defArgs st__law_hangs, defBody st__law_hangs, defScope st__law_hangs, [], []⟩
def d__law_wish : He.DefD := ⟨("_law_wish", none), "_law_wish", "_law_wish", defArgs st__law_wish, defBody st__law_wish, defScope st__law_wish, [], []⟩
def d__law_first : He.DefD := ⟨("_law_first", none), "_law_first", "_law_first", defArgs st__law_first, defBody st__law_first, defScope st__law_first, [], []⟩
def d__law_is_serving : He.DefD := ⟨("_law_is_serving", none), "_law_is_serving", "_law_is_serving", defArgs st__law_is_serving, defBody st__law_is_serving, defScope st__law_is_serving, [], []⟩
def d__law_servings : He.DefD := ⟨("_law_servings", none), "_law_servings", "_law_servings", defArgs st__law_servings, defBody st__law_servings, defScope st__law_servings, [], []⟩
def d__law_reach : He.DefD := ⟨("_law_reach", none), "_law_reach", "_law_reach", defArgs st__law_reach, defBody st__law_reach, defScope st__law_reach, [], []⟩
def d__law_is_index : He.DefD := ⟨("_law_is_index", none), "_law_is_index", "_law_is_index", defArgs st__law_is_index, defBody st__law_is_index, defScope st__law_is_index, [], []⟩
def d__law_are_cases : He.DefD := ⟨("_law_are_cases", none), "_law_are_cases", "_law_are_cases", defArgs st__law_are_cases, defBody st__law_are_cases, defScope st__law_are_cases, [], []⟩
def d_law : He.DefD := ⟨("law", none), "law", "law", defArgs st_law, defBody st_law, defScope st_law, [], []⟩
def fnl : List He.DefD := [d_is_integer, d_is_place, d_is_ascending, d_is_lot, d_mask_of, d_lot_of, d_links_of, d_reached, d_hangs_together, d_is_border, d_fault_of_folk, d_fault_of_borders, d_fault_of_land, d_check_land, d_are_heads, d_are_sizes, d_check_wish, d_is_ward, d_has_place, d_free_of, d_given, d_come_to, d_count_of, d_is_over, d_is_shut_in, d_is_lost, d_heads_to, d_narrowest, d_short_cases, d_first_state, d_are_cases_of, d_is_split, d_answer_of, d_wished, d_is_serving, d_are_cases, d__law_well, d__law_dip, d__law_land, d__law_beside, d__law_come, d__law_hangs, d__law_wish, d__law_first, d__law_is_serving, d__law_servings, d__law_reach, d__law_is_index, d__law_are_cases, d_law]
def fal : List He.Fa := [.glo "is_integer", .glo "is_place", .glo "is_ascending", .glo "is_lot", .glo "mask_of", .glo "lot_of", .glo "links_of", .glo "reached", .glo "hangs_together", .glo "is_border", .glo "fault_of_folk", .glo "fault_of_borders", .glo "fault_of_land", .glo "check_land", .glo "are_heads", .glo "are_sizes", .glo "check_wish", .glo "is_ward", .glo "has_place", .glo "free_of", .glo "given", .glo "come_to", .glo "count_of", .glo "is_over", .glo "is_shut_in", .glo "is_lost", .glo "heads_to", .glo "narrowest", .glo "short_cases", .glo "first_state", .glo "are_cases_of", .glo "is_split", .glo "answer_of", .glo "wished", .glo "is_serving", .glo "are_cases", .glo "_law_well", .glo "_law_dip", .glo "_law_land", .glo "_law_beside", .glo "_law_come", .glo "_law_hangs", .glo "_law_wish", .glo "_law_first", .glo "_law_is_serving", .glo "_law_servings", .glo "_law_reach", .glo "_law_is_index", .glo "_law_are_cases", .glo "law", .free "type", .free "len", .free "all", .free "sum", .free "tuple", .free "list", .free "range", .free "int", .free "bool", .free "str", .free "min", .free "max", .free "sorted", .free "isinstance", .free "set", .int "FEWEST_PLACES" 2, .int "MOST_PLACES" 12, .int "MOST_FOLK" 1000000, .int "FEWEST_HEADS" 2, .int "MOST_HEADS" 4, .free "repr", .free "any"]
def tfl : List He.Defn := [("is_lot", none), ("is_ascending", none), ("mask_of", none), ("lot_of", none), ("are_heads", none), ("are_sizes", none), ("is_lost", none), ("is_split", none), ("answer_of", none), ("first_state", none)]
theorem facts {l : PySem.W.OpenLaw} {w : World} {K : PySem.W.Frag} {h : Heap} {mg : Str → Option Value} {f : Addr} (X : K.In h) (G : h.Ns mainGlobals mg) (hfa : mg ("law" : Str) = some (.ref f)) (c : He.SaysX fal fnl [] tfl (fun _ => true) w h K) :
    Gd.LawC l w K 63 "script" mg f h := by
  obtain ⟨e0, D0'⟩ := c.t.d.def_ 0 (d := d_is_integer) rfl
  have D0 : FunD K "is_integer" "is_integer" (defArgs st_is_integer) (defBody st_is_integer) (defScope st_is_integer) [] [] (He.fAd K ("is_integer", none)) e0 := D0'
  have g0 := He.glo_ok X G (c.t.d.fact 0 (f := .glo "is_integer") rfl)
  have b0 := D0.bindsN (ps := ["value", "low", "high"]) fun _ _ _ _ _ _ us hl => match us, hl with | [_, _, _], _ => rfl
  have F0 := He5.fun_of D0
  obtain ⟨e1, D1'⟩ := c.t.d.def_ 1 (d := d_is_place) rfl
  have D1 : FunD K "is_place" "is_place" (defArgs st_is_place) (defBody st_is_place) (defScope st_is_place) [] [] (He.fAd K ("is_place", none)) e1 := D1'
  have g1 := He.glo_ok X G (c.t.d.fact 1 (f := .glo "is_place") rfl)
  have b1 := D1.bindsN (ps := ["land", "value"]) fun _ _ _ _ _ _ us hl => match us, hl with | [_, _], _ => rfl
  have F1 := He5.fun_of D1
  obtain ⟨e2, D2'⟩ := c.t.d.def_ 2 (d := d_is_ascending) rfl
  have D2 : FunD K "is_ascending" "is_ascending" (defArgs st_is_ascending) (defBody st_is_ascending) (defScope st_is_ascending) [] [] (He.fAd K ("is_ascending", none)) e2 := D2'
  have g2 := He.glo_ok X G (c.t.d.fact 2 (f := .glo "is_ascending") rfl)
  have b2 := D2.bindsN (ps := ["row"]) fun _ _ _ _ _ _ us hl => match us, hl with | [_], _ => rfl
  have F2 := He5.fun_of D2
  obtain ⟨e3, D3'⟩ := c.t.d.def_ 3 (d := d_is_lot) rfl
  have D3 : FunD K "is_lot" "is_lot" (defArgs st_is_lot) (defBody st_is_lot) (defScope st_is_lot) [] [] (He.fAd K ("is_lot", none)) e3 := D3'
  have g3 := He.glo_ok X G (c.t.d.fact 3 (f := .glo "is_lot") rfl)
  have b3 := D3.bindsN (ps := ["land", "value"]) fun _ _ _ _ _ _ us hl => match us, hl with | [_, _], _ => rfl
  have F3 := He5.fun_of D3
  obtain ⟨e4, D4'⟩ := c.t.d.def_ 4 (d := d_mask_of) rfl
  have D4 : FunD K "mask_of" "mask_of" (defArgs st_mask_of) (defBody st_mask_of) (defScope st_mask_of) [] [] (He.fAd K ("mask_of", none)) e4 := D4'
  have g4 := He.glo_ok X G (c.t.d.fact 4 (f := .glo "mask_of") rfl)
  have b4 := D4.bindsN (ps := ["lot"]) fun _ _ _ _ _ _ us hl => match us, hl with | [_], _ => rfl
  have F4 := He5.fun_of D4
  obtain ⟨e5, D5'⟩ := c.t.d.def_ 5 (d := d_lot_of) rfl
  have D5 : FunD K "lot_of" "lot_of" (defArgs st_lot_of) (defBody st_lot_of) (defScope st_lot_of) [] [] (He.fAd K ("lot_of", none)) e5 := D5'
  have g5 := He.glo_ok X G (c.t.d.fact 5 (f := .glo "lot_of") rfl)
  have b5 := D5.bindsN (ps := ["mask"]) fun _ _ _ _ _ _ us hl => match us, hl with | [_], _ => rfl
  have F5 := He5.fun_of D5
  obtain ⟨e6, D6'⟩ := c.t.d.def_ 6 (d := d_links_of) rfl
  have D6 : FunD K "links_of" "links_of" (defArgs st_links_of) (defBody st_links_of) (defScope st_links_of) [] [] (He.fAd K ("links_of", none)) e6 := D6'
  have g6 := He.glo_ok X G (c.t.d.fact 6 (f := .glo "links_of") rfl)
  have b6 := D6.bindsN (ps := ["land"]) fun _ _ _ _ _ _ us hl => match us, hl with | [_], _ => rfl
  have F6 := He5.fun_of D6
  obtain ⟨e7, D7'⟩ := c.t.d.def_ 7 (d := d_reached) rfl
  have D7 : FunD K "reached" "reached" (defArgs st_reached) (defBody st_reached) (defScope st_reached) [] [] (He.fAd K ("reached", none)) e7 := D7'
  have g7 := He.glo_ok X G (c.t.d.fact 7 (f := .glo "reached") rfl)
  have b7 := D7.bindsN (ps := ["links", "start", "mask"]) fun _ _ _ _ _ _ us hl => match us, hl with | [_, _, _], _ => rfl
  have F7 := He5.fun_of D7
  obtain ⟨e8, D8'⟩ := c.t.d.def_ 8 (d := d_hangs_together) rfl
  have D8 : FunD K "hangs_together" "hangs_together" (defArgs st_hangs_together) (defBody st_hangs_together) (defScope st_hangs_together) [] [] (He.fAd K ("hangs_together", none)) e8 := D8'
  have g8 := He.glo_ok X G (c.t.d.fact 8 (f := .glo "hangs_together") rfl)
  have b8 := D8.bindsN (ps := ["links", "mask"]) fun _ _ _ _ _ _ us hl => match us, hl with | [_, _], _ => rfl
  have F8 := He5.fun_of D8
  obtain ⟨e9, D9'⟩ := c.t.d.def_ 9 (d := d_is_border) rfl
  have D9 : FunD K "is_border" "is_border" (defArgs st_is_border) (defBody st_is_border) (defScope st_is_border) [] [] (He.fAd K ("is_border", none)) e9 := D9'
  have g9 := He.glo_ok X G (c.t.d.fact 9 (f := .glo "is_border") rfl)
  have b9 := D9.bindsN (ps := ["value", "many"]) fun _ _ _ _ _ _ us hl => match us, hl with | [_, _], _ => rfl
  have F9 := He5.fun_of D9
  obtain ⟨e10, D10'⟩ := c.t.d.def_ 10 (d := d_fault_of_folk) rfl
  have D10 : FunD K "fault_of_folk" "fault_of_folk" (defArgs st_fault_of_folk) (defBody st_fault_of_folk) (defScope st_fault_of_folk) [] [] (He.fAd K ("fault_of_folk", none)) e10 := D10'
  have g10 := He.glo_ok X G (c.t.d.fact 10 (f := .glo "fault_of_folk") rfl)
  have b10 := D10.bindsN (ps := ["folk"]) fun _ _ _ _ _ _ us hl => match us, hl with | [_], _ => rfl
  have F10 := He5.fun_of D10
  obtain ⟨e11, D11'⟩ := c.t.d.def_ 11 (d := d_fault_of_borders) rfl
  have D11 : FunD K "fault_of_borders" "fault_of_borders" (defArgs st_fault_of_borders) (defBody st_fault_of_borders) (defScope st_fault_of_borders) [] [] (He.fAd K ("fault_of_borders", none)) e11 := D11'
  have g11 := He.glo_ok X G (c.t.d.fact 11 (f := .glo "fault_of_borders") rfl)
  have b11 := D11.bindsN (ps := ["borders", "many"]) fun _ _ _ _ _ _ us hl => match us, hl with | [_, _], _ => rfl
  have F11 := He5.fun_of D11
  obtain ⟨e12, D12'⟩ := c.t.d.def_ 12 (d := d_fault_of_land) rfl
  have D12 : FunD K "fault_of_land" "fault_of_land" (defArgs st_fault_of_land) (defBody st_fault_of_land) (defScope st_fault_of_land) [] [] (He.fAd K ("fault_of_land", none)) e12 := D12'
  have g12 := He.glo_ok X G (c.t.d.fact 12 (f := .glo "fault_of_land") rfl)
  have b12 := D12.bindsN (ps := ["value"]) fun _ _ _ _ _ _ us hl => match us, hl with | [_], _ => rfl
  have F12 := He5.fun_of D12
  obtain ⟨e13, D13'⟩ := c.t.d.def_ 13 (d := d_check_land) rfl
  have D13 : FunD K "check_land" "check_land" (defArgs st_check_land) (defBody st_check_land) (defScope st_check_land) [] [] (He.fAd K ("check_land", none)) e13 := D13'
  have g13 := He.glo_ok X G (c.t.d.fact 13 (f := .glo "check_land") rfl)
  have b13 := D13.bindsN (ps := ["land"]) fun _ _ _ _ _ _ us hl => match us, hl with | [_], _ => rfl
  have F13 := He5.fun_of D13
  obtain ⟨e14, D14'⟩ := c.t.d.def_ 14 (d := d_are_heads) rfl
  have D14 : FunD K "are_heads" "are_heads" (defArgs st_are_heads) (defBody st_are_heads) (defScope st_are_heads) [] [] (He.fAd K ("are_heads", none)) e14 := D14'
  have g14 := He.glo_ok X G (c.t.d.fact 14 (f := .glo "are_heads") rfl)
  have b14 := D14.bindsN (ps := ["land", "value"]) fun _ _ _ _ _ _ us hl => match us, hl with | [_, _], _ => rfl
  have F14 := He5.fun_of D14
  obtain ⟨e15, D15'⟩ := c.t.d.def_ 15 (d := d_are_sizes) rfl
  have D15 : FunD K "are_sizes" "are_sizes" (defArgs st_are_sizes) (defBody st_are_sizes) (defScope st_are_sizes) [] [] (He.fAd K ("are_sizes", none)) e15 := D15'
  have g15 := He.glo_ok X G (c.t.d.fact 15 (f := .glo "are_sizes") rfl)
  have b15 := D15.bindsN (ps := ["land", "heads", "value"]) fun _ _ _ _ _ _ us hl => match us, hl with | [_, _, _], _ => rfl
  have F15 := He5.fun_of D15
  obtain ⟨e16, D16'⟩ := c.t.d.def_ 16 (d := d_check_wish) rfl
  have D16 : FunD K "check_wish" "check_wish" (defArgs st_check_wish) (defBody st_check_wish) (defScope st_check_wish) [] [] (He.fAd K ("check_wish", none)) e16 := D16'
  have g16 := He.glo_ok X G (c.t.d.fact 16 (f := .glo "check_wish") rfl)
  have b16 := D16.bindsN (ps := ["land", "heads", "sizes"]) fun _ _ _ _ _ _ us hl => match us, hl with | [_, _, _], _ => rfl
  have F16 := He5.fun_of D16
  obtain ⟨e17, D17'⟩ := c.t.d.def_ 17 (d := d_is_ward) rfl
  have D17 : FunD K "is_ward" "is_ward" (defArgs st_is_ward) (defBody st_is_ward) (defScope st_is_ward) [] [] (He.fAd K ("is_ward", none)) e17 := D17'
  have g17 := He.glo_ok X G (c.t.d.fact 17 (f := .glo "is_ward") rfl)
  have b17 := D17.bindsN (ps := ["links", "lot", "head", "size"]) fun _ _ _ _ _ _ us hl => match us, hl with | [_, _, _, _], _ => rfl
  have F17 := He5.fun_of D17
  obtain ⟨e18, D18'⟩ := c.t.d.def_ 18 (d := d_has_place) rfl
  have D18 : FunD K "has_place" "has_place" (defArgs st_has_place) (defBody st_has_place) (defScope st_has_place) [] [] (He.fAd K ("has_place", none)) e18 := D18'
  have g18 := He.glo_ok X G (c.t.d.fact 18 (f := .glo "has_place") rfl)
  have b18 := D18.bindsN (ps := ["mask", "place"]) fun _ _ _ _ _ _ us hl => match us, hl with | [_, _], _ => rfl
  have F18 := He5.fun_of D18
  obtain ⟨e19, D19'⟩ := c.t.d.def_ 19 (d := d_free_of) rfl
  have D19 : FunD K "free_of" "free_of" (defArgs st_free_of) (defBody st_free_of) (defScope st_free_of) [] [] (He.fAd K ("free_of", none)) e19 := D19'
  have g19 := He.glo_ok X G (c.t.d.fact 19 (f := .glo "free_of") rfl)
  have b19 := D19.bindsN (ps := ["links", "state"]) fun _ _ _ _ _ _ us hl => match us, hl with | [_, _], _ => rfl
  have F19 := He5.fun_of D19
  obtain ⟨e20, D20'⟩ := c.t.d.def_ 20 (d := d_given) rfl
  have D20 : FunD K "given" "given" (defArgs st_given) (defBody st_given) (defScope st_given) [] [] (He.fAd K ("given", none)) e20 := D20'
  have g20 := He.glo_ok X G (c.t.d.fact 20 (f := .glo "given") rfl)
  have b20 := D20.bindsN (ps := ["state", "k", "place"]) fun _ _ _ _ _ _ us hl => match us, hl with | [_, _, _], _ => rfl
  have F20 := He5.fun_of D20
  obtain ⟨e21, D21'⟩ := c.t.d.def_ 21 (d := d_come_to) rfl
  have D21 : FunD K "come_to" "come_to" (defArgs st_come_to) (defBody st_come_to) (defScope st_come_to) [] [] (He.fAd K ("come_to", none)) e21 := D21'
  have g21 := He.glo_ok X G (c.t.d.fact 21 (f := .glo "come_to") rfl)
  have b21 := D21.bindsN (ps := ["links", "heads", "state", "k"]) fun _ _ _ _ _ _ us hl => match us, hl with | [_, _, _, _], _ => rfl
  have F21 := He5.fun_of D21
  obtain ⟨e22, D22'⟩ := c.t.d.def_ 22 (d := d_count_of) rfl
  have D22 : FunD K "count_of" "count_of" (defArgs st_count_of) (defBody st_count_of) (defScope st_count_of) [] [] (He.fAd K ("count_of", none)) e22 := D22'
  have g22 := He.glo_ok X G (c.t.d.fact 22 (f := .glo "count_of") rfl)
  have b22 := D22.bindsN (ps := ["mask"]) fun _ _ _ _ _ _ us hl => match us, hl with | [_], _ => rfl
  have F22 := He5.fun_of D22
  obtain ⟨e23, D23'⟩ := c.t.d.def_ 23 (d := d_is_over) rfl
  have D23 : FunD K "is_over" "is_over" (defArgs st_is_over) (defBody st_is_over) (defScope st_is_over) [] [] (He.fAd K ("is_over", none)) e23 := D23'
  have g23 := He.glo_ok X G (c.t.d.fact 23 (f := .glo "is_over") rfl)
  have b23 := D23.bindsN (ps := ["sizes", "state", "k"]) fun _ _ _ _ _ _ us hl => match us, hl with | [_, _, _], _ => rfl
  have F23 := He5.fun_of D23
  obtain ⟨e24, D24'⟩ := c.t.d.def_ 24 (d := d_is_shut_in) rfl
  have D24 : FunD K "is_shut_in" "is_shut_in" (defArgs st_is_shut_in) (defBody st_is_shut_in) (defScope st_is_shut_in) [] [] (He.fAd K ("is_shut_in", none)) e24 := D24'
  have g24 := He.glo_ok X G (c.t.d.fact 24 (f := .glo "is_shut_in") rfl)
  have b24 := D24.bindsN (ps := ["sizes", "state", "k", "come"]) fun _ _ _ _ _ _ us hl => match us, hl with | [_, _, _, _], _ => rfl
  have F24 := He5.fun_of D24
  obtain ⟨e25, D25'⟩ := c.t.d.def_ 25 (d := d_is_lost) rfl
  have D25 : FunD K "is_lost" "is_lost" (defArgs st_is_lost) (defBody st_is_lost) (defScope st_is_lost) [] [] (He.fAd K ("is_lost", none)) e25 := D25'
  have g25 := He.glo_ok X G (c.t.d.fact 25 (f := .glo "is_lost") rfl)
  have b25 := D25.bindsN (ps := ["links", "heads", "state", "place"]) fun _ _ _ _ _ _ us hl => match us, hl with | [_, _, _, _], _ => rfl
  have F25 := He5.fun_of D25
  obtain ⟨e26, D26'⟩ := c.t.d.def_ 26 (d := d_heads_to) rfl
  have D26 : FunD K "heads_to" "heads_to" (defArgs st_heads_to) (defBody st_heads_to) (defScope st_heads_to) [] [] (He.fAd K ("heads_to", none)) e26 := D26'
  have g26 := He.glo_ok X G (c.t.d.fact 26 (f := .glo "heads_to") rfl)
  have b26 := D26.bindsN (ps := ["comes", "place"]) fun _ _ _ _ _ _ us hl => match us, hl with | [_, _], _ => rfl
  have F26 := He5.fun_of D26
  obtain ⟨e27, D27'⟩ := c.t.d.def_ 27 (d := d_narrowest) rfl
  have D27 : FunD K "narrowest" "narrowest" (defArgs st_narrowest) (defBody st_narrowest) (defScope st_narrowest) [] [] (He.fAd K ("narrowest", none)) e27 := D27'
  have g27 := He.glo_ok X G (c.t.d.fact 27 (f := .glo "narrowest") rfl)
  have b27 := D27.bindsN (ps := ["lot", "comes"]) fun _ _ _ _ _ _ us hl => match us, hl with | [_, _], _ => rfl
  have F27 := He5.fun_of D27
  obtain ⟨e28, D28'⟩ := c.t.d.def_ 28 (d := d_short_cases) rfl
  have D28 : FunD K "short_cases" "short_cases" (defArgs st_short_cases) (defBody st_short_cases) (defScope st_short_cases) [] [] (He.fAd K ("short_cases", none)) e28 := D28'
  have g28 := He.glo_ok X G (c.t.d.fact 28 (f := .glo "short_cases") rfl)
  have b28 := D28.bindsN (ps := ["links", "sizes", "state", "comes"]) fun _ _ _ _ _ _ us hl => match us, hl with | [_, _, _, _], _ => rfl
  have F28 := He5.fun_of D28
  obtain ⟨e29, D29'⟩ := c.t.d.def_ 29 (d := d_first_state) rfl
  have D29 : FunD K "first_state" "first_state" (defArgs st_first_state) (defBody st_first_state) (defScope st_first_state) [] [] (He.fAd K ("first_state", none)) e29 := D29'
  have g29 := He.glo_ok X G (c.t.d.fact 29 (f := .glo "first_state") rfl)
  have b29 := D29.bindsN (ps := ["heads"]) fun _ _ _ _ _ _ us hl => match us, hl with | [_], _ => rfl
  have F29 := He5.fun_of D29
  obtain ⟨e30, D30'⟩ := c.t.d.def_ 30 (d := d_are_cases_of) rfl
  have D30 : FunD K "are_cases_of" "are_cases_of" (defArgs st_are_cases_of) (defBody st_are_cases_of) (defScope st_are_cases_of) [] [] (He.fAd K ("are_cases_of", none)) e30 := D30'
  have g30 := He.glo_ok X G (c.t.d.fact 30 (f := .glo "are_cases_of") rfl)
  have b30 := D30.bindsN (ps := ["links", "heads", "sizes", "state", "value"]) fun _ _ _ _ _ _ us hl => match us, hl with | [_, _, _, _, _], _ => rfl
  have F30 := He5.fun_of D30
  obtain ⟨e31, D31'⟩ := c.t.d.def_ 31 (d := d_is_split) rfl
  have D31 : FunD K "is_split" "is_split" (defArgs st_is_split) (defBody st_is_split) (defScope st_is_split) [] [] (He.fAd K ("is_split", none)) e31 := D31'
  have g31 := He.glo_ok X G (c.t.d.fact 31 (f := .glo "is_split") rfl)
  have b31 := D31.bindsN (ps := ["links", "heads", "sizes", "state", "value"]) fun _ _ _ _ _ _ us hl => match us, hl with | [_, _, _, _, _], _ => rfl
  have F31 := He5.fun_of D31
  obtain ⟨e32, D32'⟩ := c.t.d.def_ 32 (d := d_answer_of) rfl
  have D32 : FunD K "answer_of" "answer_of" (defArgs st_answer_of) (defBody st_answer_of) (defScope st_answer_of) [] [] (He.fAd K ("answer_of", none)) e32 := D32'
  have g32 := He.glo_ok X G (c.t.d.fact 32 (f := .glo "answer_of") rfl)
  have b32 := D32.bindsN (ps := ["links", "heads", "sizes", "state"]) fun _ _ _ _ _ _ us hl => match us, hl with | [_, _, _, _], _ => rfl
  have F32 := He5.fun_of D32
  obtain ⟨e33, D33'⟩ := c.t.d.def_ 33 (d := d_wished) rfl
  have D33 : FunD K "wished" "wished" (defArgs st_wished) (defBody st_wished) (defScope st_wished) [] [] (He.fAd K ("wished", none)) e33 := D33'
  have g33 := He.glo_ok X G (c.t.d.fact 33 (f := .glo "wished") rfl)
  have b33 := D33.bindsN (ps := ["land", "heads", "sizes"]) fun _ _ _ _ _ _ us hl => match us, hl with | [_, _, _], _ => rfl
  have F33 := He5.fun_of D33
  obtain ⟨e34, D34'⟩ := c.t.d.def_ 34 (d := d_is_serving) rfl
  have D34 : FunD K "is_serving" "is_serving" (defArgs st_is_serving) (defBody st_is_serving) (defScope st_is_serving) [] [] (He.fAd K ("is_serving", none)) e34 := D34'
  have g34 := He.glo_ok X G (c.t.d.fact 34 (f := .glo "is_serving") rfl)
  have b34 := D34.bindsN (ps := ["land", "heads", "sizes", "value"]) fun _ _ _ _ _ _ us hl => match us, hl with | [_, _, _, _], _ => rfl
  have F34 := He5.fun_of D34
  obtain ⟨e35, D35'⟩ := c.t.d.def_ 35 (d := d_are_cases) rfl
  have D35 : FunD K "are_cases" "are_cases" (defArgs st_are_cases) (defBody st_are_cases) (defScope st_are_cases) [] [] (He.fAd K ("are_cases", none)) e35 := D35'
  have g35 := He.glo_ok X G (c.t.d.fact 35 (f := .glo "are_cases") rfl)
  have b35 := D35.bindsN (ps := ["land", "heads", "sizes", "value"]) fun _ _ _ _ _ _ us hl => match us, hl with | [_, _, _, _], _ => rfl
  have F35 := He5.fun_of D35
  obtain ⟨e36, D36'⟩ := c.t.d.def_ 36 (d := d__law_well) rfl
  have D36 : FunD K "_law_well" "_law_well" (defArgs st__law_well) (defBody st__law_well) (defScope st__law_well) [] [] (He.fAd K ("_law_well", none)) e36 := D36'
  have g36 := He.glo_ok X G (c.t.d.fact 36 (f := .glo "_law_well") rfl)
  have b36 := D36.bindsN (ps := ["cell"]) fun _ _ _ _ _ _ us hl => match us, hl with | [_], _ => rfl
  have F36 := He5.fun_of D36
  obtain ⟨e37, D37'⟩ := c.t.d.def_ 37 (d := d__law_dip) rfl
  have D37 : FunD K "_law_dip" "_law_dip" (defArgs st__law_dip) (defBody st__law_dip) (defScope st__law_dip) [] [] (He.fAd K ("_law_dip", none)) e37 := D37'
  have g37 := He.glo_ok X G (c.t.d.fact 37 (f := .glo "_law_dip") rfl)
  have b37 := D37.bindsN (ps := ["well", "many"]) fun _ _ _ _ _ _ us hl => match us, hl with | [_, _], _ => rfl
  have F37 := He5.fun_of D37
  obtain ⟨e38, D38'⟩ := c.t.d.def_ 38 (d := d__law_land) rfl
  have D38 : FunD K "_law_land" "_law_land" (defArgs st__law_land) (defBody st__law_land) (defScope st__law_land) [] [] (He.fAd K ("_law_land", none)) e38 := D38'
  have g38 := He.glo_ok X G (c.t.d.fact 38 (f := .glo "_law_land") rfl)
  have b38 := D38.bindsN (ps := ["well", "least_many", "many"]) fun _ _ _ _ _ _ us hl => match us, hl with | [_, _, _], _ => rfl
  have F38 := He5.fun_of D38
  obtain ⟨e39, D39'⟩ := c.t.d.def_ 39 (d := d__law_beside) rfl
  have D39 : FunD K "_law_beside" "_law_beside" (defArgs st__law_beside) (defBody st__law_beside) (defScope st__law_beside) [] [] (He.fAd K ("_law_beside", none)) e39 := D39'
  have g39 := He.glo_ok X G (c.t.d.fact 39 (f := .glo "_law_beside") rfl)
  have b39 := D39.bindsN (ps := ["land"]) fun _ _ _ _ _ _ us hl => match us, hl with | [_], _ => rfl
  have F39 := He5.fun_of D39
  obtain ⟨e40, D40'⟩ := c.t.d.def_ 40 (d := d__law_come) rfl
  have D40 : FunD K "_law_come" "_law_come" (defArgs st__law_come) (defBody st__law_come) (defScope st__law_come) [] [] (He.fAd K ("_law_come", none)) e40 := D40'
  have g40 := He.glo_ok X G (c.t.d.fact 40 (f := .glo "_law_come") rfl)
  have b40 := D40.bindsN (ps := ["land", "start", "lot"]) fun _ _ _ _ _ _ us hl => match us, hl with | [_, _, _], _ => rfl
  have F40 := He5.fun_of D40
  obtain ⟨e41, D41'⟩ := c.t.d.def_ 41 (d := d__law_hangs) rfl
  have D41 : FunD K "_law_hangs" "_law_hangs" (defArgs st__law_hangs) (defBody st__law_hangs) (defScope st__law_hangs) [] [] (He.fAd K ("_law_hangs", none)) e41 := D41'
  have g41 := He.glo_ok X G (c.t.d.fact 41 (f := .glo "_law_hangs") rfl)
  have b41 := D41.bindsN (ps := ["land", "lot"]) fun _ _ _ _ _ _ us hl => match us, hl with | [_, _], _ => rfl
  have F41 := He5.fun_of D41
  obtain ⟨e42, D42'⟩ := c.t.d.def_ 42 (d := d__law_wish) rfl
  have D42 : FunD K "_law_wish" "_law_wish" (defArgs st__law_wish) (defBody st__law_wish) (defScope st__law_wish) [] [] (He.fAd K ("_law_wish", none)) e42 := D42'
  have g42 := He.glo_ok X G (c.t.d.fact 42 (f := .glo "_law_wish") rfl)
  have b42 := D42.bindsN (ps := ["well", "land", "most_heads"]) fun _ _ _ _ _ _ us hl => match us, hl with | [_, _, _], _ => rfl
  have F42 := He5.fun_of D42
  obtain ⟨e43, D43'⟩ := c.t.d.def_ 43 (d := d__law_first) rfl
  have D43 : FunD K "_law_first" "_law_first" (defArgs st__law_first) (defBody st__law_first) (defScope st__law_first) [] [] (He.fAd K ("_law_first", none)) e43 := D43'
  have g43 := He.glo_ok X G (c.t.d.fact 43 (f := .glo "_law_first") rfl)
  have b43 := D43.bindsN (ps := ["land", "heads"]) fun _ _ _ _ _ _ us hl => match us, hl with | [_, _], _ => rfl
  have F43 := He5.fun_of D43
  obtain ⟨e44, D44'⟩ := c.t.d.def_ 44 (d := d__law_is_serving) rfl
  have D44 : FunD K "_law_is_serving" "_law_is_serving" (defArgs st__law_is_serving) (defBody st__law_is_serving) (defScope st__law_is_serving) [] [] (He.fAd K ("_law_is_serving", none)) e44 := D44'
  have g44 := He.glo_ok X G (c.t.d.fact 44 (f := .glo "_law_is_serving") rfl)
  have b44 := D44.bindsN (ps := ["land", "heads", "sizes", "value"]) fun _ _ _ _ _ _ us hl => match us, hl with | [_, _, _, _], _ => rfl
  have F44 := He5.fun_of D44
  obtain ⟨e45, D45'⟩ := c.t.d.def_ 45 (d := d__law_servings) rfl
  have D45 : FunD K "_law_servings" "_law_servings" (defArgs st__law_servings) (defBody st__law_servings) (defScope st__law_servings) [] [] (He.fAd K ("_law_servings", none)) e45 := D45'
  have g45 := He.glo_ok X G (c.t.d.fact 45 (f := .glo "_law_servings") rfl)
  have b45 := D45.bindsN (ps := ["land", "heads", "sizes"]) fun _ _ _ _ _ _ us hl => match us, hl with | [_, _, _], _ => rfl
  have F45 := He5.fun_of D45
  obtain ⟨e46, D46'⟩ := c.t.d.def_ 46 (d := d__law_reach) rfl
  have D46 : FunD K "_law_reach" "_law_reach" (defArgs st__law_reach) (defBody st__law_reach) (defScope st__law_reach) [] [] (He.fAd K ("_law_reach", none)) e46 := D46'
  have g46 := He.glo_ok X G (c.t.d.fact 46 (f := .glo "_law_reach") rfl)
  have b46 := D46.bindsN (ps := ["land", "state", "k", "head"]) fun _ _ _ _ _ _ us hl => match us, hl with | [_, _, _, _], _ => rfl
  have F46 := He5.fun_of D46
  obtain ⟨e47, D47'⟩ := c.t.d.def_ 47 (d := d__law_is_index) rfl
  have D47 : FunD K "_law_is_index" "_law_is_index" (defArgs st__law_is_index) (defBody st__law_is_index) (defScope st__law_is_index) [] [] (He.fAd K ("_law_is_index", none)) e47 := D47'
  have g47 := He.glo_ok X G (c.t.d.fact 47 (f := .glo "_law_is_index") rfl)
  have b47 := D47.bindsN (ps := ["value", "many"]) fun _ _ _ _ _ _ us hl => match us, hl with | [_, _], _ => rfl
  have F47 := He5.fun_of D47
  obtain ⟨e48, D48'⟩ := c.t.d.def_ 48 (d := d__law_are_cases) rfl
  have D48 : FunD K "_law_are_cases" "_law_are_cases" (defArgs st__law_are_cases) (defBody st__law_are_cases) (defScope st__law_are_cases) [] [] (He.fAd K ("_law_are_cases", none)) e48 := D48'
  have g48 := He.glo_ok X G (c.t.d.fact 48 (f := .glo "_law_are_cases") rfl)
  have b48 := D48.bindsN (ps := ["land", "heads", "sizes", "state", "value"]) fun _ _ _ _ _ _ us hl => match us, hl with | [_, _, _, _, _], _ => rfl
  have F48 := He5.fun_of D48
  obtain ⟨e49, D49'⟩ := c.t.d.def_ 49 (d := d_law) rfl
  have D49 : FunD K "law" "law" (defArgs st_law) (defBody st_law) (defScope st_law) [] [] (He.fAd K ("law", none)) e49 := D49'
  have g49 := He.glo_ok X G (c.t.d.fact 49 (f := .glo "law") rfl)
  have b49 := D49.bindsN (ps := ["script"]) fun _ _ _ _ _ _ us hl => match us, hl with | [_], _ => rfl
  have F49 := He5.fun_of D49
  have B : Bl mg := ⟨He.free_ok X G (c.t.d.fact 50 (f := .free "type") rfl), He.free_ok X G (c.t.d.fact 51 (f := .free "len") rfl), He.free_ok X G (c.t.d.fact 52 (f := .free "all") rfl), He.free_ok X G (c.t.d.fact 53 (f := .free "sum") rfl), He.free_ok X G (c.t.d.fact 54 (f := .free "tuple") rfl), He.free_ok X G (c.t.d.fact 55 (f := .free "list") rfl), He.free_ok X G (c.t.d.fact 56 (f := .free "range") rfl), He.free_ok X G (c.t.d.fact 57 (f := .free "int") rfl), He.free_ok X G (c.t.d.fact 58 (f := .free "bool") rfl), He.free_ok X G (c.t.d.fact 59 (f := .free "str") rfl), He.free_ok X G (c.t.d.fact 60 (f := .free "min") rfl), He.free_ok X G (c.t.d.fact 61 (f := .free "max") rfl), He.free_ok X G (c.t.d.fact 62 (f := .free "sorted") rfl), He.free_ok X G (c.t.d.fact 63 (f := .free "isinstance") rfl), He.free_ok X G (c.t.d.fact 64 (f := .free "set") rfl)⟩
  have N : Nums mg := ⟨He.int_ok X G (c.t.d.fact 65 (f := .int "FEWEST_PLACES" 2) rfl), He.int_ok X G (c.t.d.fact 66 (f := .int "MOST_PLACES" 12) rfl), He.int_ok X G (c.t.d.fact 67 (f := .int "MOST_FOLK" 1000000) rfl)⟩
  have NX0 := He.int_ok X G (c.t.d.fact 68 (f := .int "FEWEST_HEADS" 2) rfl)
  have NX1 := He.int_ok X G (c.t.d.fact 69 (f := .int "MOST_HEADS" 4) rfl)
  have XF0 := He.free_ok X G (c.t.d.fact 70 (f := .free "repr") rfl)
  have XF1 := He.free_ok X G (c.t.d.fact 71 (f := .free "any") rfl)
  cases hfa.symm.trans g49
  have CF0 := funC_of D3
  have CF1 := funC_of D2
  have CF2 := funC_of D4
  have CF3 := funC_of D5
  have CF4 := funC_of D14
  have CF5 := funC_of D15
  have CF6 := funC_of D25
  have CF7 := funC_of D31
  have CF8 := funC_of D32
  have CF9 := funC_of D29
  have mem : ∀ i (p : He.Defn), tfl[i]? = some p → p ∈ tfl := fun i p e => List.mem_of_getElem? e
  refine ⟨_, tfl.map (He.cT K), spLaw K [(He.cT K ("are_heads", none)).2, (He.cT K ("are_sizes", none)).2, (He.cT K ("is_lot", none)).2, (He.cT K ("is_ascending", none)).2, (He.cT K ("mask_of", none)).2, (He.cT K ("lot_of", none)).2, (He.cT K ("is_lost", none)).2, (He.cT K ("is_split", none)).2, (He.cT K ("answer_of", none)).2, (He.cT K ("first_state", none)).2], fun p hp => ?_, fun p hp => ?_, fun p hp => ?_, fun s u => FunD.bindsA D49 (ps := ["script"]) (fun _ _ _ _ _ _ us hl => match us, hl with | [_], _ => rfl) s [u] rfl, fun H a ns hl  hH hS => ?_, fun base hb hg hTB => ?_⟩
  · obtain ⟨q, hq, rfl⟩ := List.mem_map.mp hp
    exact c.empty q hq
  · obtain ⟨q, hq, rfl⟩ := List.mem_map.mp hp
    exact c.out q hq
  · obtain ⟨q, hq, rfl⟩ := List.mem_map.mp hp
    exact PySem.W.codeHd_of_K X (c.hd q hq)
  · have hz : ∀ q, q ∈ tfl → Gx.TabG H (He.cT K q).2 := fun q hq => ⟨#[], hH _ (List.mem_map.mpr ⟨q, hq, rfl⟩), by first | exact trivial | simp [GxR.TriplesOk] | simp⟩
    refine ⟨a, ns, rfl, hS, hl, fun Pt hPt => ?_, fun _ => rfl⟩
    simp only [List.mem_cons, List.mem_nil_iff, or_false] at hPt
    rcases hPt with e | e | e | e | e | e | e | e | e | e <;> rw [e] <;> exact hz _ (by simp [tfl])
  · have tb : ∀ q, q ∈ tfl → TabB base mg (He.cT K q).1 (He.cT K q).2 := fun q hq => hTB _ (List.mem_map.mpr ⟨q, hq, rfl⟩)
    have TB0 := tb ("is_lot", none) (by simp [tfl])
    have TB1 := tb ("is_ascending", none) (by simp [tfl])
    have TB2 := tb ("mask_of", none) (by simp [tfl])
    have TB3 := tb ("lot_of", none) (by simp [tfl])
    have TB4 := tb ("are_heads", none) (by simp [tfl])
    have TB5 := tb ("are_sizes", none) (by simp [tfl])
    have TB6 := tb ("is_lost", none) (by simp [tfl])
    have TB7 := tb ("is_split", none) (by simp [tfl])
    have TB8 := tb ("answer_of", none) (by simp [tfl])
    have TB9 := tb ("first_state", none) (by simp [tfl])
    have ci : Cal l.prog w K mg base 1 "is_integer" _ _ := ⟨_, _, ok_is_integer F0 B, g0, D0.kp, b0⟩
    have cpl : Cal l.prog w K mg base 2 "is_place" _ _ := ⟨_, _, ok_is_place F1 B ci, g1, D1.kp, b1⟩
    have ca : Cal l.prog w K mg base 4 "is_ascending" _ _ := ⟨_, _, ok_is_ascending CF1 TB1 B, g2, D2.kp, b2⟩
    have cil : Cal l.prog w K mg base 6 "is_lot" _ _ := ⟨_, _, ok_is_lotA CF0 TB0 B cpl ca, g3, D3.kp, b3⟩
    have cm : Cal l.prog w K mg base 4 "mask_of" _ _ := ⟨_, _, ok_mask_of CF2 TB2 B, g4, D4.kp, b4⟩
    have clo : Cal l.prog w K mg base 6 "lot_of" _ _ := ⟨_, _, ok_lot_of CF3 TB3 B, g5, D5.kp, b5⟩
    have clk : Cal l.prog w K mg base 1 "links_of" _ _ := ⟨_, _, ok_links_of F6 B, g6, D6.kp, b6⟩
    have cre : Cal l.prog w K mg base 7 "reached" _ _ := ⟨_, _, ok_reached F7 B clo, g7, D7.kp, b7⟩
    have cht : Cal l.prog w K mg base 8 "hangs_together" _ _ := ⟨_, _, ok_hangs_together F8 cre, g8, D8.kp, b8⟩
    have cib : Cal l.prog w K mg base 2 "is_border" _ _ := ⟨_, _, ok_is_border F9 B ci, g9, D9.kp, b9⟩
    have cff : Cal l.prog w K mg base 2 "fault_of_folk" _ _ := ⟨_, _, ok_fault_of_folk F10 B N ci, g10, D10.kp, b10⟩
    have cfb : Cal l.prog w K mg base 3 "fault_of_borders" _ _ := ⟨_, _, ok_fault_of_borders F11 B cib, g11, D11.kp, b11⟩
    have cfl : Cal l.prog w K mg base 4 "fault_of_land" _ _ := ⟨_, _, ok_fault_of_land F12 B cff cfb, g12, D12.kp, b12⟩
    have ckl : Cal l.prog w K mg base 5 "check_land" _ _ := ⟨_, _, ok_check_land F13 cfl, g13, D13.kp, b13⟩
    have cah : Cal l.prog w K mg base 6 "are_heads" _ _ := ⟨_, _, ok_are_heads CF4 TB4 B NX0 NX1 cpl, g14, D14.kp, b14⟩
    have cas : Cal l.prog w K mg base 5 "are_sizes" _ _ := ⟨_, _, ok_are_sizes CF5 TB5 B ci, g15, D15.kp, b15⟩
    have ckw : Cal l.prog w K mg base 7 "check_wish" _ _ := ⟨_, _, ok_check_wish F16 ckl cah cas, g16, D16.kp, b16⟩
    have ciw : Cal l.prog w K mg base 9 "is_ward" _ _ := ⟨_, _, ok_is_ward F17 B cm cht, g17, D17.kp, b17⟩
    have chp : Cal l.prog w K mg base 1 "has_place" _ _ := ⟨_, _, ok_has_place F18, g18, D18.kp, b18⟩
    have cfo : Cal l.prog w K mg base 1 "free_of" _ _ := ⟨_, _, ok_free_of F19 B, g19, D19.kp, b19⟩
    have cgv : Cal l.prog w K mg base 1 "given" _ _ := ⟨_, _, ok_given F20 B, g20, D20.kp, b20⟩
    have cct : Cal l.prog w K mg base 8 "come_to" _ _ := ⟨_, _, ok_come_to F21 B cre cfo, g21, D21.kp, b21⟩
    have ccn : Cal l.prog w K mg base 7 "count_of" _ _ := ⟨_, _, ok_count_of F22 B clo, g22, D22.kp, b22⟩
    have cov : Cal l.prog w K mg base 8 "is_over" _ _ := ⟨_, _, ok_is_over F23 ccn, g23, D23.kp, b23⟩
    have csh : Cal l.prog w K mg base 8 "is_shut_in" _ _ := ⟨_, _, ok_is_shut_in F24 ccn, g24, D24.kp, b24⟩
    have clt : Cal l.prog w K mg base 12 "is_lost" _ _ := ⟨_, _, ok_is_lost CF6 TB6 B XF1 chp cfo cct, g25, D25.kp, b25⟩
    have chs : Cal l.prog w K mg base 3 "heads_to" _ _ := ⟨_, _, ok_heads_to F26 B chp, g26, D26.kp, b26⟩
    have cnw : Cal l.prog w K mg base 4 "narrowest" _ _ := ⟨_, _, ok_narrowest F27 B chs, g27, D27.kp, b27⟩
    have csc : Cal l.prog w K mg base 9 "short_cases" _ _ := ⟨_, _, ok_short F28 B cov csh clo cfo chs, g28, D28.kp, b28⟩
    have cfs : Cal l.prog w K mg base 5 "first_state" _ _ := ⟨_, _, ok_first_state CF9 TB9 B, g29, D29.kp, b29⟩
    have cca : Cal l.prog w K mg base 58 "are_cases_of" _ _ := ⟨_, _, ok_cases F30 CF7 TB7 B g30 b30 g31 b31 ci chp cfo cgv clt cov csh cct 9, g30, D30.kp, b30⟩
    have csp : Cal l.prog w K mg base 62 "is_split" _ _ := ⟨_, _, ok_is_split (L := 58) (r := 9) (by decide) CF7 TB7 B ci chp cfo cgv cca, g31, D31.kp, b31⟩
    have can : Cal l.prog w K mg base 25 "answer_of" _ _ := ⟨_, _, ok_answer CF8 TB8 B g32 b32 cct csc cfo cnw clo cgv 13, g32, D32.kp, b32⟩
    have f1 : Cal l.prog w K mg base 26 "wished" _ _ := ⟨_, _, ok_wished F33 ckw clk cfs can, g33, D33.kp, b33⟩
    have f2 : CalK l.prog w K mg base 26 "wished" ["land", "heads", "sizes"] ["sizes", "heads", "land"] rev3 _ := ⟨_, _, ok_wished F33 ckw clk cfs can, g33, D33.kp, kb_rev3 F33 fun _ _ _ _ _ _ _ _ _ => rfl⟩
    have f3 : Cal l.prog w K mg base 10 "is_serving" _ _ := ⟨_, _, ok_is_serving F34 B ckw clk cil cm ciw, g34, D34.kp, b34⟩
    have f4 : Cal l.prog w K mg base 59 "are_cases" _ _ := ⟨_, _, ok_are_cases (r := 9) F35 ckw clk cfs cca, g35, D35.kp, b35⟩
    have cwl : Cal l.prog w K mg base 1 "_law_well" _ _ := ⟨_, _, ok_well F36 B, g36, D36.kp, b36⟩
    have cdp : Cal l.prog w K mg base 1 "_law_dip" _ _ := ⟨_, _, ok_dip F37 B, g37, D37.kp, b37⟩
    have cld : Cal l.prog w K mg base 2 "_law_land" _ _ := ⟨_, _, ok_landW F38 B cdp, g38, D38.kp, b38⟩
    have cbs : Cal l.prog w K mg base 1 "_law_beside" _ _ := ⟨_, _, ok_beside F39, g39, D39.kp, b39⟩
    have cco : Cal l.prog w K mg base 2 "_law_come" _ _ := ⟨_, _, ok_come F40 B cbs, g40, D40.kp, b40⟩
    have chg : Cal l.prog w K mg base 3 "_law_hangs" _ _ := ⟨_, _, ok_hangsW F41 B cco, g41, D41.kp, b41⟩
    have cws : Cal l.prog w K mg base 2 "_law_wish" _ _ := ⟨_, _, ok_wish F42 B cdp, g42, D42.kp, b42⟩
    have cfi : Cal l.prog w K mg base 1 "_law_first" _ _ := ⟨_, _, ok_first F43 B, g43, D43.kp, b43⟩
    have cls : Cal l.prog w K mg base 4 "_law_is_serving" _ _ := ⟨_, _, ok_lserving F44 B chg, g44, D44.kp, b44⟩
    have csv : Cal l.prog w K mg base 5 "_law_servings" _ _ := ⟨_, _, ok_servings F45 B cfi cls, g45, D45.kp, b45⟩
    have crc : Cal l.prog w K mg base 3 "_law_reach" _ _ := ⟨_, _, ok_reach F46 B cco, g46, D46.kp, b46⟩
    have cix : Cal l.prog w K mg base 1 "_law_is_index" _ _ := ⟨_, _, ok_is_index F47 B, g47, D47.kp, b47⟩
    have clc : Cal l.prog w K mg base 14 "_law_are_cases" _ _ := ⟨_, _, ok_lcases F48 B g48 b48 cix crc 9, g48, D48.kp, b48⟩
    exact ok_law F49 B XF0 ⟨rfl, by decide, by decide⟩ cwl cld cws csv cls cfi clc f1 f2 f3 f4
end Wd

set_option Elab.async false
set_option linter.all false
set_option maxRecDepth 100000
set_option maxHeartbeats 4000000
namespace Wd
open PySem PySem.Spec PyProof.Rows L2 Bx Gx

























































/-! ### the run of the top -/
abbrev R : PySem.W.OpenRow := PySem.W.OpenLaw.row PySem.Challenge.rw_wardsdrawn_k24_wishes_by_all_servings
abbrev hk : PySem.W.Hook := He.hookX 6 fal fnl [] tfl (fun _ => true)
def ob (s : PySem.W.SharedT) : He.AlX := He.obsX 6 fal fnl [] tfl (fun _ => true) (HandSHeadRun.getT s)
theorem ob_eq (s : PySem.W.SharedT) : ob s = hk.obs s.abs := He.obsX_eq (HandSHeadRun.getT_eq s)
def names : List PySem.Str := ([("WardError" : PySem.Str), ("InvalidPart" : PySem.Str), ("InvalidLand" : PySem.Str), ("FEWEST_PLACES" : PySem.Str), ("MOST_PLACES" : PySem.Str), ("MOST_FOLK" : PySem.Str), ("is_integer" : PySem.Str), ("is_ascending" : PySem.Str)] : List PySem.Str) ++ ([("is_place" : PySem.Str), ("is_lot" : PySem.Str), ("mask_of" : PySem.Str), ("lot_of" : PySem.Str), ("links_of" : PySem.Str), ("reached" : PySem.Str), ("hangs_together" : PySem.Str), ("fault_of_land" : PySem.Str)] : List PySem.Str) ++ ([("fault_of_folk" : PySem.Str), ("fault_of_borders" : PySem.Str), ("is_border" : PySem.Str), ("check_land" : PySem.Str), ("FEWEST_HEADS" : PySem.Str), ("MOST_HEADS" : PySem.Str), ("wished" : PySem.Str), ("is_serving" : PySem.Str)] : List PySem.Str) ++ ([("are_cases" : PySem.Str), ("check_wish" : PySem.Str), ("are_heads" : PySem.Str), ("are_sizes" : PySem.Str), ("is_ward" : PySem.Str), ("first_state" : PySem.Str), ("given" : PySem.Str), ("free_of" : PySem.Str)] : List PySem.Str) ++ ([("come_to" : PySem.Str), ("count_of" : PySem.Str), ("is_over" : PySem.Str), ("is_shut_in" : PySem.Str), ("is_lost" : PySem.Str), ("has_place" : PySem.Str), ("are_cases_of" : PySem.Str), ("is_split" : PySem.Str)] : List PySem.Str) ++ ([("answer_of" : PySem.Str), ("short_cases" : PySem.Str), ("heads_to" : PySem.Str), ("narrowest" : PySem.Str), ("_law_well" : PySem.Str), ("_law_dip" : PySem.Str), ("_law_same" : PySem.Str), ("_law_land" : PySem.Str)] : List PySem.Str) ++ ([("_law_beside" : PySem.Str), ("_law_come" : PySem.Str), ("_law_hangs" : PySem.Str), ("_law_wish" : PySem.Str), ("_law_is_serving" : PySem.Str), ("_law_reach" : PySem.Str), ("_law_first" : PySem.Str), ("_law_is_index" : PySem.Str)] : List PySem.Str) ++ ([("_law_are_cases" : PySem.Str), ("_law_fault" : PySem.Str), ("_law_search" : PySem.Str), ("_law_servings" : PySem.Str)] : List PySem.Str)
theorem run (w : World) : HandSHeadRun.RunEq R (PySem.W.view R.prog [64]) hk ob 6000 names w := by
  intro os
  kernel_rfl
end Wd
open PySem PySem.W PySem.Calls PyProof.Rows
set_option maxHeartbeats 0
theorem PySem.Challenge.cw_wardsdrawn_k24_wishes_by_all_servings_holds : PySem.Challenge.rw_wardsdrawn_k24_wishes_by_all_servings.Holds := by
  w_on; o_law
  refine HandSHeadRun.head_any (r := OpenLaw.row PySem.Challenge.rw_wardsdrawn_k24_wishes_by_all_servings) (q := view (OpenLaw.row PySem.Challenge.rw_wardsdrawn_k24_wishes_by_all_servings).prog [64]) (H := Wd.hk) (ob := Wd.ob) (M := 6000) (loose := Wd.names) (d := HandSHeadRun.topDef (OpenLaw.row PySem.Challenge.rw_wardsdrawn_k24_wishes_by_all_servings).prog 64) (kwd := []) Wd.ob_eq
    (by kernel_rfl) (fun s => by kernel_rfl) Wd.run (by kernel_rfl) (by kernel_rfl) (by kernel_rfl) (by rfl) (by first | assumption | decide +kernel) (by decide +kernel) ⟨rfl, rfl, rfl, rfl, rfl, by decide +kernel⟩ ?hw ?hc
  case hw => w_witness2
  case hc =>
    refine Gd.walk_C (l := PySem.Challenge.rw_wardsdrawn_k24_wishes_by_all_servings) (n := 63) (x := "script") rfl (by decide) (by kernel_rfl) ?F
    intro w mg fa h Y G hmg0
    obtain ⟨K, KX, c⟩ := Y
    have hmg : mg ("law" : PySem.Str) = some (.ref fa) := by
      have e : (HandSHeadRun.topDef (OpenLaw.row PySem.Challenge.rw_wardsdrawn_k24_wishes_by_all_servings).prog 64).name = ("law" : PySem.Str) := by kernel_rfl
      rw [← e]
      exact hmg0
    exact ⟨K, KX, Wd.facts KX G hmg c⟩
namespace Wd
end Wd
