import PyProof.Rows.All
import Wide.All
import OpenK.AllK
import Wide.FinOn
import HandS.ForMost
import HandS.ForExc
import HandS.GenList
import HandS.AnyAll
import HandS.EndOwn
import PyProof.SumAny
import HandS.IsInst
import HandS.More
import HandS.WideBits
import HandS.Zip
import PyProof.TypeEq
import HandS.Text
import HandS.TupLe
import HandS.Comp
import HandS.Deep
import HandS.Sort
import HandS.SortRule
import HandS.Conv
import HandS.Iter
import HandS.Style
import HandS.TupMul
import HandS.TupAny
import HandS.Dict
import HandS.DictSub
import HandS.TupSets
import PyProof.WalksMore
import HandS.SetKeys
import HandS.ListItems
import KE.SortData
import KE.KDictList
import HandS.ExcOwn
import HandS.TryMany
import HandS.TryOnly
import HandS.HeadHook4
import HandS.ExcInit
import HandS.ExcField
import HandS.ExcIs
import KE.KExcIs
import HandS.SetFor
import HandS.DictComp
import HandS.Strs
import HandS.Codes
import PyProof.StrOps2
import KE.IntTextLaws
import KE.KIntText
import HandS.Walk
import HandS.Wide
import HandS.SortKw
import KE.DataMinMax
import PyProof.ReprRoads
import PyProof.ReprLen
import PyProof.Rows.ReprShort
import HandS.SortInts
import PyProof.Transfer
import PyProof.JoinWalk
import HandS.JoinGen
import HandS.FStr
import KE.KRevSl
import HandS.HeadWalk
import HandS.Head2
import HandS.HeadNt
import PySem.Challenge.RW_wardsdrawn_k39_plans_told
set_option Elab.async false
set_option linter.all false
set_option maxRecDepth 100000
set_option maxHeartbeats 4000000
/-! Gx: a generator expression over anything that PI serves, drained by all, any, sum, tuple; its element may be any expression of the layer. -/
namespace Gx
open PySem PySem.Spec PyProof.Rows L2 GenW

/-! ### the context in which the generator's code runs -/
abbrev genv (X : Cx) (scope : Scope) (code : Value) (C : Addr) : Env := genEnv scope (cloFrom X.env.cells scope.names []) C code builtinsNs X.env
def gcx (X : Cx) (N : List Str) (scope : Scope) (code : Value) (A : Around) (s : Shared) (H : Hp) (fp : List Addr) : Cx :=
  { X with
    A := A.deeper (genv X scope code s.heap.objs.size)
    N := N
    s_0 := s
    H_0 := H
    env := genv X scope code s.heap.objs.size
    outer := X.stack
    stack := genv X scope code s.heap.objs.size :: X.stack
    ex := fp
    fn := fun _ => false
    calm := true
    pn := []
    xe := fun _ _ => False }
/-- the names of the generator expression: N, its own ones and captured ones; src tells where a captured one stands in the def -/
structure GOk (ND : List Str) (sc scope : Scope) (N : List Str) (src : List (Option Nat)) : Prop where
  kind : scope.kind = .function
  co : scope.isCoroutine = false
  cell : ∀ y ∈ scope.names, y.2 ≠ .cell
  dot : scope.names.lookup (".0" : Str) = some NameKind.local
  free : ∀ y ∈ scope.names, y.2 = .free → sc.names.lookup y.1 = some .cell ∨ sc.names.lookup y.1 = some .free
  len : src.length = N.length
  src : ∀ (i j : Nat), src[i]? = some (some j) → ∃ x, N[i]? = some x ∧ ND[j]? = some x ∧ scope.names.lookup x = some .free
def gsl (σ : L2.St) (src : List (Option Nat)) : L2.St := src.map fun o => match o with
  | some j => σ.getD j none
  | none => none
theorem gsl_some {σ : L2.St} {src : List (Option Nat)} {i : Nat} {v : V} (h : (gsl σ src)[i]? = some (some v)) : ∃ j, src[i]? = some (some j) ∧ σ[j]? = some (some v) := by
  unfold gsl at h
  rw [List.getElem?_map] at h
  cases e : src[i]? with
  | none => rw [e] at h; cases h
  | some o =>
    rw [e] at h
    cases o with
    | none => cases h
    | some j =>
      refine ⟨j, rfl, ?_⟩
      have h2 : σ.getD j none = some v := Option.some.inj h
      rw [List.getD_eq_getElem?_getD] at h2
      cases e2 : σ[j]? with
      | none => rw [e2] at h2; cases h2
      | some w => rw [e2] at h2; exact congrArg some h2
theorem over_gl {A : Around} {elt iter tg : Expr} {ifs : List Expr} {scope : Scope} {pos : Pos} {it acc : Value} {env : Env} :
    A.over (.compLoop (.GeneratorExp elt [⟨tg, iter, ifs, 0⟩] scope pos) 0 it acc env) [] = A.deeper env := by
  first
    | rfl
    | (obtain ⟨hd, d, fr, gs, u⟩ := A; simp [Around.over, Around.deeper, marksOver, frameCount, unitsOf, envsOf, guardsOf, pushEnvs, pushGuards, Code.envs, Code.env?, Code.isFrame, Code.guards, Code.isGuard, Code.weight, Code.frames, Code.isCreation, Code.isCaller, Code.cUnits])
theorem over_gs {A : Around} {elt iter tg : Expr} {ifs : List Expr} {scope : Scope} {pos : Pos} {it acc : Value} {env : Env} :
    A.over (.compStart (.GeneratorExp elt [⟨tg, iter, ifs, 0⟩] scope pos) 0 it acc env) [] = A.deeper env := by
  first
    | rfl
    | (obtain ⟨hd, d, fr, gs, u⟩ := A; simp [Around.over, Around.deeper, marksOver, frameCount, unitsOf, envsOf, guardsOf, pushEnvs, pushGuards, Code.envs, Code.env?, Code.isFrame, Code.guards, Code.isGuard, Code.weight, Code.frames, Code.isCreation, Code.isCaller, Code.cUnits])
section
variable {X : Cx} {pins : List (Addr × Obj)} {σ : L2.St} {H : Hp} {s s' : Shared} {scope : Scope} {N : List Str} {src : List (Option Nat)} {fp : List Addr} {code : Value} {A : Around} {m0 : Str → Option Value}
theorem g_start (I : Inv X pins σ H s) (ok : GOk X.N X.env.scope scope N src) (hfp : ∀ b ∈ fp, FpOk X pins H b ∧ b < s.heap.objs.size) (hA : A.frames = some X.stack) (hh : A.handled = none)
    (os : s'.os = s.os) (bare : AllBare s'.gens) (kp : ∀ b o, s.heap.get? b = some o → s'.heap.get? b = some o) (hn : s'.heap.Ns s.heap.objs.size m0) :
    Inv (gcx X N scope code A s H fp) [] (gsl σ src) H s' := by
  have hfree : ∀ y ∈ scope.names, y.2 = .free → ∃ c, X.env.cells.lookup y.1 = some c := fun y hy e => by
    rcases ok.free y hy e with k | k
    · exact I.ok.has _ (.inl k)
    · exact I.ok.has _ (.inr k)
  have cm : ∀ {y c}, (y, c) ∈ cloFrom X.env.cells scope.names [] → X.env.cells.lookup y = some c ∧ c < s.heap.objs.size := fun {y c} hm => by
    rcases cloFrom_mem hm with hm | ⟨h1, rfl⟩
    · cases hm
    · obtain ⟨c, hc⟩ := hfree _ h1 rfl
      rw [hc]
      obtain ⟨w, z⟩ := I.cell _ _ hc
      exact ⟨rfl, z.lt⟩
  have look : ∀ {y}, scope.names.lookup y = some .free → ∃ c, (cloFrom X.env.cells scope.names []).lookup y = some c ∧ X.env.cells.lookup y = some c := fun {y} hl => by
    have hy : (y, NameKind.free) ∈ scope.names := PySem.mem_of_lookup hl
    obtain ⟨c', e'⟩ := mem_lookup (cloFrom_has (cells := X.env.cells) (acc := []) hy)
    exact ⟨c', e', (cm (PySem.mem_of_lookup e')).1⟩
  refine ⟨⟨I.ok.mod, ok.kind, I.ok.glob, rfl, Nat.le_refl _, fun y z c e1 e2 => ?_, fun y hy => ?_, fun y c z _ => ?_, fun _ => hh, Around.frames_deeper hA, .inr ⟨rfl, rfl⟩, fun b hb => ⟨?_, fun y c e z => ?_⟩, I.bs, Nat.le_trans I.ok.bsz I.sz, fun b o e hb => ?_, fun b hb z => ?_, I.stack, I.stkFree⟩,
    os, bare, Un.kept kp, ⟨m0, hn, fun i y v e1 e2 e3 => ?_⟩, fun y c e => ?_, I.hok.fresh (Nat.le_refl _), fun y c e => ?_, fun p hp => absurd (show p ∈ ([] : List (Addr × Obj)) ++ [] from hp) (by simp), I.hok.kept kp, ?_⟩
  · exact I.ok.inj y z c (cm (PySem.mem_of_lookup e1)).1 (cm (PySem.mem_of_lookup e2)).1
  · have hy : scope.names.lookup y = some .cell ∨ scope.names.lookup y = some .free := hy
    rcases hy with hy | hy
    · exact absurd rfl (ok.cell _ (PySem.mem_of_lookup hy))
    · obtain ⟨c, h1, _⟩ := look hy
      exact ⟨c, h1⟩
  · cases z
  · exact Nat.ne_of_lt (hfp b hb).2
  · exact (hfp b hb).1.2.2.2.2.1 y c (cm (PySem.mem_of_lookup e)).1 z
  · rcases (hfp b hb).1.2.2.2.1 with z | z
    · exact I.ok.noex b o e z
    · exact absurd (Nat.lt_of_lt_of_le (Heap.lt_size e) (Nat.le_trans I.ok.bsz z)) (Nat.lt_irrefl _)
  · rcases List.mem_cons.mp (I.stkSub b z) with z | z
    · exact (hfp b hb).1.2.1 z
    · exact (hfp b hb).1.2.2.1 z
  · obtain ⟨j, h1, h2⟩ := gsl_some e2
    obtain ⟨x, hx1, hx2, hx3⟩ := ok.src i j h1
    have e1 : N[i]? = some y := e1
    rw [hx1] at e1
    cases e1
    obtain ⟨m, _, hl⟩ := I.loc
    have hf := ok.free _ (PySem.mem_of_lookup hx3) rfl
    obtain ⟨w, r, q⟩ := hl j y v hx2 h2 (hf.elim (fun k => .inr (.inl k)) fun k => .inr (.inr k))
    refine ⟨w, r, .inr ⟨.inr hx3, ?_⟩⟩
    obtain ⟨c, h1, h2⟩ := look hx3
    rcases q with ⟨k, _⟩ | ⟨_, c', e', z⟩
    · have k : X.env.scope.names.lookup y = some .local := k
      rcases hf with k' | k' <;> rw [show X.env.scope.names.lookup y = _ from k'] at k <;> cases k
    · rw [h2] at e'; cases e'
      exact ⟨c, h1, z.keeps kp⟩
  · obtain ⟨w, z⟩ := I.cell y c (cm (PySem.mem_of_lookup e)).1
    exact ⟨w, z.keeps kp⟩
  · exact I.freeC y c (cm (PySem.mem_of_lookup e)).1
  · show (gsl σ src).length = N.length
    unfold gsl
    rw [List.length_map, ok.len]
end

/-! ### the loop of the generator's code -/
/-- what is pinned while the generator runs: its own object and what its consumer keeps -/
structure PinsOk (G : Cx) (fp : List Addr) (pins : List (Addr × Obj)) : Prop where
  young : ∀ p ∈ pins, G.s_0.heap.objs.size ≤ p.1
  ne : ∀ p ∈ pins, p.1 ≠ G.env.locals
  nfp : ∀ p ∈ pins, p.1 ∉ fp
  ncell : ∀ p ∈ pins, ∀ x c, G.env.cells.lookup x = some c → c ≠ p.1
abbrev TPost := V → List V → Hp → Prop → Prop
/-- the consumer has taken its item: what it keeps may have changed, all else stands -/
structure Woke (pins pins' : List (Addr × Obj)) (s s' : Shared) : Prop where
  os : s'.os = s.os
  bare : AllBare s'.gens
  keep : ∀ b o, b ∉ pins.map (·.1) → s.heap.get? b = some o → s'.heap.get? b = some o
  same : pins'.map (·.1) = pins.map (·.1)
  at_ : ∀ p ∈ pins', s'.heap.get? p.1 = some p.2
  data : ∀ p ∈ pins', ∀ v, p.2.data ≠ .cell v
def GYx (G : Cx) (fp : List Addr) (Pn : List V → List (Addr × Obj) → Prop) (post : TPost) : Protocol := fun n s₀ v s kap =>
  ∃ x ys σ H pins C, RelV x v ∧ Inv G pins σ H s ∧ PinsOk G fp pins ∧ Pn ys pins ∧ (∀ p ∈ pins, s₀.heap.get? p.1 = some p.2) ∧ post x ys H C ∧
    (C → ∀ s' pins', Woke pins pins' s s' → Pn (ys ++ [x]) pins' → kap (.send .none) s')
def GEx (G : Cx) (fp : List Addr) (Pn : List V → List (Addr × Obj) → Prop) (Fin : List V → Hp → Prop) : Shared → Shared → Prop := fun s₀ s =>
  ∃ ys σ H pins, Inv G pins σ H s ∧ PinsOk G fp pins ∧ Pn ys pins ∧ (∀ p ∈ pins, s₀.heap.get? p.1 = some p.2) ∧ Fin ys H
/-- the reading of a turn -/
def GTurn (J : It) (g : TG) (tt : TT) (te : TE) (vs : List Nat) (σg : L2.St) (post : TPost) (Fin : List V → Hp → Prop) (W : Nat → Nat → List V → Hp → Prop) : Prop :=
  ∀ i m ys H, W i m ys H → (J.stop i H ∧ Fin ys H) ∨ (J.go i H ∧ ∀ x H', J.yld i H x H' → g x σg H' fun σ2 H2 => wipe σ2 vs = σg ∧ tt σ2 H2 fun b H3 =>
    if b = true then te σ2 H3 fun v H4 => post v ys H4 (∃ m', m' < m ∧ W (i + 1) m' (ys ++ [v]) H4) else ∃ m', m' < m ∧ W (i + 1) m' ys H3)
theorem Inv.woke {G : Cx} {fp : List Addr} {pins pins' : List (Addr × Obj)} {σ : L2.St} {H : Hp} {s s' : Shared} (I : Inv G pins σ H s) (hpn : G.pn = []) (hp : PinsOk G fp pins) (z : Woke pins pins' s s') : Inv G pins' σ H s' ∧ PinsOk G fp pins' := by
  have hm : ∀ b, b ∈ pins.map (·.1) → ∃ p ∈ pins, p.1 = b := fun b hb => by
    obtain ⟨p, h1, h2⟩ := List.mem_map.mp hb
    exact ⟨p, h1, h2⟩
  have h0 : ∀ b ∈ pins.map (·.1), H b = none ∧ b ∉ G.fs := fun b hb => by
    obtain ⟨p, h1, rfl⟩ := hm b hb
    have q := I.pin p (List.mem_append_right _ h1)
    exact ⟨q.2.1, q.2.2.2.1⟩
  have h1 : ∀ b ∈ pins.map (·.1), G.s_0.heap.objs.size ≤ b ∧ b ≠ G.env.locals ∧ b ∉ fp ∧ ∀ x c, G.env.cells.lookup x = some c → c ≠ b := fun b hb => by
    obtain ⟨p, h1, rfl⟩ := hm b hb
    exact ⟨hp.young p h1, hp.ne p h1, hp.nfp p h1, hp.ncell p h1⟩
  have I0 : Inv G [] σ H s := I.pins_of fun p hp => by simp at hp
  have nt : ∀ b u, H b = some u → b ∉ pins.map (·.1) := fun b u q hb => by rw [(h0 b hb).1] at q; cases q
  obtain ⟨hh, g, d, t, o⟩ := s'
  have ho : o = s.os := z.os
  subst ho
  have J : Inv G [] σ H { s with heap := hh, gens := g, drawn := d, toks := t } := by
    refine I0.step (g' := g) (t' := t) (d' := d) (ch := pins.map (·.1)) (fun b hb => ?_)
      (fun b ob _ _ hc q _ => z.keep b ob hc q) (fun b ob _ _ hc q _ => ⟨ob.slots, z.keep b ob hc q⟩) (fun _ _ _ _ n => n) (fun b ob hc q => ⟨ob, z.keep b ob hc q⟩)
      (fun _ _ q => q) (fun _ _ _ q => q) (fun b ps q => ⟨#[], by rw [q]; simp⟩) (fun m hm => ?_) (fun b u q => ?_) z.bare
    · obtain ⟨q1, q2, _, q4⟩ := h1 b hb
      refine ⟨.inr q1, q2, q4, fun p hp => ?_⟩
      rw [hpn] at hp
      simp at hp
    · obtain ⟨ob, es, ep, ho, r⟩ := hm
      exact ⟨ob, es, ep, z.keep _ ob (fun hb => (h1 _ hb).2.1 rfl) ho, r⟩
    · refine (I0.hok b u q).stay (fun c v hc y => z.keep c v ?_ y) (fun _ y => y) fun _ _ y => y
      rcases hc with y | y
      · rw [y]; exact nt b u q
      · exact nt c _ y
  have hsub : ∀ p ∈ pins', p.1 ∈ pins.map (·.1) := fun p hp => by rw [← z.same]; exact List.mem_map.mpr ⟨p, hp, rfl⟩
  refine ⟨J.pins_of fun p hp => ⟨z.at_ p hp, (h0 _ (hsub p hp)).1, (h1 _ (hsub p hp)).2.1, (h0 _ (hsub p hp)).2, z.data p hp⟩,
    ⟨fun p hp => (h1 _ (hsub p hp)).1, fun p hp => (h1 _ (hsub p hp)).2.1, fun p hp => (h1 _ (hsub p hp)).2.2.1, fun p hp => (h1 _ (hsub p hp)).2.2.2⟩⟩

section
variable {X : Cx} {H4 : Hp} {s4 : Shared} {scope : Scope} {N : List Str} {fp : List Addr} {code : Value} {A : Around}
variable {elt tg iter : Expr} {ifs : List Expr} {pos : Pos} {it : Addr} {J : It} {tn : Nat → Heap → Prop} {g : TG} {tt : TT} {te : TE} {vs : List Nat} {σg : L2.St} {post : TPost} {Fin : List V → Hp → Prop}
  {W : Nat → Nat → List V → Hp → Prop} {Pn : List V → List (Addr × Obj) → Prop}
theorem g_loop (hco : scope.isCoroutine = false) (hh : A.handled = none) (T : Turn X.prog X.w X.K tg J fp it tn)
    (pg : PG (gcx X N scope code A s4 H4 fp) tg g) (pt : PTs (gcx X N scope code A s4 H4 fp) ifs tt) (pe : PE (gcx X N scope code A s4 H4 fp) elt te)
    (turn : GTurn J g tt te vs σg post Fin W) :
    ∀ (m n i : Nat) (ys : List V) (H : Hp) (s₀ s : Shared) (pins : List (Addr × Obj)), m < n → W i m ys H → Inv (gcx X N scope code A s4 H4 fp) pins σg H s → PinsOk (gcx X N scope code A s4 H4 fp) fp pins → Pn ys pins → (∀ p ∈ pins, s₀.heap.get? p.1 = some p.2) →
      tn i s.heap → (∀ b ∈ fp, H b = none) →
      Seg (model X.prog X.w) A (fun n s₀ r s₁ => r = .ok .next ∧ GEx (gcx X N scope code A s4 H4 fp) fp Pn Fin s₀ s₁) (GYx (gcx X N scope code A s4 H4 fp) fp Pn post) n s₀
        (.compLoop (.GeneratorExp elt [⟨tg, iter, ifs, 0⟩] scope pos) 0 (.ref it) .none (genv X scope code s4.heap.objs.size))
        ((model X.prog X.w).den (.compLoop (.GeneratorExp elt [⟨tg, iter, ifs, 0⟩] scope pos) 0 (.ref it) .none (genv X scope code s4.heap.objs.size))) [] s := by
  intro m
  induction m using Nat.strongRecOn with
  | ind m ih =>
  intro n i ys H s₀ s pins hmn w I P hPn hs0 st nf
  have stat : ∀ {pins' : List (Addr × Obj)} {σ' : L2.St} {H' : Hp} {s' : Shared}, Inv (gcx X N scope code A s4 H4 fp) pins' σ' H' s' → PinsOk (gcx X N scope code A s4 H4 fp) fp pins' → (∀ b ∈ fp, H' b = none) → ∀ b ∈ fp, FpOk (gcx X N scope code A s4 H4 fp) pins' H' b := fun {pins' σ' H' s'} I' P' hn b hb =>
    ⟨hn b hb, (I'.ok.exf b hb).1, I'.ok.exfs b hb, .inl hb, fun x c e => (I'.ok.exf b hb).2 x c e, fun p hp => by
      have hp : p ∈ ([] : List (Addr × Obj)) ++ pins' := hp
      rw [List.nil_append] at hp
      intro e
      exact P'.nfp p hp (by rw [e]; exact hb)⟩
  show Seg _ A _ _ _ s₀ _ ((compTurn (.GeneratorExp elt [⟨tg, iter, ifs, 0⟩] scope pos) 0 (.ref it) .none (genv X scope code s4.heap.objs.size)).onRaise (leaving (genv X scope code s4.heap.objs.size))) [] s
  rw [compTurn_gen, Sem.onRaise_eq_wrap]
  refine seg_bind_wrap (wpAny_standAt ?_)
  rcases turn i m ys H w with ⟨stop, fin⟩ | ⟨go, step⟩
  · refine seg_bind_wrap ?_
    rw [over_gl]
    refine thnF (T.done (gcx X N scope code A s4 H4 fp) rfl rfl rfl rfl i pins s _ H (fun _ _ => False) I (stat I P nf) st stop) fun r s6 ⟨hr, I6⟩ => ?_
    subst hr
    exact seg_end (.ok .next) ⟨rfl, ys, _, H, pins, I6, P, hPn, hs0, fin⟩
  · refine seg_bind_wrap ?_
    rw [over_gl]
    refine thnF (T.item (gcx X N scope code A s4 H4 fp) rfl rfl rfl rfl i pins s _ H (fun _ _ => False) I (stat I P nf) st go) fun r s6 ⟨u, hr, h6⟩ => ?_
    subst hr
    refine seg_bind_wrap ?_
    rw [over_gl]
    refine thnF h6 fun _ s7 ⟨x, H7, I7, r7, y7, st7, n7⟩ => ?_
    have I7' := I7.pinned (stat I7 P n7) (T.obj _ _ st7)
    refine seg_bind_wrap ?_
    rw [over_gl]
    refine thnF (pg.run _ s7 _ H7 x u _ I7' r7 (step x H7 y7)) fun _ s8 ⟨σ8, H8, I8, hw8, q8⟩ => ?_
    refine seg_bind_wrap ?_
    rw [over_gl]
    refine thnF (pt.run _ s8 σ8 H8 _ I8 q8) fun b s9 ⟨H9, I9, q9⟩ => ?_
    -- the turn's end
    have fin : ∀ {s' : Shared} {H' : Hp}, Inv (gcx X N scope code A s4 H4 fp) (pins ++ pinsAt fp s7.heap) σ8 H' s' → Inv (gcx X N scope code A s4 H4 fp) pins σg H' s' ∧ tn (i + 1) s'.heap ∧ ∀ b ∈ fp, H' b = none := fun {s' H'} I' => by
      have pin' : ∀ b ∈ fp, ∀ o, s7.heap.get? b = some o → s'.heap.get? b = some o ∧ H' b = none := fun b hb o e =>
        let z := I'.pin (b, o) (List.mem_append_right _ (List.mem_append_right _ (mem_pinsAt hb e)))
        ⟨z.1, z.2.1⟩
      have hl : σg.length = σ8.length := by rw [← hw8, wipe_length]
      refine ⟨(I'.unpinned (pins := pins)).weak hl (fun j v e => ?_), T.keep _ _ _ st7 fun b hb o e => (pin' b hb o e).1, fun b hb => ?_⟩
      · rw [← hw8] at e
        exact (wipe_some e).1
      · obtain ⟨o, e, _⟩ := T.obj _ _ st7 b hb
        exact (pin' b hb o e).2
    cases b with
    | false =>
      simp only [Bool.false_eq_true, if_false] at q9 ⊢
      obtain ⟨m', hm, w'⟩ := q9
      obtain ⟨J1, J2, J3⟩ := fin I9
      exact seg_again rfl (ih m' hm n (i + 1) ys H9 s₀ s9 pins (by omega) w' J1 P hPn hs0 J2 J3)
    | true =>
      simp only [if_true] at q9 ⊢
      obtain ⟨n', rfl⟩ : ∃ n', n = n' + 1 := ⟨n - 1, by omega⟩
      have hy : ∀ v, yieldOut (genv X scope code s4.heap.objs.size) v = yieldValue v := fun v => by
        have hco' : (genv X scope code s4.heap.objs.size).scope.isCoroutine = false := hco
        simp only [yieldOut, hco', Bool.false_eq_true, if_false]
      simp only [hy]
      rw [Sem.bind_eq_wrap', Sem.bind_eq_wrap', Sem.wrap_wrap, Sem.wrap_wrap]
      refine seg_wrap ?_
      rw [over_gl]
      refine thnF (pe.run _ s9 σ8 H9 _ I9 q9) fun v s10 ⟨yv, H10, I10, r10, q10⟩ => ?_
      obtain ⟨J1, J2, J3⟩ := fin I10
      refine seg_at (seg_yield rfl rfl rfl ⟨yv, ys, _, H10, pins, _, r10, J1, P, hPn, hs0, q10, fun hC s' pins' hw hP' => ?_⟩)
      obtain ⟨m', hm, w'⟩ := hC
      obtain ⟨K1, K2⟩ := Gx.Inv.woke J1 rfl P hw
      refine seg_again rfl (ih m' hm n' (i + 1) (ys ++ [yv]) H10 s' s' pins' (by omega) w' K1 K2 hP' hw.at_ (T.keep _ _ _ J2 fun b hb o e => hw.keep b o (fun hm => ?_) e) J3)
      obtain ⟨p, hp, e⟩ := List.mem_map.mp hm
      exact P.nfp p hp (by rw [e]; exact hb)

theorem g_begin (hco : scope.isCoroutine = false) (hh : A.handled = none) (T : Turn X.prog X.w X.K tg J fp it tn)
    (pg : PG (gcx X N scope code A s4 H4 fp) tg g) (pt : PTs (gcx X N scope code A s4 H4 fp) ifs tt) (pe : PE (gcx X N scope code A s4 H4 fp) elt te)
    (turn : GTurn J g tt te vs σg post Fin W) {m n : Nat} {ys : List V} {H : Hp} {s₀ s : Shared} {pins : List (Addr × Obj)} (hmn : m < n) (w : W 0 m ys H) (I : Inv (gcx X N scope code A s4 H4 fp) pins σg H s) (P : PinsOk (gcx X N scope code A s4 H4 fp) fp pins) (hPn : Pn ys pins)
    (hs0 : ∀ p ∈ pins, s₀.heap.get? p.1 = some p.2) (st : tn 0 s.heap) (nf : ∀ b ∈ fp, H b = none) :
      Seg (model X.prog X.w) A (fun n s₀ r s₁ => r = .ok .next ∧ GEx (gcx X N scope code A s4 H4 fp) fp Pn Fin s₀ s₁) (GYx (gcx X N scope code A s4 H4 fp) fp Pn post) n s₀
        (.compStart (.GeneratorExp elt [⟨tg, iter, ifs, 0⟩] scope pos) 0 (.ref it) .none (genv X scope code s4.heap.objs.size))
        ((model X.prog X.w).den (.compStart (.GeneratorExp elt [⟨tg, iter, ifs, 0⟩] scope pos) 0 (.ref it) .none (genv X scope code s4.heap.objs.size))) [] s := by
  have loop := g_loop (elt := elt) (iter := iter) (ifs := ifs) (pos := pos) hco hh T pg pt pe turn m n 0 ys H s₀ s pins hmn w I P hPn hs0 st nf
  show Seg _ A _ _ _ s₀ _ ((compStart (.GeneratorExp elt [⟨tg, iter, ifs, 0⟩] scope pos) 0 (.ref it) .none (genv X scope code s4.heap.objs.size)).onRaise (leaving (genv X scope code s4.heap.objs.size))) [] s
  unfold compStart
  rw [Sem.onRaise_eq_wrap]
  show Seg _ A _ _ _ s₀ _ ((ask >>= _).wrap _ _ _ _) [] s
  refine seg_bind_wrap (wpAny_askSetting ?_)
  split
  · exact seg_again rfl loop
  · first
      | exact seg_bind_wrap (wpAny_rule (seg_bind_wrap (wpAny_standAt (seg_bind_wrap (T.self _ 0 s _ _ st (seg_again rfl loop))))))
      | (refine seg_bind_wrap (wpAny_rule ?_); show Seg _ A _ _ _ s₀ _ ((standAt iter.pos >>= _).wrap _ _ _ _) [] s; exact seg_bind_wrap (wpAny_standAt (seg_bind_wrap (T.self _ 0 s _ _ st (seg_again rfl loop)))))

/-! ### one step of a consumer -/
/-- back with the def: what its frame asks -/
structure Back (X : Cx) (H4 : Hp) (s4 : Shared) (fp : List Addr) (H : Hp) (s' : Shared) : Prop where
  os : s'.os = s4.os
  un : Un (frs X.stack) fp H4 H s4.heap s'.heap
  hok : HOk X.prog X.w H s'.heap
  bare : AllBare s'.gens
theorem Back.of {N : List Str} {scope : Scope} {code : Value} {A : Around} {pins : List (Addr × Obj)} {σ : L2.St} {H : Hp} {s1 : Shared} (I : Inv (gcx X N scope code A s4 H4 fp) pins σ H s1) : Back X H4 s4 fp H s1 := ⟨I.os, I.base, I.hok, I.bare⟩
theorem Back.setGen {H : Hp} {s1 : Shared} (b : Back X H4 s4 fp H s1) {g : Nat} {x : GenState} (hx : x.bare = true) : Back X H4 s4 fp H (s1.setGen g x) := ⟨b.os, b.un, b.hok, allBare_setGen b.bare hx⟩
theorem Back.kept {H : Hp} {s1 : Shared} (b : Back X H4 s4 fp H s1) {h' : Heap} {tk : Nat} (k : ∀ b o, s1.heap.get? b = some o → h'.get? b = some o) : Back X H4 s4 fp H { s1 with heap := h', toks := tk } :=
  ⟨b.os, b.un.trans (Un.kept k), b.hok.kept k, b.bare⟩
theorem Back.inv {pins : List (Addr × Obj)} {σ : L2.St} {H : Hp} {s' : Shared} (b : Back X H4 s4 fp H s') (I : Inv X pins σ H4 s4) (hfp : ∀ b ∈ fp, FpOk X pins H4 b) : Inv X pins σ H s' :=
  I.call' (ch := fp) b.os b.un b.hok b.bare fun b hb => ⟨(hfp b hb).2.2.2.1, (hfp b hb).2.1, (hfp b hb).2.2.2.2.1, (hfp b hb).2.2.2.2.2⟩

abbrev GR (G : Cx) (fp : List Addr) (Pn : List V → List (Addr × Obj) → Prop) (Fin : List V → Hp → Prop) : GenEnd := fun n s₀ r s₁ => r = .ok .next ∧ GEx G fp Pn Fin s₀ s₁
/-- the generator at a, number gi, ready to be asked within A -/
structure Rdy (M : Model) (A : Around) (R : GenEnd) (Y : Protocol) (a : Addr) (go : Obj) (gi n : Nat) (s : Shared) : Prop where
  obj : s.heap.get? a = some go
  lim : s.heap.NoLimit
  go : ∃ gs, s.gens[gi]? = some gs ∧ gs.Goes M A R Y n (.send .none) (s.setGen gi .running)
theorem g_next {B : Around} {G : Cx} {a : Addr} {go : Obj} {gi n : Nat} {s : Shared} {Q : Option Value → Shared → Prop} {E : Value → Shared → Prop} (hh : B.handled = none) (hd : B.depth < recursionLimit)
    (hgen : ∀ h : Heap, h.get? a = some go → h.IsGen a gi)
    (hr : Rdy (model X.prog X.w) B.in1 (GR G fp Pn Fin) (GYx G fp Pn post) a go gi n s)
    (hY : ∀ x v ys σ H pins C s1 gs', gs'.bare = true → RelV x v → Inv G pins σ H s1 → PinsOk G fp pins → Pn ys pins → (∀ p ∈ pins, s.heap.get? p.1 = some p.2) → post x ys H C → gi < s1.gens.size →
      (C → ∀ s' pins', Woke pins pins' s1 s' → Pn (ys ++ [x]) pins' → ∃ n', n = n' + 1 ∧ gs'.Goes (model X.prog X.w) B.in1 (GR G fp Pn Fin) (GYx G fp Pn post) n' (.send .none) s') → Q (some v) (s1.setGen gi gs'))
    (hP : ∀ s1 ys σ H pins h', Inv G pins σ H s1 → PinsOk G fp pins → Pn ys pins → (∀ p ∈ pins, s.heap.get? p.1 = some p.2) → Fin ys H → (∀ b o, s1.heap.get? b = some o → h'.get? b = some o) → Q none { s1.setGen gi .finished with heap := h' }) :
    wpAny (model X.prog X.w) B (pyNext (.ref a)) Q E s := by
  obtain ⟨gs, hgs, hgo⟩ := hr.go
  have hgl : gi < s.gens.size := (Array.getElem?_eq_some_iff.mp hgs).1
  refine wpAny_gsz (n := gi + 1) hgl (wpAny_pyNext_genexpQ (P := fun _ s₀ s₁ => GEx G fp Pn Fin s₀ s₁) hh hr.lim hd (hgen _ hr.obj) hgs hgo (fun v s₁ gs' hb hv => ?_) fun s₁ hp h' hk => ?_)
  · intro hsz
    obtain ⟨x, ys, σ, H, pins, C, r, I, P, hPn, hs0, hpost, hkap⟩ := hv
    have hsz1 : gi < s₁.gens.size := by
      have q : (s₁.setGen gi gs').gens.size = s₁.gens.size := setGen_size _ _ _
      have hsz' : gi + 1 ≤ (s₁.setGen gi gs').gens.size := hsz
      omega
    refine hY x v ys σ H pins C s₁ gs' hb r I P hPn hs0 hpost hsz1 fun hC s' pins' hw hP' => ?_
    have q := hkap hC s' pins' hw hP'
    cases n with
    | zero => exact q.elim
    | succ n' => exact ⟨n', rfl, q⟩
  · intro _
    obtain ⟨ys, σ, H, pins, I, P, hPn, hs0, hfin⟩ := hp
    exact hP s₁ ys σ H pins h' I P hPn hs0 hfin hk
end
end Gx

set_option Elab.async false
set_option linter.all false
set_option maxRecDepth 100000
set_option maxHeartbeats 4000000
/-! Gy: the consumers all, any, sum, tuple. -/
namespace Gx
open PySem PySem.Spec PyProof.Rows L2 GenW

section
variable {X : Cx} {H4 : Hp} {s4 : Shared} {scope : Scope} {N : List Str} {fp : List Addr} {code : Value} {AG A : Around} {a S : Addr} {go : Obj} {gi : Nat} {Fin : List V → Hp → Prop} {Qf : Hp → Prop} {R' : Result → Shared → Prop}

def pAll (Qf : Hp → Prop) : TPost := fun v _ H C => ∃ b, v = .bl b ∧ if b = true then C else Qf H
def pAny (Qt : Hp → Prop) : TPost := fun v _ H C => ∃ b, v = .bl b ∧ if b = true then Qt H else C
def nAll (a : Addr) (go : Obj) : List V → List (Addr × Obj) → Prop := fun _ pins => pins = [(a, go)]

theorem woke_same {G : Cx} {fp : List Addr} {pins : List (Addr × Obj)} {σ : L2.St} {H : Hp} {s1 : Shared} {gs' : GenState} (I : Inv G pins σ H s1) (hb : gs'.bare = true) : Woke pins pins s1 ((s1.setGen gi gs').setGen gi .running) where
  os := rfl
  bare := allBare_setGen (s := s1.setGen gi gs') (allBare_setGen I.bare hb) rfl
  keep := fun _ _ _ e => e
  same := rfl
  at_ := fun p hp => (I.pin p (List.mem_append_right _ hp)).1
  data := fun p hp => (I.pin p (List.mem_append_right _ hp)).2.2.2.2

theorem drain_all (hh : A.handled = none) (hd : A.depth < recursionLimit) (hgen : ∀ h : Heap, h.get? a = some go → h.IsGen a gi)
    (hT : ∀ s' ys H, Back X H4 s4 fp H s' → Fin ys H → R' (.ok (.ret (.bool true))) s') (hF : ∀ s' H, Back X H4 s4 fp H s' → Qf H → R' (.ok (.ret (.bool false))) s') :
    ∀ (n : Nat) (s : Shared), Rdy (model X.prog X.w) A.in1.in1 (GR (gcx X N scope code AG s4 H4 fp) fp (nAll a go) Fin) (GYx (gcx X N scope code AG s4 H4 fp) fp (nAll a go) (pAll Qf)) a go gi n s →
      codeAny (model X.prog X.w) A (.builtin "all.loop" ⟨[.ref a], []⟩) R' s := by
  intro n
  induction n using Nat.strongRecOn with
  | ind n ih =>
  intro s hr
  refine codeAny_builtin F.entry_all_loop ?_
  rw [Around.under_plainId F.plain_all_loop _]
  show wpAny _ A.in1 (pyNext (.ref a) >>= _) _ _ s
  refine wpAny_bind (g_next (B := A.in1) hh hd hgen hr (fun x v ys σ H pins C s1 gs' hb rv I P hPn hs0 hpost hsz hk => ?_) fun s1 ys σ H pins h' I P hPn hs0 hfin hkh => ?_)
  · obtain ⟨b, rfl, hpost⟩ := hpost
    cases rv
    refine wpAny_bind (wpAny_holding (wpAny_truthy_bool ?_))
    refine wpAny_bind (wpAny_letGo ?_)
    have hPn' : pins = [(a, go)] := hPn
    subst hPn'
    cases b with
    | true =>
      simp only [if_true] at hpost ⊢
      obtain ⟨n', rfl, hgo⟩ := hk hpost _ _ (woke_same (fp := fp) (gi := gi) I hb) rfl
      refine wpAny_pure ⟨plainId_quiet F.plain_all_loop _, ih n' (Nat.lt_succ_self _) _ ⟨?_, I.nolimit, gs', setGen_at hsz, hgo⟩⟩
      exact (I.pin (a, go) (List.mem_append_right _ List.mem_cons_self)).1
    | false =>
      simp only [Bool.false_eq_true, if_false] at hpost ⊢
      exact wpAny_bind (wpAny_rule (wpAny_pure (hF _ H ((Back.of I).setGen hb) hpost)))
  · exact wpAny_bind (wpAny_rule (wpAny_pure (hT _ ys H (Back.kept (tk := s1.toks) ((Back.of I).setGen (g := gi) (x := .finished) rfl) hkh) hfin)))
theorem drain_any {Qt : Hp → Prop} (hh : A.handled = none) (hd : A.depth < recursionLimit) (hgen : ∀ h : Heap, h.get? a = some go → h.IsGen a gi)
    (hF : ∀ s' ys H, Back X H4 s4 fp H s' → Fin ys H → R' (.ok (.ret (.bool false))) s') (hT : ∀ s' H, Back X H4 s4 fp H s' → Qt H → R' (.ok (.ret (.bool true))) s') :
    ∀ (n : Nat) (s : Shared), Rdy (model X.prog X.w) A.in1.in1 (GR (gcx X N scope code AG s4 H4 fp) fp (nAll a go) Fin) (GYx (gcx X N scope code AG s4 H4 fp) fp (nAll a go) (pAny Qt)) a go gi n s →
      codeAny (model X.prog X.w) A (.builtin "any.loop" ⟨[.ref a], []⟩) R' s := by
  intro n
  induction n using Nat.strongRecOn with
  | ind n ih =>
  intro s hr
  refine codeAny_builtin F.entry_any_loop ?_
  rw [Around.under_plainId F.plain_any_loop _]
  show wpAny _ A.in1 (pyNext (.ref a) >>= _) _ _ s
  refine wpAny_bind (g_next (B := A.in1) hh hd hgen hr (fun x v ys σ H pins C s1 gs' hb rv I P hPn hs0 hpost hsz hk => ?_) fun s1 ys σ H pins h' I P hPn hs0 hfin hkh => ?_)
  · obtain ⟨b, rfl, hpost⟩ := hpost
    cases rv
    refine wpAny_bind (wpAny_holding (wpAny_truthy_bool ?_))
    refine wpAny_bind (wpAny_letGo ?_)
    have hPn' : pins = [(a, go)] := hPn
    subst hPn'
    cases b with
    | false =>
      simp only [Bool.false_eq_true, if_false] at hpost ⊢
      obtain ⟨n', rfl, hgo⟩ := hk hpost _ _ (woke_same (fp := fp) (gi := gi) I hb) rfl
      refine wpAny_pure ⟨plainId_quiet F.plain_any_loop _, ih n' (Nat.lt_succ_self _) _ ⟨?_, I.nolimit, gs', setGen_at hsz, hgo⟩⟩
      exact (I.pin (a, go) (List.mem_append_right _ List.mem_cons_self)).1
    | true =>
      simp only [if_true] at hpost ⊢
      exact wpAny_bind (wpAny_rule (wpAny_pure (hT _ H ((Back.of I).setGen hb) hpost)))
  · exact wpAny_bind (wpAny_rule (wpAny_pure (hF _ ys H (Back.kept (tk := s1.toks) ((Back.of I).setGen (g := gi) (x := .finished) rfl) hkh) hfin)))

/-! ### tuple -/
def pTup : TPost := fun _ ys _ C => ys.length < sizeLine ∧ C
def nTup (a : Addr) (go : Obj) (S : Addr) : List V → List (Addr × Obj) → Prop := fun ys pins => ∃ acc c, Vals ys acc.toList ∧ ys.length ≤ sizeLine ∧ pins = [(a, go), (S, lstObj acc c)]
theorem drain_tup {res : Value} (hh : A.handled = none) (hd : A.depth < recursionLimit) (hgen : ∀ h : Heap, h.get? a = some go → h.IsGen a gi) (hSa : S ≠ a) (hSc : S ≠ cStatics)
    (hEnd : ∀ s' ys H acc c, Back X H4 s4 fp H s' → Fin ys H → Vals ys acc.toList → ys.length ≤ sizeLine → s'.heap.get? S = some (lstObj acc c) → R' (.ok (.ret res)) s') :
    ∀ (n : Nat) (s : Shared), Rdy (model X.prog X.w) A.in1.in1 (GR (gcx X N scope code AG s4 H4 fp) fp (nTup a go S) Fin) (GYx (gcx X N scope code AG s4 H4 fp) fp (nTup a go S) pTup) a go gi n s →
      codeAny (model X.prog X.w) A (.builtin "list.extend.loop" ⟨[.ref S, .ref a, res], []⟩) R' s := by
  intro n
  induction n using Nat.strongRecOn with
  | ind n ih =>
  intro s hr
  refine codeAny_builtin F.entry_extend_loop ?_
  rw [Around.under_plainId F.plain_extend_loop _]
  show wpAny _ A.in1 (pyNext (.ref a) >>= _) _ _ s
  refine wpAny_bind (g_next (B := A.in1) hh hd hgen hr (fun x v ys σ H pins C s1 gs' hb rv I P hPn hs0 hpost hsz hk => ?_) fun s1 ys σ H pins h' I P hPn hs0 hfin hkh => ?_)
  · obtain ⟨hlt, hC⟩ := hpost
    obtain ⟨acc, c, hv, hle, rfl⟩ := hPn
    have pa := I.pin (a, go) (List.mem_append_right _ List.mem_cons_self)
    have pS := I.pin (S, lstObj acc c) (List.mem_append_right _ (List.mem_cons_of_mem _ List.mem_cons_self))
    have hS1 : s1.heap.get? S = some (lstObj acc c) := pS.1
    have hasz : acc.size = ys.length := by
      have e1 := hv.length
      have e2 : acc.toList.length = acc.size := by simp
      omega
    show wpAny _ A.in1 (updateSeq S (·.push v) >>= _) _ _ _
    refine wpAny_bind ?_
    refine wpAny_updateSeq (s := s1.setGen gi gs') hS1 rfl (wpAny_pure ⟨plainId_quiet F.plain_extend_loop _, ?_⟩) (by omega) (by show (acc.push v).size ≤ sizeLine + 1; rw [Array.size_push]; omega)
    have keep3 : ∀ b o, b ≠ S → s1.heap.get? b = some o → (s1.heap.update S (Obj.mapSeq (·.push v))).get? b = some o := fun b o hbS e => (Heap.get?_update_other _ _ (Ne.symm hbS)).trans e
    have at3 : (s1.heap.update S (Obj.mapSeq (·.push v))).get? S = some (lstObj (acc.push v) (c + 1)) ∨ ∃ c', (s1.heap.update S (Obj.mapSeq (·.push v))).get? S = some (lstObj (acc.push v) c') := .inr ⟨_, Heap.get?_update_self _ hS1 rfl⟩
    obtain ⟨c', at4⟩ : ∃ c', (s1.heap.update S (Obj.mapSeq (·.push v))).get? S = some (lstObj (acc.push v) c') := by
      rcases at3 with z | z
      · exact ⟨_, z⟩
      · exact z
    have hk2 := hk hC ({ (s1.setGen gi gs').setGen gi .running with heap := s1.heap.update S (Obj.mapSeq (·.push v)) }) [(a, go), (S, lstObj (acc.push v) c')]
      { os := rfl
        bare := allBare_setGen (s := s1.setGen gi gs') (allBare_setGen I.bare hb) rfl
        keep := fun b o hb e => keep3 b o (fun z => hb (by rw [z]; simp)) e
        same := rfl
        at_ := fun p hp => by
          rcases List.mem_cons.mp hp with z | z
          · rw [z]
            exact keep3 a go (Ne.symm hSa) pa.1
          · rw [List.mem_singleton.mp z]
            exact at4
        data := fun p hp => by
          rcases List.mem_cons.mp hp with z | z
          · rw [z]
            exact pa.2.2.2.2
          · rw [List.mem_singleton.mp z]
            intro v q
            cases q }
      ⟨acc.push v, c', by rw [Array.toList_push]; exact hv.append (.cons rv .nil), by rw [List.length_append]; exact hlt, rfl⟩
    obtain ⟨n', rfl, hgo⟩ := hk2
    refine ih n' (Nat.lt_succ_self _) { s1.setGen gi gs' with heap := s1.heap.update S (Obj.mapSeq (·.push v)) } ⟨keep3 a go (Ne.symm hSa) pa.1, ?_, gs', setGen_at hsz, hgo⟩
    obtain ⟨mc, hns, hnn⟩ := I.nolimit
    exact ⟨mc, hns.at' fun o e => keep3 _ o (Ne.symm hSc) e, hnn⟩
  · obtain ⟨acc, c, hv, hle, rfl⟩ := hPn
    have hS1 : s1.heap.get? S = some (lstObj acc c) := (I.pin (S, lstObj acc c) (List.mem_append_right _ (List.mem_cons_of_mem _ List.mem_cons_self))).1
    exact wpAny_pure (hEnd _ ys H acc c (Back.kept (tk := s1.toks) ((Back.of I).setGen (g := gi) (x := .finished) rfl) hkh) hfin hv hle (hkh _ _ hS1))

/-! ### sum -/
def pSum : TPost := fun v _ _ C => (∃ j, v = .int j) ∧ C
abbrev sumObj (z : Int) (t : Tok) (c : Nat) : Obj := { cls := .type "list", dict := none, data := .seq #[.int z t] c, slots := #[] }
def nSum (a : Addr) (go : Obj) (S : Addr) : List V → List (Addr × Obj) → Prop := fun ys pins => ∃ (ns : List Int) (t : Tok) (c : Nat), ys = ns.map V.int ∧ pins = [(a, go), (S, sumObj ns.sum t c)]
theorem drain_sum (hh : A.handled = none) (hd : A.depth < recursionLimit) (hgen : ∀ h : Heap, h.get? a = some go → h.IsGen a gi) (hSa : S ≠ a) (hSc : S ≠ cStatics)
    (hEnd : ∀ s' (ns : List Int) H t, Back X H4 s4 fp H s' → Fin (ns.map V.int) H → R' (.ok (.ret (.int ns.sum t))) s') :
    ∀ (n : Nat) (s : Shared) (st z : Int) (tA : Tok) (c : Nat), (st = 0 ∨ st = 2) → s.heap.get? S = some (sumObj z tA c) →
      Rdy (model X.prog X.w) A.in1.in1 (GR (gcx X N scope code AG s4 H4 fp) fp (nSum a go S) Fin) (GYx (gcx X N scope code AG s4 H4 fp) fp (nSum a go S) pSum) a go gi n s →
      codeAny (model X.prog X.w) A (.builtin "sum.loop" ⟨[.ref a, .ref S, rawInt st, rawInt 0], []⟩) R' s := by
  intro n
  induction n using Nat.strongRecOn with
  | ind n ih =>
  intro s st z tA c hst hS hr
  refine codeAny_builtin F.entry_sum_loop ?_
  rw [Around.under_plainId F.plain_sum_loop _]
  show wpAny _ A.in1 (seqItems? (.ref S) >>= _) _ _ s
  refine wpAny_bind (wpAny_seqItems hS rfl ?_)
  show wpAny _ A.in1 (tryCatch (pyNext (.ref a)) _ >>= _) _ _ s
  refine wpAny_bind (wpAny_tryCatch (g_next (B := A.in1) hh hd hgen hr (fun x v ys σ H pins C s1 gs' hb rv I P hPn hs0 hpost hsz hk => ?_) fun s1 ys σ H pins h' I P hPn hs0 hfin hkh => ?_))
  · obtain ⟨⟨j, rfl⟩, hC⟩ := hpost
    obtain ⟨t, rfl⟩ := rv
    obtain ⟨ns, tB, cB, rfl, rfl⟩ := hPn
    have pa := I.pin (a, go) (List.mem_append_right _ List.mem_cons_self)
    have pS := I.pin (S, sumObj ns.sum tB cB) (List.mem_append_right _ (List.mem_cons_of_mem _ List.mem_cons_self))
    have e0 := hs0 (S, sumObj ns.sum tB cB) (List.mem_cons_of_mem _ List.mem_cons_self)
    have e1 : s.heap.get? S = some (sumObj ns.sum tB cB) := e0
    rw [hS] at e1
    have ez : z = ns.sum ∧ tA = tB := by
      have e2 := congrArg Obj.data (Option.some.inj e1)
      have e3 : Data.seq #[Value.int z tA] c = Data.seq #[Value.int ns.sum tB] cB := e2
      injection e3 with e4 _
      have e5 := congrArg Array.toList e4
      simp at e5
      exact e5
    obtain ⟨rfl, rfl⟩ := ez
    have hS1 : s1.heap.get? S = some (sumObj ns.sum tA cB) := pS.1
    -- what follows the write
    have next : ∀ (h2 : Heap) (tk c' : Nat) (t' : Tok) (st' : Int), (st' = 0 ∨ st' = 2) → (∀ b o, b ≠ S → s1.heap.get? b = some o → h2.get? b = some o) → h2.get? S = some (sumObj (ns.sum + j) t' c') →
        codeAny (model X.prog X.w) A (.builtin "sum.loop" ⟨[.ref a, .ref S, rawInt st', rawInt 0], []⟩) R' { s1.setGen gi gs' with heap := h2, toks := tk } := fun h2 tk c' t' st' hst' keep3 at3 => by
      have es : (ns ++ [j]).sum = ns.sum + j := by simp
      have hk2 := hk hC ({ (s1.setGen gi gs').setGen gi .running with heap := h2, toks := tk }) [(a, go), (S, sumObj (ns ++ [j]).sum t' c')]
        { os := rfl
          bare := allBare_setGen (s := s1.setGen gi gs') (allBare_setGen I.bare hb) rfl
          keep := fun b o hb e => keep3 b o (fun z => hb (by rw [z]; simp)) e
          same := rfl
          at_ := fun p hp => by
            rcases List.mem_cons.mp hp with z | z
            · rw [z]
              exact keep3 a go (Ne.symm hSa) pa.1
            · rw [List.mem_singleton.mp z, es]
              exact at3
          data := fun p hp => by
            rcases List.mem_cons.mp hp with z | z
            · rw [z]
              exact pa.2.2.2.2
            · rw [List.mem_singleton.mp z]
              intro v q
              cases q }
        ⟨ns ++ [j], t', c', by simp, rfl⟩
      obtain ⟨n', rfl, hgo⟩ := hk2
      refine ih n' (Nat.lt_succ_self _) _ st' _ t' c' hst' at3 ⟨keep3 a go (Ne.symm hSa) pa.1, ?_, gs', setGen_at hsz, hgo⟩
      obtain ⟨mc, hns, hnn⟩ := I.nolimit
      exact ⟨mc, hns.at' fun o e => keep3 _ o (Ne.symm hSc) e, hnn⟩
    have up : ∀ (h : Heap) (f : Obj → Obj) b o, b ≠ S → h.get? b = some o → (h.update S f).get? b = some o := fun h f b o hbS e => (Heap.get?_update_other _ _ (Ne.symm hbS)).trans e
    rcases hst with rfl | rfl
    · show wpAny _ A.in1 (if (_ : Bool) = true then (mkInt (ns.sum + j) >>= _) else _) _ _ _
      split
      · refine wpAny_bind (wpAny_mkInt ?_)
        show wpAny _ A.in1 (updateSeq S (fun _ => #[.int (ns.sum + j) (s1.setGen gi gs').toks]) >>= _) _ _ _
        refine wpAny_bind ?_
        refine wpAny_updateSeq (s := { s1.setGen gi gs' with toks := (s1.setGen gi gs').toks + 1 }) hS1 rfl (wpAny_pure ⟨plainId_quiet F.plain_sum_loop _, ?_⟩)
        exact next _ _ _ _ 0 (.inl rfl) (up _ _) (Heap.get?_update_self _ hS1 rfl)
      · refine wpAny_bind (wpAny_rule ?_)
        refine wpAny_bind (wpAny_attempt (wpAny_holding (wpAny_add_int ?_)))
        show wpAny _ A.in1 (updateSeq S (fun _ => #[.int (ns.sum + j) (s1.setGen gi gs').toks]) >>= _) _ _ _
        refine wpAny_bind (wpAny_updateSeq (s := { s1.setGen gi gs' with toks := (s1.setGen gi gs').toks + 1 }) hS1 rfl ?_)
        have hS2 := Heap.get?_update_self (Obj.mapSeq fun _ => #[Value.int (ns.sum + j) (s1.setGen gi gs').toks]) hS1 rfl
        refine wpAny_bind (wpAny_letGo ?_)
        refine wpAny_bind (wpAny_updateSeq hS2 rfl (wpAny_pure ⟨plainId_quiet F.plain_sum_loop _, ?_⟩))
        exact next _ _ _ _ 2 (.inr rfl) (fun b o hb e => up _ _ b o hb (up _ _ b o hb e)) (Heap.get?_update_self _ hS2 rfl)
    · show wpAny _ A.in1 ((holding [Value.int j t] (binaryOp .Add (.int ns.sum tA) (.int j t))).attempt >>= _) _ _ _
      refine wpAny_bind (wpAny_attempt (wpAny_holding (wpAny_add_int ?_)))
      show wpAny _ A.in1 (updateSeq S (fun _ => #[.int (ns.sum + j) (s1.setGen gi gs').toks]) >>= _) _ _ _
      refine wpAny_bind (wpAny_updateSeq (s := { s1.setGen gi gs' with toks := (s1.setGen gi gs').toks + 1 }) hS1 rfl ?_)
      have hS2 := Heap.get?_update_self (Obj.mapSeq fun _ => #[Value.int (ns.sum + j) (s1.setGen gi gs').toks]) hS1 rfl
      refine wpAny_bind (wpAny_letGo ?_)
      refine wpAny_bind (wpAny_updateSeq hS2 rfl (wpAny_pure ⟨plainId_quiet F.plain_sum_loop _, ?_⟩))
      exact next _ _ _ _ 2 (.inr rfl) (fun b o hb e => up _ _ b o hb (up _ _ b o hb e)) (Heap.get?_update_self _ hS2 rfl)
  · obtain ⟨ns, tB, cB, rfl, rfl⟩ := hPn
    have e1 : s.heap.get? S = some (sumObj ns.sum tB cB) := hs0 (S, sumObj ns.sum tB cB) (List.mem_cons_of_mem _ List.mem_cons_self)
    rw [hS] at e1
    have ez : z = ns.sum ∧ tA = tB := by
      have e2 := congrArg Obj.data (Option.some.inj e1)
      have e3 : Data.seq #[Value.int z tA] c = Data.seq #[Value.int ns.sum tB] cB := e2
      injection e3 with e4 _
      have e5 := congrArg Array.toList e4
      simp at e5
      exact e5
    obtain ⟨rfl, rfl⟩ := ez
    exact wpAny_pure (hEnd _ ns H tA (Back.kept (tk := s1.toks) ((Back.of I).setGen (g := gi) (x := .finished) rfl) hkh) hfin)
end
end Gx

set_option Elab.async false
set_option linter.all false
set_option maxRecDepth 100000
set_option maxHeartbeats 4000000
/-! Gz: a generator expression is made; the rules. -/
namespace Gx
open PySem PySem.Spec PyProof.Rows L2 GenW
abbrev TabG := GxR.TabG
abbrev Tabbed := GxR.Tabbed
abbrev TabB := LamX.TabB
section
variable {X : Cx} {pins : List (Addr × Obj)} {σ : L2.St} {H : Hp} {s : Shared} {scope : Scope} {N : List Str} {src : List (Option Nat)} {c P : Addr}
variable {elt tg iter : Expr} {ifs : List Expr} {gpos : Pos} {wi : TI} {R : It → Hp → Prop}
/-- the generator at a, just made in the state s4, number gi; s5: now -/
structure Made (X : Cx) (scope : Scope) (elt tg iter : Expr) (ifs : List Expr) (gpos : Pos) (s4 : Shared) (code : Value) (it a : Addr) (go : Obj) (gi : Nat) (s5 : Shared) : Prop where
  os : s5.os = s4.os
  bare : AllBare s5.gens
  keep : ∀ b o, s4.heap.get? b = some o → s5.heap.get? b = some o
  ns : s5.heap.Ns s4.heap.objs.size (fun y => if y = ".0" then some (.ref it) else none)
  obj : s5.heap.get? a = some go
  gen : ∀ h : Heap, h.get? a = some go → h.IsGen a gi
  dat : ∀ v, go.data ≠ .cell v
  lt : s4.heap.objs.size < a
  top : a < s5.heap.objs.size
  fresh : s5.gens[gi]? = some (.fresh (.compStart (.GeneratorExp elt [⟨tg, iter, ifs, 0⟩] scope gpos) 0 (.ref it) .none (genv X scope code s4.heap.objs.size)))

theorem gen_make {k : Nat} {Q' : Value → Shared → Prop} (hr : Room k X.A) (TB : TabB X.base X.mg c P) (hcode : X.env.code = .ref c) (ok : GOk X.N X.env.scope scope N src) (hi : PI X tg iter wi)
    (hs : ∀ v, genFold iter X.env v = pure v) (I : Inv X pins σ H s) (h : wi σ H fun J H1 => TabG H1 P ∧ R J H1)
    (hQ : ∀ it fp tn J H1 H2 s4 code a go gi s5, R J H1 → Tabbed P H1 H2 → Inv X pins σ H2 s4 → Turn X.prog X.w X.K tg J fp it tn → tn 0 s5.heap → (∀ b ∈ fp, FpOk X pins H2 b ∧ b < s4.heap.objs.size) →
      Made X scope elt tg iter ifs gpos s4 code it a go gi s5 → Q' (.ref a) s5) :
    wpAny (model X.prog X.w) X.A (eval (.GeneratorExp elt [⟨tg, iter, ifs, 0⟩] scope gpos) X.env) Q' X.xe s := by
  have hfree : ∀ y ∈ scope.names, y.2 = .free → ∃ c, X.env.cells.lookup y.1 = some c := fun y hy e => by
    rcases ok.free y hy e with k | k
    · exact I.ok.has _ (.inl k)
    · exact I.ok.has _ (.inr k)
  refine wpAny_GeneratorExp_make ok.co (closure_ok hfree) ok.cell ok.dot ok.kind (by have := hr.dp; omega) ?_ hs
  refine thn (hi.run pins s σ H _ I h) fun xv s1 hx => thn hx fun itv s2 h2 => ?_
  obtain ⟨it, fp, tn, J, H1, rfl, I1, T, st2, f2, ⟨ps, hP, ht⟩, q⟩ := h2
  refine ⟨I1.nolimit, ?_⟩
  have hPs : s2.heap.get? P = some { cls := .none, data := .fields ps } := I1.hok P _ hP
  have cd : PySem.W.CodeHd s2.heap c P := TB.code.keeps fun b u e => I1.bk b u e
  have fpP : ∀ b ∈ fp, b ≠ P := fun b hb z => by
    have q := (f2 b hb).1
    rw [z, hP] at q
    cases q
  have fpl : ∀ b ∈ fp, b < s2.heap.objs.size := fun b hb => by
    obtain ⟨o, e, _⟩ := T.obj _ _ st2 b hb
    exact Heap.lt_size e
  have cont : ∀ (code : Value) (h3 : Heap) (tk : Nat) (ps' : Array Value), Heap.ExtBut P s2.heap h3 → s2.heap.objs.size ≤ h3.objs.size → h3.get? P = some { cls := .none, data := .fields ps' } → (∃ more, ps' = ps ++ more) → TriplesOk ps'.toList →
      wpAny (model X.prog X.w) X.A (builtinsFor X.env.globals X.env.builtins) (fun bi s₄ =>
        ∀ h', h'.Ns s₄.heap.objs.size (fun y => if y = ".0" then some (.ref it) else none) → Heap.SameBut s₄.heap.objs.size (s₄.heap.push { cls := .type "frame", data := .dict #[] }) h' →
          Q' (.ref h'.objs.size) { s₄ with
            gens := s₄.gens.push (.fresh (.compStart (.GeneratorExp elt [⟨tg, iter, ifs, 0⟩] scope gpos) 0 (.ref it) .none (genEnv scope (cloFrom X.env.cells scope.names []) s₄.heap.objs.size code bi X.env))),
            toks := s₄.toks + 1 + 1 + 1,
            heap := h'.push { cls := .type "generator", data := .fields #[.int s₄.gens.size 0, .str "<genexpr>" (s₄.toks + 1), .str (X.env.qual ++ "<genexpr>") (s₄.toks + 1 + 1)] } }) X.xe { s2 with heap := h3, toks := tk } := by
    intro code h3 tk ps' hx hsz hP3 hmore ht3
    obtain ⟨bm, ob, e1, e2, e3, e4, e5, e6, e7, e8⟩ := TB.bm
    have keep3 : ∀ b u, b ≠ P → s2.heap.get? b = some u → h3.get? b = some u := fun b u hb e => hx b u hb e
    refine wpAny_builtinsFor (m := X.mg) (by rw [I1.ok.glob]; exact (I1.mod.glob.keeps I1.bk).extBut hx TB.gP) e1 e2 (keep3 _ _ e4 (I1.bk _ _ e5)) e6 e7 e8 ?_
    intro h' hn' hs'
    obtain ⟨more, em⟩ := hmore
    have J2 := GxR.inv_tab (more := more) (h' := h3) (g' := s2.gens) (d' := s2.drawn) (t' := tk) I1 hP keep3 (by rw [← em]; exact hP3) I1.bare
    have keep4 : ∀ b o, h3.get? b = some o → h'.get? b = some o := fun b o e => hs'.extBut b o (Nat.ne_of_lt (Heap.lt_size e)) (Heap.get?_push_of_some _ e)
    have sz' : h'.objs.size = h3.objs.size + 1 := by rw [hs'.1, Heap.size_push]
    refine hQ it fp tn J H1 (upd H1 P (.tbl (ps ++ more))) { s2 with heap := h3, toks := tk } code h'.objs.size { cls := .type "generator", data := .fields #[.int s2.gens.size 0, .str "<genexpr>" (tk + 1), .str (X.env.qual ++ "<genexpr>") (tk + 1 + 1)] } s2.gens.size _ q
      ⟨⟨ps ++ more, upd_same, by rw [← em]; exact ht3⟩, fun b hb => upd_ne hb⟩ J2 T ?_ (fun b hb => ?_) ⟨rfl, ?_, fun b o e => Heap.get?_push_of_some _ (keep4 b o e), hn'.push _, Heap.get?_push_size _ rfl, fun h e => ⟨_, _, _, e, rfl, rfl, rfl⟩, fun v q => (by cases q), ?_, ?_, Array.getElem?_push_size ..⟩
    · refine T.keep _ _ _ st2 fun b hb o e => ?_
      exact Heap.get?_push_of_some _ (keep4 b o (keep3 b o (fpP b hb) e))
    · obtain ⟨f0, f1⟩ := f2 b hb
      exact ⟨⟨by rw [upd_ne (fpP b hb)]; exact f0, f1⟩, Nat.lt_of_lt_of_le (fpl b hb) hsz⟩
    · exact AllBare.push I1.bare rfl
    · show h3.objs.size < h'.objs.size
      omega
    · show h'.objs.size < (h'.push _).objs.size
      rw [Heap.size_push]
      exact Nat.lt_succ_self _
  cases hf : codeAmong gpos ps.toList with
  | none =>
    refine wpAny_genexprCodeX hcode (cd.code hPs ht) (cd.tab hPs) hf fun c' h' tk hx hge hlt hco' _ htab' _ => ?_
    obtain ⟨o1, vs, f1, tf, fl, tg, inF, tx, tt, op, _, _, _, _, _, _, _, _, _, htr, _⟩ := hco'
    exact cont _ h' tk _ hx (Nat.le_trans hge (Nat.le_of_lt hlt)) htab'.2 ⟨_, rfl⟩ htr
  | some cv =>
    refine wpAny_genexprCode_hit hcode (cd.code hPs ht) hf ?_
    exact cont cv s2.heap s2.toks ps (Heap.ExtBut.refl _ _) (Nat.le_refl _) hPs ⟨#[], by simp⟩ ht

/-- the generator, ready for a consumer that runs within B and keeps pins -/
theorem Made.ready {s4 s5 s6 : Shared} {H2 : Hp} {code : Value} {it a : Addr} {go : Obj} {gi : Nat} {fp : List Addr} {tn : Nat → Heap → Prop} {J : It} {B : Around} {g : TG} {tt : TT} {te : TE} {vs : List Nat} {post : TPost} {Fin : List V → Hp → Prop}
    {W : Nat → Nat → List V → Hp → Prop} {Pn : List V → List (Addr × Obj) → Prop} {m n : Nat} {pl : List (Addr × Obj)}
    (M : Made X scope elt tg iter ifs gpos s4 code it a go gi s5) (ok : GOk X.N X.env.scope scope N src) (I : Inv X pins σ H2 s4) (T : Turn X.prog X.w X.K tg J fp it tn) (st : tn 0 s5.heap) (hfp : ∀ b ∈ fp, FpOk X pins H2 b ∧ b < s4.heap.objs.size)
    (hB : B.frames = some X.stack) (hh : B.handled = none)
    (pg : PG (gcx X N scope code B s4 H2 fp) tg g) (pt : PTs (gcx X N scope code B s4 H2 fp) ifs tt) (pe : PE (gcx X N scope code B s4 H2 fp) elt te)
    (turn : GTurn J g tt te vs (gsl σ src) post Fin W) (hmn : m < n) (w : W 0 m [] H2)
    (os : s6.os = s5.os) (bare : AllBare s6.gens) (keep : ∀ b o, s5.heap.get? b = some o → s6.heap.get? b = some o) (hg : s6.gens[gi]? = s5.gens[gi]?)
    (hpl : ∀ p ∈ pl, s5.heap.objs.size ≤ p.1 ∧ s6.heap.get? p.1 = some p.2 ∧ ∀ v, p.2.data ≠ .cell v) (hPn : Pn [] ((a, go) :: pl)) :
    Rdy (model X.prog X.w) B (GR (gcx X N scope code B s4 H2 fp) fp Pn Fin) (GYx (gcx X N scope code B s4 H2 fp) fp Pn post) a go gi n s6 := by
  have kp : ∀ b o, s4.heap.get? b = some o → s6.heap.get? b = some o := fun b o e => keep b o (M.keep b o e)
  have I5 : ∀ (s' : Shared), s'.os = s4.os → AllBare s'.gens → s'.heap = s6.heap → Inv (gcx X N scope code B s4 H2 fp) [] (gsl σ src) H2 s' := fun s' h1 h2 h3 =>
    g_start (m0 := fun y => if y = ".0" then some (.ref it) else none) I ok hfp hB hh h1 h2 (by rw [h3]; exact kp) (by rw [h3]; exact M.ns.keeps keep)
  have lt4 : ∀ b, s4.heap.objs.size < b → H2 b = none ∧ b ∉ frs X.stack ∧ b ≠ s4.heap.objs.size ∧ b ∉ fp ∧ ∀ x c, (cloFrom X.env.cells scope.names []).lookup x = some c → c ≠ b := fun b hb => by
    refine ⟨I.hok.fresh (Nat.le_of_lt hb), fun z => ?_, Nat.ne_of_gt hb, fun z => ?_, fun x c e z => ?_⟩
    · rcases List.mem_cons.mp (I.stkSub b z) with y | y
      · have := I.lt
        rw [← y] at this
        exact absurd (Nat.lt_trans hb this) (Nat.lt_irrefl _)
      · exact I.nofs (Nat.le_of_lt hb) y
    · exact absurd (Nat.lt_trans hb (hfp b z).2) (Nat.lt_irrefl _)
    · rcases cloFrom_mem (PySem.mem_of_lookup e) with hm | ⟨h1, h2⟩
      · cases hm
      · rcases ok.free _ h1 rfl with k | k
        all_goals
          obtain ⟨c', hc'⟩ := I.ok.has x (by first | exact .inl k | exact .inr k)
          rw [hc'] at h2
          have h2' : c = c' := h2
          obtain ⟨w', z'⟩ := I.cell x c' hc'
          have := z'.lt
          rw [← h2', z] at this
          exact absurd (Nat.lt_trans hb this) (Nat.lt_irrefl _)
  have each : ∀ p ∈ (a, go) :: pl, s4.heap.objs.size < p.1 ∧ s6.heap.get? p.1 = some p.2 ∧ ∀ v, p.2.data ≠ .cell v := fun p hp => by
    rcases List.mem_cons.mp hp with z | z
    · rw [z]
      exact ⟨M.lt, keep _ _ M.obj, M.dat⟩
    · obtain ⟨h1, h2, h3⟩ := hpl p z
      exact ⟨Nat.lt_of_lt_of_le (Nat.lt_trans M.lt M.top) h1, h2, h3⟩
  have PO : PinsOk (gcx X N scope code B s4 H2 fp) fp ((a, go) :: pl) := ⟨fun p hp => Nat.le_of_lt (each p hp).1, fun p hp => (lt4 _ (each p hp).1).2.2.1, fun p hp => (lt4 _ (each p hp).1).2.2.2.1, fun p hp => (lt4 _ (each p hp).1).2.2.2.2⟩
  have I6 : ∀ (s' : Shared), s'.os = s4.os → AllBare s'.gens → s'.heap = s6.heap → Inv (gcx X N scope code B s4 H2 fp) ((a, go) :: pl) (gsl σ src) H2 s' := fun s' h1 h2 h3 =>
    (I5 s' h1 h2 h3).pins_of fun p hp => ⟨by rw [h3]; exact (each p hp).2.1, (lt4 _ (each p hp).1).1, (lt4 _ (each p hp).1).2.2.1, (lt4 _ (each p hp).1).2.1, (each p hp).2.2⟩
  have e6 := hg.trans M.fresh
  refine ⟨keep _ _ M.obj, I.nolimit.keeps kp, _, e6, rfl, ?_⟩
  exact g_begin (elt := elt) (iter := iter) (ifs := ifs) (pos := gpos) ok.co hh T pg pt pe turn hmn w (I6 _ (os.trans M.os) (allBare_setGen (s := s6) bare rfl) rfl) PO hPn (fun p hp => (each p hp).2.1) (T.keep _ _ _ st fun b _ o e => keep b o e) fun b hb => (hfp b hb).1.1
end
end Gx

set_option Elab.async false
set_option linter.all false
set_option maxRecDepth 100000
set_option maxHeartbeats 4000000
/-! Gr: the rules: all(..), any(..), sum(..), tuple(..) of a generator expression. -/
namespace Gx
open PySem PySem.Spec PyProof.Rows L2 GenW
section
variable {X : Cx} {scope : Scope} {N : List Str} {src : List (Option Nat)} {c P : Addr}
variable {elt tg iter : Expr} {ifs : List Expr} {p pos gpos : Pos} {wi : TI} {g : TG} {tt : TT} {te : TE} {vs : List Nat} {k : Nat}
/-- the reading: the walked thing, then the turns -/
def tGen (P : Addr) (wi : TI) (g : TG) (tt : TT) (te : TE) (vs : List Nat) (src : List (Option Nat)) (post : VK → TPost) (fin : VK → List V → Hp → Prop) : TE := fun σ H Q => wi σ H fun J H1 => TabG H1 P ∧ ∀ H2, Tabbed P H1 H2 →
  ∃ W : Nat → Nat → List V → Hp → Prop, (∃ m, W 0 m [] H2) ∧ GTurn J g tt te vs (gsl σ src) (post Q) (fin Q) W
abbrev tGAll (P : Addr) (wi : TI) (g : TG) (tt : TT) (te : TE) (vs : List Nat) (src : List (Option Nat)) : TE := tGen P wi g tt te vs src (fun Q => pAll fun H => Q (.bl false) H) fun Q _ H => Q (.bl true) H
abbrev tGAny (P : Addr) (wi : TI) (g : TG) (tt : TT) (te : TE) (vs : List Nat) (src : List (Option Nat)) : TE := tGen P wi g tt te vs src (fun Q => pAny fun H => Q (.bl true) H) fun Q _ H => Q (.bl false) H
abbrev tGSum (P : Addr) (wi : TI) (g : TG) (tt : TT) (te : TE) (vs : List Nat) (src : List (Option Nat)) : TE := tGen P wi g tt te vs src (fun _ => pSum) fun Q ys H => ∀ ns : List Int, ys = ns.map V.int → Q (.int ns.sum) H
abbrev tGTup (P : Addr) (wi : TI) (g : TG) (tt : TT) (te : TE) (vs : List Nat) (src : List (Option Nat)) : TE := tGen P wi g tt te vs src (fun _ => pTup) fun Q ys H => ∀ p, H p = none → Q (.ref p) (upd H p (.tup ys))

/-- all that a rule asks of the generator expression's parts -/
structure GParts (X : Cx) (k : Nat) (scope : Scope) (N : List Str) (tg : Expr) (ifs : List Expr) (elt : Expr) (g : TG) (tt : TT) (te : TE) : Prop where
  tg : ∀ (B : Around) (s : Shared) (H : Hp) (fp : List Addr) (code : Value), Room k B → PG (gcx X N scope code B s H fp) tg g
  ifs : ∀ (B : Around) (s : Shared) (H : Hp) (fp : List Addr) (code : Value), Room k B → PTs (gcx X N scope code B s H fp) ifs tt
  elt : ∀ (B : Around) (s : Shared) (H : Hp) (fp : List Addr) (code : Value), Room k B → PE (gcx X N scope code B s H fp) elt te

theorem pe_gall (G : GParts X k scope N tg ifs elt g tt te) (hr : Room (k + 2) X.A) (hg : Gl X "all") (hm : X.mg "all" = none) (TB : TabB X.base X.mg c P) (hcode : X.env.code = .ref c) (ok : GOk X.N X.env.scope scope N src) (hi : PI X tg iter wi)
    (hs : ∀ v, genFold iter X.env v = pure v := by intro _; rfl) (hb : bootBuiltins "all" = some (.builtin "all") := by decide +kernel)
    (he : starEach [.GeneratorExp elt [⟨tg, iter, ifs, 0⟩] scope gpos] X.env = (false, eval (.GeneratorExp elt [⟨tg, iter, ifs, 0⟩] scope gpos) X.env) :: starEach [] X.env := by rfl) :
    PE X (.Call (.Name "all" p) [.GeneratorExp elt [⟨tg, iter, ifs, 0⟩] scope gpos] [] pos) (tGAll P wi g tt te vs src) := by
  refine ⟨fun pins s σ H Q I h => ?_⟩
  refine wpAny_Call_Name_kw (ld_blt I hg hm hb ?_)
  refine PyProof.Rows.callWith_builtin1 ?_ he (by rfl)
  rw [he]
  show wpAny _ _ (spliced ((false, eval (.GeneratorExp elt [⟨tg, iter, ifs, 0⟩] scope gpos) X.env) :: backTo pos (starEach [] X.env))) _ _ s
  refine Calls.spliced_cons (gen_make (gpos := gpos) (elt := elt) (ifs := ifs) hr TB hcode ok hi hs I h fun it fp tn J H1 H2 s4 code a go gi s5 q hT I4 T st hfp M => ?_)
  obtain ⟨W, ⟨m, w0⟩, turn⟩ := q H2 hT
  refine Calls.spliced_nil ?_
  have hB : Room k X.A.in1.in1 := hr.in1.in1
  refine call_function_tree F.kind_all F.plain_all F.entry_all (F.args_all1 _) ?_
  unfold Builtin.«all»
  refine wpAny_bind (m := oneArg "all" _) (wpAny_pure ?_)
  refine wpAny_bind (wpAny_pyIter_gen (M.gen _ M.obj) ?_)
  refine wpAny_pure ⟨plainId_quiet F.plain_all_loop _, drain_all (Fin := fun _ H => Q (.bl true) H) (Qf := fun H => Q (.bl false) H) hr.hd hr.depth M.gen (fun s' ys H b q => ?_) (fun s' H b q => ?_) (m + 1) s5
    (M.ready ok I4 T st hfp (show X.A.in1.in1.frames = some X.stack from I4.ok.frames) hB.hd (G.tg _ _ _ _ _ hB) (G.ifs _ _ _ _ _ hB) (G.elt _ _ _ _ _ hB) turn (Nat.lt_succ_self _) w0 rfl M.bare (fun _ _ e => e) rfl (pl := []) (fun p hp => by simp at hp) rfl)⟩
  · exact ⟨.bl true, H, b.inv I4 fun b hb => (hfp b hb).1, rfl, q⟩
  · exact ⟨.bl false, H, b.inv I4 fun b hb => (hfp b hb).1, rfl, q⟩

theorem pe_gany (G : GParts X k scope N tg ifs elt g tt te) (hr : Room (k + 2) X.A) (hg : Gl X "any") (hm : X.mg "any" = none) (TB : TabB X.base X.mg c P) (hcode : X.env.code = .ref c) (ok : GOk X.N X.env.scope scope N src) (hi : PI X tg iter wi)
    (hs : ∀ v, genFold iter X.env v = pure v := by intro _; rfl) (hb : bootBuiltins "any" = some (.builtin "any") := by decide +kernel)
    (he : starEach [.GeneratorExp elt [⟨tg, iter, ifs, 0⟩] scope gpos] X.env = (false, eval (.GeneratorExp elt [⟨tg, iter, ifs, 0⟩] scope gpos) X.env) :: starEach [] X.env := by rfl) :
    PE X (.Call (.Name "any" p) [.GeneratorExp elt [⟨tg, iter, ifs, 0⟩] scope gpos] [] pos) (tGAny P wi g tt te vs src) := by
  refine ⟨fun pins s σ H Q I h => ?_⟩
  refine wpAny_Call_Name_kw (ld_blt I hg hm hb ?_)
  refine PyProof.Rows.callWith_builtin1 ?_ he (by rfl)
  rw [he]
  show wpAny _ _ (spliced ((false, eval (.GeneratorExp elt [⟨tg, iter, ifs, 0⟩] scope gpos) X.env) :: backTo pos (starEach [] X.env))) _ _ s
  refine Calls.spliced_cons (gen_make (gpos := gpos) (elt := elt) (ifs := ifs) hr TB hcode ok hi hs I h fun it fp tn J H1 H2 s4 code a go gi s5 q hT I4 T st hfp M => ?_)
  obtain ⟨W, ⟨m, w0⟩, turn⟩ := q H2 hT
  refine Calls.spliced_nil ?_
  have hB : Room k X.A.in1.in1 := hr.in1.in1
  refine call_function_tree F.kind_any F.plain_any F.entry_any (F.args_any1 _) ?_
  unfold Builtin.«any»
  refine wpAny_bind (m := oneArg "any" _) (wpAny_pure ?_)
  refine wpAny_bind (wpAny_pyIter_gen (M.gen _ M.obj) ?_)
  refine wpAny_pure ⟨plainId_quiet F.plain_any_loop _, drain_any (Fin := fun _ H => Q (.bl false) H) (Qt := fun H => Q (.bl true) H) hr.hd hr.depth M.gen (fun s' ys H b q => ?_) (fun s' H b q => ?_) (m + 1) s5
    (M.ready ok I4 T st hfp (show X.A.in1.in1.frames = some X.stack from I4.ok.frames) hB.hd (G.tg _ _ _ _ _ hB) (G.ifs _ _ _ _ _ hB) (G.elt _ _ _ _ _ hB) turn (Nat.lt_succ_self _) w0 rfl M.bare (fun _ _ e => e) rfl (pl := []) (fun p hp => by simp at hp) rfl)⟩
  · exact ⟨.bl false, H, b.inv I4 fun b hb => (hfp b hb).1, rfl, q⟩
  · exact ⟨.bl true, H, b.inv I4 fun b hb => (hfp b hb).1, rfl, q⟩

theorem pe_gsum (G : GParts X k scope N tg ifs elt g tt te) (hr : Room (k + 2) X.A) (hg : Gl X "sum") (hm : X.mg "sum" = none) (TB : TabB X.base X.mg c P) (hcode : X.env.code = .ref c) (ok : GOk X.N X.env.scope scope N src) (hi : PI X tg iter wi)
    (hs : ∀ v, genFold iter X.env v = pure v := by intro _; rfl) (hb : bootBuiltins "sum" = some (.builtin "sum") := by decide +kernel)
    (he : starEach [.GeneratorExp elt [⟨tg, iter, ifs, 0⟩] scope gpos] X.env = (false, eval (.GeneratorExp elt [⟨tg, iter, ifs, 0⟩] scope gpos) X.env) :: starEach [] X.env := by rfl) :
    PE X (.Call (.Name "sum" p) [.GeneratorExp elt [⟨tg, iter, ifs, 0⟩] scope gpos] [] pos) (tGSum P wi g tt te vs src) := by
  refine ⟨fun pins s σ H Q I h => ?_⟩
  refine wpAny_Call_Name_kw (ld_blt I hg hm hb ?_)
  refine PyProof.Rows.callWith_builtin1 ?_ he (by rfl)
  rw [he]
  show wpAny _ _ (spliced ((false, eval (.GeneratorExp elt [⟨tg, iter, ifs, 0⟩] scope gpos) X.env) :: backTo pos (starEach [] X.env))) _ _ s
  refine Calls.spliced_cons (gen_make (gpos := gpos) (elt := elt) (ifs := ifs) hr TB hcode ok hi hs I h fun it fp tn J H1 H2 s4 code a go gi s5 q hT I4 T st hfp M => ?_)
  obtain ⟨W, ⟨m, w0⟩, turn⟩ := q H2 hT
  refine Calls.spliced_nil ?_
  have hB : Room k X.A.in1.in1 := hr.in1.in1
  refine call_function_tree F.kind_sum F.plain_sum F.entry_sum (F.args_sum1 _) ?_
  unfold Builtin.«sum»
  simp only [List.length_cons, List.length_nil]
  rw [if_neg (by decide)]
  refine wpAny_bind (wpAny_of_eq (show Builtin.Builtins.bindParams "sum" ["start"] 0 { } = pure [none] from rfl) ?_)
  refine wpAny_bind (wpAny_pyIter_gen (M.gen _ M.obj) ?_)
  refine wpAny_bind (wpAny_mkInt ?_)
  refine wpAny_bind (wpAny_pure ?_)
  simp only [List.forIn_cons, List.forIn_nil]
  refine wpAny_bind (wpAny_bind (wpAny_bind (wpAny_isInstance (T := "int") (b := false) (typeIs_int _ _ _) PySem.sub_int_str ?_)))
  simp only [Bool.false_eq_true, if_false]
  refine wpAny_pure (wpAny_bind (wpAny_bind (wpAny_isInstance (T := "int") (b := false) (typeIs_int _ _ _) PySem.sub_int_bytes ?_)))
  simp only [Bool.false_eq_true, if_false]
  refine wpAny_pure (wpAny_bind (wpAny_bind (wpAny_isInstance (T := "int") (b := false) (typeIs_int _ _ _) PySem.sub_int_bytearray ?_)))
  simp only [Bool.false_eq_true, if_false]
  refine wpAny_pure (wpAny_pure ?_)
  refine wpAny_bind (wpAny_newObj_type ?_)
  have hcl : cStatics < s5.heap.objs.size := by
    obtain ⟨_, hn, _⟩ := I4.nolimit.keeps M.keep
    exact hn.lt
  have hSobj : (s5.heap.push { cls := .type "list", data := .seq [Value.int 0 s5.toks].toArray }).get? s5.heap.objs.size = some (sumObj 0 s5.toks 0) := Heap.get?_push_size _ rfl
  refine wpAny_pure ⟨plainId_quiet F.plain_sum_loop _, drain_sum (S := s5.heap.objs.size) (Fin := fun ys H => ∀ ns : List Int, ys = ns.map V.int → Q (.int ns.sum) H) hr.hd hr.depth M.gen (Nat.ne_of_gt M.top) (Nat.ne_of_gt hcl) (fun s' ns H t b q => ?_) (m + 1) _ 0 0 s5.toks 0 (.inl rfl) hSobj
    (M.ready ok I4 T st hfp (show X.A.in1.in1.frames = some X.stack from I4.ok.frames) hB.hd (G.tg _ _ _ _ _ hB) (G.ifs _ _ _ _ _ hB) (G.elt _ _ _ _ _ hB) turn (Nat.lt_succ_self _) w0 rfl M.bare (fun _ _ e => Heap.get?_push_of_some _ e) rfl (pl := [(s5.heap.objs.size, sumObj 0 s5.toks 0)]) (fun p hp => ?_) ⟨[], s5.toks, 0, rfl, rfl⟩)⟩
  · exact ⟨.int ns.sum, H, b.inv I4 fun b hb => (hfp b hb).1, ⟨t, rfl⟩, q ns rfl⟩
  · rw [List.mem_singleton.mp hp]
    exact ⟨Nat.le_refl _, hSobj, fun v q => by cases q⟩

theorem collect_gx {B : Around} {pins : List (Addr × Obj)} {σ : L2.St} {H2 : Hp} {s4 s5 : Shared} {code : Value} {it a : Addr} {go : Obj} {gi m : Nat} {fp : List Addr} {tn : Nat → Heap → Prop} {J : It} {Fin : List V → Hp → Prop} {W : Nat → Nat → List V → Hp → Prop}
    {Q : List Value → Shared → Prop} {E : Value → Shared → Prop}
    (G : GParts X k scope N tg ifs elt g tt te) (M : Made X scope elt tg iter ifs gpos s4 code it a go gi s5) (ok : GOk X.N X.env.scope scope N src) (I4 : Inv X pins σ H2 s4) (T : Turn X.prog X.w X.K tg J fp it tn) (st : tn 0 s5.heap)
    (hfp : ∀ b ∈ fp, FpOk X pins H2 b ∧ b < s4.heap.objs.size) (hB : B.frames = some X.stack) (hr : Room (k + 2) B) (turn : GTurn J g tt te vs (gsl σ src) pTup Fin W) (w0 : W 0 m [] H2)
    (hQ : ∀ s' ys H acc, Back X H2 s4 fp H s' → Fin ys H → Vals ys acc → ys.length ≤ sizeLine → Q acc s') : wpAny (model X.prog X.w) B (collect (.ref a)) Q E s5 := by
  have hBr : Room k B.in1.in1 := hr.in1.in1
  have hSI : s5.heap.objs.size ≠ a := Nat.ne_of_gt M.top
  unfold collect
  refine wpAny_bind (wpAny_runValue (codeAny_builtin F.entry_proto_collect ?_))
  rw [Around.under_plainId F.plain_proto_collect _]
  show wpAny _ B.in1 (newList [] >>= fun l => again (.builtin "list.__iadd__" ⟨[l, .ref a], []⟩)) _ _ s5
  refine wpAny_bind (wpAny_newObj_type ?_)
  refine wpAny_pure ⟨plainId_quiet F.plain_list_iadd _, codeAny_builtin F.entry_list_iadd ?_⟩
  rw [Around.under_plainId F.plain_list_iadd _]
  have k1 : ∀ b o, s5.heap.get? b = some o → (s5.heap.push { cls := .type "list", data := .seq ([] : List Value).toArray }).get? b = some o := fun b o e => Heap.get?_push_of_some _ e
  have gty : ∀ {h : Heap}, (∀ b o, s5.heap.get? b = some o → h.get? b = some o) → h.IsGen a gi := fun {h} q => M.gen _ (q _ _ M.obj)
  show wpAny _ B.in1 (Builtin.List.listExtendWith (.ref s5.heap.objs.size) (.ref a) (.ref s5.heap.objs.size)) _ _ _
  unfold Builtin.List.listExtendWith
  refine wpAny_bind (wpAny_typeOf (Heap.IsGen.typeIs (s := { s5 with heap := _ }) (gty k1)) ?_)
  have h1 : Builtin.List.listSameRef (.ref s5.heap.objs.size) (.ref a) = false := by simp [Builtin.List.listSameRef, hSI]
  have h2 : (Value.type "generator" == Value.type "list") = false := by decide
  have h3 : (Value.type "generator" == Value.type "tuple") = false := by decide
  simp only [h1, h2, h3, Bool.or_false, Bool.false_eq_true, if_false]
  refine wpAny_bind (wpAny_pyIter_gen (s := { s5 with heap := _ }) (gty k1) ?_)
  refine wpAny_bind (wpAny_holding ?_)
  unfold Builtin.List.listLengthHint
  refine wpAny_bind (wpAny_specialOf (Heap.IsGen.typeIs (s := { s5 with heap := _ }) (gty k1)) F.gen_no_len ?_)
  show wpAny _ B.in1 (specialOf (Value.ref a) (Str.ofString "__length_hint__") >>= _) _ _ _
  refine wpAny_bind (wpAny_specialOf (Heap.IsGen.typeIs (s := { s5 with heap := _ }) (gty k1)) F.gen_no_hint ?_)
  refine wpAny_pure ?_
  show wpAny _ B.in1 (rule "list.extend.makes-room" >>= fun _ => Builtin.List.listTouch (.ref s5.heap.objs.size) >>= fun _ =>
    again (.builtin "list.extend.loop" ⟨[.ref s5.heap.objs.size, .ref a, .ref s5.heap.objs.size], []⟩)) _ _ _
  refine wpAny_bind (wpAny_rule ?_)
  have hS₁ : (s5.heap.push { cls := .type "list", data := .seq ([] : List Value).toArray }).get? s5.heap.objs.size = some { cls := .type "list", data := .seq ([] : List Value).toArray } := Heap.get?_push_size _ rfl
  refine wpAny_bind ?_
  show wpAny _ B.in1 (updateSeq s5.heap.objs.size (·.push .none) >>= fun _ => updateSeq s5.heap.objs.size (·.pop)) _ _ _
  refine wpAny_bind (wpAny_updateSeq hS₁ rfl ?_)
  have hS₂ := Heap.get?_update_self (Obj.mapSeq (·.push Value.none)) hS₁ rfl
  refine wpAny_updateSeq hS₂ rfl ?_
  have hS₃ := Heap.get?_update_self (Obj.mapSeq (·.pop)) hS₂ rfl
  obtain ⟨c0, hS4⟩ : ∃ c0, (((s5.heap.push { cls := .type "list", data := .seq ([] : List Value).toArray }).update s5.heap.objs.size (Obj.mapSeq (·.push Value.none))).update s5.heap.objs.size (Obj.mapSeq (·.pop))).get? s5.heap.objs.size = some (lstObj #[] c0) := ⟨_, hS₃⟩
  have oth : ∀ b o, s5.heap.get? b = some o →
      (((s5.heap.push { cls := .type "list", data := .seq ([] : List Value).toArray }).update s5.heap.objs.size (Obj.mapSeq (·.push Value.none))).update s5.heap.objs.size (Obj.mapSeq (·.pop))).get? b = some o :=
    fun b o e => (Heap.get?_update_other _ _ (Ne.symm (Nat.ne_of_lt (Heap.lt_size e)))).trans ((Heap.get?_update_other _ _ (Ne.symm (Nat.ne_of_lt (Heap.lt_size e)))).trans (k1 b o e))
  have hcl : cStatics < s5.heap.objs.size := by
    obtain ⟨_, hn, _⟩ := I4.nolimit.keeps M.keep
    exact hn.lt
  refine wpAny_pure ⟨plainId_quiet F.plain_extend_loop _, drain_tup (S := s5.heap.objs.size) (Fin := Fin) hr.hd hr.depth M.gen hSI (Nat.ne_of_gt hcl) (fun s' ys H acc c b q hv hle hS' => ?_) (m + 1) _
    (M.ready ok I4 T st hfp hB hBr.hd (G.tg _ _ _ _ _ hBr) (G.ifs _ _ _ _ _ hBr) (G.elt _ _ _ _ _ hBr) turn (Nat.lt_succ_self _) w0 rfl M.bare oth rfl (pl := [(s5.heap.objs.size, lstObj #[] c0)]) (fun p hp => ?_) ⟨#[], c0, .nil, Nat.zero_le _, rfl⟩)⟩
  · show wpAny _ B (load s5.heap.objs.size >>= _) _ _ s'
    refine wpAny_bind (wpAny_load hS' ?_)
    exact wpAny_pure (hQ s' ys H acc.toList b q hv hle)
  · rw [List.mem_singleton.mp hp]
    exact ⟨Nat.le_refl _, hS4, fun v q => by cases q⟩

theorem code_tuple_gx {B : Around} {pins : List (Addr × Obj)} {σ : L2.St} {H2 : Hp} {s4 s5 : Shared} {code : Value} {it a : Addr} {go : Obj} {gi m : Nat} {fp : List Addr} {tn : Nat → Heap → Prop} {J : It} {Fin : List V → Hp → Prop} {W : Nat → Nat → List V → Hp → Prop}
    {Q₁ : Value → Shared → Prop} {E : Value → Shared → Prop}
    (G : GParts X k scope N tg ifs elt g tt te) (M : Made X scope elt tg iter ifs gpos s4 code it a go gi s5) (ok : GOk X.N X.env.scope scope N src) (I4 : Inv X pins σ H2 s4) (T : Turn X.prog X.w X.K tg J fp it tn) (st : tn 0 s5.heap)
    (hfp : ∀ b ∈ fp, FpOk X pins H2 b ∧ b < s4.heap.objs.size) (hB : B.frames = some X.stack) (hr : Room (k + 3) B) (turn : GTurn J g tt te vs (gsl σ src) pTup Fin W) (w0 : W 0 m [] H2)
    (hQ : ∀ s' ys H (acc : List Value), Back X H2 s4 fp H s' → Fin ys H → Vals ys acc → ys.length ≤ sizeLine → Q₁ (.ref s'.heap.objs.size) { s' with heap := s'.heap.push { cls := .type "tuple", data := .seq acc.toArray } }) :
    codeAny (model X.prog X.w) B (.call (.builtin "tuple.__new__") ⟨[.type "tuple", .ref a], []⟩) (wants Q₁ E) s5 := by
  refine codeAny_of_tree ?_
  show wpAny _ B.in1 (do checkBuiltinCall "tuple.__new__" ⟨[.type "tuple", .ref a], []⟩; again (.builtin "tuple.__new__" ⟨[.type "tuple", .ref a], []⟩)) _ _ s5
  refine wpAny_bind (wpAny_of_eq (F.newCall_tuple_1 _) (wpAny_pure ⟨plainId_quiet F.plain_tuple_new _, codeAny_builtin F.entry_tuple_new ?_⟩))
  rw [Around.under_plainId F.plain_tuple_new _]
  have hsub := sub_tuple_self
  have hinit := init_tuple_lookup
  have hmh := madeHere_tuple
  have hTI : s5.TypeIs (.ref a) "generator" := Heap.IsGen.typeIs (s := s5) (M.gen _ M.obj)
  wp_walk using wpAny_typeOf hTI, collect_gx (B := B.in1) (Fin := Fin) G M ok I4 T st hfp hB hr.in1 turn w0
  intro s' ys H acc hb hf hv hle
  show wpAny _ _ (Builtin.Tuple.tupleExact acc.toArray >>= fun v => ret v) _ _ _
  unfold Builtin.Tuple.tupleExact
  have hl := hv.length
  refine wpAny_bind (wpAny_newObj_type ?_ (by show acc.toArray.size ≤ sizeLine; simp only [List.size_toArray]; omega))
  exact wpAny_pure (hQ s' ys H acc hb hf hv hle)

theorem pe_gtup (G : GParts X k scope N tg ifs elt g tt te) (hr : Room (k + 4) X.A) (hg : Gl X "tuple") (hm : X.mg "tuple" = none) (TB : TabB X.base X.mg c P) (hcode : X.env.code = .ref c) (ok : GOk X.N X.env.scope scope N src) (hi : PI X tg iter wi)
    (hs : ∀ v, genFold iter X.env v = pure v := by intro _; rfl) (hb : bootBuiltins "tuple" = some (.type "tuple") := by decide +kernel)
    (he : starEach [.GeneratorExp elt [⟨tg, iter, ifs, 0⟩] scope gpos] X.env = (false, eval (.GeneratorExp elt [⟨tg, iter, ifs, 0⟩] scope gpos) X.env) :: starEach [] X.env := by rfl) :
    PE X (.Call (.Name "tuple" p) [.GeneratorExp elt [⟨tg, iter, ifs, 0⟩] scope gpos] [] pos) (tGTup P wi g tt te vs src) := by
  refine ⟨fun pins s σ H Q I h => ?_⟩
  refine wpAny_Call_Name_kw (ld_blt I hg hm hb ?_)
  refine PyProof.Rows.callWith_type1 ?_ he (by rfl)
  rw [he]
  show wpAny _ _ (spliced ((false, eval (.GeneratorExp elt [⟨tg, iter, ifs, 0⟩] scope gpos) X.env) :: backTo pos (starEach [] X.env))) _ _ s
  refine Calls.spliced_cons (gen_make (gpos := gpos) (elt := elt) (ifs := ifs) hr TB hcode ok hi hs I h fun it fp tn J H1 H2 s4 code a go gi s5 q hT I4 T st hfp M => ?_)
  obtain ⟨W, ⟨m, w0⟩, turn⟩ := q H2 hT
  refine Calls.spliced_nil ?_
  refine callType_codes (Q₁ := fun obj s₁ => s₁.TypeIs obj "tuple" ∧ EP X pins σ Q obj s₁) F.called_tuple (F.typeCall_tuple_1 _) F.entry_object_init
    (code_tuple_gx (Fin := fun ys H => ∀ p, H p = none → Q (.ref p) (upd H p (.tup ys))) G M ok I4 T st hfp (show X.A.in1.frames = some X.stack from I4.ok.frames) hr.in1 turn w0 fun s' ys H acc b q hv hle => ⟨⟨_, Heap.get?_push_size _ rfl, rfl⟩, ?_⟩) fun obj s₁ h₁ => ?_
  · have I5 := b.inv I4 fun b hb => (hfp b hb).1
    exact ⟨.ref s'.heap.objs.size, _, I5.laid (t' := s'.toks) (fun b o e => Heap.get?_push_of_some _ e) (Nat.le_refl _) (show ObjOk X.prog X.w _ _ _ (.tup ys) from ⟨hle, acc, hv, IsTup.new _ _⟩), rfl, q _ (I5.hok.fresh (Nat.le_refl _))⟩
  · exact ⟨h₁.1, F.args_object_init_2 obj _, object_init_meets F.called_tuple.init.lookup F.called_tuple.made (by decide) X.prog X.w X.A.in1 _ s₁ ⟨h₁.1, rfl, h₁.2⟩⟩
end
end Gx

set_option Elab.async false
set_option linter.all false
set_option maxRecDepth 100000
set_option maxHeartbeats 4000000
/-! Bx: further small rules over the layer: == and != of types, xs[i] op= e, the heap up to tables. -/
namespace Bx
open PySem PySem.Spec PyProof.Rows L2

/-! ### == and != of two built-in types -/
theorem slot_type_ne : Slot "type" (cmpInfo .NotEq).2.1 "object.__ne__" :=
  .of (owner := "object") (n := "__ne__") (by rw [typeLookup_type, builtinLookup_eq_fast]; kernel_rfl) (by decide +kernel) (by decide +kernel) (by decide +kernel)
    (by first | exact .inl (by decide +kernel) | exact .inr (by decide +kernel)) (by rw [isSubtype_type]; kernel_rfl)
theorem slot_type_ne_refl : Slot "type" (cmpInfo .NotEq).2.2 "object.__ne__" :=
  .of (owner := "object") (n := "__ne__") (by rw [typeLookup_type, builtinLookup_eq_fast]; kernel_rfl) (by decide +kernel) (by decide +kernel) (by decide +kernel)
    (by first | exact .inl (by decide +kernel) | exact .inr (by decide +kernel)) (by rw [isSubtype_type]; kernel_rfl)
theorem slot_type_eq' : Slot "type" (Str.ofString "__eq__") "object.__eq__" := TypeEq.slot_type_eq
section
variable {prog : Program} {w : World} {A : Around} {E : Value → Shared → Prop} {s : Shared}
theorem call_ne_types {Y Z : String} {Q : Value → Shared → Prop} (hX : ∀ s' : Shared, s'.TypeIs (.type Y) "type")
    (hc : wpAny (model prog w) A.in1 (call (.builtin "object.__eq__") [.type Y, .type Z]) (fun v s' => (v = .notImplemented ∧ Q .notImplemented s') ∨ ∃ b, v = .bool b ∧ Q (.bool (!b)) s') E s) :
    wpAny (model prog w) A (call (.builtin "object.__ne__") [.type Y, .type Z]) Q E s := by
  refine wpAny_call (codeAny_call_builtin slot_type_ne.plain F.cmpEntry_ne (slot_type_ne.check _ _ _ _ _ _ _ _ (hX s) (F.cmpArgs_ne _ _) ?_))
  unfold Builtin.«object.__ne__»
  refine wpAny_bind (wpAny_pure ?_)
  show wpAny _ _ (cRoomFor "comparison" [.type Y, .type Z] >>= _) _ _ _
  refine wpAny_bind (wpAny_cRoomFor_byValue rfl ?_)
  refine wpAny_bind (wpAny_callSpecialIfBound?_slot (name := Str.ofString "__eq__") (hX s) slot_type_eq' (wpAny_mono hc (fun v s' h => ?_) fun _ _ e => e))
  rcases h with ⟨rfl, q⟩ | ⟨b, rfl, q⟩
  · exact wpAny_pure q
  · show wpAny _ _ (truthy (.bool b) >>= _) _ _ _
    exact wpAny_bind (wpAny_truthy_bool (wpAny_pure q))
theorem ne_type_same {Y : String} {Q : Value → Shared → Prop} (hX : ∀ s' : Shared, s'.TypeIs (.type Y) "type") (h : Q (.bool false) s) : wpAny (model prog w) A (compareOp .NotEq (.type Y) (.type Y)) Q E s := by
  show wpAny _ A (richCompare .NotEq _ _) Q E s
  refine wpAny_richCompare_same (T := "type") (hX s) (hX s) slot_type_ne (call_ne_types hX ?_)
  exact call_gives TypeEq.slot_type_eq (hX s) F.entry_object_eq (F.args_object_eq_2 _ _) (TypeEq.object_eq_same rfl (by simp)) (.inr ⟨true, rfl, (by intro e; cases e), h⟩)
theorem richCompare_ne_decline {a b : Value} {T id : String} {k : Bool} {Q : Value → Shared → Prop} (ha : ∀ s' : Shared, s'.TypeIs a T) (hb : ∀ s' : Shared, s'.TypeIs b T)
    (h1 : Slot T (cmpInfo .NotEq).2.1 id) (h2 : Slot T (cmpInfo .NotEq).2.2 id) (hv : [a, b].any Value.onHeap = false) (hk : isSame a b = pure k)
    (hc : wpAny (model prog w) A (call (.builtin id) [a, b]) (fun v s1 => v = .notImplemented ∧ wpAny (model prog w) A (call (.builtin id) [b, a]) (fun v s2 => v = .notImplemented ∧ Q (.bool (!k)) s2) E s1) E s) :
    wpAny (model prog w) A (richCompare .NotEq a b) Q E s := by
  rcases hi : cmpInfo CmpOp.NotEq with ⟨sym, f, r⟩
  rw [hi] at h1 h2
  simp only [richCompare, hi, (ha s).oneThing_none]
  try with_reducible refine wpAny_holding ?_
  refine wpAny_bind (wpAny_cRoomFor_or (.inl hv) ?_)
  refine wpAny_bind (wpAny_typeOf (ha s) (wpAny_bind (wpAny_typeOf (hb s) ?_)))
  simp only [bne_self_eq_false, Bool.false_eq_true, if_false, pure_bind, Bool.not_false, if_true]
  refine wpAny_bind (m := tryCompare a _ b) (wpAny_tryCompare_declines (ha s) h1 (wpAny_mono hc (fun v s1 h1 => ⟨h1.1, ?_⟩) fun _ _ x => x))
  refine wpAny_bind (m := tryCompare b _ a) (wpAny_tryCompare_declines (hb s1) h2 (wpAny_mono h1.2 (fun v s2 h2 => ⟨h2.1, ?_⟩) fun _ _ x => x))
  refine wpAny_bind (wpAny_rule (wpAny_bind (wpAny_of_eq hk (wpAny_pure h2.2))))
theorem ne_type_other {Y Z : String} {Q : Value → Shared → Prop} (hX : ∀ s' : Shared, s'.TypeIs (.type Y) "type") (hY : ∀ s' : Shared, s'.TypeIs (.type Z) "type") (hne : (Value.type Y == Value.type Z) = false) (h : Q (.bool true) s) :
    wpAny (model prog w) A (compareOp .NotEq (.type Y) (.type Z)) Q E s := by
  have hne' : (Value.type Z == Value.type Y) = false := by
    rw [Bool.eq_false_iff] at hne ⊢
    intro e
    exact hne (by rw [beq_iff_eq] at e ⊢; exact e.symm)
  show wpAny _ A (richCompare .NotEq _ _) Q E s
  refine richCompare_ne_decline (T := "type") (k := false) hX hY slot_type_ne slot_type_ne_refl rfl (by rw [isSame_plain rfl, hne]) (call_ne_types hX ?_)
  refine call_gives TypeEq.slot_type_eq (hX s) F.entry_object_eq (F.args_object_eq_2 _ _) (TypeEq.object_eq_other rfl hne) (.inl ⟨rfl, rfl, call_ne_types hY ?_⟩)
  exact call_gives TypeEq.slot_type_eq (hY s) F.entry_object_eq (F.args_object_eq_2 _ _) (TypeEq.object_eq_other rfl hne') (.inl ⟨rfl, rfl, h⟩)
end
/-- the kinds of plain values -/
def tyNames : List String := ["NoneType", "bool", "int", "str", "tuple", "list"]
theorem meta_of {n : String} (h : n ∈ tyNames) (s : Shared) : s.TypeIs (.type n) "type" := by
  simp only [tyNames, List.mem_cons, List.not_mem_nil, or_false] at h
  rcases h with rfl | rfl | rfl | rfl | rfl | rfl
  · exact TypeEq.meta_NoneType s
  · exact TypeEq.meta_bool s
  · exact TypeEq.meta_int s
  · exact TypeEq.meta_str s
  · exact TypeEq.meta_tuple s
  · exact TypeEq.meta_list s
def rTyC (f : Bool → Bool) : R2 := fun x y H Q => ∃ m n, x = .ty m ∧ y = .ty n ∧ m ∈ tyNames ∧ n ∈ tyNames ∧ Q (.bl (f (decide (m = n)))) H
section
variable {X : Cx}
theorem op_eqTy : OpR X (compareOp .Eq) (rTyC id) := by
  intro pins s σ H x y v u Q I rx ry h
  obtain ⟨m, n, rfl, rfl, hm, hn, q⟩ := h
  cases (show v = Value.type m from rx)
  cases (show u = Value.type n from ry)
  by_cases e : m = n
  · subst e
    rw [decide_eq_true rfl] at q
    exact TypeEq.eq_type_same (meta_of hm) ⟨.bl true, H, I, rfl, q⟩
  · rw [decide_eq_false e] at q
    exact TypeEq.eq_type_other (meta_of hm) (meta_of hn) (by simp [e]) ⟨.bl false, H, I, rfl, q⟩
theorem op_neTy : OpR X (compareOp .NotEq) (rTyC not) := by
  intro pins s σ H x y v u Q I rx ry h
  obtain ⟨m, n, rfl, rfl, hm, hn, q⟩ := h
  cases (show v = Value.type m from rx)
  cases (show u = Value.type n from ry)
  by_cases e : m = n
  · subst e
    rw [decide_eq_true rfl] at q
    exact ne_type_same (meta_of hm) ⟨.bl false, H, I, rfl, q⟩
  · rw [decide_eq_false e] at q
    exact ne_type_other (meta_of hm) (meta_of hn) (by simp [e]) ⟨.bl true, H, I, rfl, q⟩

/-! ### the read of xs[i] op= e -/
def gtList : V → V → Hp → VK → Prop := fun o i H Q => ∃ (l : Addr) (xs : List V) (j : Nat) (x : V), o = .ref l ∧ i = .int j ∧ H l = some (.lst xs) ∧ xs[j]? = some x ∧ Q x H
theorem get_list : PGet X gtList := by
  intro pins s σ H o i ov iv Q I ro ri h
  obtain ⟨l, xs, j, x, rfl, rfl, hl, hx, q⟩ := h
  cases (show ov = Value.ref l from ro)
  obtain ⟨t, rfl⟩ := (show ∃ t, iv = Value.int (j : Int) t from ri)
  obtain ⟨its, rv, p, hz⟩ := I.list (SqL.of hl)
  obtain ⟨u, hu, ru⟩ := rv.get hx
  have hlt : j < xs.length := (List.getElem?_eq_some_iff.mp hx).1
  have hls := rv.length
  refine wpAny_getItem_list p.isList (by omega) (by have : sizeLine < 2 ^ 62 := by decide
                                                    omega) ?_ ⟨x, H, I, ru, q⟩
  simpa using hu
def ipB (f : Int → Int → Int) : TIp := fun x y H Q => ∃ i j, x = .int i ∧ y = .int j ∧ Q (.int (f i j)) H
end

/-! ### heaps: what was tracked stands, tables may have grown -/
def isTbl : HO → Prop
  | .tbl _ => True
  | _ => False
structure Ext (H H' : Hp) : Prop where
  keep : ∀ b o, H b = some o → ¬ isTbl o → H' b = some o
  tabs : ∀ P, Gx.TabG H P → Gx.TabG H' P
  live : ∀ b o, H b = some o → ∃ o', H' b = some o'
theorem Ext.refl (H : Hp) : Ext H H := ⟨fun _ _ e _ => e, fun _ t => t, fun _ o e => ⟨o, e⟩⟩
theorem Ext.trans {H H1 H2 : Hp} (a : Ext H H1) (b : Ext H1 H2) : Ext H H2 := ⟨fun c o e n => b.keep c o (a.keep c o e n) n, fun P t => b.tabs P (a.tabs P t), fun c o e => let ⟨o1, e1⟩ := a.live c o e; b.live c o1 e1⟩
theorem Ext.tabbed {P : Addr} {H H' : Hp} (h : Gx.TabG H P) (t : Gx.Tabbed P H H') : Ext H H' := by
  obtain ⟨t1, t2⟩ := t
  refine ⟨fun b o e n => ?_, fun Q hQ => ?_, fun b o e => ?_⟩
  · by_cases hb : b = P
    · obtain ⟨ps, e2, _⟩ := h
      rw [hb, e2] at e
      cases e
      exact (n trivial).elim
    · rw [t2 b hb]
      exact e
  · by_cases hb : Q = P
    · rw [hb]
      exact t1
    · obtain ⟨ps, e, k⟩ := hQ
      exact ⟨ps, by rw [t2 Q hb]; exact e, k⟩
  · by_cases hb : b = P
    · obtain ⟨ps, e, _⟩ := t1
      exact ⟨_, by rw [hb]; exact e⟩
    · exact ⟨o, by rw [t2 b hb]; exact e⟩
theorem Ext.new {H : Hp} {p : Addr} {o : HO} (h : H p = none) : Ext H (upd H p o) :=
  ⟨fun b u e _ => by rw [upd_ne (ne_of_none e h)]; exact e, fun Q ⟨ps, e, k⟩ => ⟨ps, by rw [upd_ne (ne_of_none e h)]; exact e, k⟩, fun b u e => ⟨u, by rw [upd_ne (ne_of_none e h)]; exact e⟩⟩
/-- a list of ours is written: from the state ahead of its making nothing is seen -/
theorem Ext.write {H H' : Hp} {p : Addr} {o : HO} (x : Ext H H') (h : H p = none) : Ext H (upd H' p o) :=
  ⟨fun b u e n => by rw [upd_ne (ne_of_none e h)]; exact x.keep b u e n, fun Q hQ => by
    obtain ⟨ps, e, k⟩ := x.tabs Q hQ
    obtain ⟨ps0, e0, _⟩ := hQ
    exact ⟨ps, by rw [upd_ne (ne_of_none e0 h)]; exact e, k⟩, fun b u e => by
    obtain ⟨u', e'⟩ := x.live b u e
    exact ⟨u', by rw [upd_ne (ne_of_none e h)]; exact e'⟩⟩
theorem Ext.free {H H' : Hp} (x : Ext H H') {p : Addr} (h : H' p = none) : H p = none := by
  cases e : H p with
  | none => rfl
  | some o =>
    obtain ⟨o', e'⟩ := x.live p o e
    rw [h] at e'
    cases e'
theorem Ext.rd {H H' : Hp} (x : Ext H H') {a : Addr} {u : HO} (n : ¬ isTbl u) (h : Rd H a u) : Rd H' a u := by
  rcases h with h | ⟨o, h⟩
  · exact .inl (x.keep a u h n)
  · exact .inr ⟨o, x.keep a _ h fun z => z⟩
theorem Ext.sqT {K : PySem.W.Frag} {H H' : Hp} (x : Ext H H') {a : Addr} {xs : List V} (h : SqT K H a xs) : SqT K H' a xs := h.elim (fun z => .inl (x.rd (fun z => z) z)) .inr
theorem Ext.sqL {K : PySem.W.Frag} {H H' : Hp} (x : Ext H H') {a : Addr} {xs : List V} (h : SqL K H a xs) : SqL K H' a xs := h.elim (fun z => .inl (x.rd (fun z => z) z)) .inr
theorem Ext.lst {H H' : Hp} (x : Ext H H') {a : Addr} {xs : List V} (h : H a = some (.lst xs)) : H' a = some (.lst xs) := x.keep a _ h fun z => z
theorem Ext.tup {H H' : Hp} (x : Ext H H') {a : Addr} {xs : List V} (h : H a = some (.tup xs)) : H' a = some (.tup xs) := x.keep a _ h fun z => z
mutual
theorem dp_ext {K : PySem.W.Frag} {H H' : Hp} (x : Ext H H') : ∀ {v : V} {d : PyData}, Dp K H v d → Dp K H' v d
  | _, _, .non => .non
  | _, _, .bl b => .bl b
  | _, _, .int i => .int i
  | _, _, .str z => .str z
  | _, _, .lst h hs => .lst (x.sqL h) (dpAll_ext x hs)
  | _, _, .tup h hs => .tup (x.sqT h) (dpAll_ext x hs)
theorem dpAll_ext {K : PySem.W.Frag} {H H' : Hp} (x : Ext H H') : ∀ {vs : List V} {ds : List PyData}, DpAll K H vs ds → DpAll K H' vs ds
  | _, _, .nil => .nil
  | _, _, .cons h hs => .cons (dp_ext x h) (dpAll_ext x hs)
end
theorem dp_tup {K : PySem.W.Frag} {H : Hp} {v : V} {ds : List PyData} (h : Dp K H v (.tuple ds)) : ∃ a xs, v = .ref a ∧ SqT K H a xs ∧ DpAll K H xs ds := by
  cases h with
  | tup h hs => exact ⟨_, _, rfl, h, hs⟩
theorem dp_lst {K : PySem.W.Frag} {H : Hp} {v : V} {ds : List PyData} (h : Dp K H v (.list ds)) : ∃ a xs, v = .ref a ∧ SqL K H a xs ∧ DpAll K H xs ds := by
  cases h with
  | lst h hs => exact ⟨_, _, rfl, h, hs⟩
theorem dp_int {K : PySem.W.Frag} {H : Hp} {v : V} {i : Int} (h : Dp K H v (.int i)) : v = .int i := by cases h; rfl
theorem dpAll_len {K : PySem.W.Frag} {H : Hp} : ∀ {vs : List V} {ds : List PyData}, DpAll K H vs ds → vs.length = ds.length
  | _, _, .nil => rfl
  | _, _, .cons _ hs => congrArg (· + 1) (dpAll_len hs)
theorem dpAll_get {K : PySem.W.Frag} {H : Hp} : ∀ {vs : List V} {ds : List PyData} {i : Nat} {d : PyData}, DpAll K H vs ds → ds[i]? = some d → ∃ v, vs[i]? = some v ∧ Dp K H v d
  | _, _, _, _, .nil, e => by simp at e
  | _, _, 0, _, .cons h _, e => by simp at e; subst e; exact ⟨_, rfl, h⟩
  | _, _, i + 1, d, .cons _ hs, e => by
    obtain ⟨v, h1, h2⟩ := dpAll_get (i := i) (d := d) hs (by simpa using e)
    exact ⟨v, by simpa using h1, h2⟩
theorem dpAll_get' {K : PySem.W.Frag} {H : Hp} : ∀ {vs : List V} {ds : List PyData} {i : Nat} {v : V}, DpAll K H vs ds → vs[i]? = some v → ∃ d, ds[i]? = some d ∧ Dp K H v d
  | _, _, _, _, .nil, e => by simp at e
  | _, _, 0, _, .cons h _, e => by simp at e; subst e; exact ⟨_, rfl, h⟩
  | _, _, i + 1, v, .cons _ hs, e => by
    obtain ⟨d, h1, h2⟩ := dpAll_get' (i := i) (v := v) hs (by simpa using e)
    exact ⟨d, by simpa using h1, h2⟩
theorem dpAll_app {K : PySem.W.Frag} {H : Hp} : ∀ {vs us : List V} {ds es : List PyData}, DpAll K H vs ds → DpAll K H us es → DpAll K H (vs ++ us) (ds ++ es)
  | _, _, _, _, .nil, h => h
  | _, _, _, _, .cons a hs, h => .cons a (dpAll_app hs h)
theorem dpAll_ints {K : PySem.W.Frag} {H : Hp} : ∀ {vs : List V} {ns : List Int}, DpAll K H vs (ns.map .int) → vs = ns.map V.int
  | [], [], _ => rfl
  | _, _ :: _, .cons h hs => by rw [List.map_cons, dp_int h, dpAll_ints hs]
theorem dpAll_of_ints {K : PySem.W.Frag} {H : Hp} : ∀ (ns : List Int), DpAll K H (ns.map V.int) (ns.map .int)
  | [] => .nil
  | n :: ns => .cons (.int n) (dpAll_of_ints ns)
theorem dp_ints {K : PySem.W.Frag} {H : Hp} {v : V} {ns : List Int} (h : Dp K H v (.tuple (ns.map .int))) : ∃ a, v = .ref a ∧ SqT K H a (ns.map V.int) := by
  obtain ⟨a, xs, rfl, h1, h2⟩ := dp_tup h
  exact ⟨a, rfl, by rw [← dpAll_ints h2]; exact h1⟩
/-- a tuple just laid -/
theorem dp_new {K : PySem.W.Frag} {H : Hp} {p : Addr} {vs : List V} {ds : List PyData} (hp : H p = none) (h : DpAll K H vs ds) : Dp K (upd H p (.tup vs)) (.ref p) (.tuple ds) := .tup (SqT.of upd_same) (dpAll_ext (Ext.new hp) h)

/-! ### a def whose code object is known; a callee -/
structure FunC (K : PySem.W.Frag) (x qual : Str) (st : Stmt) (f : Addr) (fd : FuncData) (c : Addr) : Prop where
  ex : ∃ (oc : Value) (od : Option Addr) (kV doc pm : Value) (an : Option Addr) (ct : Value) (osl : Array (Option Value)),
    fd = PySem.W.fnOf x qual (defArgs st) (defBody st) (defScope st) .none kV doc pm an (.ref c) ct ∧ K.lookup f = some ⟨oc, od, .func fd, osl⟩ ∧ PySem.W.codeIn K (.ref c) qual = true
  kp : PySem.W.keepIn K (.ref f) = true
theorem FunC.fun {K : PySem.W.Frag} {x qual : Str} {st : Stmt} {f : Addr} {fd : FuncData} {c : Addr} (F : FunC K x qual st f fd c) : Fun K x qual st f fd :=
  ⟨let ⟨oc, od, kV, doc, pm, an, ct, osl, h⟩ := F.ex; ⟨oc, od, kV, doc, pm, an, .ref c, ct, osl, h⟩, F.kp⟩
section
variable {P : Program} {w : World} {K : PySem.W.Frag} {mg : Str → Option Value} {base : Heap}
theorem FunC.ok {x qual : Str} {st : Stmt} {f : Addr} {fd : FuncData} {c : Addr} {N ps : List Str} {k : Nat} {sp : Sp} (F : FunC K x qual st f fd c) (S : FnScope N ps (defScope st)) (len : ∀ vs H Q E, sp vs H Q E → vs.length = ps.length)
    (hbody : ∀ (A : Around) (outer : List Env) (s : Shared) (H : Hp) (vs : List V) (Q : VK) (E : XK), Room k (A.deeper (envOfC qual (defScope st) s.heap.objs.size f (.ref c))) → sp vs H Q E →
      ∃ t, PSs (cxOf CX0 P w K mg base N qual (defScope st) f (.ref c) A outer s H E).nox (defBody st) t ∧ t { nx := fun _ H' => Q .non H', rt := Q } (start N vs) H) : FnOk P w K mg base CX0 (k + 1) f fd ps sp := by
  obtain ⟨oc, od, kV, doc, pm, an, ct, osl, rfl, lk, hcd⟩ := F.ex
  refine fn_of lk hcd S len fun A outer s H vs Q E hr hsp => ?_
  obtain ⟨t, h, q⟩ := hbody A outer s H vs Q E hr hsp
  exact ⟨t, h.nox, q⟩
/-- a callee by its name: its promise, how its arguments bind -/
structure Cal (P : Program) (w : World) (K : PySem.W.Frag) (mg : Str → Option Value) (base : Heap) (k : Nat) (x : Str) (ps : List Str) (sp : Sp) : Prop where
  ex : ∃ (f : Addr) (fd : FuncData), FnOk P w K mg base CX0 k f fd ps sp ∧ mg x = some (.ref f) ∧ PySem.W.keepIn K (.ref f) = true ∧ Binds K fd ps []
theorem Cal.mono {j k : Nat} {x : Str} {ps : List Str} {sp : Sp} (C : Cal P w K mg base j x ps sp) (h : j ≤ k) : Cal P w K mg base k x ps sp :=
  ⟨let ⟨f, fd, h1, h2⟩ := C.ex; ⟨f, fd, h1.mono h, h2⟩⟩
end
section
variable {X : Cx} {k : Nat} {x : Str} {ps : List Str} {sp : Sp} {p pos : Pos} {e : Expr} {es : List Expr} {t : TA}
theorem pe_cal (C : Cal X.prog X.w X.K X.mg X.base k x ps sp) (hr : Room k X.A) (hg : Gl X x) (ha : PA X (e :: es) t) (hdb : (x == ("__debug__" : Str)) = false := by decide)
    (he : starEach (e :: es) X.env = (false, eval e X.env) :: starEach es X.env := by rfl) (hpl : (backTo pos (starEach es X.env)).any (·.1) = false := by rfl) :
    PE X (.Call (.Name x p) (e :: es) [] pos) (tCall sp [] E0 t) := by
  obtain ⟨f, fd, h1, h2, h3, h4⟩ := C.ex
  exact pe_call h1 hr hg h2 h3 h4 .nil pass0 ha hdb he hpl
end
/-- the built-in names that the text leaves as they are -/
structure Bl (mg : Str → Option Value) : Prop where
  type : mg "type" = none
  len : mg "len" = none
  all : mg "all" = none
  sum : mg "sum" = none
  tuple : mg "tuple" = none
  list : mg "list" = none
  range : mg "range" = none
  int : mg "int" = none
  bool : mg "bool" = none
  str : mg "str" = none
  min : mg "min" = none
  max : mg "max" = none
  sorted : mg "sorted" = none
  isinstance : mg "isinstance" = none
  set : mg "set" = none
abbrev Tabs (ts : List Addr) (H : Hp) : Prop := ∀ P ∈ ts, Gx.TabG H P
theorem Tabs.ext {ts : List Addr} {H H' : Hp} (t : Tabs ts H) (x : Ext H H') : Tabs ts H' := fun P hP => x.tabs P (t P hP)
end Bx

set_option Elab.async false
set_option linter.all false
set_option maxRecDepth 100000
set_option maxHeartbeats 1000000
/-! Mx: masks, lots, and what hangs together: plain mathematics. -/
namespace Mk
/-! ### masks -/
def bits (n m : Nat) : List Nat := (List.range n).filter fun i => m.testBit i
def mask (ps : List Nat) : Nat := (ps.map fun p => 2 ^ p).sum
theorem mem_bits {n m q : Nat} : q ∈ bits n m ↔ q < n ∧ m.testBit q = true := by
  unfold bits
  rw [List.mem_filter, List.mem_range]
theorem lt_of_bit {m n q : Nat} (h : m < 2 ^ n) (hq : m.testBit q = true) : q < n := by
  apply Classical.byContradiction
  intro z
  have := Nat.testBit_lt_two_pow (x := m) (i := q) (Nat.lt_of_lt_of_le h (Nat.pow_le_pow_right (by decide) (by omega)))
  rw [this] at hq
  cases hq
theorem range_pair (n : Nat) : (List.range n).Pairwise (· < ·) := List.pairwise_lt_range
theorem bits_pair (n m : Nat) : (bits n m).Pairwise (· < ·) := (range_pair n).filter _
theorem bits_len (n m : Nat) : (bits n m).length ≤ n := by
  have := List.length_filter_le (fun i => m.testBit i) (List.range n)
  rw [List.length_range] at this
  exact this
/-- ascending lists with the same members are the same -/
theorem asc_ext : ∀ {a b : List Nat}, a.Pairwise (· < ·) → b.Pairwise (· < ·) → (∀ q, q ∈ a ↔ q ∈ b) → a = b
  | [], [], _, _, _ => rfl
  | [], y :: b, _, _, h => absurd ((h y).mpr List.mem_cons_self) (by simp)
  | x :: a, [], _, _, h => absurd ((h x).mp List.mem_cons_self) (by simp)
  | x :: a, y :: b, ha, hb, h => by
    rw [List.pairwise_cons] at ha hb
    have e : x = y := by
      have h1 := (h x).mp List.mem_cons_self
      have h2 := (h y).mpr List.mem_cons_self
      rcases List.mem_cons.mp h1 with z | z
      · exact z
      · rcases List.mem_cons.mp h2 with u | u
        · exact u.symm
        · have := hb.1 x z
          have := ha.1 y u
          omega
    subst e
    congr 1
    refine asc_ext ha.2 hb.2 fun q => ⟨fun hq => ?_, fun hq => ?_⟩
    · rcases List.mem_cons.mp ((h q).mp (List.mem_cons_of_mem _ hq)) with z | z
      · have := ha.1 q hq
        omega
      · exact z
    · rcases List.mem_cons.mp ((h q).mpr (List.mem_cons_of_mem _ hq)) with z | z
      · have := hb.1 q hq
        omega
      · exact z
theorem mask_lt : ∀ {ps : List Nat} {n : Nat}, ps.Pairwise (· < ·) → (∀ p ∈ ps, p < n) → mask ps < 2 ^ n := by
  intro ps
  -- from the greatest on
  have key : ∀ (ps : List Nat) (n : Nat), ps.Pairwise (fun a b => b < a) → (∀ p ∈ ps, p < n) → mask ps < 2 ^ n := by
    intro ps
    induction ps with
    | nil => intro n _ _; exact Nat.two_pow_pos n
    | cons p r ih =>
      intro n hp hn
      rw [List.pairwise_cons] at hp
      have h1 := ih p hp.2 hp.1
      have h2 : p < n := hn p List.mem_cons_self
      have h3 : 2 ^ (p + 1) ≤ 2 ^ n := Nat.pow_le_pow_right (by decide) h2
      have h4 : mask (p :: r) = 2 ^ p + mask r := rfl
      rw [h4]
      rw [Nat.pow_succ] at h3
      omega
  intro n hp hn
  have e : mask ps = mask ps.reverse := by
    unfold mask
    rw [← List.sum_reverse, List.map_reverse]
  rw [e]
  refine key _ n ?_ fun p hq => hn p (List.mem_reverse.mp hq)
  rw [List.pairwise_reverse]
  exact hp
theorem bit_mask : ∀ {ps : List Nat}, ps.Pairwise (· < ·) → ∀ q, (mask ps).testBit q = decide (q ∈ ps) := by
  -- from the greatest on: 2 ^ p + (less)
  have key : ∀ (ps : List Nat), ps.Pairwise (fun a b => b < a) → ∀ q, (mask ps).testBit q = decide (q ∈ ps) := by
    intro ps
    induction ps with
    | nil => intro _ q; simp [mask]
    | cons p r ih =>
      intro hp q
      rw [List.pairwise_cons] at hp
      have hlt : mask r < 2 ^ p := by
        have e : mask r = mask r.reverse := by
          unfold mask
          rw [← List.sum_reverse, List.map_reverse]
        rw [e]
        exact mask_lt (by rw [List.pairwise_reverse]; exact hp.2) fun x hx => hp.1 x (List.mem_reverse.mp hx)
      have h4 : mask (p :: r) = 2 ^ p + mask r := rfl
      rw [h4]
      rcases Nat.lt_trichotomy q p with h | h | h
      · rw [Nat.testBit_two_pow_add_gt h, ih hp.2]
        have : q ≠ p := by omega
        simp [this]
      · subst h
        rw [Nat.testBit_two_pow_add_eq, Nat.testBit_lt_two_pow hlt]
        simp
      · have hlt2 : 2 ^ p + mask r < 2 ^ q := by
          have h3 : 2 ^ (p + 1) ≤ 2 ^ q := Nat.pow_le_pow_right (by decide) h
          rw [Nat.pow_succ] at h3
          omega
        rw [Nat.testBit_lt_two_pow hlt2]
        have h1 : q ≠ p := by omega
        have h2 : q ∉ r := fun z => by
          have := hp.1 q z
          omega
        simp [h1, h2]
  intro ps hp q
  have e : mask ps = mask ps.reverse := by
    unfold mask
    rw [← List.sum_reverse, List.map_reverse]
  rw [e, key _ (by rw [List.pairwise_reverse]; exact hp)]
  simp
theorem bits_mask {n : Nat} {ps : List Nat} (hp : ps.Pairwise (· < ·)) (hn : ∀ p ∈ ps, p < n) : bits n (mask ps) = ps := by
  refine asc_ext (bits_pair _ _) hp fun q => ?_
  rw [mem_bits, bit_mask hp]
  simp only [decide_eq_true_eq]
  exact ⟨fun h => h.2, fun h => ⟨hn q h, h⟩⟩
theorem eq_of_bits {a b : Nat} (h : ∀ q, a.testBit q = true ↔ b.testBit q = true) : a = b := Nat.eq_of_testBit_eq fun q => by
  have := h q
  cases e1 : a.testBit q <;> cases e2 : b.testBit q <;> simp_all
theorem mask_bits {n m : Nat} (h : m < 2 ^ n) : mask (bits n m) = m := eq_of_bits fun q => by
  rw [bit_mask (bits_pair _ _)]
  simp only [decide_eq_true_eq]
  rw [mem_bits]
  exact ⟨fun z => z.2, fun z => ⟨lt_of_bit h z, z⟩⟩
theorem bits_any {n k m : Nat} (h1 : m < 2 ^ n) (h2 : m < 2 ^ k) : bits n m = bits k m := asc_ext (bits_pair _ _) (bits_pair _ _) fun q => by
  rw [mem_bits, mem_bits]
  exact ⟨fun z => ⟨lt_of_bit h2 z.2, z.2⟩, fun z => ⟨lt_of_bit h1 z.2, z.2⟩⟩
theorem lt_of_sub {n r m : Nat} (h : m < 2 ^ n) (s : ∀ q, r.testBit q = true → m.testBit q = true) : r < 2 ^ n := by
  apply Nat.lt_pow_two_of_testBit
  intro i hi
  cases e : r.testBit i with
  | false => rfl
  | true => exact absurd (lt_of_bit h (s i e)) (by omega)
/-! ### the lowest bit -/
theorem and_neg (m : Nat) (h : 0 < m) : ∃ q, m.testBit q = true ∧ (∀ p, p < q → m.testBit p = false) ∧ PySem.Builtin.bitAnd (m : Int) (-(m : Int)) = ((2 ^ q : Nat) : Int) := by
  have key : ∀ (m : Nat), 0 < m → ∃ q, m.testBit q = true ∧ (∀ p, p < q → m.testBit p = false) ∧ m - (m &&& (m - 1)) = 2 ^ q ∧ (m &&& (m - 1)) ≤ m := by
    intro m
    induction m using Nat.strongRecOn with
    | ind m ih =>
    intro h
    rcases Nat.mod_two_eq_zero_or_one m with e | e
    · obtain ⟨k, rfl⟩ : ∃ k, m = 2 * k := ⟨m / 2, by omega⟩
      obtain ⟨q, h1, h2, h3, h4⟩ := ih k (by omega) (by omega)
      have ea : (2 * k &&& (2 * k - 1)) = 2 * (k &&& (k - 1)) := by
        apply Nat.eq_of_testBit_eq
        intro i
        cases i with
        | zero => simp [Nat.testBit_and]
        | succ i =>
          rw [Nat.testBit_and, Nat.testBit_succ, Nat.testBit_succ, Nat.testBit_succ]
          have e1 : 2 * k / 2 = k := by omega
          have e2 : (2 * k - 1) / 2 = k - 1 := by omega
          have e3 : 2 * (k &&& (k - 1)) / 2 = (k &&& (k - 1)) := by omega
          rw [e1, e2, e3, Nat.testBit_and]
      refine ⟨q + 1, ?_, fun p hp => ?_, ?_, ?_⟩
      · rw [Nat.testBit_succ]
        have e1 : 2 * k / 2 = k := by omega
        rw [e1]
        exact h1
      · cases p with
        | zero => simp
        | succ p =>
          rw [Nat.testBit_succ]
          have e1 : 2 * k / 2 = k := by omega
          rw [e1]
          exact h2 p (by omega)
      · rw [ea, Nat.pow_succ]
        omega
      · rw [ea]
        omega
    · refine ⟨0, by simp [Nat.testBit_zero, e], fun p hp => by omega, ?_, ?_⟩
      · have ea : (m &&& (m - 1)) = m - 1 := by
          apply Nat.eq_of_testBit_eq
          intro i
          rw [Nat.testBit_and]
          cases i with
          | zero =>
            have : (m - 1) % 2 = 0 := by omega
            simp [Nat.testBit_zero, this]
          | succ i =>
            rw [Nat.testBit_succ, Nat.testBit_succ]
            have e1 : (m - 1) / 2 = m / 2 := by omega
            rw [e1, Bool.and_self]
        rw [ea]
        omega
      · exact Nat.and_le_left
  obtain ⟨q, h1, h2, h3, h4⟩ := key m h
  refine ⟨q, h1, h2, ?_⟩
  unfold PySem.Builtin.bitAnd PySem.Builtin.bitNot
  have e1 : decide ((0 : Int) ≤ (m : Int)) = true := by simp
  have e2 : decide ((0 : Int) ≤ -(m : Int)) = false := by
    apply decide_eq_false
    omega
  rw [e1, e2]
  show (m : Int) - (((m : Int).toNat &&& (-(-(m : Int)) - 1).toNat : Nat) : Int) = _
  have e3 : (m : Int).toNat = m := Int.toNat_natCast m
  have e4 : (-(-(m : Int)) - 1).toNat = m - 1 := by omega
  rw [e3, e4, ← h3]
  omega

/-! ### graphs -/
def adj (bs : List (Nat × Nat)) (i j : Nat) : Bool := bs.contains (min i j, max i j)
theorem adj_comm (bs : List (Nat × Nat)) (i j : Nat) : adj bs i j = adj bs j i := by
  unfold adj
  rw [Nat.min_comm, Nat.max_comm]
/-- from p to q by borders, within S -/
inductive Conn (bs : List (Nat × Nat)) (S : Nat → Prop) : Nat → Nat → Prop
  | refl {p : Nat} : S p → Conn bs S p p
  | step {p q r : Nat} : Conn bs S p q → adj bs q r = true → S r → Conn bs S p r
section
variable {bs : List (Nat × Nat)} {S T : Nat → Prop} {p q r : Nat}
theorem Conn.fst (h : Conn bs S p q) : S p := by
  induction h with
  | refl h => exact h
  | step _ _ _ ih => exact ih
theorem Conn.snd (h : Conn bs S p q) : S q := by
  cases h with
  | refl h => exact h
  | step _ _ h => exact h
theorem Conn.trans (h1 : Conn bs S p q) (h2 : Conn bs S q r) : Conn bs S p r := by
  induction h2 with
  | refl _ => exact h1
  | step _ a s ih => exact .step ih a s
theorem Conn.one (h1 : S p) (h2 : S q) (a : adj bs p q = true) : Conn bs S p q := .step (.refl h1) a h2
theorem Conn.symm (h : Conn bs S p q) : Conn bs S q p := by
  induction h with
  | refl h => exact .refl h
  | step c a s ih => exact (Conn.one s c.snd (by rw [adj_comm]; exact a)).trans ih
theorem Conn.mono (h : Conn bs S p q) (k : ∀ x, S x → T x) : Conn bs T p q := by
  induction h with
  | refl h => exact .refl (k _ h)
  | step _ a s ih => exact .step ih a (k _ s)
/-- within a part that is closed nothing else is come to -/
theorem Conn.closed (h : Conn bs S p q) (hp : T p) (k : ∀ x y, T x → S y → adj bs x y = true → T y) : Conn bs T p q ∧ T q := by
  induction h with
  | refl _ => exact ⟨.refl hp, hp⟩
  | step _ a s ih =>
    have t := k _ _ ih.2 s a
    exact ⟨.step ih.1 a t, t⟩
end
abbrev In (m : Nat) : Nat → Prop := fun x => m.testBit x = true
/-- r: what is come to from start within m -/
def Rch (bs : List (Nat × Nat)) (m start r : Nat) : Prop := ∀ q, r.testBit q = true ↔ ∃ p, start.testBit p = true ∧ Conn bs (In m) p q
theorem Rch.uniq {bs : List (Nat × Nat)} {m start r r' : Nat} (h : Rch bs m start r) (h' : Rch bs m start r') : r = r' := eq_of_bits fun q => (h q).trans (h' q).symm
/-- the loop of reached: what holds between two turns -/
structure Walk (bs : List (Nat × Nat)) (m start seen fresh : Nat) : Prop where
  st : ∀ q, start.testBit q = true → seen.testBit q = true
  sub : ∀ q, fresh.testBit q = true → seen.testBit q = true
  sound : ∀ q, seen.testBit q = true → ∃ p, start.testBit p = true ∧ Conn bs (In m) p q
  done : ∀ q r, seen.testBit q = true → fresh.testBit q = false → adj bs q r = true → m.testBit r = true → seen.testBit r = true
theorem Walk.begin {bs : List (Nat × Nat)} {m start : Nat} (h : ∀ q, start.testBit q = true → m.testBit q = true) : Walk bs m start start start :=
  ⟨fun _ h => h, fun _ h => h, fun q hq => ⟨q, hq, .refl (h q hq)⟩, fun q r h1 h2 => by rw [h1] at h2; cases h2⟩
theorem Walk.fin {bs : List (Nat × Nat)} {m start seen : Nat} (w : Walk bs m start seen 0) : Rch bs m start seen := fun q => by
  refine ⟨w.sound q, fun h => ?_⟩
  obtain ⟨p, hp, c⟩ := h
  induction c with
  | refl _ => exact w.st _ hp
  | step c a s ih => exact w.done _ _ ih (Nat.zero_testBit _) a s
theorem Walk.turn {bs : List (Nat × Nat)} {m start seen fresh around : Nat} (w : Walk bs m start seen fresh) (ha : ∀ r, around.testBit r = true ↔ ∃ q, fresh.testBit q = true ∧ adj bs q r = true) :
    Walk bs m start (seen ||| (around &&& (m ^^^ seen))) (around &&& (m ^^^ seen)) := by
  have sm : ∀ q, seen.testBit q = true → m.testBit q = true := fun q hq => by
    obtain ⟨p, _, c⟩ := w.sound q hq
    exact c.snd
  have hn : ∀ r, (around &&& (m ^^^ seen)).testBit r = true ↔ around.testBit r = true ∧ m.testBit r = true ∧ seen.testBit r = false := fun r => by
    rw [Nat.testBit_and, Nat.testBit_xor]
    have := sm r
    cases h1 : around.testBit r <;> cases h2 : m.testBit r <;> cases h3 : seen.testBit r <;> simp_all
  refine ⟨fun q hq => ?_, fun q hq => ?_, fun q hq => ?_, fun q r h1 h2 a hr => ?_⟩
  · rw [Nat.testBit_or, w.st q hq]; rfl
  · rw [Nat.testBit_or, hq, Bool.or_true]
  · rw [Nat.testBit_or, Bool.or_eq_true] at hq
    rcases hq with hq | hq
    · exact w.sound q hq
    · obtain ⟨h1, h2, _⟩ := (hn q).mp hq
      obtain ⟨x, h3, h4⟩ := (ha q).mp h1
      obtain ⟨p, hp, c⟩ := w.sound x (w.sub x h3)
      exact ⟨p, hp, .step c h4 h2⟩
  · rw [Nat.testBit_or, h2, Bool.or_false] at h1
    rw [Nat.testBit_or, Bool.or_eq_true]
    cases e : seen.testBit r with
    | true => exact .inl rfl
    | false =>
      right
      rw [hn]
      refine ⟨(ha r).mpr ⟨q, ?_, a⟩, hr, e⟩
      cases ef : fresh.testBit q with
      | true => rfl
      | false =>
        have := w.done q r h1 ef a hr
        rw [this] at e
        cases e
theorem Walk.le {bs : List (Nat × Nat)} {m start seen fresh : Nat} (w : Walk bs m start seen fresh) : seen ≤ m := by
  apply Nat.le_of_testBit
  intro i hi
  obtain ⟨p, _, c⟩ := w.sound i hi
  exact c.snd
theorem or_gt {a b : Nat} (h : a &&& b = 0) (hb : b ≠ 0) : a < a ||| b := by
  have h1 : a ≤ a ||| b := Nat.left_le_or
  rcases Nat.lt_or_eq_of_le h1 with z | z
  · exact z
  · exfalso
    apply hb
    apply eq_of_bits
    intro q
    rw [Nat.zero_testBit]
    refine ⟨fun hq => ?_, fun z => by cases z⟩
    have e1 : (a ||| b).testBit q = true := by rw [Nat.testBit_or, hq, Bool.or_true]
    rw [← z] at e1
    have e2 : (a &&& b).testBit q = true := by rw [Nat.testBit_and, e1, hq]; rfl
    rw [h, Nat.zero_testBit] at e2
    exact e2

/-! ### links -/
theorem bit_or_pow (x b j : Nat) : (x ||| 2 ^ b).testBit j = (x.testBit j || decide (b = j)) := by
  rw [Nat.testBit_or, Nat.testBit_two_pow]
/-- lk: for each of n places the mask of its neighbours -/
structure Lk (n : Nat) (bs : List (Nat × Nat)) (lk : List Nat) : Prop where
  len : lk.length = n
  bit : ∀ i j, i < n → (lk.getD i 0).testBit j = adj bs i j
theorem Lk.nil (n : Nat) : Lk n [] (List.replicate n 0) := ⟨by simp, fun i j hi => by
  rw [List.getD_eq_getElem?_getD, List.getElem?_replicate, if_pos hi]
  simp [adj]⟩
theorem getD_set {l : List Nat} {a i x : Nat} (ha : a < l.length) : (l.set a x).getD i 0 = if i = a then x else l.getD i 0 := by
  rw [List.getD_eq_getElem?_getD, List.getD_eq_getElem?_getD, List.getElem?_set]
  by_cases h : a = i
  · subst h
    rw [if_pos rfl, if_pos rfl, if_pos ha]
    rfl
  · rw [if_neg h, if_neg (fun z => h z.symm)]
theorem Lk.add {n : Nat} {bs : List (Nat × Nat)} {lk : List Nat} (h : Lk n bs lk) {a b : Nat} (hab : a < b) (hb : b < n) :
    Lk n (bs ++ [(a, b)]) ((lk.set a (lk.getD a 0 ||| 2 ^ b)).set b (lk.getD b 0 ||| 2 ^ a)) := by
  have hl := h.len
  refine ⟨by simp [h.len], fun i j hi => ?_⟩
  have e : adj (bs ++ [(a, b)]) i j = (adj bs i j || decide (min i j = a ∧ max i j = b)) := by
    unfold adj
    rw [List.contains_eq_mem, List.contains_eq_mem]
    simp only [List.mem_append, List.mem_singleton, Prod.mk.injEq]
    by_cases h1 : (min i j, max i j) ∈ bs <;> simp [h1]
  rw [e, getD_set (by simp; omega)]
  by_cases h1 : i = b
  · subst h1
    rw [if_pos rfl, bit_or_pow, h.bit _ _ hi]
    congr 1
    apply decide_eq_decide.mpr
    omega
  · rw [if_neg h1, getD_set (by omega)]
    by_cases h2 : i = a
    · subst h2
      rw [if_pos rfl, bit_or_pow, h.bit _ _ hi]
      congr 1
      apply decide_eq_decide.mpr
      omega
    · rw [if_neg h2, h.bit _ _ hi]
      have : decide (min i j = a ∧ max i j = b) = false := by
        apply decide_eq_false
        omega
      rw [this, Bool.or_false]
/-- the borders of a land of n places -/
def Bs (n : Nat) (bs : List (Nat × Nat)) : Prop := ∀ b ∈ bs, b.1 < b.2 ∧ b.2 < n
theorem adj_lt {n : Nat} {bs : List (Nat × Nat)} (h : Bs n bs) {i j : Nat} (a : adj bs i j = true) : i < n ∧ j < n ∧ i ≠ j := by
  unfold adj at a
  rw [List.contains_eq_mem, decide_eq_true_eq] at a
  have := h _ a
  simp only at this
  omega
/-- all that a mask has as neighbours, gathered by its bits -/
theorem around_bits {n : Nat} {bs : List (Nat × Nat)} {lk : List Nat} (h : Lk n bs lk) {m : Nat} (hm : m < 2 ^ n) (r : Nat) :
    ((bits n m).foldl (fun a p => a ||| lk.getD p 0) 0).testBit r = true ↔ ∃ q, m.testBit q = true ∧ adj bs q r = true := by
  have key : ∀ (l : List Nat) (a : Nat), (l.foldl (fun a p => a ||| lk.getD p 0) a).testBit r = true ↔ a.testBit r = true ∨ ∃ q ∈ l, (lk.getD q 0).testBit r = true := by
    intro l
    induction l with
    | nil => intro a; simp
    | cons p l ih =>
      intro a
      rw [List.foldl_cons, ih, Nat.testBit_or, Bool.or_eq_true]
      constructor
      · rintro ((z | z) | ⟨q, hq, z⟩)
        · exact .inl z
        · exact .inr ⟨p, List.mem_cons_self, z⟩
        · exact .inr ⟨q, List.mem_cons_of_mem _ hq, z⟩
      · rintro (z | ⟨q, hq, z⟩)
        · exact .inl (.inl z)
        · rcases List.mem_cons.mp hq with e | hq
          · rw [e] at z
            exact .inl (.inr z)
          · exact .inr ⟨q, hq, z⟩
  rw [key]
  constructor
  · rintro (z | ⟨q, hq, z⟩)
    · simp at z
    · obtain ⟨h1, h2⟩ := mem_bits.mp hq
      exact ⟨q, h2, by rw [← h.bit q r h1]; exact z⟩
  · rintro ⟨q, hq, a⟩
    have hqn := lt_of_bit hm hq
    exact .inr ⟨q, mem_bits.mpr ⟨hqn, hq⟩, by rw [h.bit q r hqn]; exact a⟩
theorem fold_lt {n : Nat} {bs : List (Nat × Nat)} {lk : List Nat} (h : Lk n bs lk) (hb : Bs n bs) {m : Nat} (hm : m < 2 ^ n) : (bits n m).foldl (fun a p => a ||| lk.getD p 0) 0 < 2 ^ n := by
  apply Nat.lt_pow_two_of_testBit
  intro i hi
  cases e : ((bits n m).foldl (fun a p => a ||| lk.getD p 0) 0).testBit i with
  | false => rfl
  | true =>
    obtain ⟨q, _, a⟩ := (around_bits h hm i).mp e
    have := (adj_lt hb a).2.1
    omega
/-- the pieces of a mask, from the lowest bit on -/
inductive Pcs (bs : List (Nat × Nat)) : Nat → List Nat → Prop
  | nil : Pcs bs 0 []
  | cons {m q p : Nat} {l : List Nat} : m.testBit q = true → (∀ x, x < q → m.testBit x = false) → Rch bs m (2 ^ q) p → Pcs bs (m ^^^ p) l → Pcs bs m (p :: l)
theorem Rch.sub {bs : List (Nat × Nat)} {m start p : Nat} (h : Rch bs m start p) : ∀ q, p.testBit q = true → m.testBit q = true := fun q hq => by
  obtain ⟨x, _, c⟩ := (h q).mp hq
  exact c.snd
theorem xor_sub {m p : Nat} (h : ∀ q, p.testBit q = true → m.testBit q = true) (q : Nat) : (m ^^^ p).testBit q = true ↔ m.testBit q = true ∧ p.testBit q = false := by
  rw [Nat.testBit_xor]
  have := h q
  cases h1 : m.testBit q <;> cases h2 : p.testBit q <;> simp_all
theorem xor_lt {m p q : Nat} (h : ∀ q, p.testBit q = true → m.testBit q = true) (hq : p.testBit q = true) : m ^^^ p < m := by
  have e : (m ^^^ p) ||| p = m := eq_of_bits fun x => by
    rw [Nat.testBit_or, Bool.or_eq_true, xor_sub h]
    have := h x
    cases h1 : m.testBit x <;> cases h2 : p.testBit x <;> simp_all
  have a : (m ^^^ p) &&& p = 0 := eq_of_bits fun x => by
    rw [Nat.testBit_and, Bool.and_eq_true, xor_sub h, Nat.zero_testBit]
    simp_all
  have hp : p ≠ 0 := fun z => by rw [z, Nat.zero_testBit] at hq; cases hq
  have := or_gt a hp
  rw [e] at this
  exact this

theorem low_uniq {m q q' : Nat} (h : m.testBit q = true) (l : ∀ x, x < q → m.testBit x = false) (h' : m.testBit q' = true) (l' : ∀ x, x < q' → m.testBit x = false) : q = q' := by
  rcases Nat.lt_trichotomy q q' with z | z | z
  · rw [l' q z] at h; cases h
  · exact z
  · rw [l q' z] at h'; cases h'
theorem Pcs.uniq {bs : List (Nat × Nat)} {m : Nat} {l : List Nat} (h : Pcs bs m l) : ∀ {l' : List Nat}, Pcs bs m l' → l = l' := by
  induction h with
  | nil =>
    intro l' h'
    cases h' with
    | nil => rfl
    | cons hq _ _ _ => simp at hq
  | @cons m q p l hq hl hR _ ih =>
    intro l' h'
    cases h' with
    | nil => simp at hq
    | @cons _ q' p' l2 hq' hl' hR' hP' =>
      have e := low_uniq hq hl hq' hl'
      subst e
      have e2 := hR.uniq hR'
      subst e2
      rw [ih hP']
open Classical in
/-- the pieces -/
noncomputable def pcs (bs : List (Nat × Nat)) (m : Nat) : List Nat := if h : ∃ l, Pcs bs m l then h.choose else []
theorem Pcs.eq {bs : List (Nat × Nat)} {m : Nat} {l : List Nat} (h : Pcs bs m l) : pcs bs m = l := by
  unfold pcs
  rw [dif_pos ⟨l, h⟩]
  exact (Exists.choose_spec (⟨l, h⟩ : ∃ l, Pcs bs m l)).uniq h
end Mk

set_option Elab.async false
set_option linter.all false
set_option maxRecDepth 100000
set_option maxHeartbeats 4000000
/-! Bs: the turns of a generator expression over a source of known length; scopes by a look. -/
namespace Gx
open PySem PySem.Spec PyProof.Rows L2 Bx

/-- the scopes of the names, by a look -/
def gChk (ND : List Str) (sc scope : Scope) (N : List Str) (src : List (Option Nat)) : Bool :=
  decide (scope.kind = .function) && !scope.isCoroutine && (scope.names.all fun y => decide (y.2 ≠ .cell)) && decide (scope.names.lookup (".0" : Str) = some NameKind.local) &&
  (scope.names.all fun y => decide (y.2 = .free → sc.names.lookup y.1 = some .cell ∨ sc.names.lookup y.1 = some .free)) && decide (src.length = N.length) &&
  (List.range src.length).all fun i => match src[i]? with
    | some (some j) => match N[i]?, ND[j]? with
      | some x, some z => decide (x = z) && decide (scope.names.lookup x = some .free)
      | _, _ => false
    | _ => true
theorem gOk {ND : List Str} {sc scope : Scope} {N : List Str} {src : List (Option Nat)} (h : gChk ND sc scope N src = true) : GOk ND sc scope N src := by
  unfold gChk at h
  simp only [Bool.and_eq_true, decide_eq_true_eq, Bool.not_eq_true', List.all_eq_true] at h
  obtain ⟨⟨⟨⟨⟨⟨h1, h2⟩, h3⟩, h4⟩, h5⟩, h6⟩, h7⟩ := h
  refine ⟨h1, h2, h3, h4, h5, h6, fun i j e => ?_⟩
  have hi : i < src.length := (List.getElem?_eq_some_iff.mp e).1
  have q := h7 i (List.mem_range.mpr hi)
  rw [e] at q
  cases e1 : N[i]? with
  | none => simp [e1] at q
  | some x =>
    cases e2 : ND[j]? with
    | none => simp [e1, e2] at q
    | some z =>
      simp only [e1, e2, Bool.and_eq_true, decide_eq_true_eq] at q
      exact ⟨x, rfl, by rw [q.1], q.2⟩

/-- a source: n items, it i the i-th one, while Ph stands -/
structure Src (J : It) (n : Nat) (it : Nat → V) (Ph : Hp → Prop) : Prop where
  go : ∀ i H, Ph H → i < n → J.go i H
  stop : ∀ H, Ph H → J.stop n H
  yld : ∀ i H x H', Ph H → i < n → J.yld i H x H' → H' = H ∧ x = it i
theorem src_range {lo : Int} {n : Nat} {Ph : Hp → Prop} : Src (Itr lo n) n (fun i => .int (lo + i)) Ph := ⟨fun _ _ _ h => h, fun _ _ => Nat.le_refl _, fun _ _ _ _ _ _ h => h⟩
theorem src_tup {K : PySem.W.Frag} {a : Addr} {xs : List V} {Ph : Hp → Prop} (h : ∀ H, Ph H → SqT K H a xs) : Src (Itt K a) xs.length (fun i => xs.getD i .non) Ph where
  go := fun i H p hi => ⟨xs, xs[i], h H p, List.getElem?_eq_getElem hi⟩
  stop := fun H p => ⟨xs, h H p, Nat.le_refl _⟩
  yld := fun i H x H' p hi y => ⟨y.1, by rw [List.getD_eq_getElem?_getD, y.2 xs (h H p)]; rfl⟩
theorem src_lst {K : PySem.W.Frag} {a : Addr} {xs : List V} {Ph : Hp → Prop} (h : ∀ H, Ph H → SqL K H a xs) : Src (Itl K a) xs.length (fun i => xs.getD i .non) Ph where
  go := fun i H p hi => ⟨xs, xs[i], h H p, List.getElem?_eq_getElem hi⟩
  stop := fun H p => ⟨xs, h H p, Nat.le_refl _⟩
  yld := fun i H x H' p hi y => ⟨y.1, by rw [List.getD_eq_getElem?_getD, y.2 xs (h H p)]; rfl⟩

section
variable {J : It} {n : Nat} {it : Nat → V} {Ph : Hp → Prop} {g : TG} {tt : TT} {te : TE} {vs : List Nat} {σg : L2.St} {H : Hp} {Q : VK}
theorem g_all {Qt Qf : Hp → Prop} (S : Src J n it Ph) (p : Nat → Bool) (h0 : Ph H)
    (step : ∀ i H (C : V → Hp → Prop), Ph H → i < n → (∀ H4, Ph H4 → C (.bl (p i)) H4) → g (it i) σg H fun σ2 H2 => wipe σ2 vs = σg ∧ te σ2 H2 C)
    (fin : ∀ H, Ph H → (List.range n).all p = true → Qt H) (finF : ∀ H, Ph H → (List.range n).all p = false → Qf H) :
    ∃ W : Nat → Nat → List V → Hp → Prop, (∃ m, W 0 m [] H) ∧ GTurn J g tYes te vs σg (pAll Qf) (fun _ H => Qt H) W := by
  refine ⟨fun i m _ H => Ph H ∧ i ≤ n ∧ m = n - i ∧ ∀ j, j < i → p j = true, ⟨n, h0, Nat.zero_le _, by omega, fun j hj => by omega⟩, fun i m ys H ⟨hp, hi, hm, ha⟩ => ?_⟩
  by_cases hn : i = n
  · subst hn
    exact .inl ⟨S.stop H hp, fin H hp (List.all_eq_true.mpr fun j hj => ha j (List.mem_range.mp hj))⟩
  · have hlt : i < n := by omega
    refine .inr ⟨S.go i H hp hlt, fun x H' y => ?_⟩
    obtain ⟨rfl, rfl⟩ := S.yld i H x H' hp hlt y
    refine step i H' _ hp hlt fun H4 hp4 => ⟨p i, rfl, ?_⟩
    cases e : p i with
    | true => exact iteT ⟨n - (i + 1), by omega, hp4, hlt, rfl, fun j hj => by
        by_cases z : j = i
        · rw [z]; exact e
        · exact ha j (by omega)⟩
    | false =>
      refine iteF (finF H4 hp4 ?_)
      rw [Bool.eq_false_iff]
      intro z
      rw [List.all_eq_true.mp z i (List.mem_range.mpr hlt)] at e
      cases e
theorem g_sum (S : Src J n it Ph) (f : Nat → Int) (h0 : Ph H)
    (step : ∀ i H (C : V → Hp → Prop), Ph H → i < n → (∀ H4, Ph H4 → C (.int (f i)) H4) → g (it i) σg H fun σ2 H2 => wipe σ2 vs = σg ∧ te σ2 H2 C)
    (fin : ∀ H, Ph H → Q (.int ((List.range n).map f).sum) H) :
    ∃ W : Nat → Nat → List V → Hp → Prop, (∃ m, W 0 m [] H) ∧ GTurn J g tYes te vs σg pSum (fun ys H => ∀ ns : List Int, ys = ns.map V.int → Q (.int ns.sum) H) W := by
  refine ⟨fun i m ys H => Ph H ∧ i ≤ n ∧ m = n - i ∧ ys = ((List.range i).map f).map V.int, ⟨n, h0, Nat.zero_le _, by omega, rfl⟩, fun i m ys H ⟨hp, hi, hm, hy⟩ => ?_⟩
  by_cases hn : i = n
  · subst hn
    refine .inl ⟨S.stop H hp, fun ns e => ?_⟩
    rw [hy] at e
    have e2 : (List.range i).map f = ns := by
      have inj : ∀ (a b : List Int), a.map V.int = b.map V.int → a = b := fun a => by
        induction a with
        | nil => intro b h; cases b with
          | nil => rfl
          | cons y b => cases h
        | cons x a ih => intro b h; cases b with
          | nil => cases h
          | cons y b =>
            injection h with h1 h2
            injection h1 with h1
            rw [h1, ih b h2]
      exact inj _ _ e
    rw [← e2]
    exact fin H hp
  · have hlt : i < n := by omega
    refine .inr ⟨S.go i H hp hlt, fun x H' y => ?_⟩
    obtain ⟨rfl, rfl⟩ := S.yld i H x H' hp hlt y
    refine step i H' _ hp hlt fun H4 hp4 => ⟨⟨f i, rfl⟩, n - (i + 1), by omega, hp4, hlt, rfl, ?_⟩
    rw [hy, List.range_succ, List.map_append, List.map_append]
    rfl
/-- tuple(.. if ..), the target a name; kp i: whether the i-th item is kept; Pw: by the turn and what is out -/
theorem g_tup {o : Nat} {Pw : Nat → List V → Hp → Prop} (S : ∀ i ys, Src J n it (Pw i ys)) (hn : n ≤ sizeLine) (kp : Nat → Bool) (hw : ∀ x, wipe (σg.set o (some x)) vs = σg) (h0 : Pw 0 [] H)
    (len : ∀ i ys H, Pw i ys H → ys.length ≤ i)
    (test : ∀ i ys H (C : Bool → Hp → Prop), Pw i ys H → i < n → (∀ H2, Pw i ys H2 → C (kp i) H2) → tt (σg.set o (some (it i))) H C)
    (skip : ∀ i ys H, Pw i ys H → i < n → kp i = false → Pw (i + 1) ys H)
    (elt : ∀ i ys H (C : V → Hp → Prop), Pw i ys H → i < n → kp i = true → (∀ v H4, Pw (i + 1) (ys ++ [v]) H4 → C v H4) → te (σg.set o (some (it i))) H C)
    (fin : ∀ ys H, Pw n ys H → ∀ p, H p = none → Q (.ref p) (upd H p (.tup ys))) :
    ∃ W : Nat → Nat → List V → Hp → Prop, (∃ m, W 0 m [] H) ∧ GTurn J (gName o) tt te vs σg pTup (fun ys H => ∀ p, H p = none → Q (.ref p) (upd H p (.tup ys))) W := by
  refine ⟨fun i m ys H => Pw i ys H ∧ i ≤ n ∧ m = n - i, ⟨n, h0, Nat.zero_le _, by omega⟩, fun i m ys H ⟨hp, hi, hm⟩ => ?_⟩
  by_cases e : i = n
  · subst e
    exact .inl ⟨(S i ys).stop H hp, fin ys H hp⟩
  · have hlt : i < n := by omega
    refine .inr ⟨(S i ys).go i H hp hlt, fun x H' y => ?_⟩
    obtain ⟨rfl, rfl⟩ := (S i ys).yld i H x H' hp hlt y
    refine ⟨hw _, test i ys H' _ hp hlt fun H2 h2 => ?_⟩
    cases hk : kp i with
    | true => exact iteT (elt i ys H2 _ h2 hlt hk fun v H4 h4 => ⟨by have := len i ys H2 h2; omega, n - (i + 1), by omega, h4, hlt, rfl⟩)
    | false => exact iteF ⟨n - (i + 1), by omega, skip i ys H2 h2 hlt hk, hlt, rfl⟩
end
end Gx
namespace Bx
open PySem PySem.Spec PyProof.Rows L2
theorem ix_tupK {X : Cx} {K : PySem.W.Frag} (h : X.K = K) : IxR X (rIxT K) := h ▸ ix_tup
theorem pt_truthK {X : Cx} {K : PySem.W.Frag} {a : Expr} {ta : TE} (h : X.K = K) (ha : PE X a ta) (he : ∀ whole, isTrue a X.env whole = (do let v ← whole; standAt a.pos; holding [v] (truthy v))) :
    PT X a (fun σ H Q => ta σ H fun x H' => ∃ k, TruV K x H' k ∧ Q k H') := h ▸ pt_truth ha he
theorem call_lenK {X : Cx} {K : PySem.W.Frag} (h : X.K = K) : CallR X (.builtin "len") (fun xs H Q => ∃ x n, xs = [x] ∧ LenV K x H n ∧ Q (.int n) H) := h ▸ call_len
theorem ix_lstK {X : Cx} {K : PySem.W.Frag} (h : X.K = K) : IxR X (rIxL K) := h ▸ ix_list
end Bx

set_option Elab.async false
set_option linter.all false
set_option maxRecDepth 100000
set_option maxHeartbeats 4000000
namespace Wd
open PySem PySem.Spec PyProof.Rows L2 Bx Gx
def topS (i : Nat) : Stmt := PySem.Challenge.pw_wardsdrawn_k39_plans_told.main.body.getD i (.Pass ⟨0, 0, 0, 0⟩)
abbrev st_WardError : Stmt := topS 1
abbrev st_InvalidLand : Stmt := topS 2
abbrev st_InvalidPlan : Stmt := topS 3
abbrev st_InvalidText : Stmt := topS 4
abbrev st_Twice : Stmt := topS 5
abbrev st_is_integer : Stmt := topS 10
abbrev st_is_ascending : Stmt := topS 11
abbrev st_is_place : Stmt := topS 12
abbrev st_is_lot : Stmt := topS 13
abbrev st_mask_of : Stmt := topS 14
abbrev st_lot_of : Stmt := topS 15
abbrev st_whole_mask : Stmt := topS 16
abbrev st_links_of : Stmt := topS 17
abbrev st_reached : Stmt := topS 18
abbrev st_hangs_together : Stmt := topS 19
abbrev st_fault_of_land : Stmt := topS 20
abbrev st_fault_of_folk : Stmt := topS 21
abbrev st_fault_of_borders : Stmt := topS 22
abbrev st_is_border : Stmt := topS 23
abbrev st_fault_of_plan : Stmt := topS 24
abbrev st_check_land : Stmt := topS 25
abbrev st_plan_with : Stmt := topS 27
abbrev st_plan_told : Stmt := topS 31
abbrev st_check_text : Stmt := topS 32
abbrev st_check_once : Stmt := topS 33
abbrev st_read_lines : Stmt := topS 34
abbrev st_read_numbers : Stmt := topS 35
abbrev st_read_number : Stmt := topS 36
abbrev st_behind_signs : Stmt := topS 37
abbrev st__law_jar : Stmt := topS 39
abbrev st__law_drawn : Stmt := topS 40
abbrev st__law_same : Stmt := topS 41
abbrev st__law_low : Stmt := topS 42
abbrev st__law_plus : Stmt := topS 43
abbrev st__law_times : Stmt := topS 44
abbrev st__law_land : Stmt := topS 45
abbrev st__law_hangs : Stmt := topS 46
abbrev st__law_plan : Stmt := topS 47
abbrev st__law_folk : Stmt := topS 48
abbrev st__law_bounds : Stmt := topS 49
abbrev st__law_ill : Stmt := topS 50
abbrev st__law_sign : Stmt := topS 51
abbrev st__law_by : Stmt := topS 52
abbrev st__law_run : Stmt := topS 53
abbrev st__law_number : Stmt := topS 54
abbrev st__law_row : Stmt := topS 55
abbrev st__law_spoilt : Stmt := topS 56
abbrev st__law_fault : Stmt := topS 57
abbrev st__law_read : Stmt := topS 58
abbrev st__law_told : Stmt := topS 59
abbrev st_law : Stmt := topS 60
/-! ### plain data -/
def isIntD (lo hi : Int) : PyData → Bool
  | .int i => decide (lo ≤ i ∧ i ≤ hi)
  | _ => false
theorem tyB_dp {K : PySem.W.Frag} {H : Hp} {v : V} {d : PyData} (h : Dp K H v d) : (∃ i, v = .int i ∧ d = .int i ∧ TyB K H v "int") ∨ ∃ T, T ∈ tyNames ∧ TyB K H v T ∧ T ≠ "int" ∧ ∀ lo hi, isIntD lo hi d = false := by
  cases h with
  | non => exact .inr ⟨"NoneType", by decide, .non, by decide, fun _ _ => rfl⟩
  | bl b => exact .inr ⟨"bool", by decide, .bl b, by decide, fun _ _ => rfl⟩
  | int i => exact .inl ⟨i, rfl, rfl, .int i⟩
  | str x => exact .inr ⟨"str", by decide, .str x, by decide, fun _ _ => rfl⟩
  | lst h _ => exact .inr ⟨"list", by decide, .lst h, by decide, fun _ _ => rfl⟩
  | tup h _ => exact .inr ⟨"tuple", by decide, .tup h, by decide, fun _ _ => rfl⟩
section
variable {P : Program} {w : World} {K : PySem.W.Frag} {mg : Str → Option Value} {base : Heap}
/-! ### is_integer -/
def spIsInteger (K : PySem.W.Frag) : Sp := fun vs H Q _ => ∃ (v : V) (d : PyData) (lo hi : Int), vs = [v, .int lo, .int hi] ∧ Dp K H v d ∧ Q (.bl (isIntD lo hi d)) H
theorem sc_is_integer : FnScope ["value", "low", "high"] ["value", "low", "high"] (defScope st_is_integer) := ⟨rfl, rfl, rfl, by decide +kernel, rfl, by decide +kernel, by decide +kernel⟩
theorem ok_is_integer {f : Addr} {fd : FuncData} (F : Fun K "is_integer" "is_integer" st_is_integer f fd) (B : Bl mg) : FnOk P w K mg base CX0 1 f fd ["value", "low", "high"] (spIsInteger K) := by
  refine F.ok sc_is_integer (fun vs H Q E h => ?_) (fun cdv A outer s H vs Q E hr h => ?_)
  · obtain ⟨v, d, lo, hi, rfl, _⟩ := h
    rfl
  · obtain ⟨v, d, lo, hi, rfl, hd, k⟩ := h
    refine ⟨_, pss_one (ps_ret (pe_and (pe_cmpR op_eqTy (pe_callTy call_type1 rfl B.type (by decide +kernel) (pa_cons (pv 0) pa_nil)) (pe_bltn rfl B.int (by decide +kernel) (v := .ty "int") rfl) (nomark _)) (pe_one (pe_chain op_le op_le (pv 1) (pv 0) (pv 2))))), ?_⟩
    rcases tyB_dp hd with ⟨i, rfl, rfl, ht⟩ | ⟨T, hT, ht, hne, hf⟩
    · refine ⟨_, rfl, _, "int", rfl, ht, "int", "int", rfl, rfl, by decide, by decide, true, rfl, ?_⟩
      simp only [tVar, tC, t2I, tAdd, tSub, tCmp, tIsN, tNotN, tB, tAnd, tOr, tNot, tAndV, tOrV, tNotV, tIf, tNext, tSeq, tDrop, tRet, tRetN, tIfS, tAsg, gName, gNil, gCons, gTup, gSub, tPar, tAug, tAugS, iList, iTup, iRng1, iRng2, tOp, tUn, rI, rI0, rU, rEq, rNe, tTest, tChain, tNil, tCons, tTup, tLst, tCall, tCB, rTyp, r1, kTyp, rTyC, tSl, tNoPart, tPart, tBM0, tBM, tYes, rIxL, rIxT, rIx, rSetL, gtList, L2.start, Ends.nx, Ends.rt, List.map, List.length, List.replicate, List.append, List.append_nil, List.cons_append, List.nil_append, List.set, List.getElem?_cons_zero, List.getElem?_cons_succ, Option.some.injEq, exists_and_left, exists_eq_left', exists_eq_left, V.int.injEq, V.ty.injEq, V.bl.injEq, V.ref.injEq, List.cons.injEq, and_true, true_and, decide_eq_true_eq, Bool.false_eq_true, if_false, if_true, id]
      by_cases h1 : lo ≤ i
      · rw [if_pos h1]
        by_cases h2 : i ≤ hi
        · have e : isIntD lo hi (.int i) = true := decide_eq_true ⟨h1, h2⟩
          rw [e] at k
          simpa [h2] using k
        · have e : isIntD lo hi (.int i) = false := decide_eq_false fun z => h2 z.2
          rw [e] at k
          simpa [h2] using k
      · have e : isIntD lo hi (.int i) = false := decide_eq_false fun z => h1 z.1
        rw [e] at k
        rw [if_neg h1]
        exact k
    · rw [hf] at k
      refine ⟨_, rfl, _, T, rfl, ht, T, "int", rfl, rfl, hT, by decide, false, ?_, k⟩
      rw [decide_eq_false hne]
      rfl
/-! ### is_place -/
def spIsPlace (K : PySem.W.Frag) : Sp := fun vs H Q _ => ∃ (l v : V) (fs : List Int) (bd d : PyData), vs = [l, v] ∧ Dp K H l (.tuple [.tuple (fs.map .int), bd]) ∧ fs.length ≤ 100 ∧ Dp K H v d ∧ Q (.bl (isIntD 0 ((fs.length : Int) - 1) d)) H
theorem sc_is_place : FnScope ["land", "value"] ["land", "value"] (defScope st_is_place) := ⟨rfl, rfl, rfl, by decide +kernel, rfl, by decide +kernel, by decide +kernel⟩
theorem ok_is_place {f : Addr} {fd : FuncData} (F : Fun K "is_place" "is_place" st_is_place f fd) (B : Bl mg) (c1 : Cal P w K mg base 1 "is_integer" ["value", "low", "high"] (spIsInteger K)) : FnOk P w K mg base CX0 2 f fd ["land", "value"] (spIsPlace K) := by
  refine F.ok sc_is_place (fun vs H Q E h => ?_) (fun cdv A outer s H vs Q E hr h => ?_)
  · obtain ⟨l, v, fs, bd, d, rfl, _⟩ := h
    rfl
  · obtain ⟨l, v, fs, bd, d, rfl, hl, hn, hd, k⟩ := h
    refine ⟨_, pss_one (ps_ret (pe_cal c1 hr rfl (pa_cons (pv 1) (pa_cons pe_int (pa_cons (pe_op op_sub (pe_callB call_len (by rfl) B.len PySem.boot_len (pa_cons (pe_ix ix_tup (pv 0) pe_int (fun _ _ => rfl)) pa_nil)) pe_int) pa_nil))))), ?_⟩
    obtain ⟨a, xs, rfl, h1, h2⟩ := dp_tup hl
    obtain ⟨v0, h3, h4⟩ := dpAll_get (i := 0) h2 rfl
    obtain ⟨b, rfl, h5⟩ := dp_ints h4
    refine ⟨_, rfl, _, rfl, _, _, _, _, rfl, rfl, h1, atI_nat h3, _, fs.length, rfl, .inr ⟨_, h5, by simp⟩, _, _, rfl, rfl, _, d, 0, _, rfl, hd, k⟩
end
section
variable {P : Program} {w : World} {K : PySem.W.Frag} {mg : Str → Option Value} {base : Heap}
/-! ### is_ascending: of a tuple of ints -/
def asc : List Int → Bool
  | a :: b :: r => decide (a < b) && asc (b :: r)
  | _ => true
theorem asc_range (ns : List Int) : (List.range (ns.length - 1)).all (fun i => decide (ns.getD i 0 < ns.getD (i + 1) 0)) = asc ns := by
  induction ns with
  | nil => rfl
  | cons a r ih =>
    cases r with
    | nil => rfl
    | cons b r =>
      have e : (a :: b :: r).length - 1 = (b :: r).length - 1 + 1 := by simp
      rw [e, List.range_succ_eq_map, List.all_cons, List.all_map]
      show _ = (decide (a < b) && asc (b :: r))
      rw [← ih]
      rfl
def spIsAscending (K : PySem.W.Frag) (Pt : Addr) : Sp := fun vs H Q _ => ∃ (v : V) (ns : List Int), vs = [v] ∧ Dp K H v (.tuple (ns.map .int)) ∧ ns.length ≤ 6000 ∧ TabG H Pt ∧ ∀ H', Ext H H' → Q (.bl (asc ns)) H'
theorem sc_is_ascending : FnScope ["row"] ["row"] (defScope st_is_ascending) := ⟨rfl, rfl, rfl, by decide +kernel, rfl, by decide +kernel, by decide +kernel⟩
theorem ok_is_ascending {f c Pt : Addr} {fd : FuncData} (F : FunC K "is_ascending" "is_ascending" st_is_ascending f fd c) (TB : TabB base mg c Pt) (B : Bl mg) : FnOk P w K mg base CX0 4 f fd ["row"] (spIsAscending K Pt) := by
  refine F.ok sc_is_ascending (fun vs H Q E h => ?_) (fun A outer s H vs Q E hr h => ?_)
  · obtain ⟨v, ns, rfl, _⟩ := h
    rfl
  · obtain ⟨v, ns, rfl, hd, hl, hT, k⟩ := h
    refine ⟨_, pss_one (ps_ret (pe_gall (k := 0) (N := ["k", "row"]) (src := [none, some 0]) (vs := [0])
      ⟨fun B s H fp code hB => pg_name (i := 0) (by decide +kernel : (["k", "row"] : List Str).Nodup) rfl (Or.inl rfl), fun B s H fp code hB => pts_nil, fun B s H fp code hB => pe_cmpR op_lt (pe_ix (ix_tupK (K := K) rfl) (pv 1) (pv 0) (fun _ _ => rfl)) (pe_ix (ix_tupK (K := K) rfl) (pv 1) (pe_op op_add (pv 0) pe_int) (fun _ _ => rfl)) (nomark _)⟩
      (hr.mono (by decide)) rfl B.all TB rfl (gOk (ND := ["row"]) (sc := defScope st_is_ascending) (by decide +kernel)) (pi_range1 rfl B.range (pa_cons (pe_op op_sub (pe_callB call_len (by rfl) B.len PySem.boot_len (pa_cons (pv 0) pa_nil)) pe_int) pa_nil)))), ?_⟩
    obtain ⟨a, rfl, h1⟩ := dp_ints hd
    refine ⟨_, rfl, _, ns.length, rfl, .inr ⟨_, h1, by simp⟩, _, _, rfl, rfl, _, rfl, by omega, by omega, hT, fun H2 hT2 => ?_⟩
    have x2 : Ext H H2 := Ext.tabbed hT hT2
    have e : ((ns.length : Int) - 1).toNat = ns.length - 1 := by omega
    rw [e]
    refine g_all (Ph := fun H4 => H4 = H2) src_range (fun i => decide (ns.getD i 0 < ns.getD (i + 1) 0)) rfl (fun i H C hp hi k2 => ?_) (fun H hp ea => ?_) fun H hp ea => ?_
    · subst hp
      have g1 : (ns.map V.int)[i]? = some (V.int (ns.getD i 0)) := by
        rw [List.getElem?_map, List.getElem?_eq_getElem (by omega), List.getD_eq_getElem?_getD, List.getElem?_eq_getElem (by omega)]
        rfl
      have g2 : (ns.map V.int)[i + 1]? = some (V.int (ns.getD (i + 1) 0)) := by
        rw [List.getElem?_map, List.getElem?_eq_getElem (by omega), List.getD_eq_getElem?_getD, List.getElem?_eq_getElem (by omega)]
        rfl
      refine ⟨rfl, _, rfl, _, rfl, _, _, _, _, rfl, rfl, x2.sqT h1, by rw [Int.zero_add]; exact atI_nat g1, _, rfl, _, rfl, _, _, rfl, rfl, _, _, _, _, rfl, rfl, x2.sqT h1, (by
        have e2 : (0 : Int) + (i : Int) + 1 = ((i + 1 : Nat) : Int) := by omega
        rw [e2]; exact atI_nat g2), _, _, rfl, rfl, k2 H rfl⟩
    all_goals
      subst hp
      rw [asc_range] at ea
      have q := k _ x2
      rw [ea] at q
      exact q
end
section
variable {P : Program} {w : World} {K : PySem.W.Frag} {mg : Str → Option Value} {base : Heap}
def lotD (ps : List Nat) : PyData := .tuple (ps.map fun (p : Nat) => .int (p : Int))
theorem dp_lot {H : Hp} {v : V} {ps : List Nat} (h : Dp K H v (lotD ps)) : ∃ a, v = .ref a ∧ SqT K H a (ps.map fun (p : Nat) => V.int (p : Int)) := by
  have h2 : Dp K H v (.tuple ((ps.map fun (p : Nat) => (p : Int)).map .int)) := by
    rw [List.map_map]
    exact h
  obtain ⟨a, e, h3⟩ := dp_ints h2
  rw [List.map_map] at h3
  exact ⟨a, e, h3⟩
theorem dpAll_lot {H : Hp} (ps : List Nat) : DpAll K H (ps.map fun (p : Nat) => V.int (p : Int)) (ps.map fun (p : Nat) => .int (p : Int)) := by
  have h := dpAll_of_ints (K := K) (H := H) (ps.map fun (p : Nat) => (p : Int))
  rw [List.map_map, List.map_map] at h
  exact h
theorem getD_lot {ps : List Nat} {i : Nat} (hi : i < (ps.map fun (p : Nat) => V.int (p : Int)).length) : (ps.map fun (p : Nat) => V.int (p : Int)).getD i .non = V.int ((ps.getD i 0 : Nat) : Int) := by
  rw [List.length_map] at hi
  rw [List.getD_eq_getElem?_getD, List.getElem?_map, List.getElem?_eq_getElem hi, List.getD_eq_getElem?_getD, List.getElem?_eq_getElem hi]
  rfl
theorem all_range_getD (ps : List Nat) (f : Nat → Bool) : (List.range ps.length).all (fun i => f (ps.getD i 0)) = ps.all f := by
  induction ps with
  | nil => rfl
  | cons p r ih =>
    rw [List.length_cons, List.range_succ_eq_map, List.all_cons, List.all_map, List.all_cons, ← ih]
    rfl
theorem map_range_getD {α : Type} (ps : List Nat) (f : Nat → α) : (List.range ps.length).map (fun i => f (ps.getD i 0)) = ps.map f := by
  induction ps with
  | nil => rfl
  | cons p r ih =>
    rw [List.length_cons, List.range_succ_eq_map, List.map_cons, List.map_map, List.map_cons, ← ih]
    rfl
/-! ### is_lot: of a tuple of places -/
def isLot (n : Nat) (ps : List Nat) : Bool := !ps.isEmpty && (ps.all fun p => decide (p < n)) && asc (ps.map fun (p : Nat) => (p : Int))
def spIsLot (K : PySem.W.Frag) (T1 T2 : Addr) : Sp := fun vs H Q _ => ∃ (l v : V) (fs : List Int) (bd : PyData) (ps : List Nat), vs = [l, v] ∧ Dp K H l (.tuple [.tuple (fs.map .int), bd]) ∧ fs.length ≤ 100 ∧ Dp K H v (lotD ps) ∧ ps.length ≤ 6000 ∧
  TabG H T1 ∧ TabG H T2 ∧ ∀ H', Ext H H' → Q (.bl (isLot fs.length ps)) H'
theorem sc_is_lot : FnScope ["land", "value"] ["land", "value"] (defScope st_is_lot) := ⟨rfl, rfl, rfl, by decide +kernel, rfl, by decide +kernel, by decide +kernel⟩
theorem ok_is_lot {f c T1 T2 : Addr} {fd : FuncData} (F : FunC K "is_lot" "is_lot" st_is_lot f fd c) (TB : TabB base mg c T1) (B : Bl mg) (c1 : Cal P w K mg base 2 "is_place" ["land", "value"] (spIsPlace K))
    (c2 : Cal P w K mg base 4 "is_ascending" ["row"] (spIsAscending K T2)) : FnOk P w K mg base CX0 6 f fd ["land", "value"] (spIsLot K T1 T2) := by
  refine F.ok sc_is_lot (fun vs H Q E h => ?_) (fun A outer s H vs Q E hr h => ?_)
  · obtain ⟨l, v, fs, bd, ps, rfl, _⟩ := h
    rfl
  · obtain ⟨l, v, fs, bd, ps, rfl, hl, hn, hd, hz, hT1, hT2, k⟩ := h
    refine ⟨_, pss_cons (ps_if (PW.pt (pw_or (pt_cmpR op_neTy (pe_callTy call_type1 rfl B.type (by decide +kernel) (pa_cons (pv 1) pa_nil)) (pe_bltn rfl B.tuple (by decide +kernel) (v := .ty "tuple") rfl) (nomark _))
        (pw_or1 (pt_cmpR op_eq (pe_callB call_len (by rfl) B.len PySem.boot_len (pa_cons (pv 1) pa_nil)) pe_int (nomark _))))) (pss_one (ps_ret pe_bl)) pss_nil)
      (pss_one (ps_ret (pe_and (pe_gall (k := 3) (N := ["place", "land"]) (src := [none, some 0]) (vs := [0])
        ⟨fun B s H fp code hB => pg_name (i := 0) (by decide +kernel : (["place", "land"] : List Str).Nodup) rfl (Or.inl rfl), fun B s H fp code hB => pts_nil, fun B s H fp code hB => pe_cal c1 (hB.deeper _) rfl (pa_cons (pv 1) (pa_cons (pv 0) pa_nil))⟩
        hr rfl B.all TB rfl (gOk (ND := ["land", "value"]) (sc := defScope st_is_lot) (by decide +kernel)) (pi_tup (pv 1)))
        (pe_one (pe_cal c2 (hr.mono (by decide)) rfl (pa_cons (pv 1) pa_nil)))))), ?_⟩
    obtain ⟨a, rfl, h1⟩ := dp_lot hd
    refine ⟨_, rfl, _, "tuple", rfl, .tup h1, "tuple", "tuple", rfl, rfl, by decide, by decide, false, rfl, ?_⟩
    refine iteF ⟨_, rfl, _, ps.length, rfl, .inr ⟨_, h1, by simp⟩, rfl, _, rfl, ?_⟩
    by_cases he : ps = []
    · subst he
      refine iteT ?_
      exact k H (Ext.refl H)
    · have hne : decide (V.int (ps.length : Int) = V.int 0) = false := by
        apply decide_eq_false
        intro z
        injection z with z
        exact he (List.length_eq_zero_iff.mp (by omega))
      rw [hne]
      refine iteF ?_
      refine ⟨_, rfl, a, rfl, ⟨_, h1⟩, hT1, fun H2 hT => ?_⟩
      have x2 : Ext H H2 := Ext.tabbed hT1 hT
      refine g_all (Ph := fun H4 => H4 = H2) (src_tup fun H4 e => by rw [e]; exact x2.sqT h1) (fun i => decide (ps.getD i 0 < fs.length)) rfl (fun i H C hp hi k2 => ?_) (fun H4 hp ea => ?_) fun H4 hp ea => ?_
      · subst hp
        refine ⟨rfl, _, rfl, _, rfl, _, _, fs, bd, .int (ps.getD i 0 : Nat), rfl, dp_ext x2 hl, hn, (by rw [getD_lot hi]; exact .int _), ?_⟩
        have e : isIntD 0 ((fs.length : Int) - 1) (.int (ps.getD i 0 : Nat)) = decide (ps.getD i 0 < fs.length) := by
          show decide (_ ∧ _) = _
          apply decide_eq_decide.mpr
          omega
        rw [e]
        exact k2 H rfl
      · subst hp
        rw [List.length_map, all_range_getD ps fun p => decide (p < fs.length)] at ea
        refine ⟨_, rfl, iteT ⟨_, rfl, _, ps.map fun (p : Nat) => (p : Int), rfl, ?_, by rw [List.length_map]; exact hz, x2.tabs _ hT2, fun H5 x5 => ?_⟩⟩
        · rw [List.map_map]
          exact dp_ext x2 hd
        · have q := k H5 (x2.trans x5)
          unfold isLot at q
          rw [ea] at q
          have e0 : ps.isEmpty = false := by cases ps with
            | nil => exact absurd rfl he
            | cons _ _ => rfl
          rw [e0] at q
          exact q
      · subst hp
        rw [List.length_map, all_range_getD ps fun p => decide (p < fs.length)] at ea
        refine ⟨_, rfl, iteF ?_⟩
        have q := k H4 x2
        unfold isLot at q
        rw [ea] at q
        simpa using q
/-! ### mask_of -/
def spMaskOf (K : PySem.W.Frag) (T1 : Addr) : Sp := fun vs H Q _ => ∃ (v : V) (ps : List Nat), vs = [v] ∧ Dp K H v (lotD ps) ∧ (∀ p ∈ ps, p ≤ 1000) ∧ TabG H T1 ∧ ∀ H', Ext H H' → Q (.int (Mk.mask ps : Nat)) H'
theorem sc_mask_of : FnScope ["lot"] ["lot"] (defScope st_mask_of) := ⟨rfl, rfl, rfl, by decide +kernel, rfl, by decide +kernel, by decide +kernel⟩
theorem sum_cast (ps : List Nat) : (ps.map fun (p : Nat) => ((2 ^ p : Nat) : Int)).sum = ((Mk.mask ps : Nat) : Int) := by
  induction ps with
  | nil => rfl
  | cons p r ih =>
    have e : Mk.mask (p :: r) = 2 ^ p + Mk.mask r := rfl
    rw [List.map_cons, List.sum_cons, ih, e]
    omega
theorem ok_mask_of {f c T1 : Addr} {fd : FuncData} (F : FunC K "mask_of" "mask_of" st_mask_of f fd c) (TB : TabB base mg c T1) (B : Bl mg) : FnOk P w K mg base CX0 4 f fd ["lot"] (spMaskOf K T1) := by
  refine F.ok sc_mask_of (fun vs H Q E h => ?_) (fun A outer s H vs Q E hr h => ?_)
  · obtain ⟨v, ps, rfl, _⟩ := h
    rfl
  · obtain ⟨v, ps, rfl, hd, hp, hT, k⟩ := h
    refine ⟨_, pss_one (ps_ret (pe_gsum (k := 0) (N := ["place"]) (src := [none]) (vs := [0])
        ⟨fun B s H fp code hB => pg_name (i := 0) (by decide +kernel : (["place"] : List Str).Nodup) rfl (Or.inl rfl), fun B s H fp code hB => pts_nil, fun B s H fp code hB => pe_op op_shl pe_int (pv 0)⟩
        (hr.mono (by decide)) rfl B.sum TB rfl (gOk (ND := ["lot"]) (sc := defScope st_mask_of) (by decide +kernel)) (pi_tup (pv 0)))), ?_⟩
    obtain ⟨a, rfl, h1⟩ := dp_lot hd
    refine ⟨_, rfl, a, rfl, ⟨_, h1⟩, hT, fun H2 hT2 => ?_⟩
    have x2 : Ext H H2 := Ext.tabbed hT hT2
    refine g_sum (Ph := fun H4 => H4 = H2) (src_tup fun H4 e => by rw [e]; exact x2.sqT h1) (fun i => ((2 ^ ps.getD i 0 : Nat) : Int)) rfl (fun i H C hp2 hi k2 => ?_) fun H4 hp2 => ?_
    · subst hp2
      rw [getD_lot hi]
      rw [List.length_map] at hi
      have hb : ps.getD i 0 ≤ 1000 := by
        rw [List.getD_eq_getElem?_getD, List.getElem?_eq_getElem hi]
        exact hp _ (List.getElem_mem hi)
      refine ⟨rfl, _, rfl, 1, _, rfl, rfl, ⟨by omega, by omega, by decide⟩, ?_⟩
      have e : (1 : Int) * 2 ^ ((ps.getD i 0 : Nat) : Int).toNat = ((2 ^ ps.getD i 0 : Nat) : Int) := by
        rw [Int.toNat_natCast, Int.one_mul]
        simp
      show C (V.int ((1 : Int) * 2 ^ ((ps.getD i 0 : Nat) : Int).toNat)) H
      rw [e]
      exact k2 H rfl
    · subst hp2
      rw [List.length_map, map_range_getD ps fun (p : Nat) => ((2 ^ p : Nat) : Int), sum_cast]
      exact k H4 x2
/-! ### lot_of -/
def spLotOf (K : PySem.W.Frag) (T1 : Addr) : Sp := fun vs H Q _ => ∃ (m n : Nat), vs = [.int (m : Int)] ∧ m < 2 ^ n ∧ n ≤ 1000 ∧ TabG H T1 ∧ ∀ p H', Ext H H' → H p = none → Dp K H' (.ref p) (lotD (Mk.bits n m)) → H' p = some (.tup ((Mk.bits n m).map fun (p : Nat) => V.int (p : Int))) → Q (.ref p) H'
theorem sc_lot_of : FnScope ["mask"] ["mask"] (defScope st_lot_of) := ⟨rfl, rfl, rfl, by decide +kernel, rfl, by decide +kernel, by decide +kernel⟩
theorem intBits_lt (m : Nat) : m < 2 ^ Builtin.Int.intBits (m : Int) := by
  unfold Builtin.Int.intBits
  by_cases h : m = 0
  · subst h; decide
  · have e : ((m : Int) == 0) = false := by simp; omega
    rw [e]
    exact Nat.lt_log2_self
theorem intBits_le {m n : Nat} (h : m < 2 ^ n) : Builtin.Int.intBits (m : Int) ≤ n := by
  unfold Builtin.Int.intBits
  by_cases e0 : m = 0
  · subst e0; simp
  · have e : ((m : Int) == 0) = false := by simp; omega
    rw [e]
    have := (Nat.log2_lt e0).mpr h
    exact this
theorem shr_and (m i : Nat) : Builtin.bitAnd ((m : Int) / 2 ^ i) 1 = (if m.testBit i then 1 else 0 : Int) := by
  have e0 : ((m : Int) / 2 ^ i) = ((m / 2 ^ i : Nat) : Int) := by simp
  have e1 : Builtin.bitAnd ((m / 2 ^ i : Nat) : Int) 1 = (((m / 2 ^ i) &&& 1 : Nat) : Int) := rfl
  rw [e0, e1, Nat.and_one_is_mod]
  have e2 := Nat.testBit_eq_decide_div_mod_eq (x := m) (i := i)
  rw [e2]
  rcases Nat.mod_two_eq_zero_or_one (m / 2 ^ i) with z | z <;> simp [z]
theorem ok_lot_of {f c T1 : Addr} {fd : FuncData} (F : FunC K "lot_of" "lot_of" st_lot_of f fd c) (TB : TabB base mg c T1) (B : Bl mg) : FnOk P w K mg base CX0 6 f fd ["mask"] (spLotOf K T1) := by
  refine F.ok sc_lot_of (fun vs H Q E h => ?_) (fun A outer s H vs Q E hr h => ?_)
  · obtain ⟨m, n, rfl, _⟩ := h
    rfl
  · obtain ⟨m, n, rfl, hm, hn, hT, k⟩ := h
    refine ⟨_, pss_one (ps_ret (pe_gtup (k := 0) (N := ["place", "mask"]) (src := [none, some 0]) (vs := [0])
        ⟨fun B s H fp code hB => pg_name (i := 0) (by decide +kernel : (["place", "mask"] : List Str).Nodup) rfl (Or.inl rfl), fun B s H fp code hB => pts_one (pt_truthK (K := K) rfl (pe_op op_and (pe_op op_shr (pv 1) (pv 0)) pe_int) (by intro _; rfl)), fun B s H fp code hB => pv 0⟩
        (hr.mono (by decide)) rfl B.tuple TB rfl (gOk (ND := ["mask"]) (sc := defScope st_lot_of) (by decide +kernel)) (pi_range1 rfl B.range (pa_cons (pe_bits (pv 0)) pa_nil)))), ?_⟩
    have hb := intBits_lt m
    have hb2 := intBits_le hm
    generalize hN : Builtin.Int.intBits (m : Int) = N at hb hb2
    refine ⟨_, rfl, _, rfl, _, by rw [hN], by omega, by omega, hT, fun H2 hT2 => ?_⟩
    have x2 : Ext H H2 := Ext.tabbed hT hT2
    have eN : ((N : Nat) : Int).toNat = N := Int.toNat_natCast N
    rw [eN]
    refine g_tup (Pw := fun i ys H4 => H4 = H2 ∧ ys = ((List.range i).filter fun q => m.testBit q).map fun (p : Nat) => V.int (p : Int)) (fun _ _ => src_range) (Nat.le_trans (Nat.le_trans hb2 hn) (by decide)) (fun i => m.testBit i) (fun _ => rfl) ⟨rfl, rfl⟩
      (fun i ys H4 ⟨_, e⟩ => ?_) (fun i ys H4 C ⟨e1, e2⟩ hi k2 => ?_) (fun i ys H4 ⟨e1, e2⟩ hi hk => ⟨e1, ?_⟩) (fun i ys H4 C ⟨e1, e2⟩ hi hk k2 => ?_) fun ys H4 ⟨e1, e2⟩ p hp => ?_
    · rw [e, List.length_map]
      have := List.length_filter_le (fun q => m.testBit q) (List.range i)
      rw [List.length_range] at this
      exact this
    · refine ⟨_, rfl, _, rfl, _, _, rfl, rfl, (by show (0 : Int) ≤ 0 + (i : Int); omega), _, _, rfl, rfl, m.testBit i, ?_, k2 H4 ⟨e1, e2⟩⟩
      show m.testBit i = (Builtin.bitAnd ((m : Int) / 2 ^ ((0 : Int) + (i : Int)).toNat) 1 != 0)
      have e : ((0 : Int) + (i : Int)).toNat = i := by omega
      rw [e, shr_and]
      cases m.testBit i <;> rfl
    · rw [e2, List.range_succ, List.filter_append, List.filter_cons_of_neg (by simp [hk])]
      simp
    · refine ⟨_, rfl, k2 _ H4 ⟨e1, ?_⟩⟩
      rw [e2, List.range_succ, List.filter_append, List.filter_cons_of_pos (by simp [hk]), List.map_append, Int.zero_add]
      rfl
    · subst e1
      have eb : ((List.range N).filter fun q => m.testBit q) = Mk.bits n m := Mk.bits_any hb hm
      rw [eb] at e2
      subst e2
      exact k p _ (x2.trans (Ext.new hp)) (x2.free hp) (dp_new hp (dpAll_lot _)) upd_same
end
section
variable {P : Program} {w : World} {K : PySem.W.Frag} {mg : Str → Option Value} {base : Heap}
def bordD (bs : List (Nat × Nat)) : PyData := .tuple (bs.map fun (b : Nat × Nat) => .tuple [.int (b.1 : Int), .int (b.2 : Int)])
def landD (fs : List Int) (bs : List (Nat × Nat)) : PyData := .tuple [.tuple (fs.map .int), bordD bs]
abbrev vsN (l : List Nat) : List V := l.map fun (m : Nat) => V.int (m : Int)
theorem vsN_get {l : List Nat} {i : Nat} (h : i < l.length) : (vsN l)[i]? = some (V.int ((l.getD i 0 : Nat) : Int)) := by
  rw [List.getElem?_map, List.getElem?_eq_getElem h, List.getD_eq_getElem?_getD, List.getElem?_eq_getElem h]
  rfl
theorem vsN_set (l : List Nat) (i x : Nat) : (vsN l).set i (V.int (x : Int)) = vsN (l.set i x) := by
  rw [← List.map_set]
theorem ixN_nat {n j : Nat} (h : j < n) : ixN n (j : Int) = some j := by
  unfold ixN
  rw [if_pos (by omega), if_pos (by omega)]
  simp
theorem or_pp (a b : Nat) : Builtin.bitOr (a : Int) (b : Int) = ((a ||| b : Nat) : Int) := by
  rw [Bits.bitOr_pp (by omega) (by omega), Int.toNat_natCast, Int.toNat_natCast]
theorem xor_pp (a b : Nat) : Builtin.bitXor (a : Int) (b : Int) = ((a ^^^ b : Nat) : Int) := by
  rw [Bits.bitXor_pp (by omega) (by omega), Int.toNat_natCast, Int.toNat_natCast]
theorem and_pp (a b : Nat) : Builtin.bitAnd (a : Int) (b : Int) = ((a &&& b : Nat) : Int) := by
  rw [PyProof.Rows.bitAnd_pp (by omega) (by omega), Int.toNat_natCast, Int.toNat_natCast]
theorem shl_pp (b : Nat) : (1 : Int) * 2 ^ ((b : Nat) : Int).toNat = ((2 ^ b : Nat) : Int) := by
  rw [Int.toNat_natCast, Int.one_mul]
  simp
/-! ### links_of -/
def spLinksOf (K : PySem.W.Frag) : Sp := fun vs H Q _ => ∃ (l : V) (fs : List Int) (bs : List (Nat × Nat)), vs = [l] ∧ Dp K H l (landD fs bs) ∧ fs.length ≤ 12 ∧ Mk.Bs fs.length bs ∧
  ∀ p H' lk, Ext H H' → H p = none → H' p = some (.lst (vsN lk)) → Mk.Lk fs.length bs lk → Q (.ref p) H'
theorem sc_links_of : FnScope ["land", "links", "low", "high"] ["land"] (defScope st_links_of) := ⟨rfl, rfl, rfl, by decide +kernel, rfl, by decide +kernel, by decide +kernel⟩
theorem ok_links_of {f : Addr} {fd : FuncData} (F : Fun K "links_of" "links_of" st_links_of f fd) (B : Bl mg) : FnOk P w K mg base CX0 1 f fd ["land"] (spLinksOf K) := by
  refine F.ok sc_links_of (fun vs H Q E h => ?_) (fun cdv A outer s H vs Q E hr h => ?_)
  · obtain ⟨l, fs, bs, rfl, _⟩ := h
    rfl
  · obtain ⟨l, fs, bs, rfl, hd, hn, hb, k⟩ := h
    refine ⟨_, pss_cons (ps_set (i := 1) sc_links_of.nd rfl (Or.inl rfl) (pe_op op_rep (pe_lst (pa_cons pe_int pa_nil)) (pe_callB call_len (by rfl) B.len PySem.boot_len (pa_cons (pe_ix ix_tup (pv 0) pe_int (fun _ _ => rfl)) pa_nil))))
      (pss_cons (ps_for PassesOwn.never rfl (pi_tup (pe_ix ix_tup (pv 0) pe_int (fun _ _ => rfl))) (pg_tup rfl (pgs_cons (pg_name (i := 2) sc_links_of.nd rfl (Or.inl rfl)) (pgs_cons (pg_name (i := 3) sc_links_of.nd rfl (Or.inl rfl)) pgs_nil)))
        (pss_cons (ps_augS (pv 1) (pv 2) get_list (pe_op op_shl pe_int (pv 3)) iop_or set_list)
        (pss_one (ps_augS (pv 1) (pv 3) get_list (pe_op op_shl pe_int (pv 2)) iop_or set_list))))
      (pss_one (ps_ret (pv 1)))), ?_⟩
    obtain ⟨a, xs, rfl, h1, h2⟩ := dp_tup hd
    obtain ⟨v0, h3, h4⟩ := dpAll_get (i := 0) h2 rfl
    obtain ⟨b, rfl, h5⟩ := dp_ints h4
    obtain ⟨v1, h6, h7⟩ := dpAll_get (i := 1) h2 rfl
    obtain ⟨c, ys, rfl, h8, h9⟩ := dp_tup h7
    -- [0] * len(land[0])
    refine ⟨by decide, fun q hq => ?_⟩
    have x1 : Ext H (upd H q (.lst [.int 0])) := Ext.new hq
    refine ⟨_, rfl, _, _, _, _, rfl, rfl, x1.sqT h1, atI_nat h3, _, fs.length, rfl, .inr ⟨_, x1.sqT h5, by simp⟩, q, fs.length, _, rfl, rfl, upd_same, by omega, by omega, ?_, fun p hp => ?_⟩
    · have e : ((fs.length : Nat) : Int).toNat = fs.length := Int.toNat_natCast _
      rw [e]
      have : 12 ≤ sizeLine := by decide
      simp only [List.length_cons, List.length_nil]
      omega
    have x2 : Ext H (upd (upd H q (.lst [.int 0])) p (.lst (List.replicate ((fs.length : Nat) : Int).toNat [V.int 0]).flatten)) := x1.trans (Ext.new hp)
    have hp0 : H p = none := x1.free hp
    have e0 : (List.replicate ((fs.length : Nat) : Int).toNat [V.int 0]).flatten = vsN (List.replicate fs.length 0) := by
      rw [Int.toNat_natCast]
      generalize fs.length = n
      induction n with
      | zero => rfl
      | succ n ih => rw [List.replicate_succ, List.flatten_cons, ih]; rfl
    -- for low, high in land[1]
    refine ⟨_, rfl, _, _, _, _, rfl, rfl, x2.sqT h1, atI_nat h6, c, rfl, ⟨_, x2.sqT h8⟩, for_tup (K := K) (a := c) (xs := ys) (fun i σ H2 => ∃ (lk : List Nat) (o1 o2 : Option V), σ = [some (.ref a), some (.ref p), o1, o2] ∧ Ext H H2 ∧ H2 p = some (.lst (vsN lk)) ∧ Mk.Lk fs.length (bs.take i) lk)
      ⟨_, none, none, rfl, x2, by rw [upd_same, e0], by rw [List.take_zero]; exact Mk.Lk.nil _⟩ (fun i σ H2 _ ⟨_, _, _, _, x, _⟩ => x.sqT h8) ?_ ?_⟩
    · rintro i x σ H2 hx ⟨lk, o1, o2, rfl, x3, hl3, L⟩
      obtain ⟨d, hd1, hd2⟩ := dpAll_get' h9 hx
      rw [List.getElem?_map] at hd1
      cases eb : bs[i]? with
      | none => rw [eb] at hd1; cases hd1
      | some be =>
        rw [eb] at hd1
        cases hd1
        obtain ⟨b1, b2⟩ := be
        obtain ⟨hb1, hb2⟩ := hb (b1, b2) (List.mem_of_getElem? eb)
        simp only at hb1 hb2
        obtain ⟨t, zs, rfl, h10, h11⟩ := dp_tup hd2
        have ez : zs = [V.int (b1 : Int), V.int (b2 : Int)] := by
          cases h11 with
          | cons z1 zr =>
            cases zr with
            | cons z2 zr =>
              cases zr
              rw [dp_int z1, dp_int z2]
        subst ez
        have hl := L.len
        have g1 : (vsN lk)[b1]? = some (V.int ((lk.getD b1 0 : Nat) : Int)) := vsN_get (by omega)
        refine ⟨t, _, rfl, x3.sqT h10, rfl, _, _, rfl, _, _, rfl, rfl, ?_⟩
        refine ⟨_, rfl, _, rfl, p, _, b1, _, rfl, rfl, hl3, g1, _, rfl, 1, (b2 : Int), rfl, rfl, ⟨by omega, by omega, by decide⟩, _, _, rfl, rfl, p, vsN lk, _, b1, rfl, rfl, hl3, by simp [ixN_nat (show b1 < lk.length by omega)], ?_⟩
        have e1 : V.int (Builtin.bitOr ((lk.getD b1 0 : Nat) : Int) (1 * 2 ^ ((b2 : Nat) : Int).toNat)) = V.int ((lk.getD b1 0 ||| 2 ^ b2 : Nat) : Int) := by rw [shl_pp, or_pp]
        dsimp only
        rw [e1, vsN_set]
        have g2 : (vsN (lk.set b1 (lk.getD b1 0 ||| 2 ^ b2)))[b2]? = some (V.int ((lk.getD b2 0 : Nat) : Int)) := by
          rw [vsN_get (by simp; omega), Mk.getD_set (by omega), if_neg (by omega)]
        refine ⟨_, rfl, _, rfl, p, _, b2, _, rfl, rfl, upd_same, g2, _, rfl, 1, (b1 : Int), rfl, rfl, ⟨by omega, by omega, by decide⟩, _, _, rfl, rfl, p, vsN (lk.set b1 (lk.getD b1 0 ||| 2 ^ b2)), _, b2, rfl, rfl, upd_same, by simp [ixN_nat (show b2 < lk.length by omega)], ?_⟩
        have e2 : V.int (Builtin.bitOr ((lk.getD b2 0 : Nat) : Int) (1 * 2 ^ ((b1 : Nat) : Int).toNat)) = V.int ((lk.getD b2 0 ||| 2 ^ b1 : Nat) : Int) := by rw [shl_pp, or_pp]
        dsimp only
        rw [e2, vsN_set]
        refine ⟨_, _, _, rfl, ?_, upd_same, ?_⟩
        · exact (x3.write hp0).write hp0
        · have et : bs.take (i + 1) = bs.take i ++ [(b1, b2)] := by
            rw [List.take_add_one, eb]
            rfl
          rw [et]
          exact L.add hb1 hb2
    · rintro σ H2 ⟨lk, o1, o2, rfl, x3, hl3, L⟩
      have el : ys.length = bs.length := by
        have := dpAll_len h9
        rw [List.length_map] at this
        exact this
      rw [el, List.take_length] at L
      exact ⟨_, rfl, k p H2 lk x3 hp0 hl3 L⟩
/-! ### reached -/
def spReached (K : PySem.W.Frag) (T1 : Addr) : Sp := fun vs H Q _ => ∃ (l : Addr) (lk : List Nat) (n start m : Nat) (bs : List (Nat × Nat)), vs = [.ref l, .int (start : Int), .int (m : Int)] ∧ H l = some (.lst (vsN lk)) ∧ Mk.Lk n bs lk ∧ Mk.Bs n bs ∧ n ≤ 12 ∧ m < 2 ^ n ∧
  (∀ q, start.testBit q = true → m.testBit q = true) ∧ TabG H T1 ∧ ∀ r H', Ext H H' → Mk.Rch bs m start r → Q (.int ((r : Nat) : Int)) H'
theorem sc_reached : FnScope ["links", "start", "mask", "seen", "fresh", "around", "place"] ["links", "start", "mask"] (defScope st_reached) := ⟨rfl, rfl, rfl, by decide +kernel, rfl, by decide +kernel, by decide +kernel⟩
theorem ok_reached {f T1 : Addr} {fd : FuncData} (F : Fun K "reached" "reached" st_reached f fd) (B : Bl mg) (c1 : Cal P w K mg base 6 "lot_of" ["mask"] (spLotOf K T1)) : FnOk P w K mg base CX0 7 f fd ["links", "start", "mask"] (spReached K T1) := by
  refine F.ok sc_reached (fun vs H Q E h => ?_) (fun cdv A outer s H vs Q E hr h => ?_)
  · obtain ⟨l, lk, n, start, m, bs, rfl, _⟩ := h
    rfl
  · obtain ⟨l, lk, n, start, m, bs, rfl, hl, L, hb, hn, hm, hs, hT, k⟩ := h
    refine ⟨_, pss_cons (ps_set (i := 3) sc_reached.nd rfl (Or.inl rfl) (pv 1)) (pss_cons (ps_set (i := 4) sc_reached.nd rfl (Or.inl rfl) (pv 1))
      (pss_cons (ps_while PassesOwn.never (pt_truth (pv 4) (by intro _; rfl))
        (pss_cons (ps_set (i := 5) sc_reached.nd rfl (Or.inl rfl) pe_int)
        (pss_cons (ps_for PassesOwn.never rfl (pi_tup (pe_cal c1 hr rfl (pa_cons (pv 4) pa_nil))) (pg_name (i := 6) sc_reached.nd rfl (Or.inl rfl))
          (pss_one (ps_aug (i := 5) sc_reached.nd rfl (Or.inl rfl) (pe_ix ix_list (pv 0) (pv 6) (fun _ _ => rfl)) iop_or)))
        (pss_cons (ps_set (i := 4) sc_reached.nd rfl (Or.inl rfl) (pe_op op_and (pv 5) (pe_op op_xor (pv 2) (pv 3))))
        (pss_one (ps_aug (i := 3) sc_reached.nd rfl (Or.inl rfl) (pv 4) iop_or))))))
      (pss_one (ps_ret (pv 3))))), ?_⟩
    refine ⟨_, rfl, _, rfl, ?_⟩
    dsimp only [gName, tSeq]
    refine while_by (fun σ H2 => ∃ (seen fresh : Nat) (o1 o2 : Option V), σ = [some (.ref l), some (.int (start : Int)), some (.int (m : Int)), some (.int (seen : Int)), some (.int (fresh : Int)), o1, o2] ∧ Ext H H2 ∧ Mk.Walk bs m start seen fresh)
      (fun σ _ => match σ with
        | [_, _, _, some (.int a), some (.int b), _, _] => 2 * (m - a.toNat) + (if b = 0 then 0 else 1)
        | _ => 0) ⟨start, start, none, none, rfl, Ext.refl H, Mk.Walk.begin hs⟩ ?_ ?_
    · rintro σ H2 ⟨seen, fresh, o1, o2, rfl, x2, W⟩
      refine ⟨_, rfl, decide (fresh ≠ 0), ?_, ?_⟩
      · show decide (fresh ≠ 0) = (((fresh : Nat) : Int) != 0)
        by_cases e : fresh = 0
        · subst e; rfl
        · have e2 : ((fresh : Int) != 0) = true := by simp; omega
          rw [e2]
          exact decide_eq_true e
      by_cases e : fresh = 0
      · rw [decide_eq_false (by simp [e])]
        subst e
        exact iteF ⟨_, rfl, k seen H2 x2 W.fin⟩
      · rw [decide_eq_true e]
        refine iteT ?_
        have hf : fresh < 2 ^ n := Mk.lt_of_sub hm fun q hq => by
          obtain ⟨_, _, c⟩ := W.sound q (W.sub q hq)
          exact c.snd
        refine ⟨_, rfl, fresh, n, rfl, hf, by omega, x2.tabs _ hT, fun p H3 x3 hp hd3 hp3 => ?_⟩
        have x13 := x2.trans x3
        refine ⟨p, rfl, ⟨_, SqT.of hp3⟩, for_tup (K := K) (a := p) (xs := vsN (Mk.bits n fresh)) (fun i σ H4 => ∃ (o2 : Option V), σ = [some (.ref l), some (.int (start : Int)), some (.int (m : Int)), some (.int (seen : Int)), some (.int (fresh : Int)), some (.int ((((Mk.bits n fresh).take i).foldl (fun a q => a ||| lk.getD q 0) 0 : Nat) : Int)), o2] ∧ H4 = H3)
          ⟨_, rfl, rfl⟩ (fun i σ H4 _ ⟨_, _, e4⟩ => by rw [e4]; exact SqT.of hp3) ?_ ?_⟩
        · rintro i x σ H4 hx ⟨o2, rfl, rfl⟩
          rw [List.getElem?_map] at hx
          cases eb : (Mk.bits n fresh)[i]? with
          | none => rw [eb] at hx; cases hx
          | some q =>
            rw [eb] at hx
            cases hx
            have hq := (Mk.mem_bits.mp (List.mem_of_getElem? eb)).1
            have hll := L.len
            refine ⟨_, rfl, _, rfl, _, rfl, _, _, _, _, rfl, rfl, SqL.of (x13.lst hl), atI_nat (vsN_get (show q < lk.length by omega)), _, _, rfl, rfl, some (V.int (q : Int)), ?_, rfl⟩
            have et : (Mk.bits n fresh).take (i + 1) = (Mk.bits n fresh).take i ++ [q] := by
              rw [List.take_add_one, eb]
              rfl
            dsimp only [List.set]
            rw [et, List.foldl_append, or_pp]
            rfl
        · rintro σ H4 ⟨o2, rfl, rfl⟩
          have elen : (vsN (Mk.bits n fresh)).length = (Mk.bits n fresh).length := List.length_map ..
          rw [elen, List.take_length]
          generalize har : (Mk.bits n fresh).foldl (fun a q => a ||| lk.getD q 0) 0 = around
          have ha : ∀ r, around.testBit r = true ↔ ∃ q, fresh.testBit q = true ∧ Mk.adj bs q r = true := fun r => by
            rw [← har]
            exact Mk.around_bits L hf r
          have W2 := W.turn ha
          refine ⟨_, rfl, _, rfl, _, rfl, _, _, rfl, rfl, _, _, rfl, rfl, ?_⟩
          refine ⟨_, rfl, _, rfl, _, _, rfl, rfl, ?_⟩
          have e1 : Builtin.bitAnd (around : Int) (Builtin.bitXor (m : Int) (seen : Int)) = ((around &&& (m ^^^ seen) : Nat) : Int) := by rw [xor_pp, and_pp]
          have e2 : Builtin.bitOr (seen : Int) (Builtin.bitAnd (around : Int) (Builtin.bitXor (m : Int) (seen : Int))) = ((seen ||| (around &&& (m ^^^ seen)) : Nat) : Int) := by rw [e1, or_pp]
          refine ⟨⟨_, _, some (V.int (around : Int)), o2, by dsimp only [List.set]; rw [e2, e1], x13, W2⟩, ?_⟩
          show 2 * (m - (Builtin.bitOr (seen : Int) (Builtin.bitAnd (around : Int) (Builtin.bitXor (m : Int) (seen : Int)))).toNat) + (if Builtin.bitAnd (around : Int) (Builtin.bitXor (m : Int) (seen : Int)) = 0 then 0 else 1) < 2 * (m - ((seen : Nat) : Int).toNat) + (if ((fresh : Nat) : Int) = 0 then 0 else 1)
          rw [e2, e1, Int.toNat_natCast, Int.toNat_natCast, if_neg (show ¬ ((fresh : Nat) : Int) = 0 by omega)]
          have hle := W2.le
          by_cases hz : around &&& (m ^^^ seen) = 0
          · rw [hz, if_pos (show ((0 : Nat) : Int) = 0 from rfl), Nat.or_zero]
            omega
          · rw [if_neg (by omega)]
            have hdj : seen &&& (around &&& (m ^^^ seen)) = 0 := Mk.eq_of_bits fun q => by
              rw [Nat.testBit_and, Nat.testBit_and, Nat.testBit_xor, Nat.zero_testBit]
              have hsm : seen.testBit q = true → m.testBit q = true := fun hq => by
                obtain ⟨_, _, c⟩ := W.sound q hq
                exact c.snd
              cases h1 : seen.testBit q <;> cases h2 : m.testBit q <;> simp_all
            have := Mk.or_gt hdj hz
            omega
    · rintro σ H2 Q1 Q2 hq ⟨v, e, kk, ht, q⟩
      exact ⟨v, e, kk, ht, hq _ _ q⟩
end
section
variable {P : Program} {w : World} {K : PySem.W.Frag} {mg : Str → Option Value} {base : Heap}
/-! ### piece_masks -/
def spPieceMasks (K : PySem.W.Frag) (T1 : Addr) : Sp := fun vs H Q _ => ∃ (l : Addr) (lk : List Nat) (n m : Nat) (bs : List (Nat × Nat)), vs = [.ref l, .int (m : Int)] ∧ H l = some (.lst (vsN lk)) ∧ Mk.Lk n bs lk ∧ Mk.Bs n bs ∧ n ≤ 12 ∧ m < 2 ^ n ∧
  TabG H T1 ∧ ∀ p H' ps, Ext H H' → H p = none → H' p = some (.lst (vsN ps)) → Mk.Pcs bs m ps → Q (.ref p) H'
/-! ### is_border: of a right border -/
def spIsBorder (K : PySem.W.Frag) : Sp := fun vs H Q _ => ∃ (v : V) (b1 b2 n : Nat), vs = [v, .int (n : Int)] ∧ Dp K H v (.tuple [.int (b1 : Int), .int (b2 : Int)]) ∧ b1 < b2 ∧ b2 < n ∧ Q (.bl true) H
theorem sc_is_border : FnScope ["value", "many", "low", "high"] ["value", "many"] (defScope st_is_border) := ⟨rfl, rfl, rfl, by decide +kernel, rfl, by decide +kernel, by decide +kernel⟩
theorem ok_is_border {f : Addr} {fd : FuncData} (F : Fun K "is_border" "is_border" st_is_border f fd) (B : Bl mg) (c1 : Cal P w K mg base 1 "is_integer" ["value", "low", "high"] (spIsInteger K)) : FnOk P w K mg base CX0 2 f fd ["value", "many"] (spIsBorder K) := by
  refine F.ok sc_is_border (fun vs H Q E h => ?_) (fun cdv A outer s H vs Q E hr h => ?_)
  · obtain ⟨v, b1, b2, n, rfl, _⟩ := h
    rfl
  · obtain ⟨v, b1, b2, n, rfl, hd, h12, h2n, k⟩ := h
    refine ⟨_, pss_cons (ps_if (PW.pt (pw_or (pt_cmpR op_neTy (pe_callTy call_type1 rfl B.type (by decide +kernel) (pa_cons (pv 0) pa_nil)) (pe_bltn rfl B.tuple (by decide +kernel) (v := .ty "tuple") rfl) (nomark _))
        (pw_or1 (pt_cmpR op_ne (pe_callB call_len (by rfl) B.len PySem.boot_len (pa_cons (pv 0) pa_nil)) pe_int (nomark _))))) (pss_one (ps_ret pe_bl)) pss_nil)
      (pss_cons (ps_asg (pv 0) (pg_tup rfl (pgs_cons (pg_name (i := 2) sc_is_border.nd rfl (Or.inl rfl)) (pgs_cons (pg_name (i := 3) sc_is_border.nd rfl (Or.inl rfl)) pgs_nil))))
      (pss_one (ps_ret (pe_and (pe_cal c1 hr rfl (pa_cons (pv 3) (pa_cons pe_int (pa_cons (pe_op op_sub (pv 1) pe_int) pa_nil)))) (pe_one (pe_cal c1 hr rfl (pa_cons (pv 2) (pa_cons pe_int (pa_cons (pe_op op_sub (pv 3) pe_int) pa_nil))))))))), ?_⟩
    obtain ⟨t, zs, rfl, h1, h2⟩ := dp_tup hd
    have ez : zs = [V.int (b1 : Int), V.int (b2 : Int)] := by
      cases h2 with
      | cons z1 zr =>
        cases zr with
        | cons z2 zr =>
          cases zr
          rw [dp_int z1, dp_int z2]
    subst ez
    refine ⟨_, rfl, _, "tuple", rfl, .tup h1, "tuple", "tuple", rfl, rfl, by decide, by decide, false, rfl, ?_⟩
    refine iteF ⟨_, rfl, _, 2, rfl, .inr ⟨_, h1, rfl⟩, rfl, false, rfl, iteF ?_⟩
    refine ⟨_, rfl, t, _, rfl, h1, rfl, _, _, rfl, _, _, rfl, rfl, ?_⟩
    refine ⟨_, rfl, _, rfl, _, _, rfl, rfl, _, .int (b2 : Int), 0, (n : Int) - 1, rfl, .int _, true, ?_, iteT ?_⟩
    · show V.bl (decide (_ ∧ _)) = _
      rw [decide_eq_true (by omega)]
    · refine ⟨_, rfl, _, rfl, _, _, rfl, rfl, _, .int (b1 : Int), 0, (b2 : Int) - 1, rfl, .int _, ?_⟩
      show Q (V.bl (decide (_ ∧ _))) H
      rw [decide_eq_true (by omega)]
      exact k
end
theorem lex2_false {a b c d : Int} (h : c < a ∨ (c = a ∧ d < b)) :
    Ob.lexAt (fun j => decide ([a, b].getD j 0 = [c, d].getD j 0)) (fun j => decide ([a, b].getD j 0 ≤ [c, d].getD j 0)) (decide ([a, b].length ≤ [c, d].length)) 0 (min [a, b].length [c, d].length) = false := by
  show (if decide (a = c) = true then (if decide (b = d) = true then _ else decide (b ≤ d)) else decide (a ≤ c)) = false
  by_cases e1 : a = c
  · rw [decide_eq_true e1, if_pos rfl]
    have e2 : ¬ b = d := by omega
    rw [decide_eq_false e2, if_neg Bool.false_ne_true]
    apply decide_eq_false
    omega
  · rw [decide_eq_false e1, if_neg Bool.false_ne_true]
    apply decide_eq_false
    omega
/-- the three numbers of the module -/
structure Nums (mg : Str → Option Value) : Prop where
  fp : ∃ t, mg "FEWEST_PLACES" = some (.int 2 t)
  mp : ∃ t, mg "MOST_PLACES" = some (.int 12 t)
  mf : ∃ t, mg "MOST_FOLK" = some (.int 1000000 t)
def ltP (a b : Nat × Nat) : Prop := a.1 < b.1 ∨ (a.1 = b.1 ∧ a.2 < b.2)
structure LandOk (fs : List Int) (bs : List (Nat × Nat)) : Prop where
  few : 2 ≤ fs.length
  most : fs.length ≤ 12
  folk : ∀ z ∈ fs, 0 ≤ z ∧ z ≤ 1000000
  bord : Mk.Bs fs.length bs
  asc : bs.Pairwise ltP
theorem bs_len {n : Nat} (hn : n ≤ 12) {bs : List (Nat × Nat)} (hb : Mk.Bs n bs) (h : bs.Pairwise ltP) : bs.length ≤ 1000 := by
  -- coded by one number below 13 * 13, ascending
  have key : ∀ (l : List Nat) (m : Nat), l.Pairwise (· < ·) → (∀ x ∈ l, x < m) → l.length ≤ m := by
    intro l
    induction l with
    | nil => intro m _ _; exact Nat.zero_le _
    | cons a r ih =>
      intro m hp hm
      rw [List.pairwise_cons] at hp
      have h1 := ih (m - a - 1) |> fun _ => hm a List.mem_cons_self
      have h2 : ∀ (r : List Nat) (lo m : Nat), r.Pairwise (· < ·) → (∀ x ∈ r, lo ≤ x ∧ x < m) → r.length ≤ m - lo := by
        intro r
        induction r with
        | nil => intro lo m _ _; exact Nat.zero_le _
        | cons b r ih =>
          intro lo m hp hm
          rw [List.pairwise_cons] at hp
          have h3 := hm b List.mem_cons_self
          have := ih (b + 1) m hp.2 fun x hx => ⟨hp.1 x hx, (hm x (List.mem_cons_of_mem _ hx)).2⟩
          rw [List.length_cons]
          omega
      have h3 := h2 r (a + 1) m hp.2 fun x hx => ⟨hp.1 x hx, hm x (List.mem_cons_of_mem _ hx)⟩
      rw [List.length_cons]
      omega
  have h2 := key (bs.map fun (b : Nat × Nat) => 13 * b.1 + b.2) 169 (by
    rw [List.pairwise_map]
    refine List.Pairwise.imp_of_mem (fun {a b} ha hb' z => ?_) h
    have := hb a ha
    have := hb b hb'
    rcases z with z | z
    · omega
    · omega) fun x hx => by
    obtain ⟨b, h1, rfl⟩ := List.mem_map.mp hx
    have := hb b h1
    omega
  rw [List.length_map] at h2
  omega
section
variable {P : Program} {w : World} {K : PySem.W.Frag} {mg : Str → Option Value} {base : Heap}
theorem dp_pair {H : Hp} {v : V} {b : Nat × Nat} (h : Dp K H v (.tuple [.int (b.1 : Int), .int (b.2 : Int)])) : ∃ t, v = .ref t ∧ SqT K H t [V.int (b.1 : Int), V.int (b.2 : Int)] := by
  obtain ⟨t, zs, rfl, h1, h2⟩ := dp_tup h
  cases h2 with
  | cons z1 zr =>
    cases zr with
    | cons z2 zr =>
      cases zr
      rw [dp_int z1, dp_int z2] at h1
      exact ⟨t, rfl, h1⟩
theorem dp_bord {H : Hp} {v : V} {bs : List (Nat × Nat)} (h : Dp K H v (bordD bs)) : ∃ c ys, v = .ref c ∧ SqT K H c ys ∧ ys.length = bs.length ∧ ∀ (i : Nat) (b : Nat × Nat), bs[i]? = some b → ∃ u, ys[i]? = some u ∧ Dp K H u (.tuple [.int (b.1 : Int), .int (b.2 : Int)]) := by
  obtain ⟨c, ys, rfl, h1, h2⟩ := dp_tup h
  refine ⟨c, ys, rfl, h1, by have := dpAll_len h2; rw [List.length_map] at this; exact this, fun i b e => ?_⟩
  exact dpAll_get h2 (by rw [List.getElem?_map, e]; rfl)
/-! ### fault_of_folk, fault_of_borders, fault_of_land, check_land: of right lands -/
def spFaultFolk (K : PySem.W.Frag) : Sp := fun vs H Q _ => ∃ (v : V) (fs : List Int), vs = [v] ∧ Dp K H v (.tuple (fs.map .int)) ∧ 2 ≤ fs.length ∧ fs.length ≤ 12 ∧ (∀ z ∈ fs, 0 ≤ z ∧ z ≤ 1000000) ∧ Q .non H
theorem sc_fault_of_folk : FnScope ["folk", "k"] ["folk"] (defScope st_fault_of_folk) := ⟨rfl, rfl, rfl, by decide +kernel, rfl, by decide +kernel, by decide +kernel⟩
theorem ok_fault_of_folk {f : Addr} {fd : FuncData} (F : Fun K "fault_of_folk" "fault_of_folk" st_fault_of_folk f fd) (B : Bl mg) (N : Nums mg) (c1 : Cal P w K mg base 1 "is_integer" ["value", "low", "high"] (spIsInteger K)) : FnOk P w K mg base CX0 2 f fd ["folk"] (spFaultFolk K) := by
  refine F.ok sc_fault_of_folk (fun vs H Q E h => ?_) (fun cdv A outer s H vs Q E hr h => ?_)
  · obtain ⟨v, fs, rfl, _⟩ := h
    rfl
  · obtain ⟨v, fs, rfl, hd, h2, h12, hf, k⟩ := h
    obtain ⟨⟨t1, e1⟩, ⟨t2, e2⟩, ⟨t3, e3⟩⟩ := N
    refine ⟨_, pss_cons (ps_if (PW.pt (pw_or (pt_cmpR op_neTy (pe_callTy call_type1 rfl B.type (by decide +kernel) (pa_cons (pv 0) pa_nil)) (pe_bltn rfl B.tuple (by decide +kernel) (v := .ty "tuple") rfl) (nomark _))
        (pw_or1 (pt_not (pt_chain op_le op_le (pe_glob rfl e1 (v := .int 2) ⟨_, rfl⟩) (pe_callB call_len (by rfl) B.len PySem.boot_len (pa_cons (pv 0) pa_nil)) (pe_glob rfl e2 (v := .int 12) ⟨_, rfl⟩)))))) pss_never pss_nil)
      (pss_cons (ps_for PassesOwn.never rfl (pi_range1 rfl B.range (pa_cons (pe_callB call_len (by rfl) B.len PySem.boot_len (pa_cons (pv 0) pa_nil)) pa_nil)) (pg_name (i := 1) sc_fault_of_folk.nd rfl (Or.inl rfl))
        (pss_one (ps_if (pt_not (pt_val (pe_cal c1 hr rfl (pa_cons (pe_ix ix_tup (pv 0) (pv 1) (fun _ _ => rfl)) (pa_cons pe_int (pa_cons (pe_glob rfl e3 (v := .int 1000000) ⟨_, rfl⟩) pa_nil)))) (by intro _; rfl))) pss_never pss_nil)))
      (pss_one (ps_ret pe_non))), ?_⟩
    obtain ⟨a, rfl, h1⟩ := dp_ints hd
    refine ⟨_, rfl, _, "tuple", rfl, .tup h1, "tuple", "tuple", rfl, rfl, by decide, by decide, false, rfl, ?_⟩
    refine iteF ⟨_, rfl, _, fs.length, rfl, .inr ⟨_, h1, by simp⟩, _, _, rfl, rfl, true, ?_, iteT ⟨_, _, rfl, rfl, true, ?_, iteF ?_⟩⟩
    · show V.bl (decide _) = _
      rw [decide_eq_true (by omega)]
    · show V.bl (decide _) = _
      rw [decide_eq_true (by omega)]
    refine ⟨_, rfl, _, fs.length, rfl, .inr ⟨_, h1, by simp⟩, _, rfl, by omega, by omega, ?_⟩
    rw [Int.toNat_natCast]
    refine for_range (n := fs.length) (fun i σ H2 => ∃ o, σ = [some (.ref a), o] ∧ H2 = H) ⟨_, rfl, rfl⟩ ?_ ?_
    · rintro i σ H2 hi ⟨o, rfl, rfl⟩
      have g1 : (fs.map V.int)[i]? = some (V.int fs[i]) := by rw [List.getElem?_map, List.getElem?_eq_getElem hi]; rfl
      refine ⟨_, rfl, _, rfl, _, _, _, _, rfl, rfl, h1, by rw [Int.zero_add]; exact atI_nat g1, _, .int fs[i], 0, 1000000, rfl, .int _, true, ?_, iteF ⟨_, rfl, rfl⟩⟩
      show V.bl (decide _) = _
      rw [decide_eq_true (hf _ (List.getElem_mem hi))]
    · rintro σ H2 ⟨o, rfl, rfl⟩
      exact k
def spFaultBord (K : PySem.W.Frag) : Sp := fun vs H Q _ => ∃ (v : V) (bs : List (Nat × Nat)) (n : Nat), vs = [v, .int (n : Int)] ∧ Dp K H v (bordD bs) ∧ n ≤ 12 ∧ Mk.Bs n bs ∧ bs.Pairwise ltP ∧ Q .non H
theorem sc_fault_of_borders : FnScope ["borders", "many", "k"] ["borders", "many"] (defScope st_fault_of_borders) := ⟨rfl, rfl, rfl, by decide +kernel, rfl, by decide +kernel, by decide +kernel⟩
theorem ok_fault_of_borders {f : Addr} {fd : FuncData} (F : Fun K "fault_of_borders" "fault_of_borders" st_fault_of_borders f fd) (B : Bl mg) (c1 : Cal P w K mg base 2 "is_border" ["value", "many"] (spIsBorder K)) : FnOk P w K mg base CX0 3 f fd ["borders", "many"] (spFaultBord K) := by
  refine F.ok sc_fault_of_borders (fun vs H Q E h => ?_) (fun cdv A outer s H vs Q E hr h => ?_)
  · obtain ⟨v, bs, n, rfl, _⟩ := h
    rfl
  · obtain ⟨v, bs, n, rfl, hd, hn, hb, ha, k⟩ := h
    refine ⟨_, pss_cons (ps_if (pt_cmpR op_neTy (pe_callTy call_type1 rfl B.type (by decide +kernel) (pa_cons (pv 0) pa_nil)) (pe_bltn rfl B.tuple (by decide +kernel) (v := .ty "tuple") rfl) (nomark _)) pss_never pss_nil)
      (pss_cons (ps_for PassesOwn.never rfl (pi_range1 rfl B.range (pa_cons (pe_callB call_len (by rfl) B.len PySem.boot_len (pa_cons (pv 0) pa_nil)) pa_nil)) (pg_name (i := 2) sc_fault_of_borders.nd rfl (Or.inl rfl))
        (pss_cons (ps_if (pt_not (pt_val (pe_cal c1 hr rfl (pa_cons (pe_ix ix_tup (pv 0) (pv 2) (fun _ _ => rfl)) (pa_cons (pv 1) pa_nil))) (by intro _; rfl))) pss_never pss_nil)
        (pss_one (ps_if (PW.pt (pw_and (pt_cmpR op_gt (pv 2) pe_int (nomark _)) (pw_and1 (pt_cmpR (op_leT hr.units0) (pe_ix ix_tup (pv 0) (pv 2) (fun _ _ => rfl)) (pe_ix ix_tup (pv 0) (pe_op op_sub (pv 2) pe_int) (fun _ _ => rfl)) (nomark _))))) pss_never pss_nil))))
      (pss_one (ps_ret pe_non))), ?_⟩
    obtain ⟨c, ys, rfl, h1, hl, hg⟩ := dp_bord hd
    have hbl := bs_len hn hb ha
    refine ⟨_, rfl, _, "tuple", rfl, .tup h1, "tuple", "tuple", rfl, rfl, by decide, by decide, false, rfl, iteF ?_⟩
    refine ⟨_, rfl, _, bs.length, rfl, .inr ⟨_, h1, hl.symm⟩, _, rfl, by omega, by omega, ?_⟩
    rw [Int.toNat_natCast]
    refine for_range (n := bs.length) (fun i σ H2 => ∃ o, σ = [some (.ref c), some (.int (n : Int)), o] ∧ H2 = H) ⟨_, rfl, rfl⟩ ?_ ?_
    · rintro i σ H2 hi ⟨o, rfl, rfl⟩
      obtain ⟨u, hu, hu2⟩ := hg i _ (List.getElem?_eq_getElem hi)
      have hbi := hb _ (List.getElem_mem hi)
      refine ⟨_, rfl, _, rfl, _, _, _, _, rfl, rfl, h1, by rw [Int.zero_add]; exact atI_nat hu, _, rfl, _, bs[i].1, bs[i].2, n, rfl, hu2, hbi.1, hbi.2, true, rfl, iteF ?_⟩
      refine ⟨_, rfl, _, _, rfl, rfl, decide (0 < i), ?_, ?_⟩
      · show V.bl (decide ((0 : Int) < (0 : Int) + (i : Int))) = _
        congr 1
        apply decide_eq_decide.mpr
        omega
      by_cases hi0 : 0 < i
      · rw [decide_eq_true hi0]
        refine iteT ?_
        obtain ⟨u', hu', hu2'⟩ := hg (i - 1) _ (List.getElem?_eq_getElem (show i - 1 < bs.length by omega))
        obtain ⟨t, rfl, q1⟩ := dp_pair hu2
        obtain ⟨t', rfl, q2⟩ := dp_pair hu2'
        have hlt : ltP bs[i - 1] bs[i] := List.pairwise_iff_getElem.mp ha _ _ _ _ (by omega)
        refine ⟨_, rfl, _, rfl, _, _, _, _, rfl, rfl, h1, by rw [Int.zero_add]; exact atI_nat hu, _, rfl, _, rfl, _, _, rfl, rfl, _, _, _, _, rfl, rfl, h1, (by
          have e : (0 : Int) + (i : Int) - 1 = ((i - 1 : Nat) : Int) := by omega
          rw [e]; exact atI_nat hu'), t, t', [(bs[i].1 : Int), (bs[i].2 : Int)], [(bs[i - 1].1 : Int), (bs[i - 1].2 : Int)], rfl, rfl, q1, q2, false, ?_, iteF ⟨_, rfl, rfl⟩⟩
        congr 1
        unfold ltP at hlt
        apply lex2_false
        omega
      · rw [decide_eq_false hi0]
        exact iteF (iteF ⟨_, rfl, rfl⟩)
    · rintro σ H2 ⟨o, rfl, rfl⟩
      exact k
def spFaultLand (K : PySem.W.Frag) : Sp := fun vs H Q _ => ∃ (v : V) (fs : List Int) (bs : List (Nat × Nat)), vs = [v] ∧ Dp K H v (landD fs bs) ∧ LandOk fs bs ∧ Q .non H
theorem sc_fault_of_land : FnScope ["value", "folk", "borders", "place"] ["value"] (defScope st_fault_of_land) := ⟨rfl, rfl, rfl, by decide +kernel, rfl, by decide +kernel, by decide +kernel⟩
theorem ok_fault_of_land {f : Addr} {fd : FuncData} (F : Fun K "fault_of_land" "fault_of_land" st_fault_of_land f fd) (B : Bl mg) (c1 : Cal P w K mg base 2 "fault_of_folk" ["folk"] (spFaultFolk K)) (c2 : Cal P w K mg base 3 "fault_of_borders" ["borders", "many"] (spFaultBord K)) : FnOk P w K mg base CX0 4 f fd ["value"] (spFaultLand K) := by
  refine F.ok sc_fault_of_land (fun vs H Q E h => ?_) (fun cdv A outer s H vs Q E hr h => ?_)
  · obtain ⟨v, fs, bs, rfl, _⟩ := h
    rfl
  · obtain ⟨v, fs, bs, rfl, hd, ok, k⟩ := h
    refine ⟨_, pss_cons (ps_if (PW.pt (pw_or (pt_cmpR op_neTy (pe_callTy call_type1 rfl B.type (by decide +kernel) (pa_cons (pv 0) pa_nil)) (pe_bltn rfl B.tuple (by decide +kernel) (v := .ty "tuple") rfl) (nomark _))
        (pw_or1 (pt_cmpR op_ne (pe_callB call_len (by rfl) B.len PySem.boot_len (pa_cons (pv 0) pa_nil)) pe_int (nomark _))))) pss_never pss_nil)
      (pss_cons (ps_asg (pv 0) (pg_tup rfl (pgs_cons (pg_name (i := 1) sc_fault_of_land.nd rfl (Or.inl rfl)) (pgs_cons (pg_name (i := 2) sc_fault_of_land.nd rfl (Or.inl rfl)) pgs_nil))))
      (pss_cons (ps_set (i := 3) sc_fault_of_land.nd rfl (Or.inl rfl) (pe_cal c1 (hr.mono (by decide)) rfl (pa_cons (pv 1) pa_nil)))
      (pss_cons (ps_if (pt_cmpR op_isN (pv 3) pe_non (nomark _)) (pss_one (ps_set (i := 3) sc_fault_of_land.nd rfl (Or.inl rfl) (pe_cal c2 hr rfl (pa_cons (pv 2) (pa_cons (pe_callB call_len (by rfl) B.len PySem.boot_len (pa_cons (pv 1) pa_nil)) pa_nil))))) pss_nil)
      (pss_one (ps_ret (pv 3)))))), ?_⟩
    obtain ⟨a, xs, rfl, h1, h2⟩ := dp_tup hd
    have ez : ∃ v0 v1, xs = [v0, v1] ∧ Dp K H v0 (.tuple (fs.map .int)) ∧ Dp K H v1 (bordD bs) := by
      cases h2 with
      | cons z1 zr =>
        cases zr with
        | cons z2 zr =>
          cases zr
          exact ⟨_, _, rfl, z1, z2⟩
    obtain ⟨v0, v1, rfl, d0, d1⟩ := ez
    obtain ⟨b, rfl, h5⟩ := dp_ints d0
    refine ⟨_, rfl, _, "tuple", rfl, .tup h1, "tuple", "tuple", rfl, rfl, by decide, by decide, false, rfl, ?_⟩
    refine iteF ⟨_, rfl, _, 2, rfl, .inr ⟨_, h1, rfl⟩, rfl, false, rfl, iteF ?_⟩
    refine ⟨_, rfl, a, _, rfl, h1, rfl, _, _, rfl, _, _, rfl, rfl, ?_⟩
    refine ⟨_, rfl, _, fs, rfl, d0, ok.few, ok.most, ok.folk, ?_⟩
    refine ⟨_, rfl, rfl, true, rfl, iteT ?_⟩
    refine ⟨_, rfl, _, rfl, _, fs.length, rfl, .inr ⟨_, h5, by simp⟩, _, bs, fs.length, rfl, d1, ok.most, ok.bord, ok.asc, ?_⟩
    exact ⟨_, rfl, k⟩
def spCheckLand (K : PySem.W.Frag) : Sp := spFaultLand K
theorem sc_check_land : FnScope ["land", "place"] ["land"] (defScope st_check_land) := ⟨rfl, rfl, rfl, by decide +kernel, rfl, by decide +kernel, by decide +kernel⟩
theorem ok_check_land {f : Addr} {fd : FuncData} (F : Fun K "check_land" "check_land" st_check_land f fd) (c1 : Cal P w K mg base 4 "fault_of_land" ["value"] (spFaultLand K)) : FnOk P w K mg base CX0 5 f fd ["land"] (spFaultLand K) := by
  refine F.ok sc_check_land (fun vs H Q E h => ?_) (fun cdv A outer s H vs Q E hr h => ?_)
  · obtain ⟨v, fs, bs, rfl, _⟩ := h
    rfl
  · obtain ⟨v, fs, bs, rfl, hd, ok, k⟩ := h
    refine ⟨_, pss_cons (ps_set (i := 1) sc_check_land.nd rfl (Or.inl rfl) (pe_cal c1 hr rfl (pa_cons (pv 0) pa_nil))) (pss_one (ps_if (pt_cmpR op_notN (pv 1) pe_non (nomark _)) pss_never pss_nil)), ?_⟩
    exact ⟨_, rfl, v, fs, bs, rfl, hd, ok, _, rfl, rfl, false, rfl, iteF k⟩
/-! ### check_lot -/
def spCheckLot (K : PySem.W.Frag) (T1 T2 : Addr) : Sp := fun vs H Q _ => ∃ (l v : V) (fs : List Int) (bd : PyData) (ps : List Nat), vs = [l, v] ∧ Dp K H l (.tuple [.tuple (fs.map .int), bd]) ∧ fs.length ≤ 12 ∧ Dp K H v (lotD ps) ∧ isLot fs.length ps = true ∧ ps.length ≤ 12 ∧
  TabG H T1 ∧ TabG H T2 ∧ ∀ H', Ext H H' → Q .non H'
end
section
variable {P : Program} {w : World} {K : PySem.W.Frag} {mg : Str → Option Value} {base : Heap}
/-! ### cut_places -/
theorem asc_pair : ∀ {ns : List Int}, asc ns = true → ns.Pairwise (· < ·)
  | [], _ => .nil
  | [_], _ => by simp
  | a :: b :: r, h => by
    have h2 : (decide (a < b) && asc (b :: r)) = true := h
    rw [Bool.and_eq_true, decide_eq_true_eq] at h2
    have ih := asc_pair h2.2
    rw [List.pairwise_cons] at ih ⊢
    refine ⟨fun x hx => ?_, by rw [List.pairwise_cons]; exact ih⟩
    rcases List.mem_cons.mp hx with e | e
    · rw [e]; exact h2.1
    · have := ih.1 x e
      omega
structure LotOk (n : Nat) (ps : List Nat) : Prop where
  ne : ps ≠ []
  lt : ∀ p ∈ ps, p < n
  asc : ps.Pairwise (· < ·)
theorem pair_asc : ∀ {ns : List Int}, ns.Pairwise (· < ·) → asc ns = true
  | [], _ => rfl
  | [_], _ => rfl
  | a :: b :: r, h => by
    rw [List.pairwise_cons] at h
    show (decide (a < b) && asc (b :: r)) = true
    rw [pair_asc h.2, decide_eq_true (h.1 b List.mem_cons_self)]
    rfl
theorem LotOk.is {n : Nat} {ps : List Nat} (h : LotOk n ps) : isLot n ps = true := by
  unfold isLot
  have e1 : ps.isEmpty = false := by cases ps with
    | nil => exact absurd rfl h.ne
    | cons _ _ => rfl
  have e2 : (ps.all fun p => decide (p < n)) = true := List.all_eq_true.mpr fun p hp => decide_eq_true (h.lt p hp)
  have e3 : Wd.asc (ps.map fun (p : Nat) => (p : Int)) = true := Wd.pair_asc (by
    rw [List.pairwise_map]
    exact h.asc.imp fun z => by omega)
  rw [e1, e2, e3]
  rfl
theorem LotOk.len {n : Nat} {ps : List Nat} (h : LotOk n ps) : ps.length ≤ n := by
  have e := Mk.bits_mask h.asc h.lt
  rw [← e]
  exact Mk.bits_len _ _
end
end Wd

set_option Elab.async false
set_option linter.all false
set_option maxRecDepth 100000
set_option maxHeartbeats 4000000
namespace Wd
open PySem PySem.Spec PyProof.Rows L2 Bx Gx




















































section
variable {P : Program} {w : World} {K : PySem.W.Frag} {mg : Str → Option Value} {base : Heap}
/-! ### judging any value: is_border, fault_of_folk -/
theorem tup_dp {H : Hp} {v : V} {d : PyData} (h : Dp K H v d) : (∃ ds a xs, d = .tuple ds ∧ v = .ref a ∧ SqT K H a xs ∧ DpAll K H xs ds) ∨ (∃ T, T ∈ tyNames ∧ TyB K H v T ∧ T ≠ "tuple" ∧ ∀ ds, d ≠ .tuple ds) := by
  cases h with
  | non => exact .inr ⟨"NoneType", by decide, .non, by decide, fun _ z => nomatch z⟩
  | bl b => exact .inr ⟨"bool", by decide, .bl b, by decide, fun _ z => nomatch z⟩
  | int i => exact .inr ⟨"int", by decide, .int i, by decide, fun _ z => nomatch z⟩
  | str x => exact .inr ⟨"str", by decide, .str x, by decide, fun _ z => nomatch z⟩
  | lst h _ => exact .inr ⟨"list", by decide, .lst h, by decide, fun _ z => nomatch z⟩
  | tup h hs => exact .inl ⟨_, _, _, rfl, rfl, h, hs⟩
def bordB (n : Int) : PyData → Bool
  | .tuple [x, .int h] => isIntD 0 (n - 1) (.int h) && isIntD 0 (h - 1) x
  | _ => false
theorem bordB_not {n : Int} {d : PyData} (h : ∀ ds, d ≠ .tuple ds) : bordB n d = false := by
  cases d with
  | tuple ds => exact absurd rfl (h ds)
  | _ => rfl
theorem bordB_len {n : Int} {ds : List PyData} (h : ds.length ≠ 2) : bordB n (.tuple ds) = false := by
  match ds, h with
  | [], _ => rfl
  | [_], _ => rfl
  | [_, _], h => exact absurd rfl h
  | _ :: _ :: _ :: _, _ => simp [bordB]
theorem bordB_fst {n : Int} {x y : PyData} (h : isIntD 0 (n - 1) y = false) : bordB n (.tuple [x, y]) = false := by
  cases y with
  | int i => show (isIntD 0 (n - 1) (.int i) && _) = false; rw [h]; rfl
  | _ => rfl
theorem dp_two {H : Hp} {ds : List PyData} {zs : List V} (hz : ds.length = 2) (h : DpAll K H zs ds) : ∃ x y vx vy, ds = [x, y] ∧ zs = [vx, vy] ∧ Dp K H vx x ∧ Dp K H vy y := by
  cases h with
  | nil => cases hz
  | cons h1 hr =>
    cases hr with
    | nil => cases hz
    | cons h2 hr2 =>
      cases hr2 with
      | nil => exact ⟨_, _, _, _, rfl, rfl, h1, h2⟩
      | cons _ _ => simp at hz
def spIsBorderA (K : PySem.W.Frag) : Sp := fun vs H Q _ => ∃ (v : V) (d : PyData) (n : Int), vs = [v, .int n] ∧ Dp K H v d ∧ Q (.bl (bordB n d)) H
theorem ok_is_borderA {f : Addr} {fd : FuncData} (F : Fun K "is_border" "is_border" st_is_border f fd) (B : Bl mg) (c1 : Cal P w K mg base 1 "is_integer" ["value", "low", "high"] (spIsInteger K)) : FnOk P w K mg base CX0 2 f fd ["value", "many"] (spIsBorderA K) := by
  refine F.ok sc_is_border (fun vs H Q E h => ?_) (fun cdv A outer s H vs Q E hr h => ?_)
  · obtain ⟨v, d, n, rfl, _⟩ := h
    rfl
  · obtain ⟨v, d, n, rfl, hd, k⟩ := h
    refine ⟨_, pss_cons (ps_if (PW.pt (pw_or (pt_cmpR op_neTy (pe_callTy call_type1 rfl B.type (by decide +kernel) (pa_cons (pv 0) pa_nil)) (pe_bltn rfl B.tuple (by decide +kernel) (v := .ty "tuple") rfl) (nomark _))
        (pw_or1 (pt_cmpR op_ne (pe_callB call_len (by rfl) B.len PySem.boot_len (pa_cons (pv 0) pa_nil)) pe_int (nomark _))))) (pss_one (ps_ret pe_bl)) pss_nil)
      (pss_cons (ps_asg (pv 0) (pg_tup rfl (pgs_cons (pg_name (i := 2) sc_is_border.nd rfl (Or.inl rfl)) (pgs_cons (pg_name (i := 3) sc_is_border.nd rfl (Or.inl rfl)) pgs_nil))))
      (pss_one (ps_ret (pe_and (pe_cal c1 hr rfl (pa_cons (pv 3) (pa_cons pe_int (pa_cons (pe_op op_sub (pv 1) pe_int) pa_nil)))) (pe_one (pe_cal c1 hr rfl (pa_cons (pv 2) (pa_cons pe_int (pa_cons (pe_op op_sub (pv 3) pe_int) pa_nil))))))))), ?_⟩
    rcases tup_dp hd with ⟨ds, t, zs, rfl, rfl, h1, h2⟩ | ⟨T, hT, ht, hne, hno⟩
    · refine ⟨_, rfl, _, "tuple", rfl, .tup h1, "tuple", "tuple", rfl, rfl, by decide, by decide, false, rfl, ?_⟩
      have hl := dpAll_len h2
      refine iteF ⟨_, rfl, _, ds.length, rfl, .inr ⟨_, h1, hl.symm⟩, rfl, _, rfl, ?_⟩
      show if (!decide (V.int (ds.length : Int) = V.int 2)) = true then _ else _
      by_cases hz : ds.length = 2
      · rw [hz]
        refine iteF ?_
        obtain ⟨x, y, vx, vy, rfl, rfl, hx, hy⟩ := dp_two hz h2
        · refine ⟨_, rfl, t, _, rfl, h1, rfl, _, _, rfl, _, _, rfl, rfl, ?_⟩
          refine ⟨_, rfl, _, rfl, _, _, rfl, rfl, _, y, 0, n - 1, rfl, hy, ?_⟩
          cases e : isIntD 0 (n - 1) y with
          | false =>
            rw [bordB_fst e] at k
            exact ⟨_, rfl, iteF k⟩
          | true =>
            cases hy with
            | int i =>
              refine ⟨_, rfl, iteT ?_⟩
              refine ⟨_, rfl, _, rfl, _, _, rfl, rfl, _, x, 0, i - 1, rfl, hx, ?_⟩
              have ek : bordB n (.tuple [x, .int i]) = isIntD 0 (i - 1) x := by
                show (isIntD 0 (n - 1) (.int i) && _) = _
                rw [e]
                rfl
              rw [ek] at k
              exact k
            | non => cases e
            | bl => cases e
            | str => cases e
            | lst => cases e
            | tup => cases e
      · have e1 : (!decide (V.int (ds.length : Int) = V.int 2)) = true := by
          rw [decide_eq_false]
          · rfl
          · intro z
            injection z with z
            exact hz (by omega)
        rw [e1]
        refine iteT ?_
        rw [bordB_len hz] at k
        exact k
    · rw [bordB_not hno] at k
      refine ⟨_, rfl, _, T, rfl, ht, T, "tuple", rfl, rfl, hT, by decide, true, ?_, ?_⟩
      · rw [decide_eq_false hne]
        rfl
      · exact iteT (iteT k)
end
section
variable {P : Program} {w : World} {K : PySem.W.Frag} {mg : Str → Option Value} {base : Heap}
/-! ### fault_of_folk of any value -/
def folkF : PyData → Option (List Int)
  | .tuple ds => if 2 ≤ ds.length ∧ ds.length ≤ 12 then (ds.findIdx? fun x => !isIntD 0 1000000 x).map fun (k : Nat) => [0, (k : Int)] else some [0]
  | _ => some [0]
theorem folkF_not {d : PyData} (h : ∀ ds, d ≠ .tuple ds) : folkF d = some [0] := by
  cases d with
  | tuple ds => exact absurd rfl (h ds)
  | _ => rfl
/-- what a fault's finder gives: None, or a new tuple of ints -/
def Gives (Q : VK) (H : Hp) : Option (List Int) → Prop
  | none => Q .non H
  | some l => ∀ q H', Ext H H' → H q = none → H' q = some (.tup (l.map V.int)) → Q (.ref q) H'
def spFaultFolkA (K : PySem.W.Frag) : Sp := fun vs H Q _ => ∃ (v : V) (d : PyData), vs = [v] ∧ Dp K H v d ∧ Gives Q H (folkF d)
theorem ok_fault_of_folkA {f : Addr} {fd : FuncData} (F : Fun K "fault_of_folk" "fault_of_folk" st_fault_of_folk f fd) (B : Bl mg) (N : Nums mg) (c1 : Cal P w K mg base 1 "is_integer" ["value", "low", "high"] (spIsInteger K)) : FnOk P w K mg base CX0 2 f fd ["folk"] (spFaultFolkA K) := by
  refine F.ok sc_fault_of_folk (fun vs H Q E h => ?_) (fun cdv A outer s H vs Q E hr h => ?_)
  · obtain ⟨v, d, rfl, _⟩ := h
    rfl
  · obtain ⟨v, d, rfl, hd, k⟩ := h
    obtain ⟨⟨t1, e1⟩, ⟨t2, e2⟩, ⟨t3, e3⟩⟩ := N
    refine ⟨_, pss_cons (ps_if (PW.pt (pw_or (pt_cmpR op_neTy (pe_callTy call_type1 rfl B.type (by decide +kernel) (pa_cons (pv 0) pa_nil)) (pe_bltn rfl B.tuple (by decide +kernel) (v := .ty "tuple") rfl) (nomark _))
        (pw_or1 (pt_not (pt_chain op_le op_le (pe_glob rfl e1 (v := .int 2) ⟨_, rfl⟩) (pe_callB call_len (by rfl) B.len PySem.boot_len (pa_cons (pv 0) pa_nil)) (pe_glob rfl e2 (v := .int 12) ⟨_, rfl⟩)))))) (pss_one (ps_ret (pe_tup (pa_cons pe_int pa_nil)))) pss_nil)
      (pss_cons (ps_for PassesOwn.never rfl (pi_range1 rfl B.range (pa_cons (pe_callB call_len (by rfl) B.len PySem.boot_len (pa_cons (pv 0) pa_nil)) pa_nil)) (pg_name (i := 1) sc_fault_of_folk.nd rfl (Or.inl rfl))
        (pss_one (ps_if (pt_not (pt_val (pe_cal c1 hr rfl (pa_cons (pe_ix ix_tup (pv 0) (pv 1) (fun _ _ => rfl)) (pa_cons pe_int (pa_cons (pe_glob rfl e3 (v := .int 1000000) ⟨_, rfl⟩) pa_nil)))) (by intro _; rfl))) (pss_one (ps_ret (pe_tup (pa_cons pe_int (pa_cons (pv 1) pa_nil))))) pss_nil)))
      (pss_one (ps_ret pe_non))), ?_⟩
    have zero : folkF d = some [0] → ∀ p, H p = none → Q (.ref p) (upd H p (.tup [.int 0])) := fun e p hp => by
      rw [e] at k
      exact k p _ (.new hp) hp upd_same
    rcases tup_dp hd with ⟨ds, a, xs, rfl, rfl, h1, h2⟩ | ⟨T, hT, ht, hne, hno⟩
    · have hl := dpAll_len h2
      refine ⟨_, rfl, _, "tuple", rfl, .tup h1, "tuple", "tuple", rfl, rfl, by decide, by decide, false, rfl, ?_⟩
      by_cases hz2 : 2 ≤ ds.length
      · by_cases hz12 : ds.length ≤ 12
        · refine iteF ⟨_, rfl, _, ds.length, rfl, .inr ⟨_, h1, hl.symm⟩, _, _, rfl, rfl, true, ?_, iteT ⟨_, _, rfl, rfl, true, ?_, iteF ?_⟩⟩
          · show V.bl (decide _) = _
            rw [decide_eq_true (by omega)]
          · show V.bl (decide _) = _
            rw [decide_eq_true (by omega)]
          have ek : folkF (.tuple ds) = (ds.findIdx? fun x => !isIntD 0 1000000 x).map fun (k : Nat) => [0, (k : Int)] := by
            show (if 2 ≤ ds.length ∧ ds.length ≤ 12 then _ else _) = _
            rw [if_pos ⟨hz2, hz12⟩]
          rw [ek] at k
          clear zero ek
          refine ⟨_, rfl, _, ds.length, rfl, .inr ⟨_, h1, hl.symm⟩, _, rfl, by omega, by omega, ?_⟩
          rw [Int.toNat_natCast]
          refine for_range (n := ds.length) (fun i σ H2 => ∃ o, σ = [some (.ref a), o] ∧ H2 = H ∧ ∀ (j : Nat) (hj : j < ds.length), j < i → isIntD 0 1000000 ds[j] = true) ⟨_, rfl, rfl, fun j _ hj => absurd hj (Nat.not_lt_zero j)⟩ ?_ ?_
          · rintro i σ H2 hi ⟨o, rfl, rfl, hok⟩
            obtain ⟨vi, g1, g2⟩ := dpAll_get h2 (List.getElem?_eq_getElem hi)
            refine ⟨_, rfl, _, rfl, _, _, _, _, rfl, rfl, h1, by rw [Int.zero_add]; exact atI_nat g1, _, ds[i], 0, 1000000, rfl, g2, _, rfl, ?_⟩
            cases e : isIntD 0 1000000 ds[i] with
            | true =>
              refine iteF ⟨_, rfl, rfl, fun j hj hji => ?_⟩
              by_cases z : j = i
              · subst z; exact e
              · exact hok j hj (by omega)
            | false =>
              refine iteT ?_
              have ef : (ds.findIdx? fun x => !isIntD 0 1000000 x) = some i := List.findIdx?_eq_some_iff_getElem.mpr ⟨hi, by rw [e]; rfl, fun j hji => by rw [hok j (by omega) hji]; simp⟩
              rw [ef] at k
              rw [Int.zero_add]
              refine ⟨_, rfl, by show 2 ≤ sizeLine; decide, fun p hp => ?_⟩
              exact k p _ (.new hp) hp upd_same
          · rintro σ H2 ⟨o, rfl, rfl, hok⟩
            have ef : (ds.findIdx? fun x => !isIntD 0 1000000 x) = none := List.findIdx?_eq_none_iff.mpr fun x hx => by
              obtain ⟨j, hj, rfl⟩ := List.getElem_of_mem hx
              rw [hok j hj hj]
              rfl
            rw [ef] at k
            exact k
        · have e0 : folkF (.tuple ds) = some [0] := by
            show (if 2 ≤ ds.length ∧ ds.length ≤ 12 then _ else _) = _
            rw [if_neg fun z => hz12 z.2]
          refine iteF ⟨_, rfl, _, ds.length, rfl, .inr ⟨_, h1, hl.symm⟩, _, _, rfl, rfl, true, ?_, iteT ⟨_, _, rfl, rfl, false, ?_, ?_⟩⟩
          · show V.bl (decide _) = _
            rw [decide_eq_true (by omega)]
          · show V.bl (decide _) = _
            rw [decide_eq_false (by omega)]
          refine iteT ?_
          exact ⟨by show 1 ≤ sizeLine; decide, fun p hp => zero e0 p hp⟩
      · have e0 : folkF (.tuple ds) = some [0] := by
          show (if 2 ≤ ds.length ∧ ds.length ≤ 12 then _ else _) = _
          rw [if_neg fun z => hz2 z.1]
        refine iteF ⟨_, rfl, _, ds.length, rfl, .inr ⟨_, h1, hl.symm⟩, _, _, rfl, rfl, false, ?_, iteF ?_⟩
        · show V.bl (decide _) = _
          rw [decide_eq_false (by omega)]
        refine ⟨_, rfl, iteT ?_⟩
        exact ⟨by show 1 ≤ sizeLine; decide, fun p hp => zero e0 p hp⟩
    · refine ⟨_, rfl, _, T, rfl, ht, T, "tuple", rfl, rfl, hT, by decide, true, ?_, ?_⟩
      · rw [decide_eq_false hne]
        rfl
      · exact iteT (iteT ⟨by show 1 ≤ sizeLine; decide, fun p hp => zero (folkF_not hno) p hp⟩)
end
end Wd

set_option Elab.async false
set_option linter.all false
set_option maxRecDepth 100000
set_option maxHeartbeats 4000000
namespace Wd
open PySem PySem.Spec PyProof.Rows L2 Bx Gx




















































section
variable {P : Program} {w : World} {K : PySem.W.Frag} {mg : Str → Option Value} {base : Heap}
/-! ### fault_of_borders of any value -/
theorem lex2_dec (a b c d : Int) :
    Ob.lexAt (fun j => decide ([a, b].getD j 0 = [c, d].getD j 0)) (fun j => decide ([a, b].getD j 0 ≤ [c, d].getD j 0)) (decide ([a, b].length ≤ [c, d].length)) 0 (min [a, b].length [c, d].length) = decide (a < c ∨ (a = c ∧ b ≤ d)) := by
  show (if decide (a = c) = true then (if decide (b = d) = true then true else decide (b ≤ d)) else decide (a ≤ c)) = _
  by_cases e1 : a = c
  · rw [decide_eq_true e1, if_pos rfl]
    by_cases e2 : b = d
    · rw [decide_eq_true e2, if_pos rfl]
      exact (decide_eq_true (by omega)).symm
    · rw [decide_eq_false e2, if_neg Bool.false_ne_true]
      exact decide_eq_decide.mpr (by omega)
  · rw [decide_eq_false e1, if_neg Bool.false_ne_true]
    exact decide_eq_decide.mpr (by omega)
def leP : PyData → PyData → Bool
  | .tuple [.int a, .int b], .tuple [.int c, .int d] => decide (a < c ∨ (a = c ∧ b ≤ d))
  | _, _ => false
theorem bordB_ints {n : Int} {d : PyData} (h : bordB n d = true) : ∃ a b : Int, d = .tuple [.int a, .int b] ∧ 0 ≤ a ∧ a < b ∧ b < n := by
  match d with
  | .tuple [x, .int b] =>
    have h' : (isIntD 0 (n - 1) (.int b) && isIntD 0 (b - 1) x) = true := h
    obtain ⟨h1, h2⟩ := Bool.and_eq_true_iff.mp h'
    cases x with
    | int a =>
      have h1 := of_decide_eq_true h1
      have h2 := of_decide_eq_true h2
      exact ⟨a, b, rfl, h2.1, by omega, by omega⟩
    | _ => cases h2
def badB (n : Int) (ds : List PyData) (k : Nat) : Bool := !bordB n (ds.getD k .none) || (decide (0 < k) && leP (ds.getD k .none) (ds.getD (k - 1) .none))
def bordF (n : Int) : PyData → Option (List Int)
  | .tuple ds => ((List.range ds.length).find? (badB n ds)).map fun (k : Nat) => [1, (k : Int)]
  | _ => some [1]
theorem bordF_not {n : Int} {d : PyData} (h : ∀ ds, d ≠ .tuple ds) : bordF n d = some [1] := by
  cases d with
  | tuple ds => exact absurd rfl (h ds)
  | _ => rfl
def spFaultBordA (K : PySem.W.Frag) : Sp := fun vs H Q _ => ∃ (v : V) (d : PyData) (n : Int), vs = [v, .int n] ∧ Dp K H v d ∧ (∀ ds, d = .tuple ds → ds.length ≤ 100000) ∧ Gives Q H (bordF n d)
theorem ok_fault_of_bordersA {f : Addr} {fd : FuncData} (F : Fun K "fault_of_borders" "fault_of_borders" st_fault_of_borders f fd) (B : Bl mg) (c1 : Cal P w K mg base 2 "is_border" ["value", "many"] (spIsBorderA K)) : FnOk P w K mg base CX0 3 f fd ["borders", "many"] (spFaultBordA K) := by
  refine F.ok sc_fault_of_borders (fun vs H Q E h => ?_) (fun cdv A outer s H vs Q E hr h => ?_)
  · obtain ⟨v, d, n, rfl, _⟩ := h
    rfl
  · obtain ⟨v, d, n, rfl, hd, hsz, k⟩ := h
    refine ⟨_, pss_cons (ps_if (pt_cmpR op_neTy (pe_callTy call_type1 rfl B.type (by decide +kernel) (pa_cons (pv 0) pa_nil)) (pe_bltn rfl B.tuple (by decide +kernel) (v := .ty "tuple") rfl) (nomark _)) (pss_one (ps_ret (pe_tup (pa_cons pe_int pa_nil)))) pss_nil)
      (pss_cons (ps_for PassesOwn.never rfl (pi_range1 rfl B.range (pa_cons (pe_callB call_len (by rfl) B.len PySem.boot_len (pa_cons (pv 0) pa_nil)) pa_nil)) (pg_name (i := 2) sc_fault_of_borders.nd rfl (Or.inl rfl))
        (pss_cons (ps_if (pt_not (pt_val (pe_cal c1 hr rfl (pa_cons (pe_ix ix_tup (pv 0) (pv 2) (fun _ _ => rfl)) (pa_cons (pv 1) pa_nil))) (by intro _; rfl))) (pss_one (ps_ret (pe_tup (pa_cons pe_int (pa_cons (pv 2) pa_nil))))) pss_nil)
        (pss_one (ps_if (PW.pt (pw_and (pt_cmpR op_gt (pv 2) pe_int (nomark _)) (pw_and1 (pt_cmpR (op_leT hr.units0) (pe_ix ix_tup (pv 0) (pv 2) (fun _ _ => rfl)) (pe_ix ix_tup (pv 0) (pe_op op_sub (pv 2) pe_int) (fun _ _ => rfl)) (nomark _))))) (pss_one (ps_ret (pe_tup (pa_cons pe_int (pa_cons (pv 2) pa_nil))))) pss_nil))))
      (pss_one (ps_ret pe_non))), ?_⟩
    rcases tup_dp hd with ⟨ds, a, xs, rfl, rfl, h1, h2⟩ | ⟨T, hT, ht, hne, hno⟩
    · have hl := dpAll_len h2
      have hsz := hsz ds rfl
      have k : Gives Q H (((List.range ds.length).find? (badB n ds)).map fun (k : Nat) => [1, (k : Int)]) := k
      refine ⟨_, rfl, _, "tuple", rfl, .tup h1, "tuple", "tuple", rfl, rfl, by decide, by decide, false, rfl, iteF ?_⟩
      refine ⟨_, rfl, _, ds.length, rfl, .inr ⟨_, h1, hl.symm⟩, _, rfl, by omega, by omega, ?_⟩
      rw [Int.toNat_natCast]
      have out : ∀ i, i < ds.length → (∀ j, j < i → badB n ds j = false) → badB n ds i = true → ∀ p, H p = none → Q (.ref p) (upd H p (.tup [.int 1, .int (i : Int)])) := fun i hi hok hb p hp => by
        have ef : (List.range ds.length).find? (badB n ds) = some i := List.find?_range_eq_some.mpr ⟨hb, List.mem_range.mpr hi, fun j hj => by rw [hok j hj]; rfl⟩
        rw [ef] at k
        exact k p _ (.new hp) hp upd_same
      refine for_range (n := ds.length) (fun i σ H2 => ∃ o, σ = [some (.ref a), some (.int n), o] ∧ H2 = H ∧ ∀ j, j < i → badB n ds j = false) ⟨_, rfl, rfl, fun j hj => absurd hj (Nat.not_lt_zero j)⟩ ?_ ?_
      · rintro i σ H2 hi ⟨o, rfl, rfl, hok⟩
        obtain ⟨vi, g1, g2⟩ := dpAll_get h2 (List.getElem?_eq_getElem hi)
        have egi : ds.getD i .none = ds[i] := by rw [List.getD_eq_getElem?_getD, List.getElem?_eq_getElem hi]; rfl
        refine ⟨_, rfl, _, rfl, _, _, _, _, rfl, rfl, h1, by rw [Int.zero_add]; exact atI_nat g1, _, rfl, _, ds[i], n, rfl, g2, _, rfl, ?_⟩
        cases e : bordB n ds[i] with
        | false =>
          refine iteT ?_
          have hb : badB n ds i = true := by unfold badB; rw [egi, e]; rfl
          rw [Int.zero_add]
          exact ⟨_, rfl, by show 2 ≤ sizeLine; decide, fun p hp => out i hi hok hb p hp⟩
        | true =>
          refine iteF ?_
          obtain ⟨x, y, ed, hx1, hx2, hx3⟩ := bordB_ints e
          refine ⟨_, rfl, _, _, rfl, rfl, decide (0 < i), ?_, ?_⟩
          · show V.bl (decide ((0 : Int) < (0 : Int) + (i : Int))) = _
            congr 1
            apply decide_eq_decide.mpr
            omega
          by_cases hi0 : 0 < i
          · rw [decide_eq_true hi0]
            refine iteT ?_
            have hi1 : i - 1 < ds.length := by omega
            obtain ⟨vj, g3, g4⟩ := dpAll_get h2 (List.getElem?_eq_getElem hi1)
            have egj : ds.getD (i - 1) .none = ds[i - 1] := by rw [List.getD_eq_getElem?_getD, List.getElem?_eq_getElem hi1]; rfl
            have eb : bordB n ds[i - 1] = true := by
              have := hok (i - 1) (by omega)
              unfold badB at this
              rw [egj] at this
              cases q : bordB n ds[i - 1] with
              | true => rfl
              | false => rw [q] at this; cases this
            obtain ⟨x', y', ed', _⟩ := bordB_ints eb
            have q1 : ∃ t, vi = .ref t ∧ SqT K H2 t ([x, y].map V.int) := by
              rw [ed] at g2
              obtain ⟨t, rfl, q⟩ := dp_ints (ns := [x, y]) g2
              exact ⟨t, rfl, q⟩
            have q2 : ∃ t, vj = .ref t ∧ SqT K H2 t ([x', y'].map V.int) := by
              rw [ed'] at g4
              obtain ⟨t, rfl, q⟩ := dp_ints (ns := [x', y']) g4
              exact ⟨t, rfl, q⟩
            obtain ⟨t, rfl, q1⟩ := q1
            obtain ⟨t', rfl, q2⟩ := q2
            have hbb : badB n ds i = decide (x < x' ∨ (x = x' ∧ y ≤ y')) := by
              unfold badB
              rw [egi, egj, e, ed, ed', decide_eq_true hi0]
              rfl
            refine ⟨_, rfl, _, rfl, _, _, _, _, rfl, rfl, h1, by rw [Int.zero_add]; exact atI_nat g1, _, rfl, _, rfl, _, _, rfl, rfl, _, _, _, _, rfl, rfl, h1, (by
              have e : (0 : Int) + (i : Int) - 1 = ((i - 1 : Nat) : Int) := by omega
              rw [e]; exact atI_nat g3), t, t', [x, y], [x', y'], rfl, rfl, q1, q2, badB n ds i, ?_, ?_⟩
            · congr 1
              rw [lex2_dec, hbb]
            cases eq : badB n ds i with
            | true =>
              refine iteT ?_
              rw [Int.zero_add]
              exact ⟨_, rfl, by show 2 ≤ sizeLine; decide, fun p hp => out i hi hok eq p hp⟩
            | false =>
              refine iteF ⟨_, rfl, rfl, fun j hj => ?_⟩
              by_cases z : j = i
              · rw [z]; exact eq
              · exact hok j (by omega)
          · rw [decide_eq_false hi0]
            refine iteF (iteF ⟨_, rfl, rfl, fun j hj => ?_⟩)
            have z : j = i := by omega
            rw [z]
            unfold badB
            rw [egi, e, decide_eq_false hi0]
            rfl
      · rintro σ H2 ⟨o, rfl, rfl, hok⟩
        have ef : (List.range ds.length).find? (badB n ds) = none := List.find?_range_eq_none.mpr fun j hj => by rw [hok j hj]; rfl
        rw [ef] at k
        exact k
    · rw [bordF_not hno] at k
      refine ⟨_, rfl, _, T, rfl, ht, T, "tuple", rfl, rfl, hT, by decide, true, ?_, ?_⟩
      · rw [decide_eq_false hne]
        rfl
      · exact iteT ⟨by show 1 ≤ sizeLine; decide, fun p hp => k p _ (.new hp) hp upd_same⟩
end
section
variable {P : Program} {w : World} {K : PySem.W.Frag} {mg : Str → Option Value} {base : Heap}
/-! ### fault_of_land, land_fault, is_land of any value -/
def lenD : PyData → Int
  | .tuple ds => (ds.length : Int)
  | _ => 0
def landF : PyData → Option (List Int)
  | .tuple [x, y] => match folkF x with
    | some l => some l
    | none => bordF (lenD x) y
  | _ => some []
theorem landF_not {d : PyData} (h : ∀ ds, d ≠ .tuple ds) : landF d = some [] := by
  cases d with
  | tuple ds => exact absurd rfl (h ds)
  | _ => rfl
theorem landF_len {ds : List PyData} (h : ds.length ≠ 2) : landF (.tuple ds) = some [] := by
  match ds, h with
  | [], _ => rfl
  | [_], _ => rfl
  | [_, _], h => exact absurd rfl h
  | _ :: _ :: _ :: _, _ => simp [landF]
/-- no tuple within is longer than n -/
def shortD (n : Nat) (d : PyData) : Prop := ∀ x y, d = .tuple [x, y] → ∀ ds, y = .tuple ds → ds.length ≤ n
def spFaultLandA (K : PySem.W.Frag) : Sp := fun vs H Q _ => ∃ (v : V) (d : PyData), vs = [v] ∧ Dp K H v d ∧ shortD 100000 d ∧ Gives Q H (landF d)
theorem ok_fault_of_landA {f : Addr} {fd : FuncData} (F : Fun K "fault_of_land" "fault_of_land" st_fault_of_land f fd) (B : Bl mg) (c1 : Cal P w K mg base 2 "fault_of_folk" ["folk"] (spFaultFolkA K)) (c2 : Cal P w K mg base 3 "fault_of_borders" ["borders", "many"] (spFaultBordA K)) : FnOk P w K mg base CX0 4 f fd ["value"] (spFaultLandA K) := by
  refine F.ok sc_fault_of_land (fun vs H Q E h => ?_) (fun cdv A outer s H vs Q E hr h => ?_)
  · obtain ⟨v, d, rfl, _⟩ := h
    rfl
  · obtain ⟨v, d, rfl, hd, hsz, k⟩ := h
    refine ⟨_, pss_cons (ps_if (PW.pt (pw_or (pt_cmpR op_neTy (pe_callTy call_type1 rfl B.type (by decide +kernel) (pa_cons (pv 0) pa_nil)) (pe_bltn rfl B.tuple (by decide +kernel) (v := .ty "tuple") rfl) (nomark _))
        (pw_or1 (pt_cmpR op_ne (pe_callB call_len (by rfl) B.len PySem.boot_len (pa_cons (pv 0) pa_nil)) pe_int (nomark _))))) (pss_one (ps_ret (pe_tup pa_nil))) pss_nil)
      (pss_cons (ps_asg (pv 0) (pg_tup rfl (pgs_cons (pg_name (i := 1) sc_fault_of_land.nd rfl (Or.inl rfl)) (pgs_cons (pg_name (i := 2) sc_fault_of_land.nd rfl (Or.inl rfl)) pgs_nil))))
      (pss_cons (ps_set (i := 3) sc_fault_of_land.nd rfl (Or.inl rfl) (pe_cal c1 (hr.mono (by decide)) rfl (pa_cons (pv 1) pa_nil)))
      (pss_cons (ps_if (pt_cmpR op_isN (pv 3) pe_non (nomark _)) (pss_one (ps_set (i := 3) sc_fault_of_land.nd rfl (Or.inl rfl) (pe_cal c2 hr rfl (pa_cons (pv 2) (pa_cons (pe_callB call_len (by rfl) B.len PySem.boot_len (pa_cons (pv 1) pa_nil)) pa_nil))))) pss_nil)
      (pss_one (ps_ret (pv 3)))))), ?_⟩
    have non : landF d = some [] → ∀ p, H p = none → Q (.ref p) (upd H p (.tup [])) := fun e p hp => by
      rw [e] at k
      exact k p _ (.new hp) hp upd_same
    rcases tup_dp hd with ⟨ds, a, xs, rfl, rfl, h1, h2⟩ | ⟨T, hT, ht, hne, hno⟩
    · have hl := dpAll_len h2
      refine ⟨_, rfl, _, "tuple", rfl, .tup h1, "tuple", "tuple", rfl, rfl, by decide, by decide, false, rfl, ?_⟩
      refine iteF ⟨_, rfl, _, ds.length, rfl, .inr ⟨_, h1, hl.symm⟩, rfl, _, rfl, ?_⟩
      show if (!decide (V.int (ds.length : Int) = V.int 2)) = true then _ else _
      by_cases hz : ds.length = 2
      · rw [hz]
        refine iteF ?_
        obtain ⟨x, y, vx, vy, rfl, rfl, hx, hy⟩ := dp_two hz h2
        clear non
        refine ⟨_, rfl, a, _, rfl, h1, rfl, _, _, rfl, _, _, rfl, rfl, ?_⟩
        refine ⟨_, rfl, vx, x, rfl, hx, ?_⟩
        cases e : folkF x with
        | some l =>
          have ek : landF (.tuple [x, y]) = some l := by simp [landF, e]
          rw [ek] at k
          intro q H' x' hq0 hq
          refine ⟨_, rfl, rfl, false, rfl, iteF ?_⟩
          exact ⟨_, rfl, k q H' x' hq0 hq⟩
        | none =>
          have ek : landF (.tuple [x, y]) = bordF (lenD x) y := by simp [landF, e]
          rw [ek] at k
          have hxt : ∃ ds b zs, x = .tuple ds ∧ vx = .ref b ∧ SqT K H b zs ∧ zs.length = ds.length := by
            rcases tup_dp hx with ⟨ds, b, zs, e1, e2, e3, e4⟩ | ⟨_, _, _, _, hno⟩
            · exact ⟨ds, b, zs, e1, e2, e3, dpAll_len e4⟩
            · rw [folkF_not hno] at e
              cases e
          obtain ⟨ds, b, zs, rfl, rfl, h5, h6⟩ := hxt
          refine ⟨_, rfl, rfl, true, rfl, iteT ?_⟩
          refine ⟨_, rfl, _, rfl, _, ds.length, rfl, .inr ⟨_, h5, h6.symm⟩, vy, y, (ds.length : Int), rfl, hy, hsz _ y rfl, ?_⟩
          have k : Gives Q H (bordF (ds.length : Int) y) := k
          cases e2 : bordF (ds.length : Int) y with
          | none =>
            rw [e2] at k
            exact ⟨_, rfl, k⟩
          | some l =>
            rw [e2] at k
            intro q H' x' hq0 hq
            exact ⟨_, rfl, k q H' x' hq0 hq⟩
      · have e1 : (!decide (V.int (ds.length : Int) = V.int 2)) = true := by
          rw [decide_eq_false]
          · rfl
          · intro z
            injection z with z
            exact hz (by omega)
        rw [e1]
        refine iteT ?_
        exact ⟨Nat.zero_le _, fun p hp => non (landF_len hz) p hp⟩
    · refine ⟨_, rfl, _, T, rfl, ht, T, "tuple", rfl, rfl, hT, by decide, true, ?_, ?_⟩
      · rw [decide_eq_false hne]
        rfl
      · exact iteT (iteT ⟨Nat.zero_le _, fun p hp => non (landF_not hno) p hp⟩)
end
end Wd

set_option Elab.async false
set_option linter.all false
set_option maxRecDepth 100000
set_option maxHeartbeats 4000000
/-! Ly: what the laws' own steps want: heaps that change at some lists alone; membership in tuples of data. -/
namespace Bx
open PySem PySem.Spec PyProof.Rows L2
section
variable {X : Cx}
def rInDT (K : PySem.W.Frag) (neg : Bool) : R2 := fun x y H Q => ∃ d ds, Dp K H x d ∧ Dp K H y (.tuple ds) ∧ SeqAt.shaped d = true ∧ SeqAt.shaped (.tuple ds) = true ∧ Q (.bl (neg ^^ (ds.any fun z => PyData.eqv z d))) H
theorem op_inDT (hu : X.A.units + 65 < cLine) : OpR X (compareOp .In) (rInDT X.K false) := by
  intro pins s σ H x y v u Q I rx ry h
  obtain ⟨d, ds, hd, he, sd, se, q⟩ := h
  obtain ⟨as, r1⟩ := Dp.reads I d x v hd rx
  obtain ⟨bs, r2⟩ := Dp.reads I (.tuple ds) y u he ry
  refine SeqAt.in_tuple_reads r2 r1 (SeqAt.canLay_of_shaped se) (SeqAt.canLay_of_shaped sd) (PyProof.Rows.room_in_shaped sd hu) ⟨.bl (ds.any fun y => y.eqv d), H, I, rfl, ?_⟩
  rw [Bool.false_xor] at q
  exact q
end
def isLs : HO → Prop
  | .lst _ => True
  | _ => False
/-- the heap has grown, tables and the lists at S may hold other things -/
structure ExtS (S : List Addr) (H H' : Hp) : Prop where
  keep : ∀ b o, H b = some o → ¬ isTbl o → (isLs o → b ∉ S) → H' b = some o
  tabs : ∀ P, Gx.TabG H P → Gx.TabG H' P
  live : ∀ b o, H b = some o → ∃ o', H' b = some o'
theorem ExtS.of {S : List Addr} {H H' : Hp} (x : Ext H H') : ExtS S H H' := ⟨fun b o e n _ => x.keep b o e n, x.tabs, x.live⟩
theorem ExtS.refl (S : List Addr) (H : Hp) : ExtS S H H := .of (.refl H)
theorem ExtS.trans {S : List Addr} {H H1 H2 : Hp} (a : ExtS S H H1) (b : ExtS S H1 H2) : ExtS S H H2 :=
  ⟨fun c o e n m => b.keep c o (a.keep c o e n m) n m, fun P t => b.tabs P (a.tabs P t), fun c o e => let ⟨o1, e1⟩ := a.live c o e; b.live c o1 e1⟩
theorem ExtS.new {S : List Addr} {H : Hp} {p : Addr} {o : HO} (h : H p = none) : ExtS S H (upd H p o) := .of (.new h)
theorem ExtS.free {S : List Addr} {H H' : Hp} (x : ExtS S H H') {p : Addr} (h : H' p = none) : H p = none := by
  cases e : H p with
  | none => rfl
  | some o =>
    obtain ⟨o', e'⟩ := x.live p o e
    rw [h] at e'
    cases e'
/-- a list of S, or one that was not there ahead, is written -/
theorem ExtS.write {S : List Addr} {H H' : Hp} {p : Addr} {o : HO} (x : ExtS S H H') (h : H p = none ∨ (p ∈ S ∧ ∃ xs, H p = some (.lst xs))) : ExtS S H (upd H' p o) := by
  refine ⟨fun b u e n m => ?_, fun Q hQ => ?_, fun b u e => ?_⟩
  · by_cases hb : b = p
    · subst hb
      rcases h with h | ⟨h1, xs, h2⟩
      · rw [h] at e; cases e
      · rw [h2] at e
        cases e
        exact absurd h1 (m trivial)
    · rw [upd_ne hb]
      exact x.keep b u e n m
  · obtain ⟨ps, e, k⟩ := x.tabs Q hQ
    obtain ⟨ps0, e0, _⟩ := hQ
    have hb : Q ≠ p := by
      intro e1
      subst e1
      rcases h with h | ⟨_, xs, h2⟩
      · rw [h] at e0; cases e0
      · rw [h2] at e0; cases e0
    exact ⟨ps, by rw [upd_ne hb]; exact e, k⟩
  · by_cases hb : b = p
    · exact ⟨o, by rw [hb, upd_same]⟩
    · rw [upd_ne hb]
      exact x.live b u e
theorem ExtS.rd {S : List Addr} {H H' : Hp} (x : ExtS S H H') {a : Addr} {u : HO} (n : ¬ isTbl u) (l : ¬ isLs u) (h : Rd H a u) : Rd H' a u := by
  rcases h with h | ⟨o, h⟩
  · exact .inl (x.keep a u h n fun z => absurd z l)
  · exact .inr ⟨o, x.keep a _ h (fun z => z) fun z => z.elim⟩
theorem ExtS.sqT {S : List Addr} {K : PySem.W.Frag} {H H' : Hp} (x : ExtS S H H') {a : Addr} {xs : List V} (h : SqT K H a xs) : SqT K H' a xs := h.elim (fun z => .inl (x.rd (fun z => z) (fun z => z) z)) .inr
theorem ExtS.lst {S : List Addr} {H H' : Hp} (x : ExtS S H H') {a : Addr} {xs : List V} (n : a ∉ S) (h : H a = some (.lst xs)) : H' a = some (.lst xs) := x.keep a _ h (fun z => z) fun _ => n
theorem ExtS.tup {S : List Addr} {H H' : Hp} (x : ExtS S H H') {a : Addr} {xs : List V} (h : H a = some (.tup xs)) : H' a = some (.tup xs) := x.keep a _ h (fun z => z) fun z => z.elim
theorem ExtS.dT {S : List Addr} {H H' : Hp} (x : ExtS S H H') {a : Addr} {xs : List (List L2.Key × V)} (h : H a = some (.dT xs)) : H' a = some (.dT xs) := x.keep a _ h (fun z => z) fun z => z.elim
mutual
/-- data without a list in it -/
def noL : PyData → Bool
  | .list _ => false
  | .tuple ds => noLs ds
  | _ => true
def noLs : List PyData → Bool
  | [] => true
  | d :: ds => noL d && noLs ds
end
theorem noLs_map {α : Type} (f : α → PyData) (h : ∀ x, noL (f x) = true) : ∀ xs : List α, noLs (xs.map f) = true
  | [] => rfl
  | x :: xs => by rw [List.map_cons, noLs, h, noLs_map f h xs]; rfl
mutual
theorem dp_extS {S : List Addr} {K : PySem.W.Frag} {H H' : Hp} (x : ExtS S H H') : ∀ {v : V} {d : PyData}, noL d = true → Dp K H v d → Dp K H' v d
  | _, _, _, .non => .non
  | _, _, _, .bl b => .bl b
  | _, _, _, .int i => .int i
  | _, _, _, .str z => .str z
  | _, _, n, .lst h hs => absurd n (by simp [noL])
  | _, _, n, .tup h hs => .tup (x.sqT h) (dpAll_extS x (by simpa [noL] using n) hs)
theorem dpAll_extS {S : List Addr} {K : PySem.W.Frag} {H H' : Hp} (x : ExtS S H H') : ∀ {vs : List V} {ds : List PyData}, noLs ds = true → DpAll K H vs ds → DpAll K H' vs ds
  | _, _, _, .nil => .nil
  | _, _, n, .cons h hs => .cons (dp_extS x (Bool.and_eq_true_iff.mp (by simpa [noLs] using n)).1 h) (dpAll_extS x (Bool.and_eq_true_iff.mp (by simpa [noLs] using n)).2 hs)
end
theorem depthAll_le {n : Nat} : ∀ {ds : List PyData}, (∀ d ∈ ds, d.depth ≤ n) → PyData.depthAll ds ≤ n
  | [], _ => by simp [PyData.depthAll]
  | d :: ds, h => by
    have ih := depthAll_le (n := n) (ds := ds) fun x hx => h x (List.mem_cons_of_mem _ hx)
    have h1 := h d List.mem_cons_self
    simp [PyData.depthAll]
    omega
theorem canLayAll_of : ∀ {ds : List PyData}, (∀ d ∈ ds, d.canLay0 = true) → PyData.canLayAll0 ds = true
  | [], _ => by simp [PyData.canLayAll0]
  | d :: ds, h => by
    have ih := canLayAll_of (ds := ds) fun x hx => h x (List.mem_cons_of_mem _ hx)
    have h1 := h d List.mem_cons_self
    simp [PyData.canLayAll0, ih, h1]
structure Sh (n : Nat) (d : PyData) : Prop where
  lay : d.canLay0 = true
  dep : d.depth ≤ n
theorem Sh.int (n : Nat) (i : Int) : Sh (n + 1) (.int i) := ⟨by simp [PyData.canLay0], by simp [PyData.depth]⟩
theorem Sh.tup {n : Nat} {ds : List PyData} (h : ∀ d ∈ ds, Sh n d) : Sh (n + 1) (.tuple ds) := ⟨by
  have := canLayAll_of fun d hd => (h d hd).lay
  simp [PyData.canLay0, this], by
  have := depthAll_le fun d hd => (h d hd).dep
  simp [PyData.depth]; omega⟩
theorem Sh.lst {n : Nat} {ds : List PyData} (h : ∀ d ∈ ds, Sh n d) : Sh (n + 1) (.list ds) := ⟨by
  have := canLayAll_of fun d hd => (h d hd).lay
  simp [PyData.canLay0, this], by
  have := depthAll_le fun d hd => (h d hd).dep
  simp [PyData.depth]; omega⟩
theorem Sh.shaped {n : Nat} {d : PyData} (h : Sh n d) (hn : n ≤ 64) : SeqAt.shaped d = true := by
  unfold SeqAt.shaped
  rw [h.lay, decide_eq_true (by have := h.dep; omega)]
  rfl
theorem Sh.ints {n : Nat} (xs : List Int) : Sh (n + 2) (.list (xs.map .int)) := .lst fun d hd => by
  obtain ⟨i, _, rfl⟩ := List.mem_map.mp hd
  exact .int _ i
theorem Sh.intsT {n : Nat} (xs : List Int) : Sh (n + 2) (.tuple (xs.map .int)) := .tup fun d hd => by
  obtain ⟨i, _, rfl⟩ := List.mem_map.mp hd
  exact .int _ i
theorem eqv_nil (xs : List PyData) : PyData.eqv (.list xs) (.list []) = xs.isEmpty := by
  cases xs <;> simp [PyData.eqv, PyData.eqvAll]
theorem eqv_nilT (xs : List PyData) : PyData.eqv (.tuple xs) (.tuple []) = xs.isEmpty := by
  cases xs <;> simp [PyData.eqv, PyData.eqvAll]
theorem via {T : TS} {D : L2.Ends} {σ : L2.St} {H : Hp} (Pz : L2.St → Hp → Prop) (h1 : ∀ σ H, Pz σ H → D.nx σ H) (h2 : ∀ nx : L2.St → Hp → Prop, (∀ σ H, Pz σ H → nx σ H) → T { D with nx := nx } σ H) : T D σ H := h2 D.nx h1
theorem u65 {k : Nat} {A : Around} (h : Room k A) : A.units + 65 < cLine := by
  have := h.un
  omega
theorem op_inDTK {X : Cx} {K : PySem.W.Frag} (h : X.K = K) (hu : X.A.units + 65 < cLine) : OpR X (compareOp .In) (rInDT K false) := h ▸ op_inDT hu
theorem op_inK {X : Cx} {K : PySem.W.Frag} (h : X.K = K) : OpR X (compareOp .In) (rIn K false) := h ▸ op_in_seq
theorem op_notInK {X : Cx} {K : PySem.W.Frag} (h : X.K = K) : OpR X (compareOp .NotIn) (rIn K true) := h ▸ op_notIn_seq
theorem op_neDK {X : Cx} {K : PySem.W.Frag} (h : X.K = K) (hu : X.A.units + 64 < cLine) : OpR X (compareOp .NotEq) (rNeD K) := h ▸ op_neD hu
theorem op_eqDK {X : Cx} {K : PySem.W.Frag} (h : X.K = K) (hu : X.A.units + 64 < cLine) : OpR X (compareOp .Eq) (rEqD K) := h ▸ op_eqD hu
theorem cr_sortedK {X : Cx} {K : PySem.W.Frag} (h : X.K = K) : CallR X (.builtin "sorted") (rSorted K) := h ▸ cr_sorted
theorem pe_tupleOfK {X : Cx} {K : PySem.W.Frag} {a : Expr} {ta : TE} {p pos : Pos} (h : X.K = K) (hg : Gl X "tuple") (hm : X.mg "tuple" = none) (ha : PE X a ta) (na : starEach [a] X.env = (false, eval a X.env) :: starEach [] X.env := by rfl) : PE X (.Call (.Name "tuple" p) [a] [] pos) (tThen ta (kTup K)) := h ▸ pe_tupleOf hg hm ha na
theorem pg_tupK {X : Cx} {K : PySem.W.Frag} {pos : Pos} {es : List Expr} {k : Nat} {t : TGs} {n : Nat} (h : X.K = K) (hc : X.calm = true) (ht : PGs X es t) (h1 : (assignEach es X.env).length = n := by rfl) (h2 : List.findIdx? (fun x => x.fst) (assignEach es X.env) = none := by rfl) : PG X (.Tuple es k pos) (L2.gTup K n t) := h ▸ pg_tup hc ht h1 h2
end Bx

set_option Elab.async false
set_option linter.all false
set_option maxRecDepth 100000
set_option maxHeartbeats 4000000
namespace Wd
open PySem PySem.Spec PyProof.Rows L2 Bx Gx




















































section
variable {P : Program} {w : World} {K : PySem.W.Frag} {mg : Str → Option Value} {base : Heap}
/-! ### land_fault, is_land, is_lot of any value -/
def spIsLandA (K : PySem.W.Frag) : Sp := fun vs H Q _ => ∃ (v : V) (d : PyData), vs = [v] ∧ Dp K H v d ∧ shortD 100000 d ∧ ∀ H', Ext H H' → Q (.bl (landF d).isNone) H'
/-- the int that a value is -/
def intD : PyData → Int
  | .int i => i
  | _ => 0
theorem ints_of_all {lo hi : Int} : ∀ {ds : List PyData}, (ds.all fun x => isIntD lo hi x) = true → ds = (ds.map intD).map .int
  | [], _ => rfl
  | d :: ds, h => by
    rw [List.all_cons, Bool.and_eq_true] at h
    rw [List.map_cons, List.map_cons, ← ints_of_all h.2]
    cases d with
    | int i => rfl
    | _ => cases h.1
def lotB (n : Nat) : PyData → Bool
  | .tuple ds => !ds.isEmpty && (ds.all fun x => isIntD 0 ((n : Int) - 1) x) && asc (ds.map intD)
  | _ => false
theorem lotB_not {n : Nat} {d : PyData} (h : ∀ ds, d ≠ .tuple ds) : lotB n d = false := by
  cases d with
  | tuple ds => exact absurd rfl (h ds)
  | _ => rfl
theorem all_range_getD' (ds : List PyData) (f : PyData → Bool) : (List.range ds.length).all (fun i => f (ds.getD i .none)) = ds.all f := by
  induction ds with
  | nil => rfl
  | cons p r ih =>
    rw [List.length_cons, List.range_succ_eq_map, List.all_cons, List.all_map, List.all_cons, ← ih]
    rfl
/-- a lot's places -/
def natsD : PyData → List Nat
  | .tuple ds => ds.map fun x => (intD x).toNat
  | _ => []
theorem lotB_ok {n : Nat} {d : PyData} (h : lotB n d = true) : d = lotD (natsD d) ∧ LotOk n (natsD d) := by
  cases d with
  | tuple ds =>
    have h' : (!ds.isEmpty && (ds.all fun x => isIntD 0 ((n : Int) - 1) x) && asc (ds.map intD)) = true := h
    rw [Bool.and_eq_true, Bool.and_eq_true] at h'
    obtain ⟨⟨h1, h2⟩, h3⟩ := h'
    have hmem : ∀ x ∈ ds, ∃ i : Int, x = .int i ∧ 0 ≤ i ∧ i ≤ (n : Int) - 1 := fun x hx => by
      have := List.all_eq_true.mp h2 x hx
      cases x with
      | int i => exact ⟨i, rfl, (of_decide_eq_true this).1, (of_decide_eq_true this).2⟩
      | _ => cases this
    refine ⟨?_, ?_, ?_, ?_⟩
    · show PyData.tuple ds = .tuple ((ds.map fun x => (intD x).toNat).map fun (p : Nat) => .int (p : Int))
      rw [List.map_map]
      congr 1
      refine (List.map_id ds).symm.trans (List.map_congr_left fun x hx => ?_)
      obtain ⟨i, rfl, h0, _⟩ := hmem x hx
      show PyData.int i = .int ((i.toNat : Nat) : Int)
      rw [Int.toNat_of_nonneg h0]
    · intro e
      have e : (ds.map fun x => (intD x).toNat) = [] := e
      rw [List.map_eq_nil_iff] at e
      rw [e] at h1
      cases h1
    · intro p hp
      obtain ⟨x, hx, rfl⟩ := List.mem_map.mp (show p ∈ ds.map fun x => (intD x).toNat from hp)
      obtain ⟨i, rfl, h0, hi⟩ := hmem x hx
      show i.toNat < n
      omega
    · show (ds.map fun x => (intD x).toNat).Pairwise (· < ·)
      have h4 := asc_pair h3
      rw [List.pairwise_map] at h4 ⊢
      refine h4.imp_of_mem fun {x y} hx hy z => ?_
      obtain ⟨i, rfl, h0, _⟩ := hmem x hx
      obtain ⟨j, rfl, h5, _⟩ := hmem y hy
      have z : i < j := z
      show i.toNat < j.toNat
      omega
  | _ => cases h
theorem lotB_is {n : Nat} {ps : List Nat} (h : LotOk n ps) : lotB n (lotD ps) = true := by
  show (!(ps.map fun (p : Nat) => PyData.int (p : Int)).isEmpty && ((ps.map fun (p : Nat) => PyData.int (p : Int)).all fun x => isIntD 0 ((n : Int) - 1) x) && asc ((ps.map fun (p : Nat) => PyData.int (p : Int)).map intD)) = true
  have e1 : (ps.map fun (p : Nat) => PyData.int (p : Int)).isEmpty = false := by
    cases ps with
    | nil => exact absurd rfl h.ne
    | cons _ _ => rfl
  have e2 : ((ps.map fun (p : Nat) => PyData.int (p : Int)).all fun x => isIntD 0 ((n : Int) - 1) x) = true := List.all_eq_true.mpr fun x hx => by
    obtain ⟨p, hp, rfl⟩ := List.mem_map.mp hx
    have := h.lt p hp
    exact decide_eq_true (by omega)
  have e3 : asc ((ps.map fun (p : Nat) => PyData.int (p : Int)).map intD) = true := pair_asc (by
    rw [List.map_map, List.pairwise_map]
    exact h.asc.imp fun z => by show ((_ : Nat) : Int) < ((_ : Nat) : Int); omega)
  rw [e1, e2, e3]
  rfl
def spIsLotA (K : PySem.W.Frag) (T1 T2 : Addr) : Sp := fun vs H Q _ => ∃ (l v : V) (fs : List Int) (bd d : PyData), vs = [l, v] ∧ Dp K H l (.tuple [.tuple (fs.map .int), bd]) ∧ fs.length ≤ 100 ∧ Dp K H v d ∧ (∀ ds, d = .tuple ds → ds.length ≤ 6000) ∧
  TabG H T1 ∧ TabG H T2 ∧ ∀ H', Ext H H' → Q (.bl (lotB fs.length d)) H'
theorem ok_is_lotA {f c T1 T2 : Addr} {fd : FuncData} (F : FunC K "is_lot" "is_lot" st_is_lot f fd c) (TB : TabB base mg c T1) (B : Bl mg) (c1 : Cal P w K mg base 2 "is_place" ["land", "value"] (spIsPlace K))
    (c2 : Cal P w K mg base 4 "is_ascending" ["row"] (spIsAscending K T2)) : FnOk P w K mg base CX0 6 f fd ["land", "value"] (spIsLotA K T1 T2) := by
  refine F.ok sc_is_lot (fun vs H Q E h => ?_) (fun A outer s H vs Q E hr h => ?_)
  · obtain ⟨l, v, fs, bd, d, rfl, _⟩ := h
    rfl
  · obtain ⟨l, v, fs, bd, d, rfl, hl, hn, hd, hz, hT1, hT2, k⟩ := h
    refine ⟨_, pss_cons (ps_if (PW.pt (pw_or (pt_cmpR op_neTy (pe_callTy call_type1 rfl B.type (by decide +kernel) (pa_cons (pv 1) pa_nil)) (pe_bltn rfl B.tuple (by decide +kernel) (v := .ty "tuple") rfl) (nomark _))
        (pw_or1 (pt_cmpR op_eq (pe_callB call_len (by rfl) B.len PySem.boot_len (pa_cons (pv 1) pa_nil)) pe_int (nomark _))))) (pss_one (ps_ret pe_bl)) pss_nil)
      (pss_one (ps_ret (pe_and (pe_gall (k := 3) (N := ["place", "land"]) (src := [none, some 0]) (vs := [0])
        ⟨fun B s H fp code hB => pg_name (i := 0) (by decide +kernel : (["place", "land"] : List Str).Nodup) rfl (Or.inl rfl), fun B s H fp code hB => pts_nil, fun B s H fp code hB => pe_cal c1 (hB.deeper _) rfl (pa_cons (pv 1) (pa_cons (pv 0) pa_nil))⟩
        hr rfl B.all TB rfl (gOk (ND := ["land", "value"]) (sc := defScope st_is_lot) (by decide +kernel)) (pi_tup (pv 1)))
        (pe_one (pe_cal c2 (hr.mono (by decide)) rfl (pa_cons (pv 1) pa_nil)))))), ?_⟩
    rcases tup_dp hd with ⟨ds, a, xs, rfl, rfl, h1, h2⟩ | ⟨T, hT, ht, hne, hno⟩
    · have hlen := dpAll_len h2
      have hz := hz ds rfl
      refine ⟨_, rfl, _, "tuple", rfl, .tup h1, "tuple", "tuple", rfl, rfl, by decide, by decide, false, rfl, ?_⟩
      refine iteF ⟨_, rfl, _, ds.length, rfl, .inr ⟨_, h1, hlen.symm⟩, rfl, _, rfl, ?_⟩
      have ek : lotB fs.length (.tuple ds) = (!ds.isEmpty && (ds.all fun x => isIntD 0 ((fs.length : Int) - 1) x) && asc (ds.map intD)) := rfl
      rw [ek] at k
      by_cases he : ds = []
      · subst he
        refine iteT ?_
        exact k H (Ext.refl H)
      · have hne : decide (V.int (ds.length : Int) = V.int 0) = false := by
          apply decide_eq_false
          intro z
          injection z with z
          exact he (List.length_eq_zero_iff.mp (by omega))
        rw [hne]
        have e0 : ds.isEmpty = false := by cases ds with
          | nil => exact absurd rfl he
          | cons _ _ => rfl
        rw [e0] at k
        refine iteF ?_
        refine ⟨_, rfl, a, rfl, ⟨_, h1⟩, hT1, fun H2 hT => ?_⟩
        have x2 : Ext H H2 := Ext.tabbed hT1 hT
        refine g_all (Ph := fun H4 => H4 = H2) (src_tup fun H4 e => by rw [e]; exact x2.sqT h1) (fun i => isIntD 0 ((fs.length : Int) - 1) (ds.getD i .none)) rfl (fun i H C hp hi k2 => ?_) (fun H4 hp ea => ?_) fun H4 hp ea => ?_
        · subst hp
          have hi' : i < ds.length := by omega
          obtain ⟨vi, g1, g2⟩ := dpAll_get h2 (List.getElem?_eq_getElem hi')
          have egi : ds.getD i .none = ds[i] := by rw [List.getD_eq_getElem?_getD, List.getElem?_eq_getElem hi']; rfl
          have evi : xs.getD i .non = vi := by rw [List.getD_eq_getElem?_getD, g1]; rfl
          refine ⟨rfl, _, rfl, _, rfl, _, _, fs, bd, ds[i], rfl, dp_ext x2 hl, hn, (by rw [evi]; exact dp_ext x2 g2), ?_⟩
          rw [egi] at k2
          exact k2 H rfl
        · subst hp
          rw [hlen, all_range_getD' ds fun x => isIntD 0 ((fs.length : Int) - 1) x] at ea
          have ei := ints_of_all ea
          refine ⟨_, rfl, iteT ⟨_, rfl, _, ds.map intD, rfl, ?_, by rw [List.length_map]; exact hz, x2.tabs _ hT2, fun H5 x5 => ?_⟩⟩
          · rw [← ei]
            exact dp_ext x2 hd
          · have q := k H5 (x2.trans x5)
            rw [ea] at q
            exact q
        · subst hp
          rw [hlen, all_range_getD' ds fun x => isIntD 0 ((fs.length : Int) - 1) x] at ea
          refine ⟨_, rfl, iteF ?_⟩
          have q := k H4 x2
          rw [ea] at q
          exact q
    · rw [lotB_not hno] at k
      refine ⟨_, rfl, _, T, rfl, ht, T, "tuple", rfl, rfl, hT, by decide, true, ?_, ?_⟩
      · rw [decide_eq_false hne]
        rfl
      · exact iteT (iteT (k H (.refl H)))
end
section
variable {P : Program} {w : World} {K : PySem.W.Frag} {mg : Str → Option Value} {base : Heap}
/-! ### the drawn numbers -/
/-- the spring at sp, its great cells at gr -/
structure SpAt (H : Hp) (sp gr : Addr) : Prop where
  ex : ∃ (xs : List Int) (m t : Int), H sp = some (.lst [.ref gr, .int m, .int t]) ∧ H gr = some (.lst (xs.map V.int)) ∧ 0 ≤ m ∧ m < 2305843009213693951 ∧ xs.length ≤ 63
  ne : sp ≠ gr
theorem SpAt.ls {H : Hp} {sp gr p : Addr} (h : SpAt H sp gr) (hp : p ∈ [sp, gr]) : p ∈ [sp, gr] ∧ ∃ xs, H p = some (.lst xs) := by
  obtain ⟨xs, m, t, h1, h2, _⟩ := h.ex
  refine ⟨hp, ?_⟩
  rcases List.mem_cons.mp hp with e | e
  · rw [e]; exact ⟨_, h1⟩
  · rw [List.mem_singleton.mp e]; exact ⟨_, h2⟩
theorem SpAt.ext {H H' : Hp} {sp gr : Addr} (h : SpAt H sp gr) (x : Ext H H') : SpAt H' sp gr := by
  obtain ⟨xs, m, t, h1, h2, h3⟩ := h.ex
  exact ⟨⟨xs, m, t, x.lst h1, x.lst h2, h3⟩, h.ne⟩
theorem SpAt.upd {H : Hp} {sp gr p : Addr} {o : HO} (h : SpAt H sp gr) (h1 : p ≠ sp) (h2 : p ≠ gr) : SpAt (upd H p o) sp gr := by
  obtain ⟨xs, m, t, h3, h4, h5⟩ := h.ex
  exact ⟨⟨xs, m, t, by rw [upd_ne h1.symm]; exact h3, by rw [upd_ne h2.symm]; exact h4, h5⟩, h.ne⟩
def spSpring (K : PySem.W.Frag) : Sp := fun vs H Q _ => ∃ (a : Addr) (ns : List Int), vs = [.ref a] ∧ SqL K H a (ns.map V.int) ∧ ns.length ≤ 63 ∧ ∀ sp gr H', Ext H H' → SpAt H' sp gr → H sp = none → H gr = none → Q (.ref sp) H'
/-! ### a number from 0 on -/
theorem fmod_bd (y : Int) {m : Nat} (h : 0 < m) : 0 ≤ y.fmod (m : Int) ∧ y.fmod (m : Int) < (m : Int) := by
  rw [Int.fmod_eq_emod_of_nonneg y (by omega)]
  exact ⟨Int.emod_nonneg _ (by omega), Int.emod_lt_of_pos _ (by omega)⟩
def spDrop (K : PySem.W.Frag) : Sp := fun vs H Q _ => ∃ (sp gr : Addr) (many : Nat), vs = [.ref sp, .int (many : Int)] ∧ SpAt H sp gr ∧ 0 < many ∧ many < 100000000 ∧ ∀ (n : Nat) H', n < many → ExtS [sp, gr] H H' → SpAt H' sp gr → Q (.int (n : Int)) H'
end
section
variable {P : Program} {w : World} {K : PySem.W.Frag} {mg : Str → Option Value} {base : Heap}
/-! ### a drawn sequence -/
theorem rgV_nat (n : Nat) : rgV 0 (n : Int) = vsN (List.range n) := by
  unfold rgV vsN
  simp
theorem vsN_len (l : List Nat) : (vsN l).length = l.length := List.length_map ..
theorem vsN_at {l : List Nat} {n : Nat} (h : n < l.length) : (vsN l)[n]? = some (.int ((l[n] : Nat) : Int)) := by
  rw [List.getElem?_map, List.getElem?_eq_getElem h]
  rfl
theorem erase_map {α β : Type} (f : α → β) : ∀ (l : List α) (n : Nat), (l.map f).eraseIdx n = (l.eraseIdx n).map f
  | [], _ => rfl
  | _ :: _, 0 => rfl
  | x :: l, n + 1 => by
    show f x :: (l.map f).eraseIdx n = f x :: (l.eraseIdx n).map f
    rw [erase_map f l n]
theorem erase_perm : ∀ {l : List Nat} {n : Nat} (h : n < l.length), (l[n] :: l.eraseIdx n).Perm l
  | _ :: _, 0, _ => .refl _
  | x :: l, n + 1, h => by
    have h2 : n < l.length := by simpa using h
    have ih := erase_perm (l := l) (n := n) h2
    exact (List.Perm.swap x (l[n]'h2) (l.eraseIdx n)).trans (ih.cons x)
def spOrder (K : PySem.W.Frag) : Sp := fun vs H Q _ => ∃ (sp gr : Addr) (many : Nat), vs = [.ref sp, .int (many : Int)] ∧ SpAt H sp gr ∧ many ≤ 100 ∧ ∀ (p : Addr) (os : List Nat) H', os.Perm (List.range many) → ExtS [sp, gr] H H' → SpAt H' sp gr → H p = none → H' p = some (.tup (vsN os)) → Q (.ref p) H'
end
section
variable {P : Program} {w : World} {K : PySem.W.Frag} {mg : Str → Option Value} {base : Heap}
/-! ### the neighbours of a place -/
theorem filt_snoc (f : Nat → Bool) (l : List Nat) (i : Nat) : (l ++ [i]).filter f = l.filter f ++ (if f i = true then [i] else []) := by
  rw [List.filter_append]
  congr 1
  by_cases z : f i = true
  · rw [if_pos z, List.filter_cons_of_pos z]; rfl
  · rw [if_neg z, List.filter_cons_of_neg z]; rfl
def nearL (n : Nat) (bs : List (Nat × Nat)) (p : Nat) : List Nat := (List.range n).filter fun k => Mk.adj bs k p
theorem sh_pair (n : Nat) (a b : Int) : Bx.Sh (n + 2) (.tuple [.int a, .int b]) := .tup fun d hd => by
  rcases List.mem_cons.mp hd with e | e
  · rw [e]; exact .int _ _
  · rw [List.mem_singleton.mp e]; exact .int _ _
theorem sh_bord (n : Nat) (bs : List (Nat × Nat)) : Bx.Sh (n + 3) (bordD bs) := .tup fun d hd => by
  obtain ⟨b, _, rfl⟩ := List.mem_map.mp hd
  exact sh_pair _ _ _
theorem any_adj (bs : List (Nat × Nat)) (k p : Nat) :
    ((bs.map fun (b : Nat × Nat) => PyData.tuple [.int (b.1 : Int), .int (b.2 : Int)]).any fun z => PyData.eqv z (.tuple [.int (if (p : Int) < (k : Int) then (p : Int) else (k : Int)), .int (if (p : Int) > (k : Int) then (p : Int) else (k : Int))])) = Mk.adj bs k p := by
  unfold Mk.adj
  have e1 : (if (p : Int) < (k : Int) then (p : Int) else (k : Int)) = ((min k p : Nat) : Int) := by
    split <;> omega
  have e2 : (if (p : Int) > (k : Int) then (p : Int) else (k : Int)) = ((max k p : Nat) : Int) := by
    split <;> omega
  rw [e1, e2, List.any_map]
  induction bs with
  | nil => rfl
  | cons b r ih =>
    rw [List.any_cons, ih, List.contains_cons]
    congr 1
    obtain ⟨x, y⟩ := b
    rw [Bool.eq_iff_iff]
    simp [PyData.eqv, PyData.eqvAll]
    omega
def spNear (K : PySem.W.Frag) : Sp := fun vs H Q _ => ∃ (l : V) (fs : List Int) (bs : List (Nat × Nat)) (p : Nat), vs = [l, .int (p : Int)] ∧ Dp K H l (landD fs bs) ∧ fs.length ≤ 12 ∧ ∀ q H', Ext H H' → H q = none → H' q = some (.lst (vsN (nearL fs.length bs p))) → Q (.ref q) H'
theorem dp_land {H : Hp} {l : V} {fs : List Int} {bs : List (Nat × Nat)} (h : Dp K H l (landD fs bs)) : ∃ (a af : Addr) (vb : V), l = .ref a ∧ SqT K H a [.ref af, vb] ∧ SqT K H af (fs.map V.int) ∧ Dp K H vb (bordD bs) := by
  obtain ⟨a, xs, rfl, h1, h2⟩ := dp_tup h
  cases h2 with
  | cons hf h3 =>
    cases h3 with
    | cons hb h4 =>
      cases h4
      obtain ⟨af, rfl, h5⟩ := dp_ints hf
      exact ⟨a, af, _, rfl, h1, h5, hb⟩
end
end Wd

set_option Elab.async false
set_option linter.all false
set_option maxRecDepth 100000
set_option maxHeartbeats 4000000
/-! My: places reached one by one. -/
namespace Mk
theorem nodup_le : ∀ (n : Nat) (l : List Nat), l.Nodup → (∀ x ∈ l, x < n) → l.length ≤ n
  | 0, [], _, _ => Nat.le_refl _
  | 0, x :: _, _, h => by have := h x List.mem_cons_self; omega
  | n + 1, l, nd, h => by
    by_cases e : n ∈ l
    · have ih := nodup_le n (l.erase n) (nd.erase n) fun x hx => by
        have h1 := (List.Nodup.mem_erase_iff nd).mp hx
        have h2 := h x h1.2
        have := h1.1
        omega
      rw [List.length_erase_of_mem e] at ih
      omega
    · have ih := nodup_le n l nd fun x hx => by
        have h2 := h x hx
        have : x ≠ n := fun z => e (z ▸ hx)
        omega
      omega
/-- places reached from p within ps, the first at_ of them gone through -/
structure Rw (bs : List (Nat × Nat)) (ps : List Nat) (p : Nat) (fnd : List Nat) (at_ : Nat) : Prop where
  nd : fnd.Nodup
  sound : ∀ x, x ∈ fnd → Conn bs (· ∈ ps) p x
  here : p ∈ fnd
  done : ∀ j x, j < at_ → fnd[j]? = some x → ∀ y, y ∈ ps → adj bs x y = true → y ∈ fnd
  le : at_ ≤ fnd.length
theorem Rw.begin {bs : List (Nat × Nat)} {ps : List Nat} {p : Nat} (h : p ∈ ps) : Rw bs ps p [p] 0 :=
  ⟨by simp, fun x hx => by rw [List.mem_singleton.mp hx]; exact .refl h, by simp, fun j x hj => by omega, by simp⟩
theorem Rw.turn {bs : List (Nat × Nat)} {n : Nat} {ps fnd : List Nat} {p at_ x : Nat} (w : Rw bs ps p fnd at_) (hx : fnd[at_]? = some x) (hb : Bs n bs) :
    Rw bs ps p (fnd ++ ((List.range n).filter fun k => adj bs k x).filter fun k => decide (k ∈ ps) && decide (k ∉ fnd)) (at_ + 1) := by
  have hlt : at_ < fnd.length := (List.getElem?_eq_some_iff.mp hx).1
  have hmem : ∀ y, y ∈ (((List.range n).filter fun k => adj bs k x).filter fun k => decide (k ∈ ps) && decide (k ∉ fnd)) ↔ y < n ∧ adj bs y x = true ∧ y ∈ ps ∧ y ∉ fnd := fun y => by
    rw [List.mem_filter, List.mem_filter, List.mem_range, Bool.and_eq_true, decide_eq_true_eq, decide_eq_true_eq]
    constructor
    · rintro ⟨⟨a, b⟩, c, d⟩; exact ⟨a, b, c, d⟩
    · rintro ⟨a, b, c, d⟩; exact ⟨⟨a, b⟩, c, d⟩
  refine ⟨?_, fun y hy => ?_, List.mem_append_left _ w.here, fun j z hj hz y hy ha => ?_, by rw [List.length_append]; omega⟩
  · refine List.nodup_append.mpr ⟨w.nd, (List.nodup_range.filter _).filter _, fun a ha b hb2 e => ?_⟩
    subst e
    exact ((hmem a).mp hb2).2.2.2 ha
  · rcases List.mem_append.mp hy with h | h
    · exact w.sound y h
    · obtain ⟨_, a, b, _⟩ := (hmem y).mp h
      exact .step (w.sound x (List.mem_of_getElem? hx)) (by rw [adj_comm]; exact a) b
  · by_cases hin : y ∈ fnd
    · exact List.mem_append_left _ hin
    · rw [List.getElem?_append_left (by omega)] at hz
      by_cases e : j = at_
      · subst e
        rw [hx] at hz
        cases hz
        exact List.mem_append_right _ ((hmem y).mpr ⟨(adj_lt hb ha).2.1, by rw [adj_comm]; exact ha, hy, hin⟩)
      · exact absurd (w.done j z (by omega) hz y hy ha) hin
theorem Rw.fin {bs : List (Nat × Nat)} {ps fnd : List Nat} {p at_ : Nat} (w : Rw bs ps p fnd at_) (h : fnd.length ≤ at_) (x : Nat) : x ∈ fnd ↔ Conn bs (· ∈ ps) p x := by
  refine ⟨w.sound x, fun c => ?_⟩
  refine (c.closed (T := (· ∈ fnd)) w.here fun y z hy hz a => ?_).2
  obtain ⟨j, hj, e⟩ := List.getElem_of_mem hy
  exact w.done j y (by omega) (by rw [List.getElem?_eq_getElem hj, e]) z hz a
/-- the pieces gone through so far, and what is left -/
structure Pw (bs : List (Nat × Nat)) (ps left : List Nat) (rs : List (List Nat)) : Prop where
  asc : left.Pairwise (· < ·)
  sub : ∀ x, x ∈ left → x ∈ ps
  clo : ∀ x, x ∈ left → ∀ y, Conn bs (· ∈ ps) x y → y ∈ left
  pcs : ∀ qs, Pcs bs (mask left) qs → Pcs bs (mask ps) (rs.map mask ++ qs)
  good : ∀ r, r ∈ rs → r.Pairwise (· < ·) ∧ ∀ x, x ∈ r → x ∈ ps
  len : rs.length + left.length ≤ ps.length
theorem Pw.begin {bs : List (Nat × Nat)} {ps : List Nat} (h : ps.Pairwise (· < ·)) : Pw bs ps ps [] :=
  ⟨h, fun _ h => h, fun x _ y c => c.snd, fun qs h => h, fun r hr => (nomatch hr), by simp⟩
theorem Pw.fin {bs : List (Nat × Nat)} {ps : List Nat} {rs : List (List Nat)} (w : Pw bs ps [] rs) : Pcs bs (mask ps) (rs.map mask) := by
  have := w.pcs [] .nil
  rwa [List.append_nil] at this
theorem Pw.turn {bs : List (Nat × Nat)} {ps tl r : List Nat} {rs : List (List Nat)} {x0 : Nat} (w : Pw bs ps (x0 :: tl) rs) (ha : r.Pairwise (· < ·)) (hr : ∀ x, x ∈ r ↔ Conn bs (· ∈ ps) x0 x) :
    Pw bs ps ((x0 :: tl).filter fun x => decide (x ∉ r)) (rs ++ [r]) ∧ ((x0 :: tl).filter fun x => decide (x ∉ r)).length < (x0 :: tl).length := by
  have h0 : x0 ∈ x0 :: tl := List.mem_cons_self
  have h0r : x0 ∈ r := (hr x0).mpr (.refl (w.sub _ h0))
  have hsub : ∀ x, x ∈ r → x ∈ x0 :: tl := fun x hx => w.clo x0 h0 x ((hr x).mp hx)
  have hasc := w.asc
  have hrch : Rch bs (mask (x0 :: tl)) (2 ^ x0) (mask r) := fun q => by
    rw [bit_mask ha, decide_eq_true_eq, hr]
    constructor
    · intro c
      refine ⟨x0, by simp [Nat.testBit_two_pow], ?_⟩
      have c2 := (c.closed (T := (· ∈ x0 :: tl)) h0 fun x y hx hy a => w.clo x hx y (.one (w.sub x hx) hy a)).1
      exact c2.mono fun x hx => by
        show (mask (x0 :: tl)).testBit x = true
        rw [bit_mask hasc]
        exact decide_eq_true hx
    · rintro ⟨p, hp, c⟩
      rw [Nat.testBit_two_pow, decide_eq_true_eq] at hp
      subst hp
      exact c.mono fun x hx => by
        have hx : (mask (x0 :: tl)).testBit x = true := hx
        rw [bit_mask hasc, decide_eq_true_eq] at hx
        exact w.sub x hx
  have hfa : ((x0 :: tl).filter fun x => decide (x ∉ r)).Pairwise (· < ·) := hasc.filter _
  have hmem : ∀ x, x ∈ ((x0 :: tl).filter fun x => decide (x ∉ r)) ↔ x ∈ x0 :: tl ∧ x ∉ r := fun x => by
    rw [List.mem_filter, decide_eq_true_eq]
  have hmask : mask ((x0 :: tl).filter fun x => decide (x ∉ r)) = mask (x0 :: tl) ^^^ mask r := eq_of_bits fun q => by
    rw [xor_sub (fun q hq => by
      rw [bit_mask ha, decide_eq_true_eq] at hq
      rw [bit_mask hasc]
      exact decide_eq_true (hsub q hq)), bit_mask hfa, bit_mask hasc, bit_mask ha, decide_eq_true_eq, decide_eq_true_eq, decide_eq_false_iff_not]
    exact hmem q
  have hlt : ((x0 :: tl).filter fun x => decide (x ∉ r)).length < (x0 :: tl).length := by
    rw [List.filter_cons_of_neg (by simp [h0r])]
    have := List.length_filter_le (fun x => decide (x ∉ r)) tl
    rw [List.length_cons]
    omega
  refine ⟨⟨hfa, fun x hx => w.sub x ((hmem x).mp hx).1, fun x hx y c => ?_, fun qs hq => ?_, fun s hs => ?_, ?_⟩, hlt⟩
  · obtain ⟨h1, h2⟩ := (hmem x).mp hx
    refine (hmem y).mpr ⟨w.clo x h1 y c, fun hy => h2 ?_⟩
    exact (hr x).mpr (((hr y).mp hy).trans c.symm)
  · rw [hmask] at hq
    rw [List.map_append, List.append_assoc]
    refine w.pcs _ (.cons ?_ (fun x hx => ?_) hrch hq)
    · rw [bit_mask hasc]
      exact decide_eq_true h0
    · rw [bit_mask hasc]
      refine decide_eq_false fun hm => ?_
      rcases List.mem_cons.mp hm with e | e
      · omega
      · have := List.rel_of_pairwise_cons hasc e
        omega
  · rcases List.mem_append.mp hs with e | e
    · exact w.good s e
    · rw [List.mem_singleton.mp e]
      exact ⟨ha, fun x hx => w.sub x (hsub x hx)⟩
  · have := w.len
    rw [List.length_append, List.length_singleton]
    omega
end Mk

set_option Elab.async false
set_option linter.all false
set_option maxRecDepth 100000
set_option maxHeartbeats 4000000
namespace Wd
open PySem PySem.Spec PyProof.Rows L2 Bx Gx




















































section
variable {P : Program} {w : World} {K : PySem.W.Frag} {mg : Str → Option Value} {base : Heap}
/-! ### the places to which a lot hangs from one of them -/
theorem inV_vsN (k : Nat) (l : List Nat) : inV (.int (k : Int)) (vsN l) = decide (k ∈ l) := by
  unfold inV vsN
  rw [List.any_map]
  induction l with
  | nil => rfl
  | cons x r ih =>
    rw [List.any_cons, ih]
    have e : ((fun y => eqV y (.int (k : Int))) ∘ fun (m : Nat) => V.int (m : Int)) x = decide (k = x) := by
      show ((x : Int) == (k : Int)) = _
      rw [Bool.eq_iff_iff]
      simp
      omega
    rw [e, Bool.eq_iff_iff]
    simp
theorem flat_vsN (l : List Nat) : (vsN l).all flatV = true := by
  rw [List.all_eq_true]
  intro x hx
  obtain ⟨y, _, rfl⟩ := List.mem_map.mp hx
  rfl
/-- a lot's own part, ascending: what hangs to a place -/
structure Part (bs : List (Nat × Nat)) (ps : List Nat) (p : Nat) (r : List Nat) : Prop where
  asc : r.Pairwise (· < ·)
  mem : ∀ x, x ∈ r ↔ Mk.Conn bs (· ∈ ps) p x
def spLReached (K : PySem.W.Frag) : Sp := fun vs H Q _ => ∃ (l : V) (v : Addr) (fs : List Int) (bs : List (Nat × Nat)) (ps : List Nat) (p : Nat), vs = [l, .ref v, .int (p : Int)] ∧ Dp K H l (landD fs bs) ∧ fs.length ≤ 12 ∧ Mk.Bs fs.length bs ∧ SqT K H v (vsN ps) ∧ (∀ x ∈ ps, x < fs.length) ∧ p ∈ ps ∧
  ∀ q H' r, Ext H H' → H q = none → H' q = some (.tup (vsN r)) → Part bs ps p r → Q (.ref q) H'
end
section
variable {P : Program} {w : World} {K : PySem.W.Frag} {mg : Str → Option Value} {base : Heap}
/-! ### the greatest lots that hang together -/
def spLPieces (K : PySem.W.Frag) : Sp := fun vs H Q _ => ∃ (l : V) (v : Addr) (fs : List Int) (bs : List (Nat × Nat)) (ps : List Nat), vs = [l, .ref v] ∧ Dp K H l (landD fs bs) ∧ fs.length ≤ 12 ∧ Mk.Bs fs.length bs ∧ SqT K H v (vsN ps) ∧ (∀ x ∈ ps, x < fs.length) ∧ ps.Pairwise (· < ·) ∧
  ∀ q H' (rs : List (List Nat)), Ext H H' → H q = none → Dp K H' (.ref q) (.tuple (rs.map lotD)) → (∀ r ∈ rs, r.Pairwise (· < ·) ∧ ∀ x ∈ r, x ∈ ps) → rs.length ≤ ps.length → Mk.Pcs bs (Mk.mask ps) (rs.map Mk.mask) → Q (.ref q) H'
theorem dp_lotT {H : Hp} {a : Addr} {r : List Nat} (h : SqT K H a (vsN r)) : Dp K H (.ref a) (lotD r) := .tup h (dpAll_lot r)
end
section
variable {P : Program} {w : World} {K : PySem.W.Frag} {mg : Str → Option Value} {base : Heap}
/-! ### a drawn lot -/
theorem noL_bord (bs : List (Nat × Nat)) : noL (bordD bs) = true := by
  show noLs _ = true
  exact noLs_map _ (fun _ => rfl) bs
theorem noL_land (fs : List Int) (bs : List (Nat × Nat)) : noL (landD fs bs) = true := by
  show (noL (.tuple (fs.map .int)) && (noL (bordD bs) && true)) = true
  rw [noL_bord]
  show (noLs _ && true) = true
  rw [noLs_map _ (fun _ => rfl) fs]
  rfl
theorem asc_snoc {l : List Nat} {i : Nat} (h : l.Pairwise (· < ·)) (h2 : ∀ x ∈ l, x < i) : (l ++ [i]).Pairwise (· < ·) := by
  rw [List.pairwise_append]
  refine ⟨h, by simp, fun a ha b hb => ?_⟩
  rw [List.mem_singleton.mp hb]
  exact h2 a ha
theorem asc_len {l : List Nat} {n : Nat} (h : l.Pairwise (· < ·)) (h2 : ∀ x ∈ l, x < n) : l.length ≤ n := by
  have e := Mk.bits_mask h h2
  rw [← e]
  exact Mk.bits_len _ _
theorem SpAt.notin {H : Hp} {sp gr p : Addr} (h : SpAt H sp gr) (hp : H p = none) : p ∉ [sp, gr] := fun e => by
  obtain ⟨_, xs, e2⟩ := h.ls e
  rw [hp] at e2
  cases e2
def spSome (K : PySem.W.Frag) : Sp := fun vs H Q _ => ∃ (sp gr : Addr) (l : V) (fs : List Int) (bs : List (Nat × Nat)), vs = [.ref sp, l] ∧ SpAt H sp gr ∧ Dp K H l (landD fs bs) ∧ 0 < fs.length ∧ fs.length ≤ 12 ∧
  ∀ (q : Addr) (ps : List Nat) H', ExtS [sp, gr] H H' → SpAt H' sp gr → H q = none → H' q = some (.tup (vsN ps)) → ps ≠ [] → ps.Pairwise (· < ·) → (∀ x ∈ ps, x < fs.length) → Q (.ref q) H'
end
end Wd

set_option Elab.async false
set_option linter.all false
set_option maxRecDepth 100000
set_option maxHeartbeats 4000000
namespace Wd
open PySem PySem.Spec PyProof.Rows L2 Bx Gx




















































section
variable {P : Program} {w : World} {K : PySem.W.Frag} {mg : Str → Option Value} {base : Heap}
/-! ### alike -/
def tyName : PyData → String
  | .none => "NoneType"
  | .bool _ => "bool"
  | .int _ => "int"
  | .str _ => "str"
  | .list _ => "list"
  | .tuple _ => "tuple"
  | _ => "dict"
theorem tyX_dp {H : Hp} {v : V} {d : PyData} (h : Dp K H v d) : TyX K H v (.type (tyName d)) ∧ tyName d ∈ ["NoneType", "bool", "int", "str", "list", "tuple"] := by
  cases h with
  | non => exact ⟨.base .non, by simp [tyName]⟩
  | bl b => exact ⟨.base (.bl b), by simp [tyName]⟩
  | int i => exact ⟨.base (.int i), by simp [tyName]⟩
  | str x => exact ⟨.base (.str x), by simp [tyName]⟩
  | lst h _ =>
    refine ⟨?_, by simp [tyName]⟩
    rcases h with (h | ⟨o, h⟩) | ⟨o, _, _, h1, h2, _⟩
    · exact .base (.lst h)
    · exact .base (.frz h)
    · exact .kList h1 h2
  | tup h _ =>
    refine ⟨?_, by simp [tyName]⟩
    rcases h with (h | ⟨o, h⟩) | ⟨o, _, _, h1, h2, _⟩
    · exact .base (.tup h)
    · exact .fTuple h
    · exact .kTuple h1 h2
def kindsOf (T : String) : List Bool := [decide (T = "bool"), decide (T = "int" ∨ T = "bool"), decide (T = "str"), decide (T = "tuple"), decide (T = "list"), decide (T = "NoneType")]
theorem kit_in (T U : String) (hT : T ∈ ["NoneType", "bool", "int", "str", "list", "tuple"]) (hU : U ∈ ["bool", "int", "str", "list", "tuple"]) : PySem.W.kitOne K (.type T) (.type U) = some (decide (T = U ∨ (T = "bool" ∧ U = "int"))) := by
  simp only [List.mem_cons, List.mem_nil_iff, or_false] at hT hU
  rcases hT with rfl | rfl | rfl | rfl | rfl | rfl <;> rcases hU with rfl | rfl | rfl | rfl | rfl <;> exact kit_ty (by decide +kernel)
def spKinds (K : PySem.W.Frag) : Sp := fun vs H Q _ => ∃ (v : V) (d : PyData), vs = [v] ∧ Dp K H v d ∧ ∀ q H', Ext H H' → H q = none → H' q = some (.lst ((kindsOf (tyName d)).map V.bl)) → Q (.ref q) H'
end
section
variable {P : Program} {w : World} {K : PySem.W.Frag} {mg : Str → Option Value} {base : Heap}
theorem seq_eq {d : PyData} {ds ds' : List PyData} (h : d = .list ds ∨ d = .tuple ds) (h' : d = .list ds' ∨ d = .tuple ds') : ds' = ds := by
  rcases h with rfl | rfl <;> rcases h' with e | e <;> cases e <;> rfl
theorem canLay_get : ∀ {ds : List PyData}, PyData.canLayAll0 ds = true → ∀ d ∈ ds, d.canLay0 = true
  | [], _, d, hd => by cases hd
  | e :: ds, h, d, hd => by
    simp only [PyData.canLayAll0, Bool.and_eq_true] at h
    rcases List.mem_cons.mp hd with z | z
    · rw [z]; exact h.1
    · exact canLay_get h.2 d z
theorem depth_get : ∀ {ds : List PyData} {n : Nat}, PyData.depthAll ds ≤ n → ∀ d ∈ ds, d.depth ≤ n
  | [], _, _, d, hd => by cases hd
  | e :: ds, n, h, d, hd => by
    simp only [PyData.depthAll] at h
    rcases List.mem_cons.mp hd with z | z
    · rw [z]; omega
    · exact depth_get (by omega) d z
theorem rix_of {H : Hp} {a : Addr} {xs : List V} {i : Nat} {v : V} {Q : VK} (h : SqL K H a xs ∨ SqT K H a xs) (e : xs[i]? = some v) (q : Q v H) : rIx K (.ref a) (.int (i : Int)) H Q := by
  rcases h with h | h
  · exact .inl ⟨a, xs, i, v, rfl, rfl, h, atI_nat e, q⟩
  · exact .inr (.inl ⟨a, xs, i, v, rfl, rfl, h, atI_nat e, q⟩)
theorem ix_seqK {X : Cx} {K : PySem.W.Frag} (h : X.K = K) : IxR X (rIx K) := h ▸ ix_seq
mutual
/-- data whose lists and tuples are short -/
def smD : PyData → Bool
  | .list ds => decide (ds.length ≤ 500) && smDs ds
  | .tuple ds => decide (ds.length ≤ 500) && smDs ds
  | _ => true
def smDs : List PyData → Bool
  | [] => true
  | d :: ds => smD d && smDs ds
end
theorem smD_seq {d : PyData} {ds : List PyData} (h : d = .list ds ∨ d = .tuple ds) (hs : smD d = true) : ds.length ≤ 500 ∧ smDs ds = true := by
  rcases h with rfl | rfl <;> simpa [smD] using hs
theorem smDs_get : ∀ {ds : List PyData}, smDs ds = true → ∀ d ∈ ds, smD d = true
  | [], _, d, hd => by cases hd
  | e :: ds, h, d, hd => by
    simp only [smDs, Bool.and_eq_true] at h
    rcases List.mem_cons.mp hd with z | z
    · rw [z]; exact h.1
    · exact smDs_get h.2 d z
def spAlike (K : PySem.W.Frag) (r : Nat) : Sp := fun vs H Q _ => ∃ (v u : V) (d : PyData), vs = [v, u] ∧ Dp K H v d ∧ Dp K H u d ∧ d.canLay0 = true ∧ smD d = true ∧ d.depth < r ∧ ∀ H', Ext H H' → Q (.bl true) H'
theorem dp_seq {H : Hp} {v : V} {d : PyData} (h : Dp K H v d) (ht : tyName d = "tuple" ∨ tyName d = "list") : ∃ a xs ds, v = .ref a ∧ (SqL K H a xs ∨ SqT K H a xs) ∧ DpAll K H xs ds ∧ d.depth = PyData.depthAll ds + 1 ∧ (d.canLay0 = true → PyData.canLayAll0 ds = true) ∧ (d = .list ds ∨ d = .tuple ds) := by
  cases h with
  | lst h hs => exact ⟨_, _, _, rfl, .inl h, hs, by simp [PyData.depth], by simp [PyData.canLay0], .inl rfl⟩
  | tup h hs => exact ⟨_, _, _, rfl, .inr h, hs, by simp [PyData.depth], by simp [PyData.canLay0], .inr rfl⟩
  | non => simp [tyName] at ht
  | bl => simp [tyName] at ht
  | int => simp [tyName] at ht
  | str => simp [tyName] at ht
theorem kit_two (T : String) (hT : T ∈ ["NoneType", "bool", "int", "str", "list", "tuple"]) : PySem.W.kitAny K (.type T) [.type "tuple", .type "list"] = some (decide (T = "tuple" ∨ T = "list")) := by
  unfold PySem.W.kitAny
  rw [kit_in T "tuple" hT (by simp)]
  unfold PySem.W.kitAny
  rw [kit_in T "list" hT (by simp)]
  by_cases h1 : T = "tuple"
  · subst h1; rfl
  · by_cases h2 : T = "list"
    · subst h2; rfl
    · simp only [h1, h2, false_or, or_self, decide_false, show ¬ ("tuple" = "int") by decide, show ¬ ("list" = "int") by decide, and_false]
      rfl
end
end Wd

set_option Elab.async false
set_option linter.all false
set_option maxRecDepth 100000
set_option maxHeartbeats 4000000
namespace Mk
theorem sub_le : ∀ {l m : List Nat}, l.Nodup → (∀ x, x ∈ l → x ∈ m) → l.length ≤ m.length
  | [], m, _, _ => Nat.zero_le _
  | x :: l, m, nd, h => by
    rw [List.nodup_cons] at nd
    have hx := h x List.mem_cons_self
    have ih := sub_le (l := l) (m := m.erase x) nd.2 fun y hy => by
      have hne : y ≠ x := fun e => nd.1 (e ▸ hy)
      exact (List.mem_erase_of_ne hne).mpr (h y (List.mem_cons_of_mem _ hy))
    rw [List.length_erase_of_mem hx] at ih
    have := List.length_pos_of_mem hx
    rw [List.length_cons]
    omega
theorem filt_sum (f : Nat → Bool) : ∀ l : List Nat, l.length = (l.filter f).length + (l.filter fun x => !f x).length
  | [] => rfl
  | x :: l => by
    have ih := filt_sum f l
    by_cases h : f x = true
    · rw [List.filter_cons_of_pos h, List.filter_cons_of_neg (by simp [h]), List.length_cons, List.length_cons]
      omega
    · rw [List.filter_cons_of_neg h, List.filter_cons_of_pos (by simp [h]), List.length_cons, List.length_cons]
      omega
/-- what hangs together is one piece, and back -/
theorem pcs_one {bs : List (Nat × Nat)} {ps : List Nat} {p : Nat} (ha : ps.Pairwise (· < ·)) (hp : p ∈ ps) (hc : ∀ x, x ∈ ps → Conn bs (· ∈ ps) p x) : Pcs bs (mask ps) [mask ps] := by
  cases ps with
  | nil => cases hp
  | cons q r =>
    have hb := bit_mask ha
    refine .cons (q := q) (by rw [hb]; simp) (fun x hx => ?_) (fun x => ?_) (by rw [Nat.xor_self]; exact .nil)
    · rw [hb]
      refine decide_eq_false fun hm => ?_
      rcases List.mem_cons.mp hm with e | e
      · omega
      · have := List.rel_of_pairwise_cons ha e
        omega
    · rw [hb, decide_eq_true_eq]
      have mono : ∀ {a b : Nat}, Conn bs (· ∈ q :: r) a b → Conn bs (In (mask (q :: r))) a b := fun c => c.mono fun y hy => by
        show (mask (q :: r)).testBit y = true
        rw [hb]
        exact decide_eq_true hy
      constructor
      · intro hx
        refine ⟨q, by simp [Nat.testBit_two_pow], mono ?_⟩
        exact (hc q List.mem_cons_self).symm.trans (hc x hx)
      · rintro ⟨_, _, c⟩
        have := c.snd
        have h2 : (mask (q :: r)).testBit x = true := this
        rwa [hb, decide_eq_true_eq] at h2
theorem Pcs.none {bs : List (Nat × Nat)} {m : Nat} {l : List Nat} (h : Pcs bs m l) (e : l = []) : m = 0 := by
  cases h with
  | nil => rfl
  | cons _ _ _ _ => cases e
theorem Pcs.len1 {bs : List (Nat × Nat)} {m : Nat} {l : List Nat} (h : Pcs bs m l) (e : l.length = 1) : ∃ q, Rch bs m (2 ^ q) m := by
  cases h with
  | nil => cases e
  | @cons _ q p l2 hq hlow hR hP =>
    have e2 : l2 = [] := List.length_eq_zero_iff.mp (by rw [List.length_cons] at e; omega)
    have h0 := hP.none e2
    have : m = p := by
      have h1 : (m ^^^ p) ^^^ p = m := by rw [Nat.xor_assoc, Nat.xor_self, Nat.xor_zero]
      rw [h0, Nat.zero_xor] at h1
      exact h1.symm
    subst this
    exact ⟨q, hR⟩
theorem one_pcs {bs : List (Nat × Nat)} {ps : List Nat} (ha : ps.Pairwise (· < ·)) {l : List Nat} (hl : Pcs bs (mask ps) l) (h : l.length = 1) {p x : Nat} (hp : p ∈ ps) (hx : x ∈ ps) : Conn bs (· ∈ ps) p x := by
  obtain ⟨q, hR⟩ := hl.len1 h
  have hb := bit_mask ha
  have key : ∀ y, y ∈ ps → Conn bs (· ∈ ps) q y := fun y hy => by
    obtain ⟨z, hz, c⟩ := (hR y).mp (by rw [hb]; exact decide_eq_true hy)
    rw [Nat.testBit_two_pow, decide_eq_true_eq] at hz
    subst hz
    exact c.mono fun w hw => by
      have hw : (mask ps).testBit w = true := hw
      rwa [hb, decide_eq_true_eq] at hw
  exact (key p hp).symm.trans (key x hx)
/-- every part that hangs together can be grown place by place -/
theorem grown {bs : List (Nat × Nat)} {ps : List Nat} {p : Nat} (hp : p ∈ ps) (nd : ps.Nodup) (hc : ∀ x, x ∈ ps → Conn bs (· ∈ ps) p x) : ∀ k, k < ps.length → ∃ l : List Nat, l.length = k + 1 ∧ l.Nodup ∧ (∀ x, x ∈ l → x ∈ ps) ∧ p ∈ l ∧ ∀ x, x ∈ l → Conn bs (· ∈ l) p x
  | 0, _ => ⟨[p], rfl, by simp, fun x hx => by rw [List.mem_singleton.mp hx]; exact hp, by simp, fun x hx => by rw [List.mem_singleton.mp hx]; exact .refl (by simp)⟩
  | k + 1, hk => by
    obtain ⟨l, h1, h2, h3, h4, h5⟩ := grown hp nd hc k (by omega)
    -- a place beside it
    have hex : ∃ y z, y ∈ l ∧ z ∈ ps ∧ z ∉ l ∧ adj bs y z = true := by
      refine Classical.byContradiction fun hno => ?_
      have hall : ∀ x, x ∈ ps → x ∈ l := fun x hx => ((hc x hx).closed (T := (· ∈ l)) h4 fun y z hy hz a => Classical.byContradiction fun hz2 => hno ⟨y, z, hy, hz, hz2, a⟩).2
      have := sub_le nd hall
      omega
    obtain ⟨y, z, hy, hz, hzl, a⟩ := hex
    have hm : ∀ x, x ∈ l → x ∈ z :: l := fun x hx => List.mem_cons_of_mem _ hx
    refine ⟨z :: l, by rw [List.length_cons, h1], List.nodup_cons.mpr ⟨hzl, h2⟩, fun x hx => ?_, hm p h4, fun x hx => ?_⟩
    · rcases List.mem_cons.mp hx with e | e
      · rw [e]; exact hz
      · exact h3 x e
    · rcases List.mem_cons.mp hx with e | e
      · rw [e]
        exact .step ((h5 y hy).mono hm) a List.mem_cons_self
      · exact (h5 x e).mono hm
theorem mask_less {ps : List Nat} (ha : ps.Pairwise (· < ·)) {p : Nat} (hp : p ∈ ps) : mask (ps.filter fun x => decide (x ≠ p)) = mask ps ^^^ 2 ^ p := eq_of_bits fun q => by
  rw [bit_mask (ha.filter _), Nat.testBit_xor, bit_mask ha, Nat.testBit_two_pow, decide_eq_true_eq, List.mem_filter, decide_eq_true_eq]
  by_cases h1 : q ∈ ps <;> by_cases h2 : p = q
  · simp [h1, h2]
  · simp [h1, h2]; exact fun z => h2 z.symm
  · exact absurd (h2 ▸ hp) h1
  · simp [h1, h2]
/-- a lot that hangs together has a place, another than p, without which it hangs together -/
theorem other {bs : List (Nat × Nat)} {ps : List Nat} {p : Nat} (ha : ps.Pairwise (· < ·)) (hp : p ∈ ps) (hc : ∀ x, x ∈ ps → Conn bs (· ∈ ps) p x) (h2 : 2 ≤ ps.length) : ∃ v, v ∈ ps ∧ v ≠ p ∧ ∃ l, Pcs bs (mask ps ^^^ 2 ^ v) l ∧ l.length = 1 := by
  have nd : ps.Nodup := ha.imp fun h e => by omega
  obtain ⟨l, h1, hnd, h3, h4, h5⟩ := grown hp nd hc (ps.length - 2) (by omega)
  have hex : ∃ v, v ∈ ps ∧ v ∉ l := Classical.byContradiction fun hno => by
    have hall : ∀ x, x ∈ ps → x ∈ l := fun x hx => Classical.byContradiction fun h => hno ⟨x, hx, h⟩
    have := sub_le nd hall
    omega
  obtain ⟨v, hv, hvl⟩ := hex
  have hvp : v ≠ p := fun e => hvl (e ▸ h4)
  -- the others are l
  have hmem : ∀ x, x ∈ ps.filter (fun x => decide (x ≠ v)) → x ∈ l := fun x hx => Classical.byContradiction fun hxl => by
    rw [List.mem_filter, decide_eq_true_eq] at hx
    have nd3 : (x :: v :: l).Nodup := List.nodup_cons.mpr ⟨fun h => by
      rcases List.mem_cons.mp h with e | e
      · exact hx.2 e
      · exact hxl e, List.nodup_cons.mpr ⟨hvl, hnd⟩⟩
    have hall : ∀ y, y ∈ x :: v :: l → y ∈ ps := fun y hy => by
      rcases List.mem_cons.mp hy with e | e
      · rw [e]; exact hx.1
      · rcases List.mem_cons.mp e with e | e
        · rw [e]; exact hv
        · exact h3 y e
    have := sub_le nd3 hall
    simp only [List.length_cons] at this
    omega
  have hm2 : ∀ x, x ∈ l → x ∈ ps.filter (fun x => decide (x ≠ v)) := fun x hx => by
    rw [List.mem_filter, decide_eq_true_eq]
    exact ⟨h3 x hx, fun e => hvl (e ▸ hx)⟩
  refine ⟨v, hv, hvp, [mask (ps.filter fun x => decide (x ≠ v))], ?_, rfl⟩
  rw [← mask_less ha hv]
  exact pcs_one (ha.filter _) (hm2 p h4) fun x hx => (h5 x (hmem x hx)).mono hm2
theorem two_le {l : List Nat} {u v : Nat} (hu : u ∈ l) (hv : v ∈ l) (h : u ≠ v) : 2 ≤ l.length := by
  match l, hu, hv with
  | [], hu, _ => cases hu
  | [x], hu, hv => exact absurd ((List.mem_singleton.mp hu).trans (List.mem_singleton.mp hv).symm) h
  | _ :: _ :: _, _, _ => simp
/-- of a lot of two places at least that hangs together, two places at least are no cut places -/
theorem two_free {bs : List (Nat × Nat)} {ps l : List Nat} (ha : ps.Pairwise (· < ·)) (hl : Pcs bs (mask ps) l) (h1 : l.length = 1) (h2 : 2 ≤ ps.length) :
    2 ≤ ps.length - (ps.filter fun p => decide ((pcs bs (mask ps)).length < (pcs bs (mask ps ^^^ 2 ^ p)).length)).length := by
  have hn : ∃ p, p ∈ ps := by
    cases ps with
    | nil => cases h2
    | cons p r => exact ⟨p, List.mem_cons_self⟩
  obtain ⟨p, hp⟩ := hn
  obtain ⟨u, hu, _, lu, hlu, hlu1⟩ := other ha hp (fun x hx => one_pcs ha hl h1 hp hx) h2
  obtain ⟨v, hv, hvu, lv, hlv, hlv1⟩ := other ha hu (fun x hx => one_pcs ha hl h1 hu hx) h2
  have hsum := filt_sum (fun p => decide ((pcs bs (mask ps)).length < (pcs bs (mask ps ^^^ 2 ^ p)).length)) ps
  have m1 : ∀ w lw, w ∈ ps → Pcs bs (mask ps ^^^ 2 ^ w) lw → lw.length = 1 → w ∈ ps.filter (fun p => !decide ((pcs bs (mask ps)).length < (pcs bs (mask ps ^^^ 2 ^ p)).length)) := fun w lw hw hlw e => by
    rw [List.mem_filter]
    refine ⟨hw, ?_⟩
    rw [hl.eq, hlw.eq, h1, e]
    rfl
  have := two_le (m1 u lu hu hlu hlu1) (m1 v lv hv hlv hlv1) (fun e => hvu e.symm)
  omega
end Mk

set_option Elab.async false
set_option linter.all false
set_option maxRecDepth 100000
set_option maxHeartbeats 4000000
/-! My3: what pieces are: apart, all, each of them hanging together, by their least places. -/
namespace Mk
structure Parted (bs : List (Nat × Nat)) (m : Nat) (qs : List Nat) : Prop where
  all : ∀ x, m.testBit x = true ↔ ∃ q, q ∈ qs ∧ q.testBit x = true
  apart : qs.Pairwise fun a b => ∀ x, a.testBit x = true → b.testBit x = true → False
  asc : qs.Pairwise fun a b => ∃ x, a.testBit x = true ∧ ∀ y, b.testBit y = true → x < y
  one : ∀ q, q ∈ qs → ∃ x, q.testBit x = true ∧ ∀ y, q.testBit y = true → Conn bs (In q) x y
theorem Pcs.parted {bs : List (Nat × Nat)} {m : Nat} {qs : List Nat} (h : Pcs bs m qs) : Parted bs m qs := by
  induction h with
  | nil => exact ⟨fun x => by simp, .nil, .nil, fun q hq => nomatch hq⟩
  | @cons m q p l hq hlow hR hP ih =>
    have hsub := hR.sub
    have hqp : p.testBit q = true := (hR q).mpr ⟨q, by simp [Nat.testBit_two_pow], .refl hq⟩
    have hx := fun z => xor_sub hsub z
    have hin : ∀ r, r ∈ l → ∀ z, r.testBit z = true → m.testBit z = true ∧ p.testBit z = false := fun r hr z hz => (hx z).mp ((ih.all z).mpr ⟨r, hr, hz⟩)
    refine ⟨fun x => ?_, ?_, ?_, fun r hr => ?_⟩
    · constructor
      · intro hm
        cases hp : p.testBit x with
        | true => exact ⟨p, List.mem_cons_self, hp⟩
        | false =>
          obtain ⟨r, hr, hrx⟩ := (ih.all x).mp ((hx x).mpr ⟨hm, hp⟩)
          exact ⟨r, List.mem_cons_of_mem _ hr, hrx⟩
      · rintro ⟨r, hr, hrx⟩
        rcases List.mem_cons.mp hr with e | e
        · rw [e] at hrx; exact hsub x hrx
        · exact (hin r e x hrx).1
    · rw [List.pairwise_cons]
      refine ⟨fun r hr z h1 h2 => ?_, ih.apart⟩
      have := (hin r hr z h2).2
      rw [h1] at this
      cases this
    · rw [List.pairwise_cons]
      refine ⟨fun r hr => ⟨q, hqp, fun y hy => ?_⟩, ih.asc⟩
      obtain ⟨h1, h2⟩ := hin r hr y hy
      rcases Nat.lt_trichotomy q y with e | e | e
      · exact e
      · rw [← e, hqp] at h2; cases h2
      · rw [hlow y e] at h1; cases h1
    · rcases List.mem_cons.mp hr with e | e
      · subst e
        refine ⟨q, hqp, fun y hy => ?_⟩
        obtain ⟨z, hz, c⟩ := (hR y).mp hy
        rw [Nat.testBit_two_pow, decide_eq_true_eq] at hz
        subst hz
        refine (c.closed (T := In r) hqp fun a b ha hb2 ad => ?_).1
        obtain ⟨z, hz, c2⟩ := (hR a).mp ha
        exact (hR b).mpr ⟨z, hz, .step c2 ad hb2⟩
      · exact ih.one r e
/-- more borders, what hangs together still does -/
theorem Conn.more {bs bs' : List (Nat × Nat)} {S : Nat → Prop} {p q : Nat} (k : ∀ b, b ∈ bs → b ∈ bs') (h : Conn bs S p q) : Conn bs' S p q := by
  induction h with
  | refl h => exact .refl h
  | step _ a h2 ih =>
    refine .step ih ?_ h2
    unfold adj at a ⊢
    rw [List.contains_iff_mem] at a ⊢
    exact k _ a
end Mk

set_option Elab.async false
set_option linter.all false
set_option maxRecDepth 100000
set_option maxHeartbeats 4000000
/-! Tm: a tuple times nought or one. -/
namespace Bx
open PySem PySem.Spec PyProof.Rows L2
theorem tuple_mul1 (l : Addr) (items : Array Value) (n : Nat) (dd : Option Addr) (sl : Array (Option Value)) (x : Int) (u : Tok) (c0 : (decide (x < -(2 ^ 63)) || decide (x ≥ 2 ^ 63)) = false) (c1 : (items.isEmpty || x == 1) = true) :
    Meets (Builtin.«tuple.__mul__» ⟨[.ref l, .int x u], []⟩) (fun _ R s => s.heap.get? l = some { cls := .type "tuple", dict := dd, data := .seq items n, slots := sl } ∧ R (.ok (.ret (Value.ref l))) s) :=
  .of_wp fun prog w A R s h => by
    obtain ⟨hp, g, d, tk, os⟩ := s
    obtain ⟨hl, h⟩ := h
    have f1 := AutoSeq1.idx_int
    wp_walk using wpAny_loadPart' hl
    repeat (first
      | (refine wpAny_ite_false (decide_eq_false (by rw [c0]; exact Bool.false_ne_true)) ?_; wp_walk using wpAny_loadPart' hl)
      | (refine wpAny_ite_true (decide_eq_true c1) ?_; wp_walk using wpAny_loadPart' hl))
    exact ⟨_, rfl, h⟩
theorem tuple_mul0 (l : Addr) (items : Array Value) (n : Nat) (dd : Option Addr) (sl : Array (Option Value)) (x : Int) (u : Tok) (c0 : (decide (x < -(2 ^ 63)) || decide (x ≥ 2 ^ 63)) = false) (c1 : (items.isEmpty || x == 1) = false) (c2 : (decide (x ≤ 0) || items.isEmpty) = true) :
    Meets (Builtin.«tuple.__mul__» ⟨[.ref l, .int x u], []⟩) (fun _ R s => s.heap.get? l = some { cls := .type "tuple", dict := dd, data := .seq items n, slots := sl } ∧
      R (.ok (.ret (Value.ref s.heap.objs.size))) { s with heap := s.heap.push { cls := Value.type "tuple", data := Data.seq #[] }, toks := s.toks }) :=
  .of_wp fun prog w A R s h => by
    obtain ⟨hp, g, d, tk, os⟩ := s
    obtain ⟨hl, h⟩ := h
    have f1 := AutoSeq1.idx_int
    wp_walk using wpAny_loadPart' hl
    repeat (first
      | (refine wpAny_ite_false (decide_eq_false (by rw [c0]; exact Bool.false_ne_true)) ?_; wp_walk using wpAny_loadPart' hl)
      | (refine wpAny_ite_false (decide_eq_false (by rw [c1]; exact Bool.false_ne_true)) ?_; wp_walk using wpAny_loadPart' hl)
      | (refine wpAny_ite_true (decide_eq_true c2) ?_; wp_walk using wpAny_loadPart' hl))
    exact ⟨_, rfl, h⟩
def rRep01 (K : PySem.W.Frag) : R2 := fun x y H Q => ∃ l k xs, x = .ref l ∧ y = .int k ∧ SqT K H l xs ∧ xs ≠ [] ∧ ((k = 1 ∧ Q (.ref l) H) ∨ (k = 0 ∧ ∀ p, H p = none → Q (.ref p) (upd H p (.tup []))))
theorem op_rep01 {X : Cx} : OpR X (binaryOp .Mult) (rRep01 X.K) := by
  intro pins s σ H x y v u Q I rx ry h
  obtain ⟨l, k, xs, rfl, rfl, hT, hne, hk⟩ := h
  cases rx
  obtain ⟨t, rfl⟩ := ry
  obtain ⟨its, r, ⟨⟨cls, dd, data, sl⟩, ho, hc, n, hd⟩, hs⟩ := I.tuple hT
  simp only at hc hd
  subst hc hd
  have hle : its.length = xs.length := r.length.symm
  have hn : its ≠ [] := fun e => hne (by
    rw [e] at hle
    exact List.eq_nil_of_length_eq_zero hle.symm)
  have hi : its.toArray.isEmpty = false := by
    cases its with
    | nil => exact absurd rfl hn
    | cons a b => rfl
  rcases hk with ⟨rfl, q⟩ | ⟨rfl, q⟩
  · have c1 : (its.toArray.isEmpty || (1 : Int) == 1) = true := by rw [hi]; rfl
    refine wpAny_binaryOp_repeat_ref (T := "tuple") (U := "int") (by decide) ⟨_, ho, rfl⟩ (fun s' => typeIs_int s' 1 t) noFill_tuple_mul F.fills_int_mul F.slot_int_rmul repeat_tuple F.slot_int_index.lookup
      (call_meets F.slot_int_rmul (typeIs_int s 1 t) F.entry_int_rmul (F.args_int_rmul_2 _ _) (int_rmul_tuple 1 t l its.toArray n dd sl)
        ⟨ho, rfl, ⟨_, ho, rfl⟩, call_meets F.slot_tuple_mul ⟨_, ho, rfl⟩ F.entry_tuple_mul (F.args_tuple_mul_2 _ _) (tuple_mul1 l its.toArray n dd sl 1 t (by decide) c1) ⟨ho, ?_⟩⟩)
    exact ⟨.ref l, H, I, rfl, q⟩
  · have c1 : (its.toArray.isEmpty || (0 : Int) == 1) = false := by rw [hi]; rfl
    have c2 : (decide ((0 : Int) ≤ 0) || its.toArray.isEmpty) = true := by rw [hi]; rfl
    refine wpAny_binaryOp_repeat_ref (T := "tuple") (U := "int") (by decide) ⟨_, ho, rfl⟩ (fun s' => typeIs_int s' 0 t) noFill_tuple_mul F.fills_int_mul F.slot_int_rmul repeat_tuple F.slot_int_index.lookup
      (call_meets F.slot_int_rmul (typeIs_int s 0 t) F.entry_int_rmul (F.args_int_rmul_2 _ _) (int_rmul_tuple 0 t l its.toArray n dd sl)
        ⟨ho, rfl, ⟨_, ho, rfl⟩, call_meets F.slot_tuple_mul ⟨_, ho, rfl⟩ F.entry_tuple_mul (F.args_tuple_mul_2 _ _) (tuple_mul0 l its.toArray n dd sl 0 t (by decide) c1 c2) ⟨ho, ?_⟩⟩)
    refine ⟨.ref s.heap.objs.size, _, I.laid (t' := s.toks) (o := .tup []) (fun b ob q => Heap.get?_push_of_some _ q) (Nat.le_refl _) ?_, rfl, q _ (I.hok.fresh (Nat.le_refl _))⟩
    exact ⟨by show 0 ≤ sizeLine; exact Nat.zero_le _, _, .nil, IsTup.new _ _⟩
end Bx
namespace Gx
open PySem PySem.Spec PyProof.Rows L2 Bx
section
variable {J : It} {n : Nat} {it : Nat → V} {g : TG} {tt : TT} {te : TE} {vs : List Nat} {σg : L2.St} {H : Hp} {Q : VK}
/-- tuple(.. if ..), any target -/
theorem g_tupG {Pw : Nat → List V → Hp → Prop} (S : ∀ i ys, Src J n it (Pw i ys)) (hn : n ≤ sizeLine) (h0 : Pw 0 [] H) (len : ∀ i ys H, Pw i ys H → ys.length ≤ i)
    (step : ∀ i ys H, Pw i ys H → i < n → g (it i) σg H fun σ2 H2 => wipe σ2 vs = σg ∧ tt σ2 H2 fun b H3 => if b = true then te σ2 H3 fun v H4 => ys.length < sizeLine ∧ ∃ m', m' < n - i ∧ Pw (i + 1) (ys ++ [v]) H4 ∧ i + 1 ≤ n ∧ m' = n - (i + 1) else ∃ m', m' < n - i ∧ Pw (i + 1) ys H3 ∧ i + 1 ≤ n ∧ m' = n - (i + 1))
    (fin : ∀ ys H, Pw n ys H → ∀ p, H p = none → Q (.ref p) (upd H p (.tup ys))) :
    ∃ W : Nat → Nat → List V → Hp → Prop, (∃ m, W 0 m [] H) ∧ GTurn J g tt te vs σg pTup (fun ys H => ∀ p, H p = none → Q (.ref p) (upd H p (.tup ys))) W := by
  refine ⟨fun i m ys H => Pw i ys H ∧ i ≤ n ∧ m = n - i, ⟨n, h0, Nat.zero_le _, by omega⟩, fun i m ys H ⟨hp, hi, hm⟩ => ?_⟩
  by_cases e : i = n
  · subst e
    exact .inl ⟨(S i ys).stop H hp, fin ys H hp⟩
  · have hlt : i < n := by omega
    refine .inr ⟨(S i ys).go i H hp hlt, fun x H' y => ?_⟩
    obtain ⟨rfl, rfl⟩ := (S i ys).yld i H x H' hp hlt y
    subst hm
    exact step i ys H' hp hlt
end
end Gx

set_option Elab.async false
set_option linter.all false
set_option maxRecDepth 100000
set_option maxHeartbeats 4000000
/-! Tu: sets of tuples of ints as large as a table of 128 slots holds them (76): the library's own rule ends below 64. Hashes of the keys are unlike: a search asks one entry. -/
namespace Tu
open PySem PySem.Spec PyProof.Rows L2
section
variable {P : Program} {w : World} {A : Around} {E : Value → Shared → Prop} {s : Shared}
/-- a set of tuples on a heap, the tuples' objects aside -/
structure Lies (P : Program) (w : World) (h : Heap) (a : Addr) (L : List (Addr × List Int)) (es : Array (Int × Value)) (ep : Nat) (t : SetTable) : Prop where
  obj : ∃ o, h.get? a = some o ∧ o.ExactSet ∧ o.data = .set es ep t
  row : es.toList = rowsOf P w L
  tbl : TabOk t (L.map fun p => thash P w p.2)
  one : (L.map (·.2)).Nodup
  pln : t.plain = true
  ord : w.params.followText "set-order" = true ∨ t.led = true
  gap : L.length * 5 < t.mask * 3
theorem rows_num {L : List (Addr × List Int)} {es : Array (Int × Value)} (e : es.toList = rowsOf P w L) : es.size = L.length := by
  rw [← Array.length_toList, e, rowsOf, List.length_map]
theorem rows_ent {L : List (Addr × List Int)} {es : Array (Int × Value)} (e : es.toList = rowsOf P w L) {i : Nat} {p : Addr × List Int} (h : L[i]? = some p) : es[i]? = some (thash P w p.2, Value.ref p.1) := by
  rw [← Array.getElem?_toList, e, rowsOf, List.getElem?_map, h]
  rfl
variable {a : Addr} {L : List (Addr × List Int)} {es : Array (Int × Value)} {ep : Nat} {t : SetTable}
theorem fits_of (hz : t.place.size = es.size) (hd : t.dummies = #[]) (hm : es.size ≤ t.mask) : t.fits es.size = true := by
  unfold SetTable.fits SetTable.fill
  rw [hd, hz]
  simp [hm]
theorem Lies.plc (Z : Lies P w s.heap a L es ep t) : t.place.size = es.size := by
  rw [Z.tbl.sz, List.length_map, rows_num Z.row]
theorem Lies.num (Z : Lies P w s.heap a L es ep t) : L.length ≤ 76 := by
  have g := Z.gap
  rcases Z.tbl.mok with e | e | e <;> rw [e] at g <;> omega
theorem Lies.fit (Z : Lies P w s.heap a L es ep t) : t.fits es.size = true :=
  fits_of Z.plc Z.tbl.dm (by have := Z.gap; have := rows_num Z.row; omega)

/-! ### a search -/
theorem seek (Z : Lies P w s.heap a L es ep t) (tt : ∀ p ∈ L, IsT P w s.heap p.2 p.1) {x : Addr} {k : List Int} (hx : IsT P w s.heap k x) (hu : A.units < cLine)
    (inj : ∀ p ∈ L, thash P w p.2 = thash P w k → p.2 = k) {Q : SetFound → Shared → Prop} (yes : k ∈ L.map (·.2) → Q (.there none) s)
    (no : ∀ K, k ∉ L.map (·.2) → way t.mask (thash P w k) K ∉ t.place.toList → (∀ c, c < K → way t.mask (thash P w k) c ∈ t.place.toList) → Q (.free (way t.mask (thash P w k) K) false) s) :
    wpAny (model P w) A (setSearch a (.ref x) (thash P w k) true) Q E s := by
  obtain ⟨o, ho, hex, hd⟩ := Z.obj
  obtain ⟨K, f1, f2, f3⟩ := Z.tbl.first (by have := Z.gap; rw [List.length_map]; omega) (thash P w k)
  unfold setSearch
  show wpAny (model P w) A (setSearchFrom a (.ref x) (thash P w k) true (99999 + 1) none) Q E s
  rw [setSearchFrom_succ]
  refine wpAny_bind (wpAny_setState_of ho hd Z.fit ?_)
  dsimp only
  refine wp_if_neg (by unfold SetTable.gaveWay; rw [mask_odd Z.tbl.mok]; decide) ?_
  try refine wpAny_bind (wpAny_pure ?_)
  have word := go_spec t Z.tbl.ris Z.tbl.dm (fun i => (es[i]?.map (·.1)).getD 0) (thash P w k) (10 * SetTable.turns t.mask) K (t.probeStart (thash P w k)) rfl f1 f3 f2
  rcases word with ⟨q, i, hq, hi, hh, -, pr⟩ | ⟨hn, pr⟩
  · have pr2 : t.probe (fun i => (es[i]?.map (·.1)).getD 0) (thash P w k) ((none : Option SetTable.Probe).getD (t.probeStart (thash P w k))) = _ := pr
    rw [pr2]
    dsimp only
    have hil : i < L.length := by
      have z := (List.getElem?_eq_some_iff.mp hi).1
      rw [Array.length_toList, Z.plc, rows_num Z.row] at z
      exact z
    have hL := List.getElem?_eq_getElem hil
    have hmem := List.getElem_mem hil
    generalize L[i] = p at hL hmem
    have hent := rows_ent Z.row hL
    have hkey : p.2 = k := inj p hmem (by
      simp only [hent] at hh
      exact hh)
    have last : wpAny (model P w) A (searchRest a (.ref x) (thash P w k) true 99999 es t (nth t.mask (t.probeStart (thash P w k)) q).j i (nth t.mask (t.probeStart (thash P w k)) (q + 1))) Q E s := by
      unfold searchRest
      rw [hent]
      refine wpAny_bind (wpAny_holding (wpAny_eqBool_tuple hu (tt p hmem) hx ?_))
      refine wpAny_bind (wpAny_setState_of ho hd Z.fit ?_)
      exact wp_if_pos (by simp [hkey]) (wpAny_pure (yes (List.mem_map.mpr ⟨p, hmem, hkey⟩)))
    cases hl : t.led with
    | true =>
      refine wp_if_neg (by simp) ?_
      try refine wpAny_bind (wpAny_pure ?_)
      exact last
    | false =>
      refine wp_if_pos (by simp) (wpAny_bind (seen_tup hx (fun y hy => ?_) ?_))
      · obtain ⟨e, he, rfl⟩ := List.mem_map.mp hy
        have h1 : e ∈ es.toList := by
          have z : e ∈ es ∧ e.1 = thash P w k := by simpa using he
          simpa using z.1
        rw [Z.row] at h1
        obtain ⟨p2, hp2, rfl⟩ := List.mem_map.mp h1
        exact ⟨p2.2, p2.1, rfl, tt p2 hp2⟩
      · refine wp_if_neg Bool.false_ne_true ?_
        try refine wpAny_bind (wpAny_pure ?_)
        exact last
  · have pr2 : t.probe (fun i => (es[i]?.map (·.1)).getD 0) (thash P w k) ((none : Option SetTable.Probe).getD (t.probeStart (thash P w k))) = _ := pr
    rw [pr2]
    refine wpAny_pure (no K (fun hm => ?_) f2 f3)
    obtain ⟨p, hp, hk⟩ := List.mem_map.mp hm
    obtain ⟨i, hi, rfl⟩ := List.getElem_of_mem hp
    have hL := List.getElem?_eq_getElem hi
    have hil : i < t.place.toList.length := by
      rw [Array.length_toList, Z.plc, rows_num Z.row]
      exact hi
    have hj := List.getElem?_eq_getElem hil
    obtain ⟨c, hc, e⟩ := Z.tbl.before f2 (h := thash P w k) (by rw [List.getElem?_map, hL, ← hk]; rfl) hj
    refine hn c i hc (by rw [hj, ← e]; rfl) ?_
    simp only [rows_ent Z.row hL]
    exact congrArg (thash P w) hk

/-! ### a larger table -/
theorem regrow {o : Obj} (ho : s.heap.get? a = some o) (hex : o.ExactSet) (hd : o.data = .set es ep t) (hr : es.toList = rowsOf P w L) (hz : t.place.size = es.size) (hdm : t.dummies = #[]) (hm : es.size ≤ t.mask)
    (nd : (L.map (·.2)).Nodup) (hp : t.plain = true) (hl : w.params.followText "set-order" = true ∨ t.led = true) {want M : Nat} (hw : SetTable.sizeAbove want = M + 1) (hM : MaskOk M) (hg : L.length * 5 < M * 3) {Q : Unit → Shared → Prop}
    (hQ : ∀ h' L' es' ep' t', Heap.SameBut a s.heap h' → Lies P w h' a L' es' ep' t' → L'.Perm L → Q () { s with heap := h' }) : wpAny (model P w) A (setRelay a want) Q E s := by
  have hn := rows_num hr
  have hM2 : M ≤ 127 := by rcases hM with e | e | e <;> omega
  obtain ⟨t', order, e1, e2, e3, e4, e5, e6, -⟩ := relaid_ok t (hs := es.map (·.1)) (wanted := want) (by rw [hw]; rfl) hM (by rw [Array.size_map, hn]; omega)
  rw [Array.size_map, hn] at e2
  obtain ⟨N, r1, r2, r3⟩ := order_rows L es order hr e2
  rw [← r3] at e3
  have hs2 : (order.filterMap (es[·]?)).size = es.size := by rw [rows_num r1, r2.length_eq, hn]
  rw [setRelay_eq]
  refine wpAny_bind (wpAny_setState_of ho hd (fits_of hz hdm hm) ?_)
  dsimp only
  refine wp_if_neg (by rw [hw, sizeLine_eq]; omega) ?_
  try refine wpAny_bind (wpAny_pure ?_)
  rw [e1]
  dsimp only
  refine wpAny_bind (wp_if_neg (by rw [hs2]; simp) ?_)
  try refine wpAny_bind (wpAny_pure ?_)
  refine wpAny_pure (wpAny_storeSet_of ho hd ?_ (by rw [hs2, hn, sizeLine_eq]; omega))
  refine hQ _ N (order.filterMap (es[·]?)) (ep + 1) t' (Heap.SameBut.update ..) ⟨⟨_, store_at ho hd, ⟨hex.1, hex.2.1, hex.2.2⟩, rfl⟩, r1, e3, (r2.map (·.2)).nodup_iff.mpr nd, by rw [e6]; exact hp, by rw [e5]; exact hl, ?_⟩ r2
  rw [r2.length_eq, e4]
  exact hg

/-! ### one more -/
theorem put_in (Z : Lies P w s.heap a L es ep t) (tt : ∀ p ∈ L, IsT P w s.heap p.2 p.1) {x : Addr} {k : List Int} (hx : IsT P w s.heap k x) (hu : A.units < cLine)
    (inj : ∀ p ∈ L, thash P w p.2 = thash P w k → p.2 = k) (few : k ∉ L.map (·.2) → L.length < 76) {Q : Bool → Shared → Prop}
    (old : k ∈ L.map (·.2) → Q false s) (new : k ∉ L.map (·.2) → ∀ h' N es' ep' t', Heap.SameBut a s.heap h' → Lies P w h' a N es' ep' t' → N.Perm ((x, k) :: L) → Q true { s with heap := h' }) :
    wpAny (model P w) A (setAddHashed a (.ref x) (thash P w k)) Q E s := by
  obtain ⟨o, ho, hex, hd⟩ := Z.obj
  have hn := rows_num Z.row
  unfold setAddHashed
  refine wpAny_holding ?_
  show wpAny (model P w) A (setAddHashedIn a (.ref x) (thash P w k) (99999 + 1)) Q E s
  rw [setAddHashedIn_succ]
  refine wpAny_bind (wpAny_setState_of ho hd Z.fit ?_)
  dsimp only
  refine wp_if_neg (by simp [byScan, Value.scannable]) ?_
  try refine wpAny_bind (wpAny_pure ?_)
  refine wpAny_bind (seek Z tt hx hu inj (fun h => wpAny_pure (old h)) fun K hk n1 n2 => ?_)
  have few := few hk
  have put := Z.tbl.put n1 n2
  generalize way t.mask (thash P w k) K = at_ at put ⊢
  dsimp only
  refine wpAny_bind (wpAny_setState_of ho hd Z.fit ?_)
  dsimp only
  obtain ⟨u1, u2, u3, u4, u5, u6, -, -, u9⟩ := put
  have pl : (t.put at_).1.plain = true := by rw [u6]; exact Z.pln
  have od : w.params.followText "set-order" = true ∨ (t.put at_).1.led = true := by rw [u5]; exact Z.ord
  have h1 : (SetTable.insertAt es (SetTable.below t.place at_) (thash P w k, Value.ref x)).toList = rowsOf P w (L.take (SetTable.below t.place at_) ++ (x, k) :: L.drop (SetTable.below t.place at_)) := by
    rw [SetTable.toList_insertAt, rows_put, Z.row]
  have h2 := put_perm L (SetTable.below t.place at_) (x, k)
  have h3 : (L.map fun p => thash P w p.2).take (SetTable.below t.place at_) ++ thash P w k :: (L.map fun p => thash P w p.2).drop (SetTable.below t.place at_) = (L.take (SetTable.below t.place at_) ++ (x, k) :: L.drop (SetTable.below t.place at_)).map fun p => thash P w p.2 := by
    simp [List.map_take, List.map_drop]
  rw [h3] at u3
  clear h3
  rw [List.length_map] at u9
  generalize t.put at_ = pt at u1 u3 u4 u5 u6 u9 pl od ⊢
  obtain ⟨t1, b⟩ := pt
  dsimp only at u1 u3 u4 u5 u6 u9 pl od ⊢
  subst u1
  generalize SetTable.insertAt es (SetTable.below t.place at_) (thash P w k, Value.ref x) = es1 at h1 ⊢
  generalize L.take (SetTable.below t.place at_) ++ (x, k) :: L.drop (SetTable.below t.place at_) = N at h1 h2 u3
  have hN : N.length = L.length + 1 := h2.length_eq
  have he1 : es1.size = L.length + 1 := by rw [rows_num h1, hN]
  have nd : (N.map (·.2)).Nodup := by
    rw [(h2.map (·.2)).nodup_iff]
    exact List.nodup_cons.mpr ⟨hk, Z.one⟩
  first
    | (refine wpAny_bind ?_; refine wp_if_pos pl ?_; refine hashBy_tup hx ?_)
    | refine wp_if_pos pl (wpAny_bind (hashBy_tup hx ?_))
  simp only [if_true]
  refine wpAny_bind (wpAny_storeSet_of ho hd ?_ (by rw [he1, sizeLine_eq]; omega))
  have sb : Heap.SameBut a s.heap (s.heap.update a (Obj.putSet es1 t1)) := Heap.SameBut.update ..
  have ho1 := store_at (es' := es1) (t' := t1) ho hd
  generalize s.heap.update a (Obj.putSet es1 t1) = g1 at sb ho1 ⊢
  have gap := Z.gap
  cases hf : t1.tooFull with
  | false =>
    first
      | refine wp_if_neg (by simp) ?_
      | (refine wpAny_bind ?_; refine wp_if_neg (by simp) ?_; refine wpAny_pure ?_)
    refine wpAny_pure (new hk g1 N es1 (ep + 1) t1 sb ⟨⟨_, ho1, ⟨hex.1, hex.2.1, hex.2.2⟩, rfl⟩, h1, u3, nd, pl, od, ?_⟩ h2)
    unfold SetTable.tooFull at hf
    rw [decide_eq_false_iff_not, u9] at hf
    omega
  | true =>
    unfold SetTable.tooFull at hf
    rw [decide_eq_true_eq, u9, u4] at hf
    have two : (t.mask = 7 ∧ L.length = 4) ∨ (t.mask = 31 ∧ L.length = 18) := by
      rcases Z.tbl.mok with e | e | e
      · exact .inl ⟨e, by omega⟩
      · exact .inr ⟨e, by omega⟩
      · omega
    have hz1 : t1.place.size = es1.size := by rw [u3.sz, List.length_map, hN, he1]
    have grow : ∃ M, SetTable.sizeAbove (SetTable.grown (es.size + 1)) = M + 1 ∧ MaskOk M ∧ N.length * 5 < M * 3 := by
      rw [hn, hN]
      rcases two with ⟨_, e⟩ | ⟨_, e⟩ <;> rw [e]
      · exact ⟨31, size_20, .inr (.inl rfl), by decide⟩
      · exact ⟨127, size_76, .inr (.inr rfl), by decide⟩
    obtain ⟨M, g2, g3, g4⟩ := grow
    have go : wpAny (model P w) A (setRelay a (SetTable.grown (es.size + 1))) (fun _ s' => wpAny (model P w) A (pure true) Q E s') E { s with heap := g1 } :=
      regrow (s := { s with heap := g1 }) ho1 ⟨hex.1, hex.2.1, hex.2.2⟩ rfl h1 hz1 u3.dm (by rw [he1, u4]; rcases two with ⟨e, e2⟩ | ⟨e, e2⟩ <;> omega) nd pl od g2 g3 g4 fun h' N' es' ep' t' sb2 Z2 pm =>
        wpAny_pure (new hk h' N' es' ep' t' (sb.trans sb2) Z2 (pm.trans h2))
    first
      | (refine wpAny_bind ?_; refine wp_if_pos (by simp) ?_; exact go)
      | (refine wp_if_pos (by simp) ?_; refine wpAny_bind ?_; exact go)
end
end Tu

set_option Elab.async false
set_option linter.all false
set_option maxRecDepth 100000
set_option maxHeartbeats 4000000
/-! Tu2: set(xs) of a list of tuples, sorted of it. -/
namespace Tu
open PySem PySem.Spec PyProof.Rows L2
/-- the keys that may come: not too many, of unlike hashes -/
structure Dom (P : Program) (w : World) (D : List (List Int)) : Prop where
  few : D.length ≤ 76
  inj : ∀ k, k ∈ D → ∀ m, m ∈ D → thash P w k = thash P w m → k = m
theorem len_sub {α : Type} [DecidableEq α] : ∀ {l D : List α}, l.Nodup → (∀ x, x ∈ l → x ∈ D) → l.length ≤ D.length
  | [], _, _, _ => Nat.zero_le _
  | x :: l, D, n, h => by
    have n' := List.nodup_cons.mp n
    have hx := h x List.mem_cons_self
    have q := len_sub (D := D.erase x) n'.2 fun y hy => (List.mem_erase_of_ne (fun e => n'.1 (by rw [← e]; exact hy))).mpr (h y (List.mem_cons_of_mem _ hy))
    rw [List.length_erase_of_mem hx] at q
    have := List.length_pos_of_mem hx
    rw [List.length_cons]
    omega
section
variable {P : Program} {w : World} {A : Around} {E : Value → Shared → Prop} {s : Shared}
theorem Lies.on {h h' : Heap} {a : Addr} {L : List (Addr × List Int)} {es : Array (Int × Value)} {ep : Nat} {t : SetTable} (Z : Lies P w h a L es ep t) (k : ∀ o, h.get? a = some o → h'.get? a = some o) : Lies P w h' a L es ep t :=
  ⟨let ⟨o, h1, h2⟩ := Z.obj; ⟨o, k o h1, h2⟩, Z.row, Z.tbl, Z.one, Z.pln, Z.ord, Z.gap⟩
/-- the set at S has what the first i items of ks are; what stood at h0 stands -/
structure Stage (P : Program) (w : World) (D : List (List Int)) (ks : List (Addr × List Int)) (S : Addr) (h0 : Heap) (i : Nat) (h : Heap) : Prop where
  old : ∀ b o, h0.get? b = some o → h.get? b = some o
  set_ : ∃ L es ep t, Lies P w h S L es ep t ∧ Got ks i L
/-- what stays over all steps -/
structure Base (P : Program) (w : World) (D : List (List Int)) (ks : List (Addr × List Int)) (S : Addr) (h0 : Heap) : Prop where
  dom : Dom P w D
  tup : ∀ p ∈ ks, IsT P w h0 p.2 p.1
  sub : ∀ p ∈ ks, p.2 ∈ D
  new : h0.get? S = none
variable {D : List (List Int)} {ks : List (Addr × List Int)} {S : Addr} {h0 : Heap} {i : Nat}
theorem Stage.moved {h h' : Heap} (B : Base P w D ks S h0) (Z : Stage P w D ks S h0 i h) (k1 : ∀ o, h.get? S = some o → h'.get? S = some o) (k2 : ∀ b o, h0.get? b = some o → h.get? b = some o → h'.get? b = some o) : Stage P w D ks S h0 i h' :=
  ⟨fun b o e => k2 b o e (Z.old b o e), let ⟨L, es, ep, t, z, g⟩ := Z.set_; ⟨L, es, ep, t, z.on k1, g⟩⟩
theorem stage_add (B : Base P w D ks S h0) (Z : Stage P w D ks S h0 i s.heap) {p : Addr × List Int} (hp : ks[i]? = some p) (hu : A.units < cLine) {Q : Bool → Shared → Prop}
    (hQ : ∀ b h' tk, Heap.SameBut S s.heap h' → Stage P w D ks S h0 (i + 1) h' → s.toks ≤ tk → Q b { s with heap := h', toks := tk }) : wpAny (model P w) A (setAdd S (.ref p.1)) Q E s := by
  obtain ⟨L, es, ep, t, z, g⟩ := Z.set_
  have hin := List.mem_of_getElem? hp
  have up : ∀ {k b}, IsT P w h0 k b → IsT P w s.heap k b := fun x => isT_keep x Z.old
  have inL : ∀ q ∈ L, q ∈ ks := fun q hq => List.mem_of_mem_take (g.sub q hq)
  have hx := up (B.tup p hin)
  have keep : ∀ h', Heap.SameBut S s.heap h' → ∀ b o, h0.get? b = some o → h'.get? b = some o := fun h' sb b o e => by
    refine (sb.2 b fun q => ?_).trans (Z.old b o e)
    rw [q, B.new] at e
    cases e
  unfold setAdd
  refine wpAny_holding (wpAny_bind (wpAny_pyHash_tuple hu hx ?_))
  refine put_in (s := { s with toks := s.toks + (p.2.length + 1) }) z (fun q hq => up (B.tup q (inL q hq))) hx hu (fun q hq e => B.dom.inj _ (B.sub q (inL q hq)) _ (B.sub p hin) e) (fun hm => ?_) (fun hm => ?_) fun hm h' N es' ep' t' sb z' pm => ?_
  · have q := len_sub (l := p.2 :: L.map (·.2)) (D := D) (List.nodup_cons.mpr ⟨hm, z.one⟩) fun k hk => by
      rcases List.mem_cons.mp hk with e | e
      · exact e ▸ B.sub p hin
      · obtain ⟨r, hr, e2⟩ := List.mem_map.mp e
        exact e2 ▸ B.sub r (inL r hr)
    have := B.dom.few
    rw [List.length_cons, List.length_map] at q
    omega
  · exact hQ false s.heap _ (.refl S s.heap) ⟨Z.old, L, es, ep, t, z, g.same hp hm⟩ (Nat.le_add_right _ _)
  · exact hQ true h' _ sb ⟨keep h' sb, N, es', ep', t', z', g.more hp pm⟩ (Nat.le_add_right _ _)

/-! ### the loop of set.update -/
theorem fill {I : Addr} {fp wr : List Addr} {G : Array GenState → Array GenState → Prop} {Pv : Nat → Value → Prop} {St : Nat → Shared → Prop} {R : Result → Shared → Prop}
    (W : WalksS P w A.in1 I fp wr G ks.length Pv St) (B : Base P w D ks S h0) (hS : S ∉ fp) (val : ∀ i v, Pv i v → ∃ p, ks[i]? = some p ∧ v = .ref p.1) (hw : ∀ b ∈ wr, h0.get? b = none) (hu : A.in1.units < cLine) (m : Nat) :
    ∀ (i : Nat) (s : Shared), i + m = ks.length → St i s → Stage P w D ks S h0 i s.heap → (∀ s', Moved (S :: wr) G s s' → Stage P w D ks S h0 ks.length s'.heap → R (.ok (.ret .none)) s') →
      codeAny (model P w) A (.builtin "set.update.loop" ⟨[.ref S, .ref I], []⟩) R s := by
  have nS : S ∉ wr := fun h => hS (W.sub _ h)
  have wide : ∀ b ∈ wr, b ∈ S :: wr := fun b => List.mem_cons_of_mem S
  have over : ∀ {s s' : Shared} {i : Nat}, Moved wr G s s' → Stage P w D ks S h0 i s.heap → Stage P w D ks S h0 i s'.heap := fun mv z =>
    z.moved B (fun o e => mv.heap S o nS e) fun b o e1 e2 => mv.heap b o (fun hb => by rw [hw b hb] at e1; cases e1) e2
  induction m with
  | zero =>
    intro i s hm hst z hR
    obtain rfl : i = ks.length := by omega
    refine codeAny_builtin F.entry_set_update_loop (by
      rw [Around.under_plainId F.plain_set_update_loop _]
      exact (show wpAny _ A.in1 (pyNext (.ref I) >>= _) _ _ s from wpAny_bind (W.done s _ _ hst fun s' mv => wpAny_pure (hR s' (mv.mono wide) (over mv z)))))
  | succ m ih =>
    intro i s hm hst z hR
    refine codeAny_builtin F.entry_set_update_loop ?_
    rw [Around.under_plainId F.plain_set_update_loop _]
    refine (show wpAny _ A.in1 (pyNext (.ref I) >>= _) _ _ s from wpAny_bind (W.item i s _ _ (by omega) hst fun v s' hv hst' mv => ?_))
    obtain ⟨p, hp, rfl⟩ := val i v hv
    refine (show wpAny _ A.in1 (holding [Value.ref p.1] (setAdd S (.ref p.1)) >>= _) _ _ s' from wpAny_bind (wpAny_holding (stage_add B (over mv z) hp hu fun b h' tk sb z' ht => ?_)))
    have other : ∀ c, c ≠ S → h'.get? c = s'.heap.get? c := fun c hc => sb.2 c hc
    refine wpAny_pure ⟨plainId_quiet F.plain_set_update_loop _, ih (i + 1) _ (by omega) (W.frame _ s' _ _ hst' ht fun c hc o e => ?_) z' fun s'' mv2 z2 => hR s'' (Moved.trans W.gtrans ((mv.mono wide).then_heap ht fun c o hc e => ?_) mv2) z2⟩
    · exact (other c fun q => hS (q ▸ hc)).trans e
    · exact (other c fun q => hc (q ▸ List.mem_cons_self)).trans e
end
end Tu

set_option Elab.async false
set_option linter.all false
set_option maxRecDepth 100000
set_option maxHeartbeats 4000000
/-! Tu3: the call set(xs) and sorted of that set, as rules of the layer. -/
namespace Tu
open PySem PySem.Spec PyProof.Rows L2
section
variable {P : Program} {w : World} {A : Around} {E : Value → Shared → Prop} {s : Shared} {D : List (List Int)} {ks : List (Addr × List Int)}
/-- a set as it is made -/
abbrev bare (w : World) : Obj := { cls := .type "set", dict := none, data := .set #[] 0 (.fresh 0 0 (!w.params.followText "set-order")) }
theorem bare_lies {h : Heap} {a : Addr} (e : h.get? a = some (bare w)) : Lies P w h a [] #[] 0 (.fresh 0 0 (!w.params.followText "set-order")) := by
  refine ⟨⟨_, e, ⟨rfl, rfl, rfl⟩, rfl⟩, rfl, ⟨.nil, rfl, rfl, .inl rfl, (fun x hx => nomatch hx), (fun i h j hi => nomatch hi)⟩, .nil, rfl, ?_, by show 0 * 5 < 7 * 3; decide⟩
  show _ ∨ (!w.params.followText "set-order") = true
  cases w.params.followText "set-order"
  · exact .inr rfl
  · exact .inl rfl
theorem val_at {items : Array Value} (e : items.toList = ks.map fun p => Value.ref p.1) (i : Nat) (v : Value) (h : items[i]? = some v) : ∃ p, ks[i]? = some p ∧ v = .ref p.1 := by
  rw [← Array.getElem?_toList, e, List.getElem?_map, Option.map_eq_some_iff] at h
  obtain ⟨p, h1, h2⟩ := h
  exact ⟨p, h1, h2.symm⟩
theorem beyond {h : Heap} {b : Addr} (hb : h.objs.size ≤ b) : h.get? b = none := by
  cases q : h.get? b with
  | none => rfl
  | some o => exact absurd (Heap.lt_size q) (Nat.not_lt.mpr hb)
/-- set.__init__ of the list, the bare set at the heap's end -/
theorem init_list {l : Addr} {items : Array Value} (hh : A.handled = none) (hl : s.heap.IsList l items) (hit : items.toList = ks.map fun p => Value.ref p.1) (hk : ∀ p ∈ ks, IsT P w s.heap p.2 p.1) (dm : Dom P w D) (hD : ∀ p ∈ ks, p.2 ∈ D) (hu : A.units + 1 < cLine)
    {R : PySem.Fin → Shared → Prop} (h : ∀ h' tk, Stage P w D ks s.heap.objs.size s.heap ks.length h' → R (.done (.ret .none)) { s with heap := h', toks := tk }) :
    wpAny (model P w) A (Builtin.«set.__init__» ⟨[.ref s.heap.objs.size, .ref l], []⟩) R E { s with heap := s.heap.push (bare w) } := by
  have fresh : s.heap.get? s.heap.objs.size = none := beyond (Nat.le_refl _)
  have at0 : (s.heap.push (bare w)).get? s.heap.objs.size = some (bare w) := Heap.get?_push_size _ rfl
  have size : (s.heap.push (bare w)).objs.size = s.heap.objs.size + 1 := Heap.size_push ..
  have kind : Shared.TypeIs { s with heap := s.heap.push (bare w) } (.ref s.heap.objs.size) "set" := ⟨_, at0, rfl⟩
  obtain ⟨⟨cl, dc, dt, sl⟩, lo, rfl, n, rfl⟩ := hl
  have llt := Heap.lt_size lo
  have lo1 := Heap.get?_push_of_some (bare w) lo
  have list1 : (s.heap.push (bare w)).IsList l items := ⟨_, lo1, rfl, n, rfl⟩
  have no1 := F.sub_list_set
  have no2 := F.sub_list_frozenset
  have no3 : (Value.type "list" == Value.type "dict") = false := by decide
  unfold Builtin.«set.__init__» noKeywords Builtin.Frozenset.updateFrom
  generalize eI : pyIter = it
  wp_walk
  subst eI
  refine wpAny_pyIter_list list1 (wpAny_bind (wpAny_runValue ?_))
  have ne1 : l ≠ (s.heap.push (bare w)).objs.size := by rw [size]; exact Nat.ne_of_lt (Nat.lt_succ_of_lt llt)
  have num : items.size = ks.length := by rw [← Array.length_toList, hit, List.length_map]
  have W := (Walks.list (prog := P) (w := w) (A := A.in1) (by simp [hh]) (s.heap.push (bare w)).objs.size l ne1 items).toS
  rw [num] at W
  have B : Base P w D ks s.heap.objs.size s.heap := ⟨dm, hk, hD, fresh⟩
  refine fill W B (fun q => by rw [size] at q; rcases List.mem_cons.mp q with q | q; exact absurd q (Nat.ne_of_lt (Nat.lt_succ_self _)); exact absurd (List.mem_singleton.mp q) (Nat.ne_of_gt llt)) (val_at hit) (fun b hb => beyond (by rw [List.mem_singleton.mp hb, size]; exact Nat.le_succ _)) hu ks.length 0 _ (Nat.zero_add _) ⟨⟨_, Heap.get?_push_size _ rfl, rfl, rfl⟩, list1.push _⟩
    ⟨fun b o e => Heap.get?_push_of_some _ (Heap.get?_push_of_some _ e), _, _, _, _, bare_lies (Heap.get?_push_of_some _ at0), .zero ks⟩ fun s' mv z => ?_
  obtain ⟨h', g', d', tk', os'⟩ := s'
  obtain rfl : g' = s.gens := mv.gens
  obtain rfl : d' = s.drawn := mv.drawn
  obtain rfl : os' = s.os := mv.os
  exact wpAny_pure (wpAny_pure (h h' tk' z))
/-- set(xs) -/
theorem made {l : Addr} {items : Array Value} {Q : Value → Shared → Prop} (hh : A.handled = none) (hl : s.heap.IsList l items) (hit : items.toList = ks.map fun p => Value.ref p.1) (hk : ∀ p ∈ ks, IsT P w s.heap p.2 p.1) (dm : Dom P w D) (hD : ∀ p ∈ ks, p.2 ∈ D) (hu : A.units + 4 < cLine)
    (h : ∀ h' tk, Stage P w D ks s.heap.objs.size s.heap ks.length h' → Q (.ref s.heap.objs.size) { s with heap := h', toks := tk }) : wpAny (model P w) A (call (.type "set") [.ref l]) Q E s := by
  have ⟨cl, tl, mro⟩ := F.called_set.mro
  have f1 := F.called_set.made
  have f2 := F.called_set.sub
  have f3 := F.called_set.notType
  have f4 := F.called_set.canCreate
  have f5 := F.typeCall_set_1 (.ref l)
  refine wpAny_call (codeAny_of_tree (show wpAny _ _ (callAny (.type "set") _) _ _ _ from wpAny_pure ⟨Code.quiet_builtin _ (by decide +kernel), codeAny_builtin F.entry_type_call ?_⟩))
  rw [Around.under_plain (weight_type_call_type "set" [.ref l] []) rfl]
  repeat' first
    | assumption
    | wp_step
  refine codeAny_mono (code_set_led1 (.ref l) (E := E) (Q₁ := fun v s1 => v = .ref s.heap.objs.size ∧ s1 = { s with heap := s.heap.push (bare w) }) ⟨rfl, rfl⟩) fun r s1 hr => ?_
  rcases r with e | fl
  · exact hr
  · cases fl with
    | ret v =>
      obtain ⟨rfl, rfl⟩ := hr
      have at0 : (s.heap.push (bare w)).get? s.heap.objs.size = some (bare w) := Heap.get?_push_size _ rfl
      have kind : Shared.TypeIs { s with heap := s.heap.push (bare w) } (.ref s.heap.objs.size) "set" := ⟨_, at0, rfl⟩
      have g1 := F.called_set.init.lookup
      have g2 := F.called_set.init.bind (.ref s.heap.objs.size)
      repeat' first
        | assumption
        | wp_step
      refine codeAny_mono (codeAny_call_builtin (R := wants (fun r s2 => r = .none ∧ ∃ h' tk, s2 = { s with heap := h', toks := tk } ∧ Stage P w D ks s.heap.objs.size s.heap ks.length h') E) F.called_set.init.plain F.entry_set_init (check_set_init_1 kind
        (init_list (by simp [hh]) hl hit hk dm hD (by simp; omega) fun h' tk z => ⟨rfl, h', tk, rfl, z⟩))) fun r s2 hr => ?_
      rcases r with e | fl
      · exact hr
      · cases fl with
        | ret v =>
          obtain ⟨rfl, h', tk, rfl, z⟩ := hr
          repeat' first
            | assumption
            | wp_step
          exact h h' tk z
        | _ => exact hr.elim
    | _ => exact hr.elim
end
end Tu

set_option Elab.async false
set_option linter.all false
set_option maxRecDepth 100000
set_option maxHeartbeats 4000000
/-! Tu4: sorted of a set of pairs; both calls as rules of the layer. -/
namespace Tu
open PySem PySem.Spec PyProof.Rows L2
/-- one pair of ints ahead of another -/
def ahead (x y : List Int) : Prop := x.getD 0 0 < y.getD 0 0 ∨ (x.getD 0 0 = y.getD 0 0 ∧ x.getD 1 0 < y.getD 1 0)
section
variable {P : Program} {w : World} {A : Around} {E : Value → Shared → Prop} {s : Shared}
/-- the two ints that stand at an address, by a list that tells -/
def told (L : List (Addr × List Int)) (v : Value) : Int × Int := match v with
  | .ref b => match L.find? (fun p => decide (p.1 = b)) with
    | some p => (p.2.getD 0 0, p.2.getD 1 0)
    | none => (0, 0)
  | _ => (0, 0)
theorem told_at {h : Heap} {L : List (Addr × List Int)} (tt : ∀ p ∈ L, IsT P w h p.2 p.1) {p : Addr × List Int} (hp : p ∈ L) : told L (.ref p.1) = (p.2.getD 0 0, p.2.getD 1 0) := by
  show (match L.find? (fun q => decide (q.1 = p.1)) with | some q => (q.2.getD 0 0, q.2.getD 1 0) | none => (0, 0)) = _
  cases e : L.find? (fun q => decide (q.1 = p.1)) with
  | none => exact absurd (List.find?_eq_none.mp e p hp) (by simp)
  | some q =>
    have h1 : q.1 = p.1 := by simpa using List.find?_some e
    have h2 := tt q (List.mem_of_find?_eq_some e)
    rw [h1] at h2
    show (q.2.getD 0 0, q.2.getD 1 0) = _
    rw [h2.inj (tt p hp)]
theorem isPair_of {h : Heap} {k : List Int} {b : Addr} (x : IsT P w h k b) (h2 : k.length = 2) : Srt.IsPair h (.ref b) (k.getD 0 0) (k.getD 1 0) := by
  obtain ⟨o, items, n, ho, hc, hd, hi⟩ := x
  match k, h2 with
  | [i, j], _ =>
    cases hi' : items.toList with
    | nil => rw [hi'] at hi; cases hi
    | cons u us =>
      rw [hi'] at hi
      cases hi with
      | cons a1 r1 =>
        cases r1 with
        | cons a2 r2 =>
          cases r2
          obtain ⟨t1, rfl⟩ := Value.isInt_shape a1
          obtain ⟨t2, rfl⟩ := Value.isInt_shape a2
          have e : items = #[Value.int i t1, Value.int j t2] := by
            apply Array.toList_inj.mp
            rw [hi']
          exact ⟨b, o, t1, t2, n, rfl, ho, hc, by rw [hd, e]; rfl⟩
/-- lists of addresses out of others -/
theorem back {L : List (Addr × List Int)} : ∀ {vs : List Value}, (∀ v ∈ vs, ∃ p ∈ L, v = Value.ref p.1) → ∃ N : List (Addr × List Int), vs = N.map (fun p => Value.ref p.1) ∧ ∀ p ∈ N, p ∈ L
  | [], _ => ⟨[], rfl, fun _ h => nomatch h⟩
  | v :: vs, h => by
    obtain ⟨p, hp, rfl⟩ := h v List.mem_cons_self
    obtain ⟨N, rfl, hN⟩ := back (vs := vs) fun u hu => h u (List.mem_cons_of_mem _ hu)
    exact ⟨p :: N, rfl, fun q hq => by
      rcases List.mem_cons.mp hq with e | e
      · exact e ▸ hp
      · exact hN q e⟩
theorem addr_one {h : Heap} {L : List (Addr × List Int)} (tt : ∀ p ∈ L, IsT P w h p.2 p.1) {p q : Addr × List Int} (hp : p ∈ L) (hq : q ∈ L) (e : p.1 = q.1) : p = q := by
  have h1 := tt p hp
  rw [e] at h1
  exact Prod.ext e (h1.inj (tt q hq))
theorem perm_back {h : Heap} {L N : List (Addr × List Int)} (tt : ∀ p ∈ L, IsT P w h p.2 p.1) (one : (L.map (·.2)).Nodup) (hN : ∀ p ∈ N, p ∈ L) (pm : (N.map fun p => Value.ref p.1).Perm (L.map fun p => Value.ref p.1)) : N.Perm L := by
  have nL : L.Nodup := List.Pairwise.of_map (·.2) (fun _ _ hne e => hne (congrArg _ e)) one
  have nA : (L.map fun p => Value.ref p.1).Nodup := List.pairwise_map.mpr (nL.imp_of_mem fun hp hq hne e => hne (addr_one tt hp hq (Value.ref.inj e)))
  have nN : N.Nodup := List.Pairwise.of_map (fun p : Addr × List Int => Value.ref p.1) (fun a b hne e => hne (by rw [e])) (pm.nodup_iff.mpr nA)
  refine (List.perm_ext_iff_of_nodup nN nL).mpr fun p => ⟨hN p, fun hp => ?_⟩
  obtain ⟨q, hq, e⟩ := List.mem_map.mp (pm.mem_iff.mpr (List.mem_map.mpr ⟨p, hp, rfl⟩))
  rw [← addr_one tt (hN q hq) hp (Value.ref.inj e)]
  exact hq
theorem sort_set {a : Addr} {L : List (Addr × List Int)} {es : Array (Int × Value)} {ep : Nat} {t : SetTable} {Q : Value → Shared → Prop} (Z : Lies P w s.heap a L es ep t) (tt : ∀ p ∈ L, IsT P w s.heap p.2 p.1) (hh : A.handled = none) (two : ∀ p ∈ L, p.2.length = 2)
    (hQ : ∀ s' b (out : Array Value) (c : Nat) (N : List (Addr × List Int)), (∀ d o, s.heap.get? d = some o → s'.heap.get? d = some o) → s'.gens = s.gens → s'.os = s.os → s.heap.objs.size ≤ b → s'.heap.get? b = some (seqObj "list" out c) →
      out.toList = N.map (fun q => Value.ref q.1) → N.Perm L → N.Pairwise (fun p q => ahead p.2 q.2) → Q (.ref b) s') : wpAny (model P w) A (call (.builtin "sorted") [.ref a]) Q E s := by
  obtain ⟨o, ho, hex, hd⟩ := Z.obj
  have num := Z.num
  have num2 := rows_num Z.row
  apply Calls.call_function_entry kind_sorted plain_sorted entry_sorted (args_sorted1 _)
  unfold Builtin.«sorted»
  apply wpAny_bind (m := checkCount "sorted" 1 1 _)
  apply wpAny_pure
  refine wpAny_bind (collect_set (A := A.in1) hh ⟨o, ho, hex.1, hd⟩ Z.fit (by unfold scanBound; omega) Z.tbl.ris Z.ord fun s1 vs kp hz hg hos pm => ?_)
  have refs : es.toList.map (·.2) = L.map fun q => Value.ref q.1 := by
    rw [Z.row, rowsOf, List.map_map]
    rfl
  rw [refs] at pm
  have inL : ∀ v ∈ vs, ∃ p ∈ L, v = Value.ref p.1 := fun v hv => by
    obtain ⟨p, hp, e⟩ := List.mem_map.mp (pm.mem_iff.mp hv)
    exact ⟨p, hp, e.symm⟩
  have len : vs.length ≤ 76 := by rw [pm.length_eq, List.length_map]; exact num
  refine wpAny_bind (wpAny_newList ?_ (by rw [sizeLine_eq]; omega))
  have oL : (s1.heap.push (seqObj "list" vs.toArray 0)).get? s1.heap.objs.size = some (seqObj "list" vs.toArray 0) := Heap.get?_push_size _ rfl
  have up : ∀ d o, s.heap.get? d = some o → (s1.heap.push (seqObj "list" vs.toArray 0)).get? d = some o := fun d o e => Heap.get?_push_of_some _ (kp d o e)
  have tup : ∀ v ∈ vs, Srt.IsPair (s1.heap.push (seqObj "list" vs.toArray 0)) v (told L v).1 (told L v).2 := fun v hv => by
    obtain ⟨p, hp, rfl⟩ := inL v hv
    rw [told_at tt hp]
    exact isPair_of (isT_keep (tt p hp) up) (two p hp)
  refine wpAny_bind (wpAny_holding (wpAny_call_entry (s := { s1 with heap := s1.heap.push (seqObj "list" vs.toArray 0) }) slot_list_sort ⟨_, oL, rfl⟩ entry_list_sort
    (SrtO.list_sort_ord (ltv := fun v u => SrtO.lexB (told L v) (told L u)) (SrtO.swo_lex (told L)) oL (by rw [sizeLine_eq]; omega) (fun h2 => SrtO.pairs_sortableO (by omega) tup fun o e => ?_) fun out sr sb => ⟨_, rfl, ?_⟩) (args_list_sort _)))
  · obtain rfl := Option.some.inj (oL.symm.trans e)
    exact fun c => absurd (Value.type.inj c) (by decide)
  obtain ⟨c, hc⟩ := sortedHeap_at (vs := vs) (out := out.toArray) oL
  obtain ⟨N, e1, e2⟩ := back (L := L) (vs := out) fun v hv => inL v (sb.perm.mem_iff.mp hv)
  have pN : N.Perm L := perm_back tt Z.one e2 (by rw [← e1]; exact sb.perm.trans pm)
  have pw : N.Pairwise fun p q => ahead p.2 q.2 := by
    have nd : (N.map (·.2)).Nodup := (pN.map (·.2)).nodup_iff.mpr Z.one
    unfold SrtO.Srtd at sr
    rw [e1, List.pairwise_map] at sr
    refine List.Pairwise.imp_of_mem (fun {p q} hp hq h => ?_) (sr.and (List.pairwise_map.mp nd))
    obtain ⟨h1, h2⟩ := h
    have h1 : SrtO.lexB (told L (.ref q.1)) (told L (.ref p.1)) = false := h1
    rw [told_at tt (e2 p hp), told_at tt (e2 q hq)] at h1
    have h3 := SrtO.lexB_no.mp h1
    have p2 := two p (e2 p hp)
    have q2 := two q (e2 q hq)
    generalize p.2 = x at h2 h3 p2
    generalize q.2 = y at h2 h3 q2
    match x, p2 with
    | [x0, x1], _ =>
      match y, q2 with
      | [y0, y1], _ =>
        have h4 : ¬ (x0 = y0 ∧ x1 = y1) := fun z => h2 (by rw [z.1, z.2])
        have h5 : ¬ (y0 < x0 ∨ (y0 = x0 ∧ y1 < x1)) := h3
        show x0 < y0 ∨ (x0 = y0 ∧ x1 < y1)
        omega
  refine wpAny_pure ⟨_, rfl, hQ _ s1.heap.objs.size out.toArray c N (fun d u e => ?_) hg hos hz hc (by simpa using e1) pN pw⟩
  have q := kp d u e
  have lt := Heap.lt_size q
  refine (sortedHeap_old (Nat.ne_of_lt lt) (by rw [size_push']; exact Nat.lt_succ_of_lt lt)).trans ?_
  exact Heap.get?_push_of_some _ q
end
/-! ### the rules -/
def SetO (P : Program) (w : World) (a : Addr) (L : List (Addr × List Int)) : HO := .ext fun h => ∃ es ep t, Lies P w h a L es ep t
theorem setO_ok {P : Program} {w : World} {H : Hp} {h : Heap} {a : Addr} {L : List (Addr × List Int)} (z : ∃ es ep t, Lies P w h a L es ep t) : ObjOk P w H h a (SetO P w a L) :=
  ⟨z, let ⟨_, _, _, z⟩ := z; let ⟨o, ho, _⟩ := z.obj; ⟨o, ho⟩, fun h1 h2 ⟨es, ep, t, z⟩ k => ⟨es, ep, t, z.on k⟩⟩
section
variable {X : Cx}
/-- set(xs) of a list of tuples with keys in D -/
def rSetD (K : PySem.W.Frag) (P : Program) (w : World) (D : List (List Int)) : List V → Hp → VK → Prop := fun xs H Q => ∃ (l : Addr) (ks : List (Addr × List Int)), xs = [V.ref l] ∧ SqL K H l (ks.map fun p => V.ref p.1) ∧ (∀ p ∈ ks, SqT K H p.1 (p.2.map V.int)) ∧ (∀ p ∈ ks, p.2 ∈ D) ∧
  ∀ a L, H a = none → (∀ p ∈ L, p ∈ ks) → (∀ p ∈ ks, p.2 ∈ L.map (·.2)) → (L.map (·.2)).Nodup → Q (.ref a) (upd H a (SetO P w a L))
theorem cr_setD {D : List (List Int)} (dm : Dom X.prog X.w D) (hc : X.calm = true) (hu : X.A.units + 64 < cLine) : CallR X (.type "set") (rSetD X.K X.prog X.w D) := by
  intro pins s σ H xs us Q I r h
  obtain ⟨l, ks, rfl, hl, hk, hD, q⟩ := h
  rw [Vals.ref1 r]
  obtain ⟨its, rv, pl, hz⟩ := I.list hl
  refine made (P := X.prog) (w := X.w) (D := D) (ks := ks) (I.ok.hd hc) pl.isList (by simpa using refs_of_vals rv) (fun p hp => I.isT (hk p hp)) dm hD (by omega) fun h' tk z => ?_
  obtain ⟨L, es, ep, t, z1, g⟩ := z.set_
  refine ⟨.ref s.heap.objs.size, upd H s.heap.objs.size (SetO X.prog X.w s.heap.objs.size L), I.laid (t' := tk) z.old (Nat.le_refl _) (setO_ok ⟨es, ep, t, z1⟩), rfl, q _ L (I.hok.fresh (Nat.le_refl _)) (fun p hp => List.mem_of_mem_take (g.sub p hp)) (fun p hp => ?_) z1.one⟩
  exact g.all p (by rw [List.take_length]; exact hp)
/-- sorted(set) of pairs -/
def rSortD (K : PySem.W.Frag) (P : Program) (w : World) : List V → Hp → VK → Prop := fun vs H Q => ∃ (a : Addr) (L : List (Addr × List Int)), vs = [V.ref a] ∧ H a = some (SetO P w a L) ∧ (∀ p ∈ L, SqT K H p.1 (p.2.map V.int)) ∧ (∀ p ∈ L, p.2.length = 2) ∧
  ∀ (N : List (Addr × List Int)) (b : Addr), N.Perm L → N.Pairwise (fun p q => ahead p.2 q.2) → H b = none → Q (.ref b) (upd H b (.lst (N.map fun q => V.ref q.1)))
theorem cr_sortD (hc : X.calm = true) : CallR X (.builtin "sorted") (rSortD X.K X.prog X.w) := by
  intro pins s σ H vs us Q I r h
  obtain ⟨a, L, rfl, ha, hk, two, q⟩ := h
  obtain ⟨es, ep, t, Z⟩ : ∃ es ep t, Lies X.prog X.w s.heap a L es ep t := (I.hok a _ ha).1
  rw [Vals.ref1 r]
  refine sort_set Z (fun p hp => I.isT (hk p hp)) (I.ok.hd hc) two fun s' b out c N k g o hb hg hout pm pw => ?_
  have len : (N.map fun q => V.ref q.1).length ≤ sizeLine := by
    have := Z.num
    rw [List.length_map, pm.length_eq, sizeLine_eq]
    omega
  have hn : H b = none := I.hok.fresh hb
  have J := I.call (ch := []) (h' := s'.heap) (g' := s'.gens) (d' := s'.drawn) (t' := s'.toks) (H' := upd H b (.lst (N.map fun q => V.ref q.1))) (Un.laid k hb hn) (I.hok.laid k hb ⟨len, out.toList, c, by rw [hout]; exact vals_of_refs N, hg⟩) (by rw [g]; exact I.bare) (fun _ z => nomatch z)
  have e : s' = { s with heap := s'.heap, gens := s'.gens, drawn := s'.drawn, toks := s'.toks } := by
    cases s'; cases s; cases o; rfl
  rw [e]
  exact ⟨.ref b, _, J, rfl, q N b pm pw hn⟩
end
end Tu

set_option Elab.async false
set_option linter.all false
set_option maxRecDepth 100000
set_option maxHeartbeats 4000000
/-! Tu5: pairs of places i < j < 12: their hashes are unlike; a list of pairs and its set, sorted. -/
namespace Tu
open PySem PySem.Spec PyProof.Rows L2
def hsh (k : List Int) : Int := reduceHash (Builtin.Tuple.tupleHashOf (k.map hashInt))
theorem hsh_eq (P : Program) (w : World) (k : List Int) : thash P w k = hsh k := rfl
/-- all pairs of places -/
def pairs12 : List (List Int) := (List.range 12).flatMap fun (j : Nat) => (List.range j).map fun (i : Nat) => [(i : Int), (j : Int)]
theorem pairs_few : pairs12.length ≤ 76 := by decide +kernel
theorem pairs_hash : (pairs12.map hsh).Nodup := by decide +kernel
theorem inj_of_nodup {α β : Type} {f : α → β} : ∀ {l : List α}, (l.map f).Nodup → ∀ x, x ∈ l → ∀ y, y ∈ l → f x = f y → x = y
  | [], _, x, hx, _, _, _ => nomatch hx
  | a :: l, n, x, hx, y, hy, e => by
    rw [List.map_cons, List.nodup_cons] at n
    rcases List.mem_cons.mp hx with e1 | h1
    · rcases List.mem_cons.mp hy with e2 | h2
      · rw [e1, e2]
      · exact absurd (List.mem_map.mpr ⟨y, h2, by rw [← e, e1]⟩) n.1
    · rcases List.mem_cons.mp hy with e2 | h2
      · exact absurd (List.mem_map.mpr ⟨x, h1, by rw [e, e2]⟩) n.1
      · exact inj_of_nodup n.2 x h1 y h2 e
theorem pairs_dom (P : Program) (w : World) : Dom P w pairs12 := ⟨pairs_few, fun k hk m hm e => inj_of_nodup pairs_hash k hk m hm e⟩
theorem pairs_mem {i j : Nat} (h1 : i < j) (h2 : j < 12) : [(i : Int), (j : Int)] ∈ pairs12 :=
  List.mem_flatMap.mpr ⟨j, List.mem_range.mpr h2, List.mem_map.mpr ⟨i, List.mem_range.mpr h1, rfl⟩⟩
/-- pairs of places as the rules have them -/
def keyN (b : Nat × Nat) : List Int := [(b.1 : Int), (b.2 : Int)]
/-- ascending pairs -/
def AscP (bs : List (Nat × Nat)) : Prop := bs.Pairwise fun a b => a.1 < b.1 ∨ (a.1 = b.1 ∧ a.2 < b.2)
theorem ahead_keyN {a b : Nat × Nat} : ahead (keyN a) (keyN b) ↔ a.1 < b.1 ∨ (a.1 = b.1 ∧ a.2 < b.2) := by
  show ((a.1 : Int) < (b.1 : Int) ∨ ((a.1 : Int) = (b.1 : Int) ∧ (a.2 : Int) < (b.2 : Int))) ↔ _
  omega
theorem ascP_nodup {bs : List (Nat × Nat)} (h : AscP bs) : bs.Nodup := List.Pairwise.imp (fun {a b} h e => by subst e; omega) h
/-- two ascending lists of the same pairs are one -/
theorem ascP_uniq : ∀ {as bs : List (Nat × Nat)}, AscP as → AscP bs → (∀ p, p ∈ as ↔ p ∈ bs) → as = bs
  | [], [], _, _, _ => rfl
  | [], b :: bs, _, _, h => nomatch (h b).mpr List.mem_cons_self
  | a :: as, [], _, _, h => nomatch (h a).mp List.mem_cons_self
  | a :: as, b :: bs, ha, hb, h => by
    have ha' := List.pairwise_cons.mp ha
    have hb' := List.pairwise_cons.mp hb
    have e : a = b := by
      rcases List.mem_cons.mp ((h a).mp List.mem_cons_self) with e | e
      · exact e
      · rcases List.mem_cons.mp ((h b).mpr List.mem_cons_self) with f | f
        · exact f.symm
        · have z1 := hb'.1 a e
          have z2 := ha'.1 b f
          omega
    subst e
    rw [ascP_uniq ha'.2 hb'.2 fun p => ⟨fun hp => ?_, fun hp => ?_⟩]
    · rcases List.mem_cons.mp ((h p).mp (List.mem_cons_of_mem _ hp)) with e | e
      · have := ha'.1 p hp
        subst e
        omega
      · exact e
    · rcases List.mem_cons.mp ((h p).mpr (List.mem_cons_of_mem _ hp)) with e | e
      · have := hb'.1 p hp
        subst e
        omega
      · exact e
/-- what the set and sorted leave of a list of pairs: its ascending list -/
theorem out_pairs {bs : List (Nat × Nat)} {as : List Addr} (hl : as.length = bs.length) {L N : List (Addr × List Int)} (sub : ∀ p ∈ L, p ∈ as.zip (bs.map keyN)) (all : ∀ p ∈ as.zip (bs.map keyN), p.2 ∈ L.map (·.2)) (pm : N.Perm L) (pw : N.Pairwise fun p q => ahead p.2 q.2) :
    ∃ cs : List (Nat × Nat), N.map (·.2) = cs.map keyN ∧ AscP cs ∧ ∀ p, p ∈ cs ↔ p ∈ bs := by
  have key : ∀ {M : List (Addr × List Int)}, (∀ p ∈ M, ∃ b ∈ bs, p.2 = keyN b) → ∃ cs : List (Nat × Nat), M.map (·.2) = cs.map keyN ∧ ∀ c ∈ cs, c ∈ bs := by
    intro M
    induction M with
    | nil => exact fun _ => ⟨[], rfl, fun _ h => nomatch h⟩
    | cons p M ih =>
      intro h
      obtain ⟨b, hb, e⟩ := h p List.mem_cons_self
      obtain ⟨cs, e1, e2⟩ := ih fun q hq => h q (List.mem_cons_of_mem _ hq)
      refine ⟨b :: cs, by rw [List.map_cons, List.map_cons, e, e1], fun c hc => ?_⟩
      rcases List.mem_cons.mp hc with rfl | hc
      · exact hb
      · exact e2 c hc
  have inj : ∀ {a b : Nat × Nat}, keyN a = keyN b → a = b := fun {a b} e => by
    injection e with e1 e2
    injection e2 with e2
    exact Prod.ext (by omega) (by omega)
  obtain ⟨cs, e1, e2⟩ := key (M := N) fun p hp => by
    have h := (List.of_mem_zip (sub p (pm.mem_iff.mp hp))).2
    obtain ⟨b, hb, e⟩ := List.mem_map.mp h
    exact ⟨b, hb, e.symm⟩
  refine ⟨cs, e1, ?_, fun p => ⟨e2 p, fun hp => ?_⟩⟩
  · have h : (N.map fun p : Addr × List Int => p.2).Pairwise ahead := List.pairwise_map.mpr pw
    rw [e1, List.pairwise_map] at h
    exact h.imp fun {a b} z => ahead_keyN.mp z
  · obtain ⟨i, hi, rfl⟩ := List.getElem_of_mem hp
    have hz : (as[i]'(by omega), keyN bs[i]) ∈ as.zip (bs.map keyN) := by
      refine List.mem_of_getElem? (i := i) ?_
      rw [List.getElem?_zip_eq_some]
      exact ⟨List.getElem?_eq_getElem (by omega), by rw [List.getElem?_map, List.getElem?_eq_getElem hi]; rfl⟩
    have h := all _ hz
    rw [← (pm.map (·.2)).mem_iff, e1] at h
    obtain ⟨c, hc, e⟩ := List.mem_map.mp h
    rw [← inj e]
    exact hc
end Tu

set_option Elab.async false
set_option linter.all false
set_option maxRecDepth 100000
set_option maxHeartbeats 4000000
/-! Sm: sum of a tuple of ints. -/
namespace Bx
open PySem PySem.Spec PyProof.Rows L2
theorem preSum_getD (ns : List Int) : ∀ i, i ≤ ns.length → preSum (fun i => ns.getD i 0) i = (ns.take i).sum
  | 0, _ => rfl
  | i + 1, h => by
    have e : ns.take (i + 1) = ns.take i ++ [ns[i]'(by omega)] := by
      rw [List.take_add_one, List.getElem?_eq_getElem (by omega)]
      rfl
    rw [e, List.sum_append]
    show preSum (fun i => ns.getD i 0) i + ns.getD i 0 = _
    rw [preSum_getD ns i (by omega), List.getD_eq_getElem?_getD, List.getElem?_eq_getElem (by omega)]
    simp
def rSumT (K : PySem.W.Frag) : List V → Hp → VK → Prop := fun vs H Q => ∃ (a : Addr) (ns : List Int), vs = [V.ref a] ∧ SqT K H a (ns.map V.int) ∧ Q (.int ns.sum) H
theorem cr_sumT {X : Cx} (hc : X.calm = true) : CallR X (.builtin "sum") (rSumT X.K) := by
  intro pins s σ H vs us Q I r h
  obtain ⟨a, ns, rfl, hs, q⟩ := h
  obtain ⟨its, rv, ht, hz⟩ := I.tuple hs
  rw [Vals.ref1 r]
  have ht : s.heap.IsTuple a its.toArray := ht
  have ne : a ≠ s.heap.objs.size := by
    obtain ⟨o, ho, _⟩ := ht
    exact Nat.ne_of_lt (Heap.lt_size ho)
  have hn : its.length = ns.length := by rw [← rv.length, List.length_map]
  refine call_sum_walkAnyS (wpAny_pyIter_tuple ht ?_)
  refine ⟨s.heap.objs.size, _, _, _, _, _, _, fun i => ns.getD i 0, rfl, (Walks.tuple (A := X.A.in1) (by simp [I.ok.hd hc]) s.heap.objs.size a ne its.toArray).toS, ⟨⟨_, Heap.get?_push_size _ rfl, rfl, rfl⟩, ht.push _⟩, fun b hb => ?_, fun i v hv => ?_, fun s' t' mv => ?_⟩
  · rw [Heap.size_push]
    rcases List.mem_cons.mp hb with e | e
    · rw [e]
      exact Nat.lt_succ_self _
    · rw [List.mem_singleton.mp e]
      obtain ⟨o, ho, _⟩ := ht
      exact Nat.lt_succ_of_lt (Heap.lt_size ho)
  · exact IntsAre.int_at rv.ints i v (by simpa using hv)
  · obtain ⟨h', g', d', tk', os'⟩ := s'
    obtain rfl : g' = s.gens := mv.gens
    obtain rfl : d' = s.drawn := mv.drawn
    obtain rfl : os' = s.os := mv.os
    have e : preSum (fun i => ns.getD i 0) its.toArray.size = ns.sum := by
      rw [List.size_toArray, hn, preSum_getD ns _ (Nat.le_refl _), List.take_length]
    rw [e]
    refine ⟨.int _, H, I.kept (t' := tk') fun b o eo => ?_, ⟨_, rfl⟩, q⟩
    refine mv.heap b o ?_ (Heap.get?_push_of_some _ eo)
    rw [List.mem_singleton]
    exact Nat.ne_of_lt (Heap.lt_size eo)
/-! ### three arguments by name, from behind -/
def rev3 {α : Type} : List α → List α → List α
  | [], [c, b, a] => [a, b, c]
  | _, _ => []
theorem rev3_rel {vs zs : List V} {us ws : List Value} (h1 : Vals vs us) (h2 : Vals zs ws) : Vals (rev3 vs zs) (rev3 us ws) := by
  cases h1 with
  | cons _ _ => exact .nil
  | nil =>
    cases h2 with
    | nil => exact .nil
    | cons a h3 => cases h3 with
      | nil => exact .nil
      | cons b h4 => cases h4 with
        | nil => exact .nil
        | cons c h5 => cases h5 with
          | nil => exact .cons c (.cons b (.cons a .nil))
          | cons _ _ => exact .nil
end Bx

set_option Elab.async false
set_option linter.all false
set_option maxRecDepth 100000
set_option maxHeartbeats 4000000
/-! Lz: a call with all arguments by name. -/
namespace Bx
open PySem PySem.Spec PyProof.Rows L2
section
variable {X : Cx} {CX : CXT} {k : Nat} {f : Addr} {fd : FuncData} {ps ks : List Str} {sp : Sp} {E : XK} {x : Str} {p pos : Pos} {kws : List Keyword} {tk : TA} {g : List Value → List Value → List Value} {gV : List V → List V → List V}
/-- f(k = v, ..) -/
theorem pe_callKO (F : FnOk X.prog X.w X.K X.mg X.base CX k f fd ps sp) (hr : Room k X.A) (hg : Gl X x) (hm : X.mg x = some (.ref f)) (hk : PySem.W.keepIn X.K (.ref f) = true) (hb : KBinds X.K fd ps ks g gV) (hx : Passes CX X E)
    (hkw : PK X kws tk) (hall : (backToKw pos (keywordEach kws X.env)).all (·.1.isSome) = true := by rfl) (hks : (backToKw pos (keywordEach kws X.env)).filterMap (·.1) = ks := by rfl)
    (hdb : (x == ("__debug__" : Str)) = false := by decide)
    (hpl : ((backTo pos (starEach [] X.env)).any (·.1) || (backToKw pos (keywordEach kws X.env)).any (·.1.isNone)) = false := by rfl) :
    PE X (.Call (.Name x p) [] kws pos) (tCallK sp gV E tNil tk) := by
  refine ⟨fun pins s σ H Q I h => ?_⟩
  refine wpAny_Call_Name_kw (ld_glob I hg hm ?_ hdb)
  refine PySem.W.callWith_KW0 (h₀ := X.base) I.ok.mod.kin hk hall ?_ hpl
  refine thn (hkw.run pos pins s σ H _ I h) fun ws s2 ⟨zs, H2, I2, rz, q2⟩ => ⟨I2.kIn, ?_⟩
  rw [hks]
  exact run_fnk F hr hb hx I2 .nil rz q2
end
structure CalK (P : Program) (w : World) (K : PySem.W.Frag) (mg : Str → Option Value) (base : Heap) (k : Nat) (x : Str) (ps ks : List Str) (g : {α : Type} → List α → List α → List α) (sp : Sp) : Prop where
  ex : ∃ (f : Addr) (fd : FuncData), FnOk P w K mg base CX0 k f fd ps sp ∧ mg x = some (.ref f) ∧ PySem.W.keepIn K (.ref f) = true ∧ KBinds K fd ps ks g g
section
variable {X : Cx} {k : Nat} {x : Str} {ps ks : List Str} {sp : Sp} {p pos : Pos} {kws : List Keyword} {tk : TA} {g : {α : Type} → List α → List α → List α}
theorem pe_calK (C : CalK X.prog X.w X.K X.mg X.base k x ps ks g sp) (hr : Room k X.A) (hg : Gl X x) (hkw : PK X kws tk) (hall : (backToKw pos (keywordEach kws X.env)).all (·.1.isSome) = true := by rfl) (hks : (backToKw pos (keywordEach kws X.env)).filterMap (·.1) = ks := by rfl)
    (hdb : (x == ("__debug__" : Str)) = false := by decide)
    (hpl : ((backTo pos (starEach [] X.env)).any (·.1) || (backToKw pos (keywordEach kws X.env)).any (·.1.isNone)) = false := by rfl) : PE X (.Call (.Name x p) [] kws pos) (tCallK sp g E0 tNil tk) := by
  obtain ⟨f, fd, h1, h2, h3, h4⟩ := C.ex
  exact pe_callKO h1 hr hg h2 h3 h4 pass0 hkw hall hks hdb hpl
end
/-- two arguments, named the other way about -/
def swp {α : Type} : List α → List α → List α
  | [], [b, a] => [a, b]
  | _, _ => []
theorem swp_rel {vs zs : List V} {us ws : List Value} (h1 : Vals vs us) (h2 : Vals zs ws) : Vals (swp vs zs) (swp us ws) := by
  cases h1 with
  | cons _ _ => exact .nil
  | nil =>
    cases h2 with
    | nil => exact .nil
    | cons a h3 =>
      cases h3 with
      | nil => exact .nil
      | cons b h4 =>
        cases h4 with
        | nil => exact .cons b (.cons a .nil)
        | cons _ _ => exact .nil
theorem pi_tupK {X : Cx} {K : PySem.W.Frag} {tg e : Expr} {td : TE} (h : X.K = K) (hd : PE X e td) : PI X tg e (iTup K td) := h ▸ pi_tup hd
theorem pi_listK {X : Cx} {K : PySem.W.Frag} {tg e : Expr} {td : TE} (h : X.K = K) (hd : PE X e td) : PI X tg e (iList K td) := h ▸ pi_list hd
end Bx

set_option Elab.async false
set_option linter.all false
set_option maxRecDepth 100000
set_option maxHeartbeats 4000000
namespace Wd
open PySem PySem.Spec PyProof.Rows L2 Bx Gx




















































section
variable {P : Program} {w : World} {K : PySem.W.Frag} {mg : Str → Option Value} {base : Heap}
/-! ### check_head -/
def spCheckHead (K : PySem.W.Frag) : Sp := fun vs H Q _ => ∃ (l : V) (fs : List Int) (bd : PyData) (p : Nat), vs = [l, .int (p : Int)] ∧ Dp K H l (.tuple [.tuple (fs.map .int), bd]) ∧ fs.length ≤ 12 ∧ p < fs.length ∧ Q .non H
/-! ### hangs_together -/
def spHangsTog (K : PySem.W.Frag) (T1 : Addr) : Sp := fun vs H Q _ => ∃ (l : Addr) (lk : List Nat) (n m : Nat) (bs : List (Nat × Nat)), vs = [.ref l, .int (m : Int)] ∧ H l = some (.lst (vsN lk)) ∧ Mk.Lk n bs lk ∧ Mk.Bs n bs ∧ n ≤ 12 ∧ m < 2 ^ n ∧ 0 < m ∧ TabG H T1 ∧
  ∀ (b : Bool) H', Ext H H' → (∀ qs, Mk.Pcs bs m qs → b = decide (qs.length = 1)) → Q (.bl b) H'
theorem sc_hangs_together : FnScope ["links", "mask"] ["links", "mask"] (defScope st_hangs_together) := ⟨rfl, rfl, rfl, by decide +kernel, rfl, by decide +kernel, by decide +kernel⟩
theorem pcs_first {bs : List (Nat × Nat)} {m q r : Nat} (hq : m.testBit q = true) (hlow : ∀ p, p < q → m.testBit p = false) (hR : Mk.Rch bs m (2 ^ q) r) {qs : List Nat} (h : Mk.Pcs bs m qs) : r = m ↔ qs.length = 1 := by
  cases h with
  | nil => simp at hq
  | @cons _ q' p l hq' hlow' hR' hP =>
    have e := Mk.low_uniq hq hlow hq' hlow'
    subst e
    have e2 := hR.uniq hR'
    subst e2
    rw [List.length_cons]
    constructor
    · intro e
      rw [e, Nat.xor_self] at hP
      generalize hz : (0 : Nat) = z at hP
      cases hP with
      | nil => rfl
      | cons h1 _ _ _ =>
        rw [← hz, Nat.zero_testBit] at h1
        cases h1
    · intro e
      have h0 := hP.none (List.length_eq_zero_iff.mp (by omega))
      have h1 : (m ^^^ r) ^^^ r = m := by rw [Nat.xor_assoc, Nat.xor_self, Nat.xor_zero]
      rw [h0, Nat.zero_xor] at h1
      exact h1
theorem ok_hangs_together {f T1 : Addr} {fd : FuncData} (F : Fun K "hangs_together" "hangs_together" st_hangs_together f fd) (c1 : Cal P w K mg base 7 "reached" ["links", "start", "mask"] (spReached K T1)) : FnOk P w K mg base CX0 8 f fd ["links", "mask"] (spHangsTog K T1) := by
  refine F.ok sc_hangs_together (fun vs H Q E h => ?_) (fun cdv A outer s H vs Q E hr h => ?_)
  · obtain ⟨l, lk, n, m, bs, rfl, _⟩ := h
    rfl
  · obtain ⟨l, lk, n, m, bs, rfl, hl, L, hb, hn, hm, hm0, hT, k⟩ := h
    refine ⟨_, pss_one (ps_ret (pe_cmpR op_eq (pe_cal c1 hr rfl (pa_cons (pv 0) (pa_cons (pe_op op_and (pv 1) (pe_un un_neg (pv 1))) (pa_cons (pv 1) pa_nil)))) (pv 1) (nomark _))), ?_⟩
    obtain ⟨q, hq, hlow, hand⟩ := Mk.and_neg m hm0
    refine ⟨_, rfl, _, rfl, _, rfl, _, rfl, _, _, rfl, rfl, _, rfl, l, lk, n, 2 ^ q, m, bs, ?_, hl, L, hb, hn, hm, ?_, hT, fun r H3 x3 hR => ?_⟩
    · dsimp only [List.append_nil]
      rw [hand]
      rfl
    · intro z hz
      rw [Nat.testBit_two_pow, decide_eq_true_eq] at hz
      rw [← hz]
      exact hq
    · refine ⟨_, rfl, rfl, ?_⟩
      refine k _ H3 x3 fun qs hqs => ?_
      have := pcs_first hq hlow hR hqs
      by_cases e : r = m
      · rw [decide_eq_true (this.mp e)]
        exact decide_eq_true (by rw [e])
      · rw [decide_eq_false (fun z => e (this.mpr z))]
        exact decide_eq_false fun z => e (by have := V.int.inj z; omega)
theorem mask_pos {ps : List Nat} (ha : ps.Pairwise (· < ·)) (hne : ps ≠ []) : 0 < Mk.mask ps := by
  cases ps with
  | nil => exact absurd rfl hne
  | cons p r =>
    have h : (Mk.mask (p :: r)).testBit p = true := by rw [Mk.bit_mask ha]; simp
    refine Nat.pos_of_ne_zero fun z => ?_
    rw [z, Nat.zero_testBit] at h
    cases h
end
section
variable {P : Program} {w : World} {K : PySem.W.Frag} {mg : Str → Option Value} {base : Heap}
/-! ### folk_within -/
def folkOf (fs : List Int) (ps : List Nat) : Int := (ps.map fun p => fs.getD p 0).sum
def spFolkIn (K : PySem.W.Frag) (T1 : Addr) : Sp := fun vs H Q _ => ∃ (l v : V) (fs : List Int) (bd : PyData) (ps : List Nat), vs = [l, v] ∧ Dp K H l (.tuple [.tuple (fs.map .int), bd]) ∧ Dp K H v (lotD ps) ∧ (∀ p ∈ ps, p < fs.length) ∧ TabG H T1 ∧ ∀ H', Ext H H' → Q (.int (folkOf fs ps)) H'
/-! ### pair_of -/
def spPairOf (K : PySem.W.Frag) : Sp := fun vs H Q _ => ∃ (a b : Nat), vs = [.int (a : Int), .int (b : Int)] ∧ ∀ p H', Ext H H' → H p = none → H' p = some (.tup [.int ((min a b : Nat) : Int), .int ((max a b : Nat) : Int)]) → Q (.ref p) H'
end
section
variable {P : Program} {w : World} {K : PySem.W.Frag} {mg : Str → Option Value} {base : Heap}
/-! ### ward_row -/
theorem vsN_len0 (l : List Nat) : (vsN l).length = l.length := List.length_map ..
theorem putK_le (kvs : List (L2.Key × V)) (k : L2.Key) (v : V) : (putK kvs k v).length ≤ kvs.length + 1 := by
  unfold putK
  split
  · rw [List.length_map]; omega
  · rw [List.length_append]; exact Nat.le_refl _
def planD (ws : List (List Nat)) : PyData := .tuple (ws.map lotD)
/-- wards: few, short, none with a place of another one -/
structure WardsOk (n : Nat) (ws : List (List Nat)) : Prop where
  few : ws.length ≤ 12
  lots : ∀ w ∈ ws, LotOk n w
  most : n ≤ 12
  apart : ∀ i j a b : Nat, ∀ u v, ws[i]? = some u → ws[j]? = some v → a ∈ u → b ∈ v → a = b → i = j
/-- a row tells for each place of the wards the index of its ward -/
def RowOf (ws : List (List Nat)) (kvs : List (L2.Key × V)) : Prop := ∀ (i : Nat) (u : List Nat) (p : Nat), ws[i]? = some u → p ∈ u → valV kvs (Sum.inl (p : Int) : L2.Key) = some (.int (i : Int))
def spWardRow (K : PySem.W.Frag) : Sp := fun vs H Q _ => ∃ (v : V) (ws : List (List Nat)) (n : Nat), vs = [v] ∧ Dp K H v (planD ws) ∧ WardsOk n ws ∧ ∀ d (kvs : List (L2.Key × V)) H', Ext H H' → H d = none → H' d = some (.dK kvs) → RowOf ws kvs → Q (.ref d) H'
end
section
variable {P : Program} {w : World} {K : PySem.W.Frag} {mg : Str → Option Value} {base : Heap}
/-! ### whole_mask -/
def spWhole (K : PySem.W.Frag) : Sp := fun vs H Q _ => ∃ (l : V) (fs : List Int) (bd : PyData), vs = [l] ∧ Dp K H l (.tuple [.tuple (fs.map .int), bd]) ∧ fs.length ≤ 12 ∧ Q (.int ((2 ^ fs.length - 1 : Nat) : Int)) H
theorem sc_whole_mask : FnScope ["land"] ["land"] (defScope st_whole_mask) := ⟨rfl, rfl, rfl, by decide +kernel, rfl, by decide +kernel, by decide +kernel⟩
theorem ok_whole_mask {f : Addr} {fd : FuncData} (F : Fun K "whole_mask" "whole_mask" st_whole_mask f fd) (B : Bl mg) : FnOk P w K mg base CX0 1 f fd ["land"] (spWhole K) := by
  refine F.ok sc_whole_mask (fun vs H Q E h => ?_) (fun cdv A outer s H vs Q E hr h => ?_)
  · obtain ⟨l, fs, bd, rfl, _⟩ := h
    rfl
  · obtain ⟨l, fs, bd, rfl, hl, hn, k⟩ := h
    refine ⟨_, pss_one (ps_ret (pe_op op_sub (pe_op op_shl pe_int (pe_callB call_len (by rfl) B.len PySem.boot_len (pa_cons (pe_ix ix_tup (pv 0) pe_int (fun _ _ => rfl)) pa_nil))) pe_int)), ?_⟩
    obtain ⟨al, xl, rfl, h2, h3⟩ := dp_tup hl
    cases h3 with
    | cons hf h4 =>
    obtain ⟨af, rfl, h5⟩ := dp_ints hf
    refine ⟨_, rfl, al, _, _, _, rfl, rfl, h2, atI_nat (j := 0) rfl, _, fs.length, rfl, .inr ⟨_, h5, by simp⟩, _, _, rfl, rfl, ⟨by omega, by omega, by decide⟩, _, _, rfl, rfl, ?_⟩
    have e : (1 : Int) * 2 ^ ((fs.length : Nat) : Int).toNat - 1 = ((2 ^ fs.length - 1 : Nat) : Int) := by
      rw [Int.toNat_natCast, Int.one_mul]
      have h := Nat.two_pow_pos fs.length
      have h2 : ((2 : Int) ^ fs.length) = ((2 ^ fs.length : Nat) : Int) := by simp
      rw [h2]
      omega
    show Q (V.int ((1 : Int) * 2 ^ ((fs.length : Nat) : Int).toNat - 1)) H
    rw [e]
    exact k
end
section
variable {P : Program} {w : World} {K : PySem.W.Frag} {mg : Str → Option Value} {base : Heap}
/-! ### fault_of_plan: of a right plan -/
structure PlanOk (n : Nat) (bs : List (Nat × Nat)) (ws : List (List Nat)) : Prop where
  w : WardsOk n ws
  ne : ws ≠ []
  hang : ∀ u, u ∈ ws → ∃ l, Mk.Pcs bs (Mk.mask u) l ∧ l.length = 1
  asc : ws.Pairwise fun u v => u.headD 0 < v.headD 0
  all : ∀ p, p < n → ∃ u, u ∈ ws ∧ p ∈ u
theorem lexN_false {u v : List Nat} (hu : u ≠ []) (hv : v ≠ []) (h : v.headD 0 < u.headD 0) :
    Ob.lexAt (fun j => decide ((u.map fun (p : Nat) => (p : Int)).getD j 0 = (v.map fun (p : Nat) => (p : Int)).getD j 0)) (fun j => decide ((u.map fun (p : Nat) => (p : Int)).getD j 0 ≤ (v.map fun (p : Nat) => (p : Int)).getD j 0)) (decide ((u.map fun (p : Nat) => (p : Int)).length ≤ (v.map fun (p : Nat) => (p : Int)).length)) 0 (min (u.map fun (p : Nat) => (p : Int)).length (v.map fun (p : Nat) => (p : Int)).length) = false := by
  cases u with
  | nil => exact absurd rfl hu
  | cons a r =>
    cases v with
    | nil => exact absurd rfl hv
    | cons b s =>
      have hlt : b < a := h
      have em : min ((a :: r).map fun (p : Nat) => (p : Int)).length ((b :: s).map fun (p : Nat) => (p : Int)).length = min r.length s.length + 1 := by
        rw [List.length_map, List.length_map, List.length_cons, List.length_cons]
        omega
      rw [em]
      show (if decide ((a : Int) = (b : Int)) = true then _ else decide ((a : Int) ≤ (b : Int))) = false
      rw [decide_eq_false (show ¬ (a : Int) = (b : Int) by omega), if_neg Bool.false_ne_true]
      exact decide_eq_false (by omega)
def spFaultPlan (K : PySem.W.Frag) (T1 T2 T3 T4 : Addr) : Sp := fun vs H Q _ => ∃ (l v : V) (fs : List Int) (bs : List (Nat × Nat)) (ws : List (List Nat)), vs = [l, v] ∧ Dp K H l (landD fs bs) ∧ LandOk fs bs ∧ Dp K H v (planD ws) ∧ PlanOk fs.length bs ws ∧ Tabs [T1, T2, T3, T4] H ∧ ∀ H', Ext H H' → Q .non H'
theorem sc_fault_of_plan : FnScope ["land", "value", "links", "taken", "k", "ward"] ["land", "value"] (defScope st_fault_of_plan) := ⟨rfl, rfl, rfl, by decide +kernel, rfl, by decide +kernel, by decide +kernel⟩
theorem ok_fault_of_plan {f T1 T2 T3 T4 : Addr} {fd : FuncData} (F : Fun K "fault_of_plan" "fault_of_plan" st_fault_of_plan f fd) (B : Bl mg) (c1 : Cal P w K mg base 6 "is_lot" ["land", "value"] (spIsLot K T1 T2)) (c2 : Cal P w K mg base 4 "mask_of" ["lot"] (spMaskOf K T3))
    (c3 : Cal P w K mg base 1 "links_of" ["land"] (spLinksOf K)) (c4 : Cal P w K mg base 8 "hangs_together" ["links", "mask"] (spHangsTog K T4)) (c5 : Cal P w K mg base 1 "whole_mask" ["land"] (spWhole K)) : FnOk P w K mg base CX0 9 f fd ["land", "value"] (spFaultPlan K T1 T2 T3 T4) := by
  refine F.ok sc_fault_of_plan (fun vs H Q E h => ?_) (fun cdv A outer s H vs Q E hr h => ?_)
  · obtain ⟨l, v, fs, bs, ws, rfl, _⟩ := h
    rfl
  · obtain ⟨l, v, fs, bs, ws, rfl, hl, ok, hv, PO, hT, k⟩ := h
    have hT1 := hT T1 (by simp)
    have hT2 := hT T2 (by simp)
    have hT3 := hT T3 (by simp)
    have hT4 := hT T4 (by simp)
    have hr6 := hr.mono (j := 6) (by decide)
    have hr4 := hr.mono (j := 4) (by decide)
    have hr1 := hr.mono (j := 1) (by decide)
    refine ⟨_, pss_cons (ps_if (PW.pt (pw_or (pt_cmpR op_neTy (pe_callTy call_type1 rfl B.type (by decide +kernel) (pa_cons (pv 1) pa_nil)) (pe_bltn rfl B.tuple (by decide +kernel) (v := .ty "tuple") rfl) (nomark _))
        (pw_or1 (pt_cmpR op_eq (pe_callB call_len (by rfl) B.len PySem.boot_len (pa_cons (pv 1) pa_nil)) pe_int (nomark _))))) pss_never pss_nil)
      (pss_cons (ps_set (i := 2) sc_fault_of_plan.nd rfl (Or.inl rfl) (pe_cal c3 hr1 rfl (pa_cons (pv 0) pa_nil)))
      (pss_cons (ps_set (i := 3) sc_fault_of_plan.nd rfl (Or.inl rfl) pe_int)
      (pss_cons (ps_for PassesOwn.never rfl (pi_range1 rfl B.range (pa_cons (pe_callB call_len (by rfl) B.len PySem.boot_len (pa_cons (pv 1) pa_nil)) pa_nil)) (pg_name (i := 4) sc_fault_of_plan.nd rfl (Or.inl rfl))
        (pss_cons (ps_if (pt_not (pt_val (pe_cal c1 hr6 rfl (pa_cons (pv 0) (pa_cons (pe_ix ix_tup (pv 1) (pv 4) (fun _ _ => rfl)) pa_nil))) (by intro _; rfl))) pss_never pss_nil)
        (pss_cons (ps_set (i := 5) sc_fault_of_plan.nd rfl (Or.inl rfl) (pe_cal c2 hr4 rfl (pa_cons (pe_ix ix_tup (pv 1) (pv 4) (fun _ _ => rfl)) pa_nil)))
        (pss_cons (ps_if (PW.pt (pw_or (pt_truth (pe_op op_and (pv 5) (pv 3)) (by intro _; rfl)) (pw_or1 (pt_not (pt_val (pe_cal c4 hr rfl (pa_cons (pv 2) (pa_cons (pv 5) pa_nil))) (by intro _; rfl)))))) pss_never pss_nil)
        (pss_cons (ps_if (PW.pt (pw_and (pt_cmpR op_gt (pv 4) pe_int (nomark _)) (pw_and1 (pt_cmpR (op_leT hr.units0) (pe_ix ix_tup (pv 1) (pv 4) (fun _ _ => rfl)) (pe_ix ix_tup (pv 1) (pe_op op_sub (pv 4) pe_int) (fun _ _ => rfl)) (nomark _))))) pss_never pss_nil)
        (pss_one (ps_aug (i := 3) sc_fault_of_plan.nd rfl (Or.inl rfl) (pv 5) iop_or)))))))
      (pss_cons (ps_if (pt_cmpR op_ne (pv 3) (pe_cal c5 hr1 rfl (pa_cons (pv 0) pa_nil)) (nomark _)) pss_never pss_nil)
      (pss_one (ps_ret pe_non)))))), ?_⟩
    obtain ⟨a, xs, rfl, h1, h2⟩ := dp_tup hv
    have hlen := dpAll_len h2
    rw [List.length_map] at hlen
    have hfew := PO.w.few
    have h12 := ok.most
    have hpos : 0 < ws.length := List.length_pos_iff.mpr PO.ne
    refine ⟨_, rfl, _, "tuple", rfl, .tup h1, "tuple", "tuple", rfl, rfl, by decide, by decide, false, rfl, ?_⟩
    refine iteF ⟨_, rfl, _, xs.length, rfl, .inr ⟨_, h1, rfl⟩, rfl, _, rfl, ?_⟩
    rw [decide_eq_false (fun z => by have := V.int.inj z; omega)]
    refine iteF ?_
    refine ⟨_, rfl, l, fs, bs, rfl, hl, h12, ok.bord, fun q H2 lk x2 hq0 hq L => ?_⟩
    refine ⟨_, rfl, _, xs.length, rfl, .inr ⟨_, x2.sqT h1, rfl⟩, _, rfl, by omega, by omega, for_range (lo := 0) (n := (xs.length : Int).toNat) (fun i σ H3 => ∃ (T : Nat) (o4 o5 : Option V), σ = [some l, some (.ref a), some (.ref q), some (.int (T : Int)), o4, o5] ∧ Ext H2 H3 ∧ ∀ x, T.testBit x = true ↔ ∃ j u, j < i ∧ ws[j]? = some u ∧ x ∈ u)
      ⟨0, _, _, rfl, .refl _, fun x => ⟨fun h => by simp at h, fun ⟨j, u, hj, _⟩ => by omega⟩⟩ ?_ ?_⟩
    · rintro i σ H3 hi ⟨T, o4, o5, rfl, x3, hTb⟩
      rw [Int.toNat_natCast] at hi
      rw [Int.zero_add]
      have hiw : i < ws.length := by omega
      have hw := List.getElem?_eq_getElem hiw
      have hmem := List.getElem_mem hiw
      have lo := PO.w.lots _ hmem
      have hlw := lo.len
      obtain ⟨wv, hwv, hdw⟩ := dpAll_get h2 (i := i) (d := lotD ws[i]) (by rw [List.getElem?_map, hw]; rfl)
      have x23 := x2.trans x3
      refine ⟨_, rfl, _, rfl, _, rfl, a, _, _, _, rfl, rfl, x23.sqT h1, atI_nat hwv, l, wv, fs, _, ws[i], rfl, dp_ext x23 hl, by omega, dp_ext x23 hdw, by omega, x23.tabs _ hT1, x23.tabs _ hT2, fun H4 x4 => ⟨true, by rw [lo.is], iteF ?_⟩⟩
      have x24 := x23.trans x4
      refine ⟨_, rfl, _, rfl, a, _, _, _, rfl, rfl, x24.sqT h1, atI_nat hwv, wv, ws[i], rfl, dp_ext x24 hdw, fun p hp => by have := lo.lt p hp; omega, x24.tabs _ hT3, fun H5 x5 => ?_⟩
      have x25 := x24.trans x5
      have hbit := Mk.bit_mask lo.asc
      have hdis : Mk.mask ws[i] &&& T = 0 := Mk.eq_of_bits fun x => by
        rw [Nat.testBit_and, Bool.and_eq_true, hbit, decide_eq_true_eq, hTb, Nat.zero_testBit]
        constructor
        · rintro ⟨hx, j, u, hj, hu, hxu⟩
          have := PO.w.apart i j x x _ u hw hu hx hxu rfl
          omega
        · intro z; cases z
      have hand : Builtin.bitAnd ((Mk.mask ws[i] : Nat) : Int) (T : Int) = 0 := by rw [and_pp, hdis]; rfl
      dsimp only [gName, List.set, tSeq]
      -- ward & taken, hangs_together
      obtain ⟨lh, hlh, hlh1⟩ := PO.hang _ hmem
      have hq5 := ((x3.trans x4).trans x5).lst hq
      refine ⟨_, rfl, _, rfl, _, _, rfl, rfl, false, (by show TruV K (V.int (Builtin.bitAnd ((Mk.mask ws[i] : Nat) : Int) (T : Int))) H5 false; rw [hand]; rfl), ?_⟩
      refine iteF ?_
      refine ⟨_, rfl, _, rfl, q, lk, fs.length, Mk.mask ws[i], bs, rfl, hq5, L, ok.bord, h12, Mk.mask_lt lo.asc lo.lt, mask_pos lo.asc lo.ne, x25.tabs _ hT4, fun b H6 x6 hb => ?_⟩
      have eb := hb lh hlh
      rw [decide_eq_true hlh1] at eb
      subst eb
      have x26 := x25.trans x6
      refine ⟨true, rfl, iteF ?_⟩
      -- the sequence of the wards
      have fin : ∀ H7, Ext H6 H7 → ∃ (T2 : Nat) (u4 u5 : Option V), ([some l, some (.ref a), some (.ref q), some (.int ((T ||| Mk.mask ws[i] : Nat) : Int)), some (.int (i : Int)), some (.int ((Mk.mask ws[i] : Nat) : Int))] : L2.St) = [some l, some (.ref a), some (.ref q), some (.int (T2 : Int)), u4, u5] ∧ Ext H2 H7 ∧ ∀ x, T2.testBit x = true ↔ ∃ j u, j < i + 1 ∧ ws[j]? = some u ∧ x ∈ u := fun H7 x7 => by
        refine ⟨T ||| Mk.mask ws[i], _, _, rfl, ((x3.trans x4).trans (x5.trans x6)).trans x7, fun x => ?_⟩
        rw [Nat.testBit_or, Bool.or_eq_true, hTb, hbit, decide_eq_true_eq]
        constructor
        · rintro (⟨j, u, hj, hu, hx⟩ | hx)
          · exact ⟨j, u, by omega, hu, hx⟩
          · exact ⟨i, _, by omega, hw, hx⟩
        · rintro ⟨j, u, hj, hu, hx⟩
          by_cases z : j = i
          · subst z
            rw [hw] at hu
            cases hu
            exact .inr hx
          · exact .inl ⟨j, u, by omega, hu, hx⟩
      refine ⟨_, rfl, _, _, rfl, rfl, decide (0 < i), ?_, ?_⟩
      · show V.bl (decide ((0 : Int) < (i : Int))) = _
        congr 1
        apply decide_eq_decide.mpr
        omega
      by_cases hi0 : 0 < i
      · rw [decide_eq_true hi0]
        refine iteT ?_
        have hiw2 : i - 1 < ws.length := by omega
        have hw2 := List.getElem?_eq_getElem hiw2
        have lo2 := PO.w.lots _ (List.getElem_mem hiw2)
        obtain ⟨wv2, hwv2, hdw2⟩ := dpAll_get h2 (i := i - 1) (d := lotD ws[i - 1]) (by rw [List.getElem?_map, hw2]; rfl)
        obtain ⟨aw, rfl, hsw⟩ := dp_lot hdw
        obtain ⟨aw2, rfl, hsw2⟩ := dp_lot hdw2
        have hlt := List.pairwise_iff_getElem.mp PO.asc (i - 1) i hiw2 hiw (by omega)
        have ecast : ∀ u : List Nat, (u.map fun (p : Nat) => V.int (p : Int)) = (u.map fun (p : Nat) => (p : Int)).map V.int := fun u => by rw [List.map_map]; rfl
        have e1 : (i : Int) - 1 = ((i - 1 : Nat) : Int) := by omega
        refine ⟨_, rfl, _, rfl, a, _, _, _, rfl, rfl, x26.sqT h1, atI_nat hwv, _, rfl, _, rfl, _, _, rfl, rfl, a, _, _, _, rfl, rfl, x26.sqT h1, by rw [e1]; exact atI_nat hwv2, aw, aw2, ws[i].map fun (p : Nat) => (p : Int), ws[i - 1].map fun (p : Nat) => (p : Int), rfl, rfl, by rw [← ecast]; exact x26.sqT hsw, by rw [← ecast]; exact x26.sqT hsw2, false, ?_, iteF ?_⟩
        · congr 1
          exact lexN_false lo.ne lo2.ne hlt
        · refine ⟨_, rfl, _, rfl, _, _, rfl, rfl, ?_⟩
          dsimp only [List.set]
          rw [or_pp]
          exact fin H6 (.refl _)
      · rw [decide_eq_false hi0]
        refine iteF (iteF ?_)
        refine ⟨_, rfl, _, rfl, _, _, rfl, rfl, ?_⟩
        dsimp only [List.set]
        rw [or_pp]
        exact fin H6 (.refl _)
    · rintro σ H3 ⟨T, o4, o5, rfl, x3, hTb⟩
      rw [Int.toNat_natCast] at hTb
      have x23 := x2.trans x3
      refine ⟨_, rfl, _, rfl, l, fs, _, rfl, dp_ext x23 hl, h12, rfl, _, rfl, ?_⟩
      have hT9 : T = 2 ^ fs.length - 1 := Mk.eq_of_bits fun x => by
        rw [hTb, Nat.testBit_two_pow_sub_one, decide_eq_true_eq]
        constructor
        · rintro ⟨j, u, _, hu, hx⟩
          exact (PO.w.lots u (List.mem_of_getElem? hu)).lt x hx
        · intro hx
          obtain ⟨u, hu, hxu⟩ := PO.all x hx
          obtain ⟨j, hj, e⟩ := List.getElem_of_mem hu
          exact ⟨j, u, by omega, by rw [List.getElem?_eq_getElem hj, e], hxu⟩
      have e2 : (!decide (V.int (T : Int) = V.int ((2 ^ fs.length - 1 : Nat) : Int))) = false := by rw [hT9]; simp
      rw [e2]
      exact iteF (k H3 x23)
/-! ### check_plan -/
end
end Wd

set_option Elab.async false
set_option linter.all false
set_option maxRecDepth 100000
set_option maxHeartbeats 4000000
/-! Dr: sorted of lists of data of any length; list(d.values()). -/
namespace Bx
open PySem PySem.Spec PyProof.Rows L2
open PySem.W (EachIs AllAlike Sortable dataLe)
theorem each_of {α β : Type} {R : α → β → Prop} : ∀ {as : List α} {bs : List β}, as.length = bs.length → (∀ (i : Nat) (a : α) (b : β), as[i]? = some a → bs[i]? = some b → R a b) → EachIs R as bs
  | [], [], _, _ => .nil
  | a :: as, b :: bs, h, k => .cons (k 0 a b rfl rfl) (each_of (Nat.succ.inj h) fun i a b h1 h2 => k (i + 1) a b h1 h2)
theorem each_at {α β : Type} {R : α → β → Prop} : ∀ {as : List α} {bs : List β}, EachIs R as bs → ∀ {i : Nat} {a : α} {b : β}, as[i]? = some a → bs[i]? = some b → R a b
  | _, _, .cons h t, 0, _, _, h1, h2 => by cases h1; cases h2; exact h
  | _, _, .cons h t, i + 1, _, _, h1, h2 => each_at t (i := i) h1 h2
theorem zip_at {α β : Type} {as : List α} {bs : List β} {i : Nat} {p : α × β} (h : (as.zip bs)[i]? = some p) : as[i]? = some p.1 ∧ bs[i]? = some p.2 := by
  rw [List.getElem?_zip_eq_some] at h
  exact h
theorem vals_of_each : ∀ {us : List Value} {zs : List (V × PyData)}, EachIs (fun v (b : V × PyData) => RelV b.1 v) us zs → Vals (zs.map (·.1)) us
  | _, _, .nil => .nil
  | _, _, .cons h t => .cons h (vals_of_each t)
theorem vals_at : ∀ {xs : List V} {us : List Value}, Vals xs us → ∀ {i : Nat} {x : V} {u : Value}, xs[i]? = some x → us[i]? = some u → RelV x u
  | _, _, .cons h t, 0, _, _, h1, h2 => by cases h1; cases h2; exact h
  | _, _, .cons h t, i + 1, _, _, h1, h2 => vals_at t (i := i) h1 h2
theorem dpAll_zip {K : PySem.W.Frag} {H : Hp} : ∀ {zs : List (V × PyData)}, (∀ z ∈ zs, Dp K H z.1 z.2) → DpAll K H (zs.map (·.1)) (zs.map (·.2))
  | [], _ => .nil
  | z :: zs, h => .cons (h z List.mem_cons_self) (dpAll_zip fun y hy => h y (List.mem_cons_of_mem _ hy))
theorem dpAll_zipmem {K : PySem.W.Frag} {H : Hp} : ∀ {xs : List V} {ds : List PyData}, DpAll K H xs ds → ∀ z ∈ xs.zip ds, Dp K H z.1 z.2
  | _, _, .nil, _, hz => nomatch hz
  | _, _, .cons h t, z, hz => by
    rw [List.zip_cons_cons] at hz
    rcases List.mem_cons.mp hz with e | e
    · rw [e]; exact h
    · exact dpAll_zipmem t z e
/-- sorted(xs) of a list of data that compare -/
def rSortDt (K : PySem.W.Frag) : List V → Hp → VK → Prop := fun vs H Q => ∃ (a : Addr) (xs : List V) (ds : List PyData), vs = [V.ref a] ∧ SqL K H a xs ∧ DpAll K H xs ds ∧ AllAlike ds ∧ Sortable ds ∧ ds.length ≤ 100000 ∧ (∀ d ∈ ds, d.depth ≤ 40) ∧
  ∀ ys es p, DpAll K H ys es → es.Perm ds → es.Pairwise (fun d e => PySem.W.dataLt e d = false) → H p = none → Q (.ref p) (upd H p (.lst ys))
theorem dataLe_not {β : Type} (k : β → PyData) (a b : β) : dataLe false k a b = !PySem.W.dataLt (k b) (k a) := rfl
theorem cr_sortDt {X : Cx} (hu : X.A.units + 64 < cLine) : CallR X (.builtin "sorted") (rSortDt X.K) := by
  intro pins s σ H vs us Q I r h
  obtain ⟨a, xs, ds, rfl, hs, hd, ha, hk, hn, hdp, q⟩ := h
  rw [Vals.ref1 r]
  obtain ⟨its, rv, hl, hz⟩ := I.list hs
  have e1 : (xs.zip ds).map (·.2) = ds := List.map_snd_zip (Nat.le_of_eq (dpAll_len hd).symm)
  have e0 : (xs.zip ds).map (·.1) = xs := List.map_fst_zip (Nat.le_of_eq (dpAll_len hd))
  have el : its.length = (xs.zip ds).length := by rw [← rv.length, List.length_zip, dpAll_len hd]; omega
  have rd : ∀ (i : Nat) (u : Value) (z : V × PyData), its[i]? = some u → (xs.zip ds)[i]? = some z → RelV z.1 u ∧ ∃ as, Reads s.heap u z.2 as := fun i u z h1 h2 => by
    obtain ⟨h3, h4⟩ := zip_at h2
    have h5 := vals_at rv h3 h1
    obtain ⟨as, h6⟩ := Dp.reads I z.2 z.1 u (dpAll_zipmem hd z (List.mem_of_getElem? h2)) h5
    exact ⟨h5, as, h6⟩
  have hl' : s.heap.IsList a its.toArray := hl.isList
  refine PySem.W.sorted_data (vs := its) (bs := xs.zip ds) (R := fun v (b : V × PyData) => RelV b.1 v) (enc := fun b : V × PyData => b.2) hl' (each_of el fun i u z h1 h2 => (rd i u z h1 h2).1) (each_of el fun i u z h1 h2 => (rd i u z h1 h2).2) (by rw [e1]; exact ha) (by rw [e1]; exact hk) (by rw [List.length_zip, sizeLine_eq]; omega)
    (fun b hb => by have := hdp b.2 (by rw [← e1]; exact List.mem_map.mpr ⟨b, hb, rfl⟩); omega) fun out ho he => ?_
  have hv := vals_of_each he
  have hperm : ((xs.zip ds).mergeSort (dataLe false fun b : V × PyData => b.2)).Perm (xs.zip ds) := List.mergeSort_perm ..
  have tot := PySem.W.sortLe_total (listOrd itemOrd) false (fun b : V × PyData => PySem.W.keyToks b.2)
  have hsort : ((xs.zip ds).mergeSort (dataLe false fun b : V × PyData => b.2)).Pairwise (fun a b => dataLe false (fun b : V × PyData => b.2) a b = true) := List.pairwise_mergeSort (fun a b c h1 h2 => tot.trans a b c h1 h2) (fun a b => Bool.or_eq_true_iff.mpr (tot.total a b)) _
  generalize (xs.zip ds).mergeSort (dataLe false fun b : V × PyData => b.2) = zs at hv hperm hsort he
  have hlz : zs.length = out.length := by rw [he.length]
  have kp : ∀ b o, s.heap.get? b = some o → (sortedAll s.heap its out.toArray).get? b = some o := fun b o e => sortedAll_old e
  obtain ⟨n, hat⟩ := sortedAll_at s.heap its out.toArray
  have hfr : H (s.heap.objs.size + 1) = none := I.hok.fresh (Nat.le_succ _)
  refine ⟨.ref (s.heap.objs.size + 1), upd H (s.heap.objs.size + 1) (.lst (zs.map (·.1))), I.laid (t' := s.toks) kp (Nat.le_succ _) ⟨?_, out, n, hv, hat⟩, rfl, q _ (zs.map (·.2)) _ (dpAll_zip fun z hz => dpAll_zipmem hd z (hperm.mem_iff.mp hz)) ?_ ?_ hfr⟩
  · rw [List.length_map, hperm.length_eq, List.length_zip, sizeLine_eq]
    omega
  · have := hperm.map (·.2)
    rw [e1] at this
    exact this
  · rw [List.pairwise_map]
    refine hsort.imp fun {d e} h => ?_
    rw [dataLe_not] at h
    simpa using h
theorem cr_sortDtK {X : Cx} {K : PySem.W.Frag} (h : X.K = K) (hu : X.A.units + 64 < cLine) : CallR X (.builtin "sorted") (rSortDt K) := h ▸ cr_sortDt hu
/-! ### list(d.values()) -/
def rValsL : V → Hp → VK → Prop := fun x H Q => ∃ (d : Addr) (kvs : List (Key × V)), x = .ref d ∧ H d = some (.dK kvs) ∧ ∀ p, H p = none → Q (.ref p) (upd H p (.lst (kvs.map (·.2))))
def tListVals (te : TE) : TE := fun σ H Q => te σ H fun x H1 => rValsL x H1 Q
theorem vals_of_at2 : ∀ {xs : List V} {us : List Value}, xs.length = us.length → (∀ (j : Nat) (x : V) (u : Value), xs[j]? = some x → us[j]? = some u → RelV x u) → Vals xs us
  | [], [], _, _ => .nil
  | x :: xs, u :: us, h, k => .cons (k 0 x u rfl rfl) (vals_of_at2 (Nat.succ.inj h) fun j x u h1 h2 => k (j + 1) x u h1 h2)
theorem kv_at : ∀ {kvs : List (Key × V)} {vs : List (Key × Value)}, KV kvs vs → ∀ {j : Nat} {q : Key × V} {p : Key × Value}, kvs[j]? = some q → vs[j]? = some p → RelV q.2 p.2
  | _, _, .cons h t, 0, _, _, h1, h2 => by cases h1; cases h2; exact h.2
  | _, _, .cons h t, j + 1, _, _, h1, h2 => kv_at t (j := j) h1 h2
theorem pe_listVals {X : Cx} {e : Expr} {te : TE} {p apos cpos pos : Pos} (hc : X.calm = true) (he : PE X e te) (hg : Gl X "list") (hm : X.mg "list" = none) (hv : bootBuiltins "list" = some (.type "list")) (hbase : attributeBase e "values" X.env (eval e X.env) = eval e X.env := by rfl) (hline : (apos.endLine == cpos.line) = true := by rfl)
    (hs : starEach [.Call (.Attribute e "values" apos) [] [] cpos] X.env = (false, eval (.Call (.Attribute e "values" apos) [] [] cpos) X.env) :: starEach [] X.env := by rfl) :
    PE X (.Call (.Name "list" p) [.Call (.Attribute e "values" apos) [] [] cpos] [] pos) (tListVals te) := by
  refine ⟨fun pins s σ H Q I hq => wpAny_Call_Name_kw (ld_blt I hg hm hv (PyProof.Rows.callWith_type1 ?_ hs rfl))⟩
  rw [hs]
  refine Calls.spliced_cons ?_
  refine wpAny_Call_method (T := "dict") (id := "dict.values") hbase rfl hline F.plainAttrs_dict F.slot_dict_values F.type_dict_values (thn (he.run pins s σ H _ I hq) fun u s1 ⟨x, H1, I1, rx, d, kvs, ex, hd, q⟩ => ?_)
  subst ex
  obtain rfl : u = Value.ref d := rx
  obtain ⟨hz, hs0, vs, kv, hdo⟩ := I1.hok d _ hd
  obtain ⟨ep, hat⟩ := hdo.dictAt
  have lk : kvs.length = vs.length := Paired.length kv
  have I2 : Inv X pins σ H1 { s1 with heap := s1.heap.push { cls := .type "dict_values", data := .fields #[.ref d] } } := I1.kept (t' := s1.toks) fun b ob e => Heap.get?_push_of_some _ e
  refine ⟨hdo.typeIs, hdo.mapOf.noDict, ?_⟩
  refine method_meetsIn F.slot_dict_values F.entry_dict_values rfl (PySem.evalArgs_none ⟨rfl, hdo.typeIs, F.args_dict_values_1 _, _, meets_dict_values (mixKind X.prog X.w) d hs0, ⟨vs, hdo⟩, Calls.spliced_nil ?_⟩)
  refine PySem.W.kdl_call (PySem.W.kdl_values (knd := mixKind X.prog X.w) (kvs := vs) (ep := ep)) (I1.ok.hd hc) ⟨⟨_, Heap.get?_push_size _ rfl, rfl, rfl⟩, hat.push _⟩ (by rw [← lk]; exact hz) fun h' tk acc c hk hS hacc => ?_
  refine ⟨.ref _, _, I2.laid (t' := tk) hk (Nat.le_refl _) (show ObjOk X.prog X.w _ _ _ (.lst (kvs.map (·.2))) from ⟨by rw [List.length_map]; exact hz, acc.toList, c, vals_of_at2 ?_ fun j x u h1 h2 => ?_, by rw [Array.toArray_toList]; exact hS⟩), rfl, q _ (I2.hok.fresh (Nat.le_refl _))⟩
  · have el : acc.toList.length = acc.size := by simp
    rw [List.length_map, el, hacc.1, lk]
  · obtain ⟨k, hky⟩ := hacc.2 j u (by rw [← Array.getElem?_toList]; exact h2)
    rw [List.getElem?_map, Option.map_eq_some_iff] at h1
    obtain ⟨qv, h3, rfl⟩ := h1
    exact kv_at kv h3 hky
end Bx

set_option Elab.async false
set_option linter.all false
set_option maxRecDepth 100000
set_option maxHeartbeats 4000000
namespace Wd
open PySem PySem.Spec PyProof.Rows L2 Bx Gx




















































section
/-! ### sorted lots -/
theorem perm_unmap {α β : Type} (f : α → β) {es fs : List β} (h : es.Perm fs) : ∀ {ws : List α}, fs = ws.map f → ∃ vs : List α, vs.Perm ws ∧ es = vs.map f := by
  induction h with
  | nil => intro ws e; cases ws with
    | nil => exact ⟨[], .refl _, rfl⟩
    | cons _ _ => cases e
  | cons x _ ih => intro ws e; cases ws with
    | nil => cases e
    | cons w ws =>
      injection e with e1 e2
      obtain ⟨vs, h1, h2⟩ := ih e2
      exact ⟨w :: vs, h1.cons w, by rw [List.map_cons, ← e1, h2]⟩
  | swap x y l => intro ws e; match ws, e with
    | a :: b :: ws, e =>
      injection e with e1 e
      injection e with e2 e3
      exact ⟨b :: a :: ws, .swap _ _ _, by rw [List.map_cons, List.map_cons, ← e1, ← e2, ← e3]⟩
  | trans _ _ ih1 ih2 => intro ws e; obtain ⟨vs, h1, h2⟩ := ih2 e; obtain ⟨us, h3, h4⟩ := ih1 h2; exact ⟨us, h3.trans h1, h4⟩
theorem perm_uniq {α : Type} {R : α → α → Prop} (as_ : ∀ a b, R a b → R b a → False) : ∀ {l m : List α}, l.Perm m → l.Pairwise R → m.Pairwise R → l = m
  | [], m, h, _, _ => (List.Perm.nil_eq h)
  | a :: l, [], h, _, _ => absurd h.length_eq (by simp)
  | a :: l, b :: m, h, hl, hm => by
    have hl' := List.pairwise_cons.mp hl
    have hm' := List.pairwise_cons.mp hm
    have e : a = b := by
      rcases List.mem_cons.mp (h.mem_iff.mp List.mem_cons_self) with e | e
      · exact e
      · rcases List.mem_cons.mp (h.mem_iff.mpr List.mem_cons_self) with f | f
        · exact f.symm
        · exact (as_ _ _ (hl'.1 b f) (hm'.1 a e)).elim
    subst e
    rw [perm_uniq as_ h.cons_inv hl'.2 hm'.2]
theorem lt_lots {u v : List Nat} (hu : u ≠ []) (hv : v ≠ []) (h : u.headD 0 ≠ v.headD 0) : PySem.W.dataLt (lotD u) (lotD v) = decide (u.headD 0 < v.headD 0) := by
  match u, hu with
  | a :: r, _ =>
    match v, hv with
    | b :: s, _ =>
      have hne : a ≠ b := h
      have e : PyData.eqv (.int (a : Int)) (.int (b : Int)) = false := by simp [PyData.eqv]; omega
      show PySem.W.dataLt (.tuple (.int (a : Int) :: _)) (.tuple (.int (b : Int) :: _)) = decide (a < b)
      rw [PySem.W.dataLt_tuple, PySem.W.dataLt_cons (by simp [PySem.W.alike]), e, if_neg Bool.false_ne_true, PySem.W.dataLt_int]
      exact decide_eq_decide.mpr (by omega)
abbrev hdLt (u v : List Nat) : Prop := u.headD 0 < v.headD 0
theorem sorted_lots {ws : List (List Nat)} (ne : ∀ u ∈ ws, u ≠ []) (asc : ws.Pairwise hdLt) {us : List (List Nat)} (hus : us.Perm ws) {es : List PyData} (pm : es.Perm (us.map lotD)) (pw : es.Pairwise fun d e => PySem.W.dataLt e d = false) : es = ws.map lotD := by
  obtain ⟨vs, h1, rfl⟩ := perm_unmap lotD pm rfl
  have h2 := h1.trans hus
  have nd : vs.Pairwise fun u v => u.headD 0 ≠ v.headD 0 := by
    have : ws.Pairwise fun u v => u.headD 0 ≠ v.headD 0 := asc.imp fun h => Nat.ne_of_lt h
    exact (h2.pairwise_iff (fun {a b} h => h.symm)).mpr this
  have hv : vs.Pairwise hdLt := by
    rw [List.pairwise_map] at pw
    refine List.Pairwise.imp_of_mem (fun {u v} hu hv h => ?_) (pw.and nd)
    have z := h.1
    rw [lt_lots (ne v (h2.mem_iff.mp hv)) (ne u (h2.mem_iff.mp hu)) h.2.symm, decide_eq_false_iff_not] at z
    have := h.2
    show u.headD 0 < v.headD 0
    omega
  rw [perm_uniq (R := hdLt) (fun a b h1 h2 => by unfold hdLt at h1 h2; omega) h2 hv asc]
theorem alike_lots (u v : List Nat) : PySem.W.alike (lotD u) (lotD v) = true := by
  have := PySem.W.alike_ints (u.map fun (p : Nat) => (p : Int)) (v.map fun (p : Nat) => (p : Int))
  rw [List.map_map, List.map_map] at this
  exact this
theorem allAlike_lots (us : List (List Nat)) : PySem.W.AllAlike (us.map lotD) := PySem.W.AllAlike.of alike_lots
theorem sortable_lots {us : List (List Nat)} (ne : ∀ u ∈ us, u ≠ []) : PySem.W.Sortable (us.map lotD) := .inl fun d hd => by
  obtain ⟨u, hu, rfl⟩ := List.mem_map.mp hd
  match u, ne u hu with
  | a :: r, _ => exact ⟨_, _, rfl⟩
theorem depth_lots {us : List (List Nat)} : ∀ d ∈ us.map lotD, d.depth ≤ 40 := fun d hd => by
  obtain ⟨u, _, rfl⟩ := List.mem_map.mp hd
  have : PyData.depthAll (u.map fun (p : Nat) => PyData.int (p : Int)) ≤ 0 := depthAll_le fun d hd => by
    obtain ⟨p, _, rfl⟩ := List.mem_map.mp hd
    simp [PyData.depth]
  show PyData.depth (.tuple _) ≤ 40
  simp only [PyData.depth]
  omega
end
end Wd

set_option Elab.async false
set_option linter.all false
set_option maxRecDepth 100000
set_option maxHeartbeats 4000000
namespace Wd
open PySem PySem.Spec PyProof.Rows L2 Bx Gx




















































section
/-! ### the places of a row, put together by their numbers -/
def rowKeys (ns : List Int) : Nat → List Int
  | 0 => []
  | t + 1 => if ns.getD t 0 ∈ rowKeys ns t then rowKeys ns t else rowKeys ns t ++ [ns.getD t 0]
def rowLot (ns : List Int) (t : Nat) (k : Int) : List Nat := (List.range t).filter fun i => decide (ns.getD i 0 = k)
def rowLots (ns : List Int) (t : Nat) : List (List Nat) := (rowKeys ns t).map (rowLot ns t)
theorem rowLot_succ (ns : List Int) (t : Nat) (k : Int) : rowLot ns (t + 1) k = rowLot ns t k ++ if ns.getD t 0 = k then [t] else [] := by
  rw [rowLot, List.range_succ, List.filter_append]
  congr 1
  by_cases h : ns.getD t 0 = k
  · rw [if_pos h]
    simp only [List.filter, decide_eq_true h]
  · rw [if_neg h]
    simp only [List.filter, decide_eq_false h]
theorem rowLot_mem {ns : List Int} {t i : Nat} {k : Int} : i ∈ rowLot ns t k ↔ i < t ∧ ns.getD i 0 = k := by
  unfold rowLot
  rw [List.mem_filter, List.mem_range, decide_eq_true_eq]
theorem rowKeys_mem {ns : List Int} {k : Int} : ∀ {t : Nat}, k ∈ rowKeys ns t ↔ ∃ i, i < t ∧ ns.getD i 0 = k
  | 0 => ⟨(fun h => nomatch h), fun ⟨i, h, _⟩ => absurd h (Nat.not_lt_zero i)⟩
  | t + 1 => by
    have ih := rowKeys_mem (ns := ns) (k := k) (t := t)
    have up : (∃ i, i < t + 1 ∧ ns.getD i 0 = k) ↔ (∃ i, i < t ∧ ns.getD i 0 = k) ∨ ns.getD t 0 = k := by
      constructor
      · rintro ⟨i, hi, e⟩
        by_cases z : i = t
        · exact .inr (z ▸ e)
        · exact .inl ⟨i, by omega, e⟩
      · rintro (⟨i, hi, e⟩ | e)
        · exact ⟨i, by omega, e⟩
        · exact ⟨t, by omega, e⟩
    rw [up, ← ih]
    show k ∈ (if ns.getD t 0 ∈ rowKeys ns t then rowKeys ns t else rowKeys ns t ++ [ns.getD t 0]) ↔ _
    by_cases h : ns.getD t 0 ∈ rowKeys ns t
    · rw [if_pos h]
      exact ⟨.inl, fun z => z.elim id fun e => e ▸ h⟩
    · rw [if_neg h, List.mem_append, List.mem_singleton]
      exact ⟨fun z => z.imp id Eq.symm, fun z => z.imp id Eq.symm⟩
theorem rowKeys_nodup (ns : List Int) : ∀ t, (rowKeys ns t).Nodup
  | 0 => .nil
  | t + 1 => by
    show (if ns.getD t 0 ∈ rowKeys ns t then rowKeys ns t else rowKeys ns t ++ [ns.getD t 0]).Nodup
    by_cases h : ns.getD t 0 ∈ rowKeys ns t
    · rw [if_pos h]; exact rowKeys_nodup ns t
    · rw [if_neg h]
      refine List.nodup_append.mpr ⟨rowKeys_nodup ns t, by simp, fun x hx y hy e => h ?_⟩
      rw [List.mem_singleton.mp hy] at e
      exact e ▸ hx
theorem rowKeys_len (ns : List Int) : ∀ t, (rowKeys ns t).length ≤ t
  | 0 => Nat.zero_le _
  | t + 1 => by
    have ih := rowKeys_len ns t
    show (if ns.getD t 0 ∈ rowKeys ns t then rowKeys ns t else rowKeys ns t ++ [ns.getD t 0]).length ≤ t + 1
    split
    · omega
    · rw [List.length_append]; exact Nat.succ_le_succ ih
theorem rowLot_ne {ns : List Int} {t : Nat} {k : Int} (h : k ∈ rowKeys ns t) : rowLot ns t k ≠ [] := fun e => by
  obtain ⟨i, hi, e2⟩ := rowKeys_mem.mp h
  have := rowLot_mem.mpr ⟨hi, e2⟩
  rw [e] at this
  cases this
theorem rowLot_head {ns : List Int} {t : Nat} {k : Int} (h : k ∈ rowKeys ns t) : (rowLot ns t k).headD 0 < t ∧ ns.getD ((rowLot ns t k).headD 0) 0 = k := by
  have hne := rowLot_ne h
  cases e : rowLot ns t k with
  | nil => exact absurd e hne
  | cons a r => exact rowLot_mem.mp (by rw [e]; exact List.mem_cons_self)
theorem rowLot_head_succ {ns : List Int} {t : Nat} {k : Int} (h : k ∈ rowKeys ns t) : (rowLot ns (t + 1) k).headD 0 = (rowLot ns t k).headD 0 := by
  have hne := rowLot_ne h
  rw [rowLot_succ]
  cases e : rowLot ns t k with
  | nil => exact absurd e hne
  | cons a r => rfl
theorem rowKeys_asc (ns : List Int) : ∀ t, (rowKeys ns t).Pairwise fun k m => (rowLot ns t k).headD 0 < (rowLot ns t m).headD 0
  | 0 => .nil
  | t + 1 => by
    have ih := rowKeys_asc ns t
    have old : (rowKeys ns t).Pairwise fun k m => (rowLot ns (t + 1) k).headD 0 < (rowLot ns (t + 1) m).headD 0 :=
      ih.imp_of_mem fun {k m} hk hm h => by rw [rowLot_head_succ hk, rowLot_head_succ hm]; exact h
    show (if ns.getD t 0 ∈ rowKeys ns t then rowKeys ns t else rowKeys ns t ++ [ns.getD t 0]).Pairwise _
    by_cases h : ns.getD t 0 ∈ rowKeys ns t
    · rw [if_pos h]; exact old
    · rw [if_neg h, List.pairwise_append]
      refine ⟨old, List.pairwise_singleton _ _, fun k hk m hm => ?_⟩
      rw [List.mem_singleton.mp hm, rowLot_head_succ hk, rowLot_succ]
      have e : rowLot ns t (ns.getD t 0) = [] := by
        rw [rowLot, List.filter_eq_nil_iff]
        intro i hi z
        exact h (rowKeys_mem.mpr ⟨i, List.mem_range.mp hi, of_decide_eq_true z⟩)
      rw [e, if_pos rfl]
      exact (rowLot_head hk).1
theorem rowLots_asc (ns : List Int) (t : Nat) : (rowLots ns t).Pairwise hdLt := by
  rw [rowLots, List.pairwise_map]
  exact rowKeys_asc ns t
theorem rowLots_mem {ns : List Int} {t : Nat} {u : List Nat} (h : u ∈ rowLots ns t) : ∃ k, k ∈ rowKeys ns t ∧ u = rowLot ns t k := by
  obtain ⟨k, hk, rfl⟩ := List.mem_map.mp h
  exact ⟨k, hk, rfl⟩
theorem rowLots_ok {ns : List Int} {t : Nat} : ∀ u ∈ rowLots ns t, LotOk t u := fun u hu => by
  obtain ⟨k, hk, rfl⟩ := rowLots_mem hu
  exact ⟨rowLot_ne hk, fun p hp => (rowLot_mem.mp hp).1, List.pairwise_lt_range.filter _⟩
/-! ### what hangs together -/
def Hangs (bs : List (Nat × Nat)) (u : List Nat) : Prop := ∀ x ∈ u, ∀ y ∈ u, Mk.Conn bs (· ∈ u) x y
theorem rch_ex (bs : List (Nat × Nat)) (n m start : Nat) (h : m < 2 ^ n) : ∃ r, Mk.Rch bs m start r := by
  classical
  refine ⟨Mk.mask ((List.range n).filter fun q => decide (∃ p, start.testBit p = true ∧ Mk.Conn bs (Mk.In m) p q)), fun q => ?_⟩
  rw [Mk.bit_mask (List.pairwise_lt_range.filter _), decide_eq_true_eq, List.mem_filter, List.mem_range, decide_eq_true_eq]
  refine ⟨fun z => z.2, fun z => ⟨?_, z⟩⟩
  obtain ⟨p, _, hc⟩ := z
  exact Mk.lt_of_bit h hc.snd
theorem pcs_ex (bs : List (Nat × Nat)) (n : Nat) : ∀ m, m < 2 ^ n → ∃ l, Mk.Pcs bs m l := by
  intro m
  induction m using Nat.strongRecOn with
  | ind m ih =>
    intro hm
    by_cases h0 : m = 0
    · exact ⟨[], h0 ▸ .nil⟩
    · obtain ⟨q, hq, hlow, _⟩ := Mk.and_neg m (by omega)
      obtain ⟨r, hr⟩ := rch_ex bs n m (2 ^ q) hm
      have hrq : r.testBit q = true := (hr q).mpr ⟨q, by simp, .refl hq⟩
      have hlt := Mk.xor_lt hr.sub hrq
      obtain ⟨l, hl⟩ := ih (m ^^^ r) hlt (Nat.lt_trans hlt hm)
      exact ⟨r :: l, .cons hq hlow hr hl⟩
theorem hangs_len {bs : List (Nat × Nat)} {u : List Nat} (ha : u.Pairwise (· < ·)) (hne : u ≠ []) {l : List Nat} (h : Mk.Pcs bs (Mk.mask u) l) : l.length = 1 ↔ Hangs bs u := by
  refine ⟨fun e x hx y hy => Mk.one_pcs ha h e hx hy, fun hh => ?_⟩
  cases u with
  | nil => exact absurd rfl hne
  | cons p r => rw [(Mk.pcs_one ha List.mem_cons_self fun x hx => hh p List.mem_cons_self x hx).uniq h |>.symm]; rfl
theorem part_hangs {bs : List (Nat × Nat)} {u r : List Nat} {p : Nat} (ha : u.Pairwise (· < ·)) (hp : p ∈ u) (h : Part bs u p r) : r = u ↔ Hangs bs u := by
  refine ⟨fun e x hx y hy => ?_, fun hh => Mk.asc_ext h.asc ha fun q => ⟨fun hq => ((h.mem q).mp hq).snd, fun hq => (h.mem q).mpr (hh p hp q hq)⟩⟩
  rw [← e] at hx hy
  exact ((h.mem x).mp hx).symm.trans ((h.mem y).mp hy)
theorem part_head {u : List Nat} (h : u ≠ []) : u.headD 0 ∈ u := by
  cases u with
  | nil => exact absurd rfl h
  | cons a r => exact List.mem_cons_self
noncomputable def hangB (bs : List (Nat × Nat)) (u : List Nat) : Bool := @decide (Hangs bs u) (Classical.propDecidable _)
theorem hangB_iff {bs : List (Nat × Nat)} {u : List Nat} : hangB bs u = true ↔ Hangs bs u := by
  unfold hangB
  exact @decide_eq_true_iff _ (Classical.propDecidable _)
theorem hangB_of {bs : List (Nat × Nat)} {u : List Nat} {n : Nat} {b : Bool} (lo : LotOk n u) (h : ∀ qs, Mk.Pcs bs (Mk.mask u) qs → b = decide (qs.length = 1)) : b = hangB bs u := by
  obtain ⟨l, hl⟩ := pcs_ex bs n (Mk.mask u) (Mk.mask_lt lo.asc lo.lt)
  have e := hangs_len lo.asc lo.ne hl
  rw [h l hl]
  by_cases z : l.length = 1
  · rw [decide_eq_true z, hangB_iff.mpr (e.mp z)]
  · rw [decide_eq_false z]
    cases q : hangB bs u with
    | false => rfl
    | true => exact absurd (e.mpr (hangB_iff.mp q)) z
end
section
variable {K : PySem.W.Frag}
theorem sh_lot (n : Nat) (u : List Nat) : Sh (n + 2) (lotD u) := .tup fun d hd => by
  obtain ⟨p, _, rfl⟩ := List.mem_map.mp hd
  exact .int _ _
theorem eqvAll_nats : ∀ r u : List Nat, PyData.eqvAll (r.map fun (p : Nat) => PyData.int (p : Int)) (u.map fun (p : Nat) => PyData.int (p : Int)) = decide (r = u)
  | [], [] => by simp [PyData.eqvAll]
  | a :: r, [] => by simp [PyData.eqvAll]
  | [], b :: u => by simp [PyData.eqvAll]
  | a :: r, b :: u => by
    rw [List.map_cons, List.map_cons, PySem.W.eqv_all_cons, eqvAll_nats r u]
    have : PyData.eqv (.int (a : Int)) (.int (b : Int)) = decide (a = b) := by
      simp only [PyData.eqv]
      by_cases h : a = b
      · subst h; simp
      · rw [decide_eq_false h]
        simp
        omega
    rw [this]
    by_cases h : a = b
    · subst h; simp
    · simp [h]
theorem eqv_lots (r u : List Nat) : PyData.eqv (lotD r) (lotD u) = decide (r = u) := by
  rw [← eqvAll_nats r u]
  show PyData.eqv (.tuple _) (.tuple _) = _
  rw [PyData.eqv]
end
end Wd

set_option Elab.async false
set_option linter.all false
set_option maxRecDepth 100000
set_option maxHeartbeats 4000000
namespace Wd
open PySem PySem.Spec PyProof.Rows L2 Bx Gx




















































section
variable {P : Program} {w : World} {K : PySem.W.Frag} {mg : Str → Option Value} {base : Heap}
/-! ### fault_of_plan, plan_fault, is_plan of any value -/
def lexI (ns ms : List Int) : Bool := Ob.lexAt (fun j => decide (ns.getD j 0 = ms.getD j 0)) (fun j => decide (ns.getD j 0 ≤ ms.getD j 0)) (decide (ns.length ≤ ms.length)) 0 (min ns.length ms.length)
/-- u comes no later than v -/
def lexLe (u v : List Nat) : Bool := lexI (u.map fun (p : Nat) => (p : Int)) (v.map fun (p : Nat) => (p : Int))
/-- the k-th ward's places -/
def wardAt (ds : List PyData) (k : Nat) : List Nat := natsD (ds.getD k .none)
/-- whether an earlier ward has a place of the k-th -/
def meetsW (ds : List PyData) (k : Nat) : Bool := (wardAt ds k).any fun p => (List.range k).any fun j => decide (p ∈ wardAt ds j)
noncomputable def badW (n : Nat) (bs : List (Nat × Nat)) (ds : List PyData) (k : Nat) : Bool :=
  !lotB n (ds.getD k .none) || (meetsW ds k || !hangB bs (wardAt ds k)) || (decide (0 < k) && lexLe (wardAt ds k) (wardAt ds (k - 1)))
def allW (n : Nat) (ds : List PyData) : Bool := (List.range n).all fun p => (List.range ds.length).any fun j => decide (p ∈ wardAt ds j)
noncomputable def planF (n : Nat) (bs : List (Nat × Nat)) : PyData → Option Int
  | .tuple ds => if ds.isEmpty = true then some 0 else match (List.range ds.length).find? (badW n bs ds) with
    | some k => some (k : Int)
    | none => if allW n ds = true then none else some (ds.length : Int)
  | _ => some 0
theorem planF_not {n : Nat} {bs : List (Nat × Nat)} {d : PyData} (h : ∀ ds, d ≠ .tuple ds) : planF n bs d = some 0 := by
  cases d with
  | tuple ds => exact absurd rfl (h ds)
  | _ => rfl
theorem planF_bad {n : Nat} {bs : List (Nat × Nat)} {ds : List PyData} {i : Nat} (hi : i < ds.length) (hok : ∀ j, j < i → badW n bs ds j = false) (hb : badW n bs ds i = true) : planF n bs (.tuple ds) = some (i : Int) := by
  have ef : (List.range ds.length).find? (badW n bs ds) = some i := List.find?_range_eq_some.mpr ⟨hb, List.mem_range.mpr hi, fun j hj => by rw [hok j hj]; rfl⟩
  have e0 : ds.isEmpty = false := by cases ds with
    | nil => exact absurd hi (Nat.not_lt_zero _)
    | cons _ _ => rfl
  show (if ds.isEmpty = true then some 0 else match (List.range ds.length).find? (badW n bs ds) with
    | some k => some (k : Int)
    | none => if allW n ds = true then none else some (ds.length : Int)) = _
  rw [e0, if_neg Bool.false_ne_true, ef]
theorem planF_fin {n : Nat} {bs : List (Nat × Nat)} {ds : List PyData} (h0 : 0 < ds.length) (hok : ∀ j, j < ds.length → badW n bs ds j = false) : planF n bs (.tuple ds) = if allW n ds = true then none else some (ds.length : Int) := by
  have ef : (List.range ds.length).find? (badW n bs ds) = none := List.find?_range_eq_none.mpr fun j hj => by rw [hok j hj]; rfl
  have e0 : ds.isEmpty = false := by cases ds with
    | nil => exact absurd h0 (Nat.not_lt_zero _)
    | cons _ _ => rfl
  show (if ds.isEmpty = true then some 0 else match (List.range ds.length).find? (badW n bs ds) with
    | some k => some (k : Int)
    | none => if allW n ds = true then none else some (ds.length : Int)) = _
  rw [e0, if_neg Bool.false_ne_true, ef]
/-- None or an int -/
def optV : Option Int → V
  | none => .non
  | some i => .int i
theorem badW_lot {n : Nat} {bs : List (Nat × Nat)} {ds : List PyData} {j : Nat} (h : badW n bs ds j = false) : lotB n (ds.getD j .none) = true := by
  unfold badW at h
  cases e : lotB n (ds.getD j .none) with
  | true => rfl
  | false => rw [e] at h; cases h
theorem natsD_lotD (ps : List Nat) : natsD (lotD ps) = ps := by
  show (ps.map fun (p : Nat) => PyData.int (p : Int)).map (fun x => (intD x).toNat) = ps
  rw [List.map_map]
  exact (List.map_congr_left fun p _ => by show (((p : Nat) : Int)).toNat = p; simp).trans (List.map_id ps)
def spFaultPlanA (K : PySem.W.Frag) (T1 T2 T3 T4 : Addr) : Sp := fun vs H Q _ => ∃ (l v : V) (fs : List Int) (bs : List (Nat × Nat)) (d : PyData), vs = [l, v] ∧ Dp K H l (landD fs bs) ∧ LandOk fs bs ∧ Dp K H v d ∧ smD d = true ∧ Tabs [T1, T2, T3, T4] H ∧ ∀ H', Ext H H' → Q (optV (planF fs.length bs d)) H'
theorem ok_fault_of_planA {f T1 T2 T3 T4 : Addr} {fd : FuncData} (F : Fun K "fault_of_plan" "fault_of_plan" st_fault_of_plan f fd) (B : Bl mg) (c1 : Cal P w K mg base 6 "is_lot" ["land", "value"] (spIsLotA K T1 T2)) (c2 : Cal P w K mg base 4 "mask_of" ["lot"] (spMaskOf K T3))
    (c3 : Cal P w K mg base 1 "links_of" ["land"] (spLinksOf K)) (c4 : Cal P w K mg base 8 "hangs_together" ["links", "mask"] (spHangsTog K T4)) (c5 : Cal P w K mg base 1 "whole_mask" ["land"] (spWhole K)) : FnOk P w K mg base CX0 9 f fd ["land", "value"] (spFaultPlanA K T1 T2 T3 T4) := by
  refine F.ok sc_fault_of_plan (fun vs H Q E h => ?_) (fun cdv A outer s H vs Q E hr h => ?_)
  · obtain ⟨l, v, fs, bs, d, rfl, _⟩ := h
    rfl
  · obtain ⟨l, v, fs, bs, d, rfl, hl, ok, hv, hsm, hT, k⟩ := h
    have hT1 := hT T1 (by simp)
    have hT2 := hT T2 (by simp)
    have hT3 := hT T3 (by simp)
    have hT4 := hT T4 (by simp)
    have hr6 := hr.mono (j := 6) (by decide)
    have hr4 := hr.mono (j := 4) (by decide)
    have hr1 := hr.mono (j := 1) (by decide)
    refine ⟨_, pss_cons (ps_if (PW.pt (pw_or (pt_cmpR op_neTy (pe_callTy call_type1 rfl B.type (by decide +kernel) (pa_cons (pv 1) pa_nil)) (pe_bltn rfl B.tuple (by decide +kernel) (v := .ty "tuple") rfl) (nomark _))
        (pw_or1 (pt_cmpR op_eq (pe_callB call_len (by rfl) B.len PySem.boot_len (pa_cons (pv 1) pa_nil)) pe_int (nomark _))))) (pss_one (ps_ret pe_int)) pss_nil)
      (pss_cons (ps_set (i := 2) sc_fault_of_plan.nd rfl (Or.inl rfl) (pe_cal c3 hr1 rfl (pa_cons (pv 0) pa_nil)))
      (pss_cons (ps_set (i := 3) sc_fault_of_plan.nd rfl (Or.inl rfl) pe_int)
      (pss_cons (ps_for PassesOwn.never rfl (pi_range1 rfl B.range (pa_cons (pe_callB call_len (by rfl) B.len PySem.boot_len (pa_cons (pv 1) pa_nil)) pa_nil)) (pg_name (i := 4) sc_fault_of_plan.nd rfl (Or.inl rfl))
        (pss_cons (ps_if (pt_not (pt_val (pe_cal c1 hr6 rfl (pa_cons (pv 0) (pa_cons (pe_ix ix_tup (pv 1) (pv 4) (fun _ _ => rfl)) pa_nil))) (by intro _; rfl))) (pss_one (ps_ret (pv 4))) pss_nil)
        (pss_cons (ps_set (i := 5) sc_fault_of_plan.nd rfl (Or.inl rfl) (pe_cal c2 hr4 rfl (pa_cons (pe_ix ix_tup (pv 1) (pv 4) (fun _ _ => rfl)) pa_nil)))
        (pss_cons (ps_if (PW.pt (pw_or (pt_truth (pe_op op_and (pv 5) (pv 3)) (by intro _; rfl)) (pw_or1 (pt_not (pt_val (pe_cal c4 hr rfl (pa_cons (pv 2) (pa_cons (pv 5) pa_nil))) (by intro _; rfl)))))) (pss_one (ps_ret (pv 4))) pss_nil)
        (pss_cons (ps_if (PW.pt (pw_and (pt_cmpR op_gt (pv 4) pe_int (nomark _)) (pw_and1 (pt_cmpR (op_leT hr.units0) (pe_ix ix_tup (pv 1) (pv 4) (fun _ _ => rfl)) (pe_ix ix_tup (pv 1) (pe_op op_sub (pv 4) pe_int) (fun _ _ => rfl)) (nomark _))))) (pss_one (ps_ret (pv 4))) pss_nil)
        (pss_one (ps_aug (i := 3) sc_fault_of_plan.nd rfl (Or.inl rfl) (pv 5) iop_or)))))))
      (pss_cons (ps_if (pt_cmpR op_ne (pv 3) (pe_cal c5 hr1 rfl (pa_cons (pv 0) pa_nil)) (nomark _)) (pss_one (ps_ret (pe_callB call_len (by rfl) B.len PySem.boot_len (pa_cons (pv 1) pa_nil)))) pss_nil)
      (pss_one (ps_ret pe_non)))))), ?_⟩
    have h12 := ok.most
    rcases tup_dp hv with ⟨ds, a, xs, rfl, rfl, h1, h2⟩ | ⟨T, hT, ht, hne, hno⟩
    · have hlen := dpAll_len h2
      obtain ⟨hds, hsms⟩ := smD_seq (ds := ds) (.inr rfl) hsm
      refine ⟨_, rfl, _, "tuple", rfl, .tup h1, "tuple", "tuple", rfl, rfl, by decide, by decide, false, rfl, ?_⟩
      refine iteF ⟨_, rfl, _, ds.length, rfl, .inr ⟨_, h1, hlen.symm⟩, rfl, _, rfl, ?_⟩
      by_cases he : ds = []
      · subst he
        exact iteT (k H (.refl H))
      have hpos : 0 < ds.length := List.length_pos_iff.mpr he
      rw [decide_eq_false (fun z => by have := V.int.inj z; omega)]
      refine iteF ?_
      refine ⟨_, rfl, l, fs, bs, rfl, hl, h12, ok.bord, fun q H2 lk x2 hq0 hq L => ?_⟩
      refine ⟨_, rfl, _, ds.length, rfl, .inr ⟨_, x2.sqT h1, hlen.symm⟩, _, rfl, by omega, by omega, for_range (lo := 0) (n := (ds.length : Int).toNat) (fun i σ H3 => ∃ (T : Nat) (o4 o5 : Option V), σ = [some l, some (.ref a), some (.ref q), some (.int (T : Int)), o4, o5] ∧ Ext H2 H3 ∧ (∀ j, j < i → badW fs.length bs ds j = false) ∧ ∀ x, T.testBit x = true ↔ ∃ j, j < i ∧ x ∈ wardAt ds j)
        ⟨0, _, _, rfl, .refl _, (fun j hj => absurd hj (Nat.not_lt_zero j)), fun x => ⟨fun h => by simp at h, fun ⟨j, hj, _⟩ => absurd hj (Nat.not_lt_zero j)⟩⟩ ?_ ?_⟩
      · rintro i σ H3 hi ⟨T, o4, o5, rfl, x3, hok, hTb⟩
        rw [Int.toNat_natCast] at hi
        rw [Int.zero_add]
        obtain ⟨wv, hwv, hdw⟩ := dpAll_get h2 (List.getElem?_eq_getElem hi)
        have egi : ds.getD i .none = ds[i] := by rw [List.getD_eq_getElem?_getD, List.getElem?_eq_getElem hi]; rfl
        have hsmi := smDs_get hsms _ (List.getElem_mem hi)
        have x23 := x2.trans x3
        have out : badW fs.length bs ds i = true → ∀ H', Ext H H' → Q (.int (i : Int)) H' := fun hb H' x => by
          have q := k H' x
          rw [planF_bad hi hok hb] at q
          exact q
        refine ⟨_, rfl, _, rfl, _, rfl, a, _, _, _, rfl, rfl, x23.sqT h1, atI_nat hwv, l, wv, fs, _, ds[i], rfl, dp_ext x23 hl, by omega, dp_ext x23 hdw, (fun es e => by have := (smD_seq (ds := es) (.inr e) hsmi).1; omega), x23.tabs _ hT1, x23.tabs _ hT2, fun H4 x4 => ?_⟩
        have x24 := x23.trans x4
        cases elot : lotB fs.length ds[i] with
        | false =>
          refine ⟨false, rfl, iteT ⟨_, rfl, out ?_ H4 x24⟩⟩
          unfold badW
          rw [egi, elot]
          rfl
        | true =>
          refine ⟨true, rfl, iteF ?_⟩
          obtain ⟨ed, lo⟩ := lotB_ok elot
          have ew : wardAt ds i = natsD ds[i] := by unfold wardAt; rw [egi]
          rw [← ew] at ed lo
          have hdw : Dp K H wv (lotD (wardAt ds i)) := ed ▸ hdw
          generalize hU : wardAt ds i = U at ed lo hdw ew
          refine ⟨_, rfl, _, rfl, a, _, _, _, rfl, rfl, x24.sqT h1, atI_nat hwv, wv, U, rfl, dp_ext x24 hdw, fun p hp => by have := lo.lt p hp; omega, x24.tabs _ hT3, fun H5 x5 => ?_⟩
          have x25 := x24.trans x5
          have hbit := Mk.bit_mask lo.asc
          have hme : meetsW ds i = (((Mk.mask U &&& T : Nat) : Int) != 0) := by
            unfold meetsW
            rw [hU]
            by_cases z : Mk.mask U &&& T = 0
            · rw [z]
              show _ = false
              rw [List.any_eq_false]
              intro p hp y
              rw [List.any_eq_true] at y
              obtain ⟨j, hj, y⟩ := y
              have hb : (Mk.mask U &&& T).testBit p = true := by
                rw [Nat.testBit_and, hbit, decide_eq_true hp, (hTb p).mpr ⟨j, List.mem_range.mp hj, of_decide_eq_true y⟩]
                rfl
              rw [z, Nat.zero_testBit] at hb
              cases hb
            · have e : (((Mk.mask U &&& T : Nat) : Int) != 0) = true := by
                rw [bne_iff_ne]
                omega
              rw [e, List.any_eq_true]
              obtain ⟨p, hp⟩ := Nat.exists_testBit_of_ne_zero z
              rw [Nat.testBit_and, Bool.and_eq_true, hbit, decide_eq_true_eq] at hp
              obtain ⟨j, hj, hpj⟩ := (hTb p).mp hp.2
              exact ⟨p, hp.1, List.any_eq_true.mpr ⟨j, List.mem_range.mpr hj, decide_eq_true hpj⟩⟩
          dsimp only [gName, List.set, tSeq]
          have hq5 := ((x3.trans x4).trans x5).lst hq
          refine ⟨_, rfl, _, rfl, _, _, rfl, rfl, meetsW ds i, (by show meetsW ds i = (Builtin.bitAnd ((Mk.mask U : Nat) : Int) (T : Int) != 0); rw [and_pp]; exact hme), ?_⟩
          cases em : meetsW ds i with
          | true =>
            refine iteT (iteT ⟨_, rfl, out ?_ H5 x25⟩)
            unfold badW
            rw [egi, elot, em]
            rfl
          | false =>
            refine iteF ?_
            refine ⟨_, rfl, _, rfl, q, lk, fs.length, Mk.mask U, bs, rfl, hq5, L, ok.bord, h12, Mk.mask_lt lo.asc lo.lt, mask_pos lo.asc lo.ne, x25.tabs _ hT4, fun b H6 x6 hb => ?_⟩
            have eb := hangB_of lo hb
            subst eb
            have x26 := x25.trans x6
            refine ⟨_, rfl, ?_⟩
            cases eh : hangB bs U with
            | false =>
              refine iteT ⟨_, rfl, out ?_ H6 x26⟩
              unfold badW
              rw [egi, elot, em, hU, eh]
              rfl
            | true =>
              refine iteF ?_
              have fin : badW fs.length bs ds i = false → ∃ (T2 : Nat) (u4 u5 : Option V), ([some l, some (.ref a), some (.ref q), some (.int ((T ||| Mk.mask U : Nat) : Int)), some (.int (i : Int)), some (.int ((Mk.mask U : Nat) : Int))] : L2.St) = [some l, some (.ref a), some (.ref q), some (.int (T2 : Int)), u4, u5] ∧ Ext H2 H6 ∧ (∀ j, j < i + 1 → badW fs.length bs ds j = false) ∧ ∀ x, T2.testBit x = true ↔ ∃ j, j < i + 1 ∧ x ∈ wardAt ds j := by
                intro hbi
                refine ⟨T ||| Mk.mask U, _, _, rfl, (x3.trans x4).trans (x5.trans x6), fun j hj => ?_, fun x => ?_⟩
                · by_cases z : j = i
                  · rw [z]; exact hbi
                  · exact hok j (by omega)
                · rw [Nat.testBit_or, Bool.or_eq_true, hTb, hbit, decide_eq_true_eq]
                  constructor
                  · rintro (⟨j, hj, hx⟩ | hx)
                    · exact ⟨j, by omega, hx⟩
                    · exact ⟨i, by omega, hU ▸ hx⟩
                  · rintro ⟨j, hj, hx⟩
                    by_cases z : j = i
                    · subst z
                      exact .inr (hU ▸ hx)
                    · exact .inl ⟨j, by omega, hx⟩
              refine ⟨_, rfl, _, _, rfl, rfl, decide (0 < i), ?_, ?_⟩
              · show V.bl (decide ((0 : Int) < (i : Int))) = _
                congr 1
                apply decide_eq_decide.mpr
                omega
              by_cases hi0 : 0 < i
              · rw [decide_eq_true hi0]
                refine iteT ?_
                have hi2 : i - 1 < ds.length := by omega
                obtain ⟨wv2, hwv2, hdw2⟩ := dpAll_get h2 (List.getElem?_eq_getElem hi2)
                have egj : ds.getD (i - 1) .none = ds[i - 1] := by rw [List.getD_eq_getElem?_getD, List.getElem?_eq_getElem hi2]; rfl
                have elot2 := badW_lot (hok (i - 1) (by omega))
                obtain ⟨ed2, lo2⟩ := lotB_ok elot2
                have hdw2 : Dp K H wv2 (lotD (wardAt ds (i - 1))) := by
                  rw [← egj, ed2] at hdw2
                  exact hdw2
                obtain ⟨aw, rfl, hsw⟩ := dp_lot hdw
                obtain ⟨aw2, rfl, hsw2⟩ := dp_lot hdw2
                have ecast : ∀ u : List Nat, (u.map fun (p : Nat) => V.int (p : Int)) = (u.map fun (p : Nat) => (p : Int)).map V.int := fun u => by rw [List.map_map]; rfl
                have e1 : (i : Int) - 1 = ((i - 1 : Nat) : Int) := by omega
                refine ⟨_, rfl, _, rfl, a, _, _, _, rfl, rfl, x26.sqT h1, atI_nat hwv, _, rfl, _, rfl, _, _, rfl, rfl, a, _, _, _, rfl, rfl, x26.sqT h1, by rw [e1]; exact atI_nat hwv2, aw, aw2, U.map fun (p : Nat) => (p : Int), (wardAt ds (i - 1)).map fun (p : Nat) => (p : Int), rfl, rfl, by rw [← ecast]; exact x26.sqT hsw, by rw [← ecast]; exact x26.sqT hsw2, lexLe U (wardAt ds (i - 1)), rfl, ?_⟩
                cases elx : lexLe U (wardAt ds (i - 1)) with
                | true =>
                  refine iteT ⟨_, rfl, out ?_ H6 x26⟩
                  unfold badW
                  rw [egi, elot, em, hU, eh, elx, decide_eq_true hi0]
                  rfl
                | false =>
                  refine iteF ?_
                  refine ⟨_, rfl, _, rfl, _, _, rfl, rfl, ?_⟩
                  dsimp only [List.set]
                  rw [or_pp]
                  refine fin ?_
                  unfold badW
                  rw [egi, elot, em, hU, eh, elx]
                  simp
              · rw [decide_eq_false hi0]
                refine iteF (iteF ?_)
                refine ⟨_, rfl, _, rfl, _, _, rfl, rfl, ?_⟩
                dsimp only [List.set]
                rw [or_pp]
                refine fin ?_
                unfold badW
                rw [egi, elot, em, hU, eh, decide_eq_false hi0]
                rfl
      · rintro σ H3 ⟨T, o4, o5, rfl, x3, hok, hTb⟩
        rw [Int.toNat_natCast] at hTb hok
        have x23 := x2.trans x3
        have ek := planF_fin hpos hok
        refine ⟨_, rfl, _, rfl, l, fs, _, rfl, dp_ext x23 hl, h12, rfl, _, rfl, ?_⟩
        have hT9 : allW fs.length ds = decide (T = 2 ^ fs.length - 1) := by
          apply Bool.eq_iff_iff.mpr
          rw [decide_eq_true_eq]
          unfold allW
          rw [List.all_eq_true]
          constructor
          · intro hall
            refine Mk.eq_of_bits fun x => ?_
            rw [hTb, Nat.testBit_two_pow_sub_one, decide_eq_true_eq]
            constructor
            · rintro ⟨j, hj, hx⟩
              exact (lotB_ok (badW_lot (hok j hj))).2.lt x hx
            · intro hx
              have := hall x (List.mem_range.mpr hx)
              rw [List.any_eq_true] at this
              obtain ⟨j, hj, hxj⟩ := this
              exact ⟨j, List.mem_range.mp hj, of_decide_eq_true hxj⟩
          · intro e x hx
            have hb : T.testBit x = true := by
              rw [e, Nat.testBit_two_pow_sub_one]
              exact decide_eq_true (List.mem_range.mp hx)
            obtain ⟨j, hj, hxj⟩ := (hTb x).mp hb
            exact List.any_eq_true.mpr ⟨j, List.mem_range.mpr hj, decide_eq_true hxj⟩
        have e2 : (!decide (V.int (T : Int) = V.int ((2 ^ fs.length - 1 : Nat) : Int))) = !allW fs.length ds := by
          rw [hT9]
          congr 1
          apply decide_eq_decide.mpr
          constructor
          · intro z
            have := V.int.inj z
            omega
          · intro z
            rw [z]
        rw [e2]
        cases ea : allW fs.length ds with
        | true =>
          refine iteF ?_
          have q := k H3 x23
          rw [ek, if_pos ea] at q
          exact q
        | false =>
          refine iteT ?_
          refine ⟨_, rfl, _, ds.length, rfl, .inr ⟨_, x23.sqT h1, hlen.symm⟩, ?_⟩
          have q := k H3 x23
          rw [ek, if_neg (by rw [ea]; exact Bool.false_ne_true)] at q
          exact q
    · have q := k H (.refl H)
      rw [planF_not hno] at q
      refine ⟨_, rfl, _, T, rfl, ht, T, "tuple", rfl, rfl, hT, by decide, true, ?_, ?_⟩
      · rw [decide_eq_false hne]
        rfl
      · exact iteT (iteT q)
def spIsPlanA (K : PySem.W.Frag) (T1 T2 T3 T4 : Addr) : Sp := fun vs H Q _ => ∃ (l v : V) (fs : List Int) (bs : List (Nat × Nat)) (d : PyData), vs = [l, v] ∧ Dp K H l (landD fs bs) ∧ LandOk fs bs ∧ Dp K H v d ∧ smD d = true ∧ Tabs [T1, T2, T3, T4] H ∧ ∀ H', Ext H H' → Q (.bl (planF fs.length bs d).isNone) H'
end
section
variable {P : Program} {w : World} {K : PySem.W.Frag} {mg : Str → Option Value} {base : Heap}
/-! ### plan_with -/
theorem sorted_nats {us vs : List Nat} {ns : List Int} (h : ns.Perm (us.map fun (p : Nat) => (p : Int))) (hs : ns.Pairwise (· ≤ ·)) (hv : us.Perm vs) (ha : vs.Pairwise (· < ·)) : ns = vs.map fun (p : Nat) => (p : Int) := by
  obtain ⟨xs, h1, rfl⟩ := perm_unmap (fun (p : Nat) => (p : Int)) h rfl
  have h2 := h1.trans hv
  have nd : xs.Pairwise (· ≠ ·) := h2.symm.nodup (ha.imp fun h => Nat.ne_of_lt h)
  have hx : xs.Pairwise (· < ·) := by
    rw [List.pairwise_map] at hs
    exact (hs.and nd).imp fun {a b} h => by omega
  rw [perm_uniq (R := fun (a b : Nat) => a < b) (fun a b h1 h2 => by omega) h2 hx ha]
/-- lists of places at addresses: each is a lot in some sequence -/
structure Heaped (H : Hp) (as : List Addr) (us vs : List (List Nat)) : Prop where
  la : as.length = vs.length
  lu : us.length = vs.length
  at_ : ∀ (i : Nat) (a : Addr) (u v : List Nat), as[i]? = some a → us[i]? = some u → vs[i]? = some v → H a = some (.lst (vsN u)) ∧ u.Perm v
theorem Heaped.ext {H H' : Hp} {as : List Addr} {us vs : List (List Nat)} (h : Heaped H as us vs) (x : Ext H H') : Heaped H' as us vs := ⟨h.la, h.lu, fun i a u v h1 h2 h3 => ⟨x.lst (h.at_ i a u v h1 h2 h3).1, (h.at_ i a u v h1 h2 h3).2⟩⟩
def spPlanWith (K : PySem.W.Frag) : Sp := fun vs H Q _ => ∃ (l : Addr) (as : List Addr) (us ws zs : List (List Nat)), vs = [.ref l] ∧ H l = some (.lst (as.map V.ref)) ∧ Heaped H as us ws ∧ (∀ u ∈ ws, u ≠ [] ∧ u.Pairwise (· < ·) ∧ u.length < 64) ∧ ws.length ≤ 1000 ∧ ws.Perm zs ∧ zs.Pairwise hdLt ∧
  ∀ q H', Ext H H' → H q = none → Dp K H' (.ref q) (planD zs) → Q (.ref q) H'
theorem sc_plan_with : FnScope ["wards", "ward"] ["wards"] (defScope st_plan_with) := ⟨rfl, rfl, rfl, by decide +kernel, rfl, by decide +kernel, by decide +kernel⟩
theorem ok_plan_with {f : Addr} {fd : FuncData} (F : Fun K "plan_with" "plan_with" st_plan_with f fd) (B : Bl mg) : FnOk P w K mg base CX0 1 f fd ["wards"] (spPlanWith K) := by
  refine F.ok sc_plan_with (fun vs H Q E h => ?_) (fun cdv A outer s H vs Q E hr h => ?_)
  · obtain ⟨l, as, us, ws, zs, rfl, _⟩ := h
    rfl
  · obtain ⟨l, as, us, ws, zs, rfl, hl, hh, hok, hlen, hpm, hasc, k⟩ := h
    have hu64 := Nat.lt_trans (Nat.lt_succ_self _) (u65 hr)
    refine ⟨_, pss_one (ps_ret (pe_tupleOf rfl B.tuple (pe_callB (cr_sortDt hu64) (by rfl) B.sorted (by decide +kernel) (pa_cons
      (pe_lc (own := [("ward", 1)]) (g := gName 1) (by rfl) sc_plan_with.nd (pi_list (pv 0)) (blkOk_by (own := [("ward", 1)]) (N := ["wards", "ward"]) (sc := defScope st_plan_with) (by decide +kernel))
        (fun _ _ _ _ _ => pg_name (i := 1) sc_plan_with.nd rfl (Or.inl rfl)) (fun _ _ _ _ _ => pts_nil)
        (fun _ _ _ _ _ => pe_tupleOfK (K := K) rfl rfl B.tuple (pe_callB (cr_sortedK (K := K) rfl) (by rfl) B.sorted (by decide +kernel) (pa_cons (pv 1) pa_nil)))) pa_nil)))), ?_⟩
    refine ⟨_, rfl, l, rfl, ⟨_, SqL.of hl⟩, fun D hD => ?_⟩
    refine lc_list (K := K) (a := l) (xs := as.map V.ref) (fun i H2 => ∃ ys : List V, H2 D = some (.lst ys) ∧ DpAll K H2 ys ((ws.take i).map lotD) ∧ Ext H H2) ⟨[], upd_same, by rw [List.take_zero]; exact .nil, .new hD⟩ (fun i H2 _ ⟨_, _, _, x2⟩ => SqL.of (x2.lst hl)) (fun i y H2 hy ⟨ys, e2, hd, x2⟩ => ?_) (fun H2 ⟨ys, e2, hd, x2⟩ => ?_)
    · rw [List.getElem?_map, Option.map_eq_some_iff] at hy
      obtain ⟨a, ha, rfl⟩ := hy
      have hi : i < ws.length := by
        have := (List.getElem?_eq_some_iff.mp ha).1
        have := hh.la
        omega
      have hw := List.getElem?_eq_getElem hi
      have hu := List.getElem?_eq_getElem (show i < us.length by rw [hh.lu]; exact hi)
      obtain ⟨h1, h2⟩ := hh.at_ i a _ _ ha hu hw
      obtain ⟨h3, h4, h5⟩ := hok _ (List.getElem_mem hi)
      have etk : (ws.take (i + 1)).map lotD = (ws.take i).map lotD ++ [lotD ws[i]] := by
        rw [List.take_add_one, hw, List.map_append]
        rfl
      have hyl := dpAll_len hd
      rw [List.length_map, List.length_take] at hyl
      generalize ws[i] = v at *
      generalize us[i]'_ = u at *
      refine ⟨rfl, ?_⟩
      dsimp only [tYes]
      rw [if_pos rfl]
      have hlu := h2.length_eq
      refine ⟨_, rfl, a, u.map fun (p : Nat) => (p : Int), rfl, SqL.of (by rw [x2.lst h1, List.map_map]; rfl), by rw [List.length_map]; omega, fun ns p hp1 hp2 hp => ?_⟩
      have en := sorted_nats hp1 hp2 h2 h4
      subst en
      refine .inl ⟨p, _, rfl, SqL.of upd_same, fun q hq => ?_⟩
      have x3 : Ext H2 (upd (upd H2 p (.lst ((v.map fun (p : Nat) => (p : Int)).map V.int))) q (.tup ((v.map fun (p : Nat) => (p : Int)).map V.int))) := (Ext.new hp).trans (.new hq)
      have hq3 : (upd (upd H2 p (.lst ((v.map fun (p : Nat) => (p : Int)).map V.int))) q (.tup ((v.map fun (p : Nat) => (p : Int)).map V.int))) q = some (.tup (vsN v)) := by
        rw [upd_same, List.map_map]
        rfl
      have e3 := x3.lst e2
      generalize upd (upd H2 p _) q _ = H3 at x3 hq3 e3
      refine ⟨ys, e3, small1000 (by omega), ys ++ [.ref q], upd_same, ?_, (x2.trans x3).write hD⟩
      rw [etk]
      have x4 : ExtS [D] H3 (upd H3 D (.lst (ys ++ [.ref q]))) := (ExtS.refl [D] _).write (.inr ⟨by simp, _, e3⟩)
      have nl : ∀ u : List Nat, noL (lotD u) = true := fun u => noLs_map _ (fun _ => rfl) u
      exact dpAll_app (dpAll_extS x4 (noLs_map _ nl _) (dpAll_ext x3 hd)) (.cons (dp_extS x4 (nl v) (.tup (SqT.of hq3) (dpAll_lot v))) .nil)
    · rw [List.length_map, hh.la, List.take_length] at hd
      refine ⟨D, ys, ws.map lotD, rfl, SqL.of e2, hd, allAlike_lots ws, sortable_lots fun u hu => (hok u hu).1, by rw [List.length_map]; omega, depth_lots, fun zs' es p hz hpe hpw hp => ?_⟩
      have ee := sorted_lots (fun u hu => (hok u (hpm.mem_iff.mpr hu)).1) hasc hpm hpe hpw
      subst ee
      refine .inl ⟨p, _, rfl, SqL.of upd_same, fun q hq => ?_⟩
      exact k q _ (x2.trans ((Ext.new hp).trans (.new hq))) ((x2.trans (.new hp)).free hq) (dp_new hq (dpAll_ext (.new hp) hz))
end
end Wd

set_option Elab.async false
set_option linter.all false
set_option maxRecDepth 100000
set_option maxHeartbeats 4000000
/-! Ex: defs that raise an own error, their calls within a try, by position and all by name. -/
namespace Bx
open PySem PySem.Spec PyProof.Rows L2
theorem FunC.okX {P : Program} {w : World} {K : PySem.W.Frag} {mg : Str → Option Value} {base : Heap} {x qual : Str} {st : Stmt} {f : Addr} {fd : FuncData} {c : Addr} {N ps : List Str} {k : Nat} {sp : Sp} (F : FunC K x qual st f fd c) (S : FnScope N ps (defScope st)) (len : ∀ vs H Q E, sp vs H Q E → vs.length = ps.length)
    (hbody : ∀ (A : Around) (outer : List Env) (s : Shared) (H : Hp) (vs : List V) (Q : VK) (E : XK), Room k (A.deeper (envOfC qual (defScope st) s.heap.objs.size f (.ref c))) → sp vs H Q E →
      ∃ t, PSs (cxOf (L2.CX P w) P w K mg base N qual (defScope st) f (.ref c) A outer s H E) (defBody st) t ∧ t { nx := fun _ H' => Q .non H', rt := Q } (start N vs) H) : FnOk P w K mg base (L2.CX P w) (k + 1) f fd ps sp := by
  obtain ⟨oc, od, kV, doc, pm, an, ct, osl, rfl, lk, hcd⟩ := F.ex
  exact fn_of lk hcd S len fun A outer s H vs Q E hr hsp => hbody A outer s H vs Q E hr hsp
/-- an own error class over ValueError, without an __init__ of its own -/
structure Xc (K : PySem.W.Frag) (mg : Str → Option Value) (x : Str) (C : Addr) : Prop where
  g : mg x = some (.ref C)
  x : PySem.W.excIn K C [.type "ValueError", .type "Exception", .type "BaseException", .type "object"] "ValueError.__new__" = true
  k : PySem.W.keepIn K (.ref C) = true
  b : PySem.W.subIn K (.ref C) (.type "BaseException") = some true
  t : PySem.W.typeIn K (.ref C) = some (.type "type")
/-- raise C('..') -/
theorem ps_raiseC {X : Cx} {W : WX} {x m : Str} {C : Addr} {j : Nat} {p p2 pos pos' : Pos} (hc : X.calm = true) (tk : Takes X W) (q : Xc X.K X.mg x C) (hg : Gl X x) (hdb : (x == ("__debug__" : Str)) = false := by decide) :
    PS X (.Raise (some (.Call (.Name x p) [.Constant (.str m) j p2] [] pos)) none pos') (fun _ σ H => W (.ref C) none σ H) :=
  ps_raise hc tk (pmk_own PySem.F.excBase_ValueError q.x q.g q.k (raises_own q.b q.t) hg hdb)
/-- a callee that may raise -/
structure CalX (P : Program) (w : World) (K : PySem.W.Frag) (mg : Str → Option Value) (base : Heap) (k : Nat) (x : Str) (ps : List Str) (sp : Sp) : Prop where
  ex : ∃ (f : Addr) (fd : FuncData), FnOk P w K mg base (L2.CX P w) k f fd ps sp ∧ mg x = some (.ref f) ∧ PySem.W.keepIn K (.ref f) = true ∧ Binds K fd ps []
structure CalXK (P : Program) (w : World) (K : PySem.W.Frag) (mg : Str → Option Value) (base : Heap) (k : Nat) (x : Str) (ps ks : List Str) (g : {α : Type} → List α → List α → List α) (sp : Sp) : Prop where
  ex : ∃ (f : Addr) (fd : FuncData), FnOk P w K mg base (L2.CX P w) k f fd ps sp ∧ mg x = some (.ref f) ∧ PySem.W.keepIn K (.ref f) = true ∧ KBinds K fd ps ks g g
section
variable {X : Cx} {k : Nat} {x : Str} {ps ks : List Str} {sp : Sp} {p pos : Pos} {e : Expr} {es : List Expr} {t tk' : TA} {W : WX} {g : {α : Type} → List α → List α → List α} {kws : List Keyword}
theorem pe_calS (C : CalX X.prog X.w X.K X.mg X.base k x ps sp) (hr : Room k X.A) (tk : Takes X W) (hg : Gl X x) (ha : PA X (e :: es) t) (hdb : (x == ("__debug__" : Str)) = false := by decide) (he : starEach (e :: es) X.env = (false, eval e X.env) :: starEach es X.env := by rfl) (hpl : (backTo pos (starEach es X.env)).any (·.1) = false := by rfl) :
    PE X (.Call (.Name x p) (e :: es) [] pos) (tCallS sp (WE W) t) := by
  obtain ⟨f, fd, h1, h2, h3, h4⟩ := C.ex
  exact pe_callS h1 hr hg h2 h3 h4 (fun σ => passAt tk σ) ha hdb he hpl
def tCallSK (sp : Sp) (gV : List V → List V → List V) (E : L2.St → XK) (tk : TA) : TE := fun σ H Q => tk σ H fun zs H2 => sp (gV [] zs) H2 Q (E σ)
theorem pe_calSK (C : CalXK X.prog X.w X.K X.mg X.base k x ps ks g sp) (hr : Room k X.A) (tk : Takes X W) (hg : Gl X x) (hkw : PK X kws tk') (hall : (backToKw pos (keywordEach kws X.env)).all (·.1.isSome) = true := by rfl) (hks : (backToKw pos (keywordEach kws X.env)).filterMap (·.1) = ks := by rfl)
    (hdb : (x == ("__debug__" : Str)) = false := by decide)
    (hpl : ((backTo pos (starEach [] X.env)).any (·.1) || (backToKw pos (keywordEach kws X.env)).any (·.1.isNone)) = false := by rfl) : PE X (.Call (.Name x p) [] kws pos) (tCallSK sp g (WE W) tk') := by
  obtain ⟨f, fd, F, hm, hk, hb⟩ := C.ex
  refine ⟨fun pins s σ H Q I h => wpAny_Call_Name_kw (ld_glob I hg hm (PySem.W.callWith_KW0 (h₀ := X.base) I.ok.mod.kin hk hall (thn (hkw.run pos pins s σ H _ I h) fun ws s2 ⟨zs, H2, I2, rz, q2⟩ => ⟨I2.kIn, ?_⟩) hpl) hdb)⟩
  rw [hks]
  have r2 := hb.rel (vs := []) (us := []) .nil rz
  have hl : (g [] ws).length = ps.length := by rw [← r2.length]; exact F.len _ _ _ _ q2
  refine wpAny_call (codeAny_mono (F.run X.A X.stack s2 H2 ⟨[], ks.zip ws⟩ (g [] ws) (g [] zs) Q (WE W σ) hr I2.env0 (hb.to s2 [] ws I2.kIn hl) r2 q2) fun r s' hq => ?_)
  cases r with
  | error e => exact passAt tk σ pins H2 s2 e s' I2 hq
  | ok fl =>
    cases fl with
    | ret u => exact I2.after hq
    | _ => exact False.elim hq
end
end Bx

set_option Elab.async false
set_option linter.all false
set_option maxRecDepth 100000
set_option maxHeartbeats 4000000
/-! Xi: own errors with a field: made and raised, caught as x, their class asked, the field read. -/
namespace Bx
open PySem PySem.Spec PyProof.Rows L2
/-! ### the class -/
def oexB (K : PySem.W.Frag) (C : Addr) : Bool := (match K.lookup C with
  | some ⟨.type "type", _, .cls cd, sl⟩ => (match cd.mro, sl.toList with
    | .ref C' :: bm, [_, _, _, _, some (.builtin n), _] => decide (C' = C) && (decide (n = "ValueError.__new__") && (!cd.hasDel && (cd.hasDict && PySem.HandSPX.refsVE bm)))
    | _, _ => false)
  | _ => false) && (decide (PySem.W.findIn K (.ref C) "__setattr__" = some (some (.builtin "object.__setattr__"))) && (decide (PySem.W.subIn K (.ref C) (.type "BaseException") = some true) && (decide (PySem.W.typeIn K (.ref C) = some (.type "type")) && PySem.W.keepIn K (.ref C))))
theorem oexB_ok {K : PySem.W.Frag} {C : Addr} (h : oexB K C = true) : OexC K C := by
  obtain ⟨q, h⟩ := Bool.and_eq_true_iff.mp h
  obtain ⟨h2, h⟩ := Bool.and_eq_true_iff.mp h
  obtain ⟨h3, h⟩ := Bool.and_eq_true_iff.mp h
  obtain ⟨h4, h5⟩ := Bool.and_eq_true_iff.mp h
  refine ⟨?_, of_decide_eq_true h2, of_decide_eq_true h3, of_decide_eq_true h4, h5⟩
  split at q
  · rename_i dd cd sl ho
    split at q
    · rename_i C' bm k0 k1 k2 k3 n k5 hm hs
      obtain ⟨q1, q⟩ := Bool.and_eq_true_iff.mp q
      obtain ⟨q2, q⟩ := Bool.and_eq_true_iff.mp q
      obtain ⟨q3, q⟩ := Bool.and_eq_true_iff.mp q
      obtain ⟨q4, q5⟩ := Bool.and_eq_true_iff.mp q
      have e1 := of_decide_eq_true q1
      have e2 := of_decide_eq_true q2
      subst e1 e2
      obtain ⟨nm, bs, mro, ns, qn, hd, sn, sub, ab, col, del⟩ := cd
      dsimp only at hm q3 q4
      have q3 : del = false := by simpa using q3
      subst hm q3 q4
      have hsl : sl = #[k0, k1, k2, k3, some (.builtin "ValueError.__new__"), k5] := by
        obtain ⟨l⟩ := sl
        simp only at hs
        rw [hs]
      subst hsl
      exact ⟨nm, qn, ns, bs, bm, sn, sub, ab, col, dd, k0, k1, k2, k3, k5, ho, q5⟩
    · cases q
  · cases q
/-- an own error class whose __init__(self, f) keeps its argument as the field f -/
structure Yc (P : Program) (w : World) (K : PySem.W.Frag) (mg : Str → Option Value) (base : Heap) (x : Str) (C : Addr) (f : Str) : Prop where
  g : mg x = some (.ref C)
  o : OexC K C
  no : PySem.W.findIn K (.ref C) f = some none
  i : ∃ (fI : Addr) (fd : FuncData), PySem.W.findIn K (.ref C) "__init__" = some (some (.ref fI)) ∧ PySem.W.typeIn K (.ref fI) = some (.type "function") ∧ Binds K fd ["self", f] [] ∧
    FnOk P w K mg base CX0 1 fI fd ["self", f] (fun vs H Q _ => ∃ (a : Addr) (v : V), vs = [.ref a, v] ∧ H a = some (exo a C none) ∧ ∀ dx, H dx = none → dx ≠ a → Q .non (upd (upd H dx (exd dx [(f, v)])) a (exo a C (some dx))))
def ycB (K : PySem.W.Frag) (x : Str) (f : Str) : Bool := oexB K (He.ga K x) && (decide (PySem.W.findIn K (.ref (He.ga K x)) f = some none) && (decide (PySem.W.findIn K (.ref (He.ga K x)) "__init__" = some (some (.ref (He.fAd K (x, some "__init__"))))) && decide (PySem.W.typeIn K (.ref (He.fAd K (x, some "__init__"))) = some (.type "function"))))
/-- what the class D must say, so that isinstance asks its instances rightly -/
def excB (K : PySem.W.Frag) (D : Addr) : Bool := decide (PySem.W.findIn K (.ref D) "__getattribute__" = some (some (.builtin "BaseException.__getattribute__"))) && (decide (PySem.W.findIn K (.ref D) "__getattr__" = some none) && (decide (PySem.W.subIn K (.ref D) (.type "BaseException") = some true) && (PySem.W.hasDictIn K D && (decide (PySem.W.findIn K (.ref D) "__class__" = some (some (.builtin "object.__class__"))) &&
  (decide (PySem.W.specialIn K (.builtin "object.__class__") "__get__" = some (some (.builtin "getset_descriptor.__get__"))) && (decide (PySem.W.takesIn K (.builtin "object.__class__") = some true) && decide (PySem.W.mroIn K D (.type "object") = some true)))))))
theorem excB_ok {K : PySem.W.Frag} {D : Addr} (h : excB K D = true) : ExcC K D := by
  obtain ⟨h1, h⟩ := Bool.and_eq_true_iff.mp h
  obtain ⟨h2, h⟩ := Bool.and_eq_true_iff.mp h
  obtain ⟨h3, h⟩ := Bool.and_eq_true_iff.mp h
  obtain ⟨h4, h⟩ := Bool.and_eq_true_iff.mp h
  obtain ⟨h5, h⟩ := Bool.and_eq_true_iff.mp h
  obtain ⟨h6, h⟩ := Bool.and_eq_true_iff.mp h
  obtain ⟨h7, h8⟩ := Bool.and_eq_true_iff.mp h
  exact ⟨of_decide_eq_true h1, of_decide_eq_true h2, of_decide_eq_true h3, h4, of_decide_eq_true h5, of_decide_eq_true h6, of_decide_eq_true h7, of_decide_eq_true h8⟩
/-- isinstance(e, c), e the exception that the suite holds, with or without its dict -/
def rIsX (K : PySem.W.Frag) (a : Addr) (cls : Value) (d : Option Addr) : List V → Hp → VK → Prop := fun xs H Q => ∃ (D : Addr) (c : V) (cv : Value) (b : Bool), cls = .ref D ∧ ExcC K D ∧ xs = [.ref a, c] ∧ (∀ u, RelV c u → u = cv) ∧ PySem.W.kitOne K (.ref D) cv = some b ∧ (∀ dd, d = some dd → ∃ fs, H dd = some (.xd fs)) ∧ Q (.bl b) H
theorem call_isX {X : Cx} {a : Addr} {cls : Value} {d : Option Addr} {oe : Obj} {pn : List (Addr × Obj)} (hz : Zc cls d oe) (hf : ∃ vs, oe.data = .fields vs) : CallR (X.suite a ((a, oe) :: pn)) (.builtin "isinstance") (rIsX X.K a cls d) := by
  intro pins s σ H xs us Q I r h
  obtain ⟨D, c, cv, b, rfl, C, rfl, hcv, e, hdd, q⟩ := h
  cases r with
  | cons rx rr =>
    cases rr with
    | cons rt rr =>
      cases rr
      cases rx
      have ec := hcv _ rt
      subst ec
      obtain ⟨hget, _⟩ := I.pin (a, oe) (List.mem_append.mpr (.inl List.mem_cons_self))
      obtain ⟨vs, hv⟩ := hf
      have J : ∃ od, PySem.W.InstAt s.heap a oe D od := by
        obtain ⟨oc, od, oda, osl⟩ := oe
        obtain ⟨h1, h2⟩ := hz
        dsimp only at h1 h2 hv
        subst h1 h2 hv
        cases od with
        | none => exact ⟨none, hget, rfl, rfl, trivial⟩
        | some dd =>
          obtain ⟨fs, hfs⟩ := hdd dd rfl
          have hx : ObjOk X.prog X.w H s.heap dd (.xd fs) := I.hok dd _ hfs
          obtain ⟨mA, ⟨o, _, _, ho, _⟩, _⟩ := hx
          exact ⟨some o, hget, rfl, rfl, ho⟩
      obtain ⟨od, J⟩ := J
      have hcl : (PySem.W.clsIn X.K D).isSome = true := by
        obtain ⟨cd, hc, _⟩ := PySem.W.any_some C.hd
        rw [hc]
        rfl
      exact PySem.W.kia_one (PySem.W.kitx_exc hcl C.hg C.hk C.hs C.ha C.hn C.ht C.hm) I.kIn J e (fun z => nomatch z) fun tk => ⟨.bl b, H, I.kept (t' := tk) fun _ _ z => z, rfl, q⟩
theorem mt_lcountK {X : Cx} {K : PySem.W.Frag} (h : X.K = K) : MtR X "list.count" (rCntI K) := h ▸ mt_lcount
end Bx

set_option Elab.async false
set_option linter.all false
set_option maxRecDepth 100000
set_option maxHeartbeats 4000000
/-! Tn: try with several handlers, each with a name for what it caught or without. -/
namespace Bx
open PySem PySem.Spec PyProof.Rows L2
/-- a suite's ends where the name in slot i is gone behind it -/
def offI (i : Nat) (D : Ends) : Ends := { nx := fun τ G => D.nx (τ.set i none) G, rt := D.rt, bk := fun τ G => D.bk (τ.set i none) G, ct := fun τ G => D.ct (τ.set i none) G }
/-- a handler: its class, the slot of its name, its suite's reading -/
abbrev HdR := Value × Option Nat × (Addr → Value → Option Addr → TS)
def wTn (K : PySem.W.Frag) (Wo : WX) (D : Ends) : List HdR → WX
  | [] => Wo
  | (c, none, t) :: r => fun k m τ G => ∃ q, PySem.W.exmOne K k c = some q ∧ (q = true → ∀ a, G a = none → t a k m D τ G) ∧ (q = false → wTn K Wo D r k m τ G)
  | (c, some i, t) :: r => fun k m τ G => ∃ q, PySem.W.exmOne K k c = some q ∧ (q = true → ∀ a, G a = none → t a k m (offI i D) (τ.set i (some (.ref a))) G) ∧ (q = false → wTn K Wo D r k m τ G)
inductive HdsN (X : Cx) : List ExceptHandler → List HdR → Prop
  | nil : HdsN X [] []
  | bare {x : Str} {c : Value} {t : Addr → Value → Option Addr → TS} {u : Stmt} {us : List Stmt} {p1 p2 : Pos} {hs : List ExceptHandler} {l : List HdR} (hc : Names X x c)
      (ht : ∀ (a : Addr) (o : Obj) (k : Value) (m : Option Addr) (pn : List (Addr × Obj)), Zc k m o → (∃ vs, o.data = .fields vs) → PSs (X.suite a ((a, o) :: pn)) (u :: us) (t a k m)) (r : HdsN X hs l) : HdsN X (.ExceptHandler (some (.Name x p1)) none (u :: us) p2 :: hs) ((c, none, t) :: l)
  | named {x n : Str} {c : Value} {i : Nat} {t : Addr → Value → Option Addr → TS} {u : Stmt} {us : List Stmt} {p1 p2 : Pos} {hs : List ExceptHandler} {l : List HdR} (hi : X.N[i]? = some n) (hn : X.env.kindOf n = some .local) (hc : Names X x c)
      (ht : ∀ (a : Addr) (o : Obj) (k : Value) (m : Option Addr) (pn : List (Addr × Obj)), Zc k m o → (∃ vs, o.data = .fields vs) → PSs (X.suite a ((a, o) :: pn)) (u :: us) (t a k m)) (r : HdsN X hs l) : HdsN X (.ExceptHandler (some (.Name x p1)) (some n) (u :: us) p2 :: hs) ((c, some i, t) :: l)
section
variable {X : Cx} {body : List Stmt} {h1 : ExceptHandler} {hs : List ExceptHandler} {l : List HdR} {pos : Pos} {tb : WX → TS} {Wo : WX}
theorem ps_tryN (es : X.stack = X.env :: X.outer) (ef : X.env.frame = some X.env.locals) (nd : X.N.Nodup) (tk : Takes X Wo)
    (rd : ∀ (V : WX) (pn : List (Addr × Obj)) (xe : Value → Shared → Prop), Takes (X.tr pn xe) V → PassesOwn (model X.prog X.w) X.A X.env xe → PSs (X.tr pn xe) body (tb V))
    (ok : HdsN X (h1 :: hs) l) : PS X (.Try body (h1 :: hs) [] [] pos) (fun D τ G => tb (wTn X.K Wo D l) D τ G) := by
  refine ⟨fun pins s τ G D I w0 => ?_⟩
  have iok := I.ok
  have efs : X.A.frames = some (X.env :: X.outer) := iok.frames.trans (by rw [es])
  refine wpAny_Try_except (wpAny_mono ((rd (wTn X.K Wo D l) (X.pn ++ pins)
    (fun e z1 => wpAny (model X.prog X.w) X.A (noteFrame e X.env) (fun _ z2 => wpAny (model X.prog X.w) X.A (setFlight e none)
      (fun _ z3 => wpAny (model X.prog X.w) X.A (handleBy e X.env (h1 :: hs)) (SP X pins D) X.xe z3) X.xe z2) X.xe z1)
    (fun u z xx => ?_) PassesOwn.looking).run [] s τ G D (I.toTry _) w0) (fun fl z hz => ?_) (fun _ _ q => q))
  · obtain ⟨a, B, z0, pins2, τ2, G2, k, m, rfl, J2, nb, up, sk, na, eo, ag, wish⟩ := xx
    have J : Inv X pins τ2 G2 z0 := J2.ofTry iok
    have sk2 : Sky B (X.env :: X.outer) a (Zc k m) X.env.locals z.heap := es ▸ sk
    refine Sky.land Zc.steady efs ef sk2 fun g3 f3 u3 => ?_
    have J3 : Inv X pins τ2 G2 { z with heap := g3 } := J.landed nb f3.1 (up.trans u3) eo ag
    obtain ⟨o3, vs3, e3, c3, d3⟩ := f3.there
    have nfr : a ∉ frs (X.env :: X.outer) := fun hm => by
      obtain ⟨_, o', e', hnf⟩ := f3.2.2.1.mem hm
      obtain rfl : o3 = o' := Option.some.inj (e3.symm.trans e')
      exact hnf _ d3
    have nL : a ≠ X.env.locals := fun q => nfr (List.mem_filterMap.mpr ⟨X.env, List.mem_cons_self, ef.trans (by rw [q])⟩)
    have nF : a ∉ X.fs := fun hm => (List.mem_filterMap.mp hm).elim fun e he => nfr (List.mem_filterMap.mpr ⟨e, List.mem_cons_of_mem _ he.1, he.2⟩)
    have T3 := J3.suite e3 d3 na nL nF
    have lk : PySem.W.Looks (model X.prog X.w) g3 (typeOf (.ref a)) k := fun A Q E s0 keep q => wpAny_typeOf_ref (keep _ _ e3) (c3.1 ▸ q)
    have name : ∀ {x : Str} {c : Value} {p1 : Pos} {Q E : Value → Shared → Prop}, Names X x c → Q c { z with heap := g3 } → wpAny (model X.prog X.w) (X.A.mark (some (.ref a))) (eval (.Name x p1) X.env) Q E { z with heap := g3 } := fun {x c p1 Q E} hc q => by
      obtain ⟨y1, y2, y3 | ⟨y3, y4, y5⟩⟩ := hc
      · exact ld_glob (X := X.suite a ((a, o3) :: (X.pn ++ pins))) T3 y1 y3 q y2
      · exact ld_blt (X := X.suite a ((a, o3) :: (X.pn ++ pins))) T3 y1 y3 y4 q y5 y2
    clear w0 I
    suffices all : ∀ {hs' : List ExceptHandler} {l' : List HdR}, HdsN X hs' l' → wTn X.K Wo D l' k m τ2 G2 → wpAny (model X.prog X.w) X.A (handleBy (.ref a) X.env hs') (SP X pins D) X.xe { z with heap := g3 } from all ok wish
    intro hs' l' ok'
    induction ok' with
    | nil =>
      intro y
      obtain ⟨_, _, _, o, vs, T, oT, t', y1, _, y3, y4, _⟩ := id f3
      refine wpAny_handleBy_nil ?_
      unfold PySem.passOn
      refine wpAny_bind (wpAny_field y1 y3 y4 ?_)
      rw [if_neg (by simp : ¬ ((Value.ref T == Value.none) = true))]
      have out : wpAny (model X.prog X.w) X.A (setFlight (.ref a) X.env.frame) (fun _ z4 => wpAny (model X.prog X.w) X.A (throw (.ref a) : Sem Flow) (SP X pins D) X.xe z4) X.xe { z with heap := g3 } := ef ▸
        HandSPX.setFlight_upZ f3 fun g4 f4 u4 => wpAny_throw (tk _ _ ⟨a, B, z0, pins, τ2, G2, k, m, rfl, J, nb, (up.trans u3).trans u4, .inr (.inr (es ▸ f4)), na, eo, ag, y⟩)
      first
        | exact wpAny_bind (wpAny_pure (wpAny_bind out))
        | exact wpAny_bind out
    | @bare x c t u us p1 p2 hs2 l2 hc ht r ih =>
      rintro ⟨q, q1, q2, q3⟩
      refine wpAny_handleBy_cons (codeAny_handlers_test (name hc ((PySem.W.exm_one (M := model X.prog X.w) J3.kIn lk q1).here ?_))) (fun q => nomatch q)
      cases q with
      | false => exact ih (q3 rfl)
      | true =>
        refine codeAny_handlers_suite (HandSPX.lands_againZ f3 fun g4 f4 u4 => ?_)
        obtain ⟨o4, vs4, e4, c4, d4⟩ := f4.there
        have T4 := (J.landed nb f4.1 ((up.trans u3).trans u4) eo ag : Inv X pins τ2 G2 { z with heap := g4 }).suite e4 d4 na nL nF
        refine wpAny_mono ((ht a o4 k m (X.pn ++ pins) c4 ⟨_, d4⟩).run [] _ _ G2 _ T4 (q2 rfl a na)) (fun fl z6 h6 => ?_) (fun _ _ z => False.elim z)
        cases fl with
        | next => exact h6.elim fun τ6 h6 => h6.elim fun G6 h6 => ⟨τ6, G6, h6.1.unsuite iok, h6.2⟩
        | brk => exact h6.elim fun τ6 h6 => h6.elim fun G6 h6 => ⟨τ6, G6, h6.1.unsuite iok, h6.2⟩
        | cont => exact h6.elim fun τ6 h6 => h6.elim fun G6 h6 => ⟨τ6, G6, h6.1.unsuite iok, h6.2⟩
        | ret v => exact h6.elim fun v6 h6 => h6.elim fun τ6 h6 => h6.elim fun G6 h6 => ⟨v6, τ6, G6, h6.1.unsuite iok, h6.2⟩
    | @named x n c i t u us p1 p2 hs2 l2 hi hn hc ht r ih =>
      rintro ⟨q, q1, q2, q3⟩
      refine wpAny_handleBy_cons (codeAny_handlers_test (name hc ((PySem.W.exm_one (M := model X.prog X.w) J3.kIn lk q1).here ?_))) (fun q => nomatch q)
      cases q with
      | false => exact ih (q3 rfl)
      | true =>
        refine codeAny_handlers_suite_as (HandSPX.lands_againZ f3 fun g4 f4 u4 => ?_)
        obtain ⟨o4, vs4, e4, c4, d4⟩ := f4.there
        have T4 := (J.landed nb f4.1 ((up.trans u3).trans u4) eo ag : Inv X pins τ2 G2 { z with heap := g4 }).suite e4 d4 na nL nF
        refine store_ok (X := X.suite a ((a, o4) :: (X.pn ++ pins))) (v := .ref a) T4 nd hi (.inl hn) rfl (fun z5 T5 => ?_) (.inr hn)
        refine wpAny_mono ((ht a o4 k m (X.pn ++ pins) c4 ⟨_, d4⟩).run [] z5 _ G2 _ T5 (q2 rfl a na)) (fun fl z6 h6 => ?_) (fun _ _ z => False.elim z)
        have gone : ∀ {τ6 : L2.St} {G6 : Hp} {Q : Shared → Prop}, Inv (X.suite a ((a, o4) :: (X.pn ++ pins))) [] τ6 G6 z6 → (∀ z7, Inv X pins (τ6.set i none) G6 z7 → Q z7) → wpAny (model X.prog X.w) X.A (do bindName X.env n .none; unbindBehindTheSuite X.env n p2) (fun _ z7 => Q z7) X.xe z6 :=
          fun T6 hq => gone_ok (T6.unsuite iok) nd hi hn hq
        cases fl with
        | next => exact h6.elim fun τ6 h6 => h6.elim fun G6 h6 => gone h6.1 fun z7 J7 => ⟨_, _, J7, h6.2⟩
        | brk => exact h6.elim fun τ6 h6 => h6.elim fun G6 h6 => gone h6.1 fun z7 J7 => ⟨_, _, J7, h6.2⟩
        | cont => exact h6.elim fun τ6 h6 => h6.elim fun G6 h6 => gone h6.1 fun z7 J7 => ⟨_, _, J7, h6.2⟩
        | ret v => exact h6.elim fun v6 h6 => h6.elim fun τ6 h6 => h6.elim fun G6 h6 => gone h6.1 fun z7 J7 => ⟨_, _, _, J7, h6.2⟩
  · cases fl with
    | next => exact hz.elim fun τ' h => h.elim fun G' h => wpAny_execs_nil ⟨τ', G', h.1.ofTry iok, h.2⟩
    | brk => exact hz.elim fun τ' h => h.elim fun G' h => ⟨τ', G', h.1.ofTry iok, h.2⟩
    | cont => exact hz.elim fun τ' h => h.elim fun G' h => ⟨τ', G', h.1.ofTry iok, h.2⟩
    | ret v => exact hz.elim fun v' h => h.elim fun τ' h => h.elim fun G' h => ⟨v', τ', G', h.1.ofTry iok, h.2⟩
end
end Bx

set_option Elab.async false
set_option linter.all false
set_option maxRecDepth 100000
set_option maxHeartbeats 4000000
/-! Rv: four, five, six arguments by name, from behind. -/
namespace Bx
open PySem PySem.Spec PyProof.Rows L2
def rev4 {α : Type} : List α → List α → List α
  | [], [d, c, b, a] => [a, b, c, d]
  | _, _ => []
theorem rev4_rel {vs zs : List V} {us ws : List Value} (h1 : Vals vs us) (h2 : Vals zs ws) : Vals (rev4 vs zs) (rev4 us ws) := by
  cases h1 with
  | cons _ _ => exact .nil
  | nil =>
    cases h2 with
    | nil => exact .nil
    | cons x0 g0 =>
      cases g0 with
      | nil => exact .nil
      | cons x1 g1 =>
        cases g1 with
        | nil => exact .nil
        | cons x2 g2 =>
          cases g2 with
          | nil => exact .nil
          | cons x3 g3 =>
            cases g3 with
            | nil => exact .cons x3 (.cons x2 (.cons x1 (.cons x0 (.nil))))
            | cons _ _ => exact .nil
def rev5 {α : Type} : List α → List α → List α
  | [], [e, d, c, b, a] => [a, b, c, d, e]
  | _, _ => []
theorem rev5_rel {vs zs : List V} {us ws : List Value} (h1 : Vals vs us) (h2 : Vals zs ws) : Vals (rev5 vs zs) (rev5 us ws) := by
  cases h1 with
  | cons _ _ => exact .nil
  | nil =>
    cases h2 with
    | nil => exact .nil
    | cons x0 g0 =>
      cases g0 with
      | nil => exact .nil
      | cons x1 g1 =>
        cases g1 with
        | nil => exact .nil
        | cons x2 g2 =>
          cases g2 with
          | nil => exact .nil
          | cons x3 g3 =>
            cases g3 with
            | nil => exact .nil
            | cons x4 g4 =>
              cases g4 with
              | nil => exact .cons x4 (.cons x3 (.cons x2 (.cons x1 (.cons x0 (.nil)))))
              | cons _ _ => exact .nil
def rev6 {α : Type} : List α → List α → List α
  | [], [f, e, d, c, b, a] => [a, b, c, d, e, f]
  | _, _ => []
theorem rev6_rel {vs zs : List V} {us ws : List Value} (h1 : Vals vs us) (h2 : Vals zs ws) : Vals (rev6 vs zs) (rev6 us ws) := by
  cases h1 with
  | cons _ _ => exact .nil
  | nil =>
    cases h2 with
    | nil => exact .nil
    | cons x0 g0 =>
      cases g0 with
      | nil => exact .nil
      | cons x1 g1 =>
        cases g1 with
        | nil => exact .nil
        | cons x2 g2 =>
          cases g2 with
          | nil => exact .nil
          | cons x3 g3 =>
            cases g3 with
            | nil => exact .nil
            | cons x4 g4 =>
              cases g4 with
              | nil => exact .nil
              | cons x5 g5 =>
                cases g5 with
                | nil => exact .cons x5 (.cons x4 (.cons x3 (.cons x2 (.cons x1 (.cons x0 (.nil))))))
                | cons _ _ => exact .nil
end Bx

set_option Elab.async false
set_option linter.all false
set_option maxRecDepth 100000
set_option maxHeartbeats 4000000
/-! Ib: x is True, x is not True, of bools. -/
namespace Bx
open PySem PySem.Spec PyProof.Rows L2
variable {X : Cx}
def rIsB (neg : Bool) : R2 := fun x y H Q => ∃ a b : Bool, x = .bl a ∧ y = .bl b ∧ Q (.bl (neg ^^ decide (a = b))) H
theorem isB {a b : Bool} {prog : Program} {w : World} {A : Around} {E : Value → Shared → Prop} {s : Shared} {Q : Bool → Shared → Prop} (h : Q (decide (a = b)) s) : wpAny (model prog w) A (isSame (.bool a) (.bool b)) Q E s := by
  have e : isSame (.bool a) (.bool b) = pure (decide (a = b)) := by cases a <;> cases b <;> rfl
  rw [e]
  exact wpAny_pure h
theorem op_isB : OpR X (compareOp .Is) (rIsB false) := by
  intro pins s σ H x y v u Q I rx ry h
  obtain ⟨a, b, rfl, rfl, q⟩ := h
  cases rx
  cases ry
  show wpAny _ _ ((isSame (.bool a) (.bool b)) >>= fun z => pure (Value.bool z)) _ _ s
  exact wpAny_bind (isB (wpAny_pure (fin_bl I q (by simp))))
theorem op_notB : OpR X (compareOp .IsNot) (rIsB true) := by
  intro pins s σ H x y v u Q I rx ry h
  obtain ⟨a, b, rfl, rfl, q⟩ := h
  cases rx
  cases ry
  show wpAny _ _ ((isSame (.bool a) (.bool b)) >>= fun z => pure (Value.bool (!z))) _ _ s
  exact wpAny_bind (isB (wpAny_pure (fin_bl I q (by simp))))
/-- a method of a value, the fragment named -/
theorem pe_bmK {X : Cx} {K : PySem.W.Frag} {T : String} {o e : Expr} {es : List Expr} {to : TE} {t : TA} {name : Str} {id : String} {apos cpos : Pos} {r : V → List V → Hp → VK → Prop} (h : X.K = K) (pa : PlainAttrs T) (slot : Slot T name id) (hty : typeOf (.builtin id) = pure (.type "method_descriptor")) (hm : MtR X id r) (ho : PE X o to) (ha : PA X (e :: es) t)
    (hbase : attributeBase o name X.env (eval o X.env) = eval o X.env := by rfl)
    (hfew : ((backTo cpos (starEach (e :: es) X.env)).all (fun x => !x.1) && (backToKw cpos (keywordEach [] X.env)).all (fun x => x.1.isSome)
      && decide ((e :: es).length + ([] : List Keyword).length + (if ([] : List Keyword).isEmpty then 0 else 1) < 30)) = true := by rfl)
    (hline : (apos.endLine == cpos.line) = true := by rfl) (hs : starEach (e :: es) X.env = (false, eval e X.env) :: starEach es X.env := by rfl) (hplain : (backTo cpos (starEach es X.env)).any (·.1) = false := by rfl) :
    PE X (.Call (.Attribute o name apos) (e :: es) [] cpos) (tBM K T r to t) := by
  subst h
  exact pe_bm pa slot hty hm ho ha hbase hfew hline hs hplain
theorem call_lenKB {X : Cx} {K : PySem.W.Frag} (h : X.K = K) : CallR X (.builtin "len") (fun xs H Q => ∃ x n, xs = [x] ∧ LenV K x H n ∧ Q (.int ((n : Nat) : Int)) H) := h ▸ call_len
end Bx

set_option Elab.async false
set_option linter.all false
set_option maxRecDepth 100000
set_option maxHeartbeats 4000000
/-! Ia: x is True, whatever x is. -/
namespace Bx
open PySem PySem.Spec PyProof.Rows L2
variable {X : Cx}
def rIsBA : R2 := fun x y H Q => ∃ b : Bool, y = .bl b ∧ Q (.bl (decide (x = .bl b))) H
theorem op_isBA : OpR X (compareOp .Is) rIsBA := by
  intro pins s σ H x y v u Q I rx ry h
  obtain ⟨b, rfl, q⟩ := h
  cases ry
  show wpAny _ _ ((isSame v (.bool b)) >>= fun z => pure (Value.bool z)) _ _ s
  have fin : ∀ c : Bool, isSame v (.bool b) = pure c → c = decide (x = V.bl b) → wpAny (model X.prog X.w) X.A ((isSame v (.bool b)) >>= fun z => pure (Value.bool z)) (fun v s' => ∃ x H', Inv X pins σ H' s' ∧ RelV x v ∧ Q x H') X.xe s := fun c e1 e2 => by
    rw [e1]
    exact wpAny_bind (wpAny_pure (wpAny_pure (fin_bl I q e2.symm)))
  cases x with
  | non => cases rx; exact fin false rfl (decide_eq_false fun z => nomatch z).symm
  | bl a => cases rx; exact fin (decide (a = b)) (by cases a <;> cases b <;> rfl) (by cases a <;> cases b <;> rfl)
  | int i => obtain ⟨t, rfl⟩ := rx; exact fin false rfl (decide_eq_false fun z => nomatch z).symm
  | str i => obtain ⟨t, rfl⟩ := rx; exact fin false rfl (decide_eq_false fun z => nomatch z).symm
  | byt i => obtain ⟨t, rfl⟩ := rx; exact fin false rfl (decide_eq_false fun z => nomatch z).symm
  | flt i => obtain ⟨t, rfl⟩ := rx; exact fin false rfl (decide_eq_false fun z => nomatch z).symm
  | ref i => cases rx; exact fin false rfl (decide_eq_false fun z => nomatch z).symm
  | ty i => cases rx; exact fin false rfl (decide_eq_false fun z => nomatch z).symm
end Bx

set_option Elab.async false
set_option linter.all false
set_option maxRecDepth 100000
set_option maxHeartbeats 4000000
/-! Ids: index of a tuple's data; len(set(t)) of a tuple of unlike ints; a dict comprehension over a range. -/
namespace Bx
open PySem PySem.Spec PyProof.Rows L2
section
variable {X : Cx}
/-- t.index(x): the first place of an equal one -/
def rIndexT (K : PySem.W.Frag) : V → List V → Hp → VK → Prop := fun x xs H Q => ∃ (a : Addr) (y : V) (d : PyData) (ds : List PyData) (j : Nat) (z : PyData), x = V.ref a ∧ xs = [y] ∧ Dp K H (V.ref a) (.tuple ds) ∧ Dp K H y d ∧
  SeqAt.shaped (.tuple ds) = true ∧ SeqAt.shaped d = true ∧ ds[j]? = some z ∧ PyData.eqv z d = true ∧ (∀ (m : Nat) (z' : PyData), m < j → ds[m]? = some z' → PyData.eqv z' d = false) ∧ Q (.int (j : Nat)) H
theorem mt_indexT (hu : X.A.units + 65 < cLine) : MtR X "tuple.index" (rIndexT X.K) := by
  intro pins s σ H x xs v us Q I rx rxs h
  obtain ⟨a, y, d, ds, j, z, rfl, rfl, hl, hy, sl, sd, hz, hzj, hno, q⟩ := h
  cases rx
  cases rxs with
  | cons ry rt =>
    rename_i uy ut
    cases rt
    obtain ⟨bs, r1⟩ := Dp.reads I d y uy hy ry
    have hxs : PyData.canLayAll0 ds = true := SeqAt.canLay_of_shaped sl
    have hroom : X.A.units + 1 + min (PyData.depthAll ds) d.depth < cLine := room_in_shaped sd hu
    cases hl with
    | tup hs ha =>
      obtain ⟨its, rv, pl, hlen⟩ := I.tuple hs
      obtain ⟨⟨cls, dd, data, sls⟩, ho, hc, n, hdt⟩ := pl
      simp only at hc hdt
      subst hc
      subst hdt
      obtain ⟨as, h4⟩ := Dp.readsAll I ds _ its ha rv
      have hn : its.length = ds.length := SeqAt.ReadsAll.length ds its as h4
      have hmap : its.map (SeqAt.readOf s.heap) = ds := SeqAt.readsAll_map ds its as hxs h4
      obtain ⟨hjd, _⟩ := List.getElem?_eq_some_iff.mp hz
      have hjl : j < its.length := by omega
      have hj : j < its.toArray.size := by simpa using hjl
      have at_ : ∀ (m : Nat) (hm : m < its.toArray.size) (z' : PyData), ds[m]? = some z' → SeqAt.readOf s.heap its.toArray[m] = z' := by
        intro m hm z' hz'
        have hml : m < its.length := by simpa using hm
        rw [← hmap, List.getElem?_map, List.getElem?_eq_getElem hml] at hz'
        have e1 : SeqAt.readOf s.heap its[m] = z' := Option.some.inj (show some (SeqAt.readOf s.heap its[m]) = some z' from hz')
        simpa using e1
      refine call_meets PySem.F.slot_tuple_index ⟨_, ho, rfl⟩ PySem.F.entry_tuple_index (PySem.F.args_tuple_index_2 _ _)
        (TI.tuple_indexAt a its.toArray n dd sls uy (fun u => PyData.eqv (SeqAt.readOf s.heap u) d) j hj ?_ ?_) ⟨ho, SeqAt.items_eqAt (vs := its.toArray) (show ReadsAll s.heap its.toArray.toList ds as from h4) r1 hxs (SeqAt.canLay_of_shaped sd) hroom, ?_⟩
      · show PyData.eqv (SeqAt.readOf s.heap its.toArray[j]) d = true
        rw [at_ j hj z hz]
        exact hzj
      · intro m hm hmj
        have hmd : m < ds.length := by omega
        have hz' : ds[m]? = some ds[m] := List.getElem?_eq_getElem hmd
        show PyData.eqv (SeqAt.readOf s.heap its.toArray[m]) d = false
        rw [at_ m hm _ hz']
        exact hno m _ hmj hz'
      · exact ⟨.int (j : Nat), H, I.tok _, ⟨_, rfl⟩, q⟩
theorem mt_indexTK {K : PySem.W.Frag} (h : X.K = K) (hu : X.A.units + 65 < cLine) : MtR X "tuple.index" (rIndexT K) := h ▸ mt_indexT hu
/-- len(set(t)), the ints of t unlike -/
def tLenSetT (K : PySem.W.Frag) (ta : TE) : TE := fun σ H Q => ta σ H fun x H1 => ∃ (l : Addr) (ns : List Int), x = V.ref l ∧ SqT K H1 l (ns.map V.int) ∧ ns.length ≤ 1000 ∧ ns.Nodup ∧ Q (.int ns.length) H1
theorem pe_lenSetT {a : Expr} {ta : TE} {p p2 q pos : Pos} (hc : X.calm = true) (hg : Gl X "len") (hm : X.mg "len" = none) (hg2 : Gl X "set") (hm2 : X.mg "set" = none) (ha : PE X a ta)
    (na : starEach [a] X.env = (false, eval a X.env) :: starEach [] X.env := by rfl) : PE X (.Call (.Name "len" p) [.Call (.Name "set" p2) [a] [] q] [] pos) (tLenSetT X.K ta) := by
  refine ⟨fun pins s σ H Q I h => ?_⟩
  refine Call_ (ld_blt I hg hm PySem.boot_len ?_)
  refine PyProof.Rows.callWith_builtin1 (PyProof.Rows.args_cons ?_ rfl) rfl rfl
  refine Call_ (ld_blt I hg2 hm2 PyProof.Rows.boot_set ?_)
  refine PyProof.Rows.callWith_type1 (PyProof.Rows.args_cons (thn (ha.run pins s σ H _ I h) fun v s1 ⟨x, H1, I1, r1, q1⟩ => PyProof.Rows.args_nil ?_) na) na rfl
  obtain ⟨l, ns, rfl, hq, h1, hnd, q1⟩ := q1
  cases r1
  obtain ⟨its, r, pt, hz⟩ := I1.tuple hq
  have hi : IntsAre its.toArray.toList ns := ints_of_vals r
  refine call_set_tupI ns (I1.ok.hd hc) (show s1.heap.IsTuple l its.toArray from pt) hi (by unfold scanBound; omega) fun h' tk c R1 hcn k => ?_
  refine PyProof.Rows.args_nil ?_
  obtain ⟨o, es, ep, t, ho, hex, hdt, g, nd, hmm, hb, hf, hn, hr, hl2⟩ := R1
  have I2 : Inv X pins σ H1 { s1 with heap := h', toks := tk } := I1.kept fun b o e => k b o e
  have hsz : es.size = ns.length := by
    have hp := (List.perm_ext_iff_of_nodup nd hnd).mpr fun j => by rw [← hmm j, decide_eq_true_eq]
    have := hp.length_eq
    rw [List.length_map, Array.length_toList] at this
    exact this
  refine call_len_set ho hex hdt hf (by omega) ⟨.int ns.length, H1, I2.tok _, ⟨_, by rw [hsz]⟩, q1⟩
end
theorem dc_range {lo : Int} {n : Nat} {g : TG} {tt : TT} {tk tv : TE} {vs : List Nat} {σ : L2.St} {H1 : Hp} {D : Addr} {Qd : Hp → Prop} (Pv : Nat → Hp → Prop) (h0 : Pv 0 (upd H1 D (.dK [])))
    (hs : ∀ i H, i < n → Pv i H → g (.int (lo + i)) (wipe σ vs) H fun σ2 H2 => wipe σ2 vs = wipe σ vs ∧ tt σ2 H2 fun b H3 =>
      if b = true then tk σ2 H3 fun y H4 => tv σ2 H4 fun z H5 => ∃ kvs k, y = kV k ∧ H5 D = some (.dK kvs) ∧ kvs.length < sizeLine ∧ Pv (i + 1) (upd H5 D (.dK (putK kvs k z))) else Pv (i + 1) H3) (hd : ∀ H, Pv n H → Qd H) :
    ∃ W : Nat → Nat → Hp → Prop, (∃ m, W 0 m (upd H1 D (.dK []))) ∧ ∀ i m H, W i m H →
      ((Itr lo n).stop i H ∧ Qd H) ∨ ((Itr lo n).go i H ∧ ∃ Nx : Hp → Prop, (∀ H', Nx H' → ∃ m', m' < m ∧ W (i + 1) m' H') ∧ ∀ x H', (Itr lo n).yld i H x H' → g x (wipe σ vs) H' fun σ2 H2 => wipe σ2 vs = wipe σ vs ∧ tt σ2 H2 fun b H3 =>
        if b = true then tk σ2 H3 fun y H4 => tv σ2 H4 fun z H5 => ∃ kvs k, y = kV k ∧ H5 D = some (.dK kvs) ∧ kvs.length < sizeLine ∧ Nx (upd H5 D (.dK (putK kvs k z))) else Nx H3) := by
  refine ⟨fun i m H => m = n - i ∧ i ≤ n ∧ Pv i H, ⟨n, by simp, Nat.zero_le _, h0⟩, ?_⟩
  rintro i m H ⟨rfl, hi, p⟩
  by_cases hlt : i < n
  · refine .inr ⟨hlt, Pv (i + 1), fun H' p' => ⟨n - (i + 1), by omega, rfl, hlt, p'⟩, fun x H' y => ?_⟩
    obtain ⟨e, y⟩ := y
    subst e y
    exact hs i _ hlt p
  · have e : i = n := by omega
    subst e
    exact .inl ⟨Nat.le_refl _, hd H p⟩
end Bx

set_option Elab.async false
set_option linter.all false
set_option maxRecDepth 100000
set_option maxHeartbeats 4000000
/-! Xt: tuples known exactly from where they are made; a method of such a tuple. -/
namespace Bx
open PySem PySem.Spec PyProof.Rows L2
/-- a tuple whose object is known: no dict of its own -/
structure XTup (H : Hp) (p : Addr) (xs : List V) : Prop where
  ex : ∃ o : Obj, H p = some (.frz o (.tup xs)) ∧ o.cls = .type "tuple" ∧ o.dict = none
theorem XTup.sqT {K : PySem.W.Frag} {H : Hp} {p : Addr} {xs : List V} (h : XTup H p xs) : SqT K H p xs := by
  obtain ⟨o, e, _⟩ := h.ex
  exact .inl (.inr ⟨o, e⟩)
theorem XTup.ext {H H' : Hp} {p : Addr} {xs : List V} (h : XTup H p xs) (x : Ext H H') : XTup H' p xs := by
  obtain ⟨o, e, e2, e3⟩ := h.ex
  exact ⟨o, x.keep _ _ e (fun z => z), e2, e3⟩
theorem XTup.new {H : Hp} {p : Addr} {xs : List V} {o : Obj} (h1 : o.cls = .type "tuple") (h2 : o.dict = none) : XTup (upd H p (.frz o (.tup xs))) p xs := ⟨o, upd_same, h1, h2⟩
section
variable {X : Cx}
/-- tuple(x) of a list, known exactly -/
def kTupX (K : PySem.W.Frag) (x : V) (H : Hp) (Q : VK) : Prop :=
  ∃ p xs, x = V.ref p ∧ SqL K H p xs ∧ ∀ q (o : Obj), H q = none → o.cls = .type "tuple" → o.dict = none → Q (.ref q) (upd H q (.frz o (.tup xs)))
theorem rl_tupleX (pins : List (Addr × Obj)) (s : Shared) (σ : L2.St) (H : Hp) (x : V) (v : Value) (Q : VK) (I : Inv X pins σ H s) (r : RelV x v) (h : kTupX X.K x H Q) :
    wpAny (model X.prog X.w) X.A (call (.type "tuple") [v]) (EP X pins σ Q) X.xe s := by
  obtain ⟨p, xs, rfl, hs, q⟩ := h
  obtain rfl : v = .ref p := r
  obtain ⟨its, rv, pl, hz⟩ := I.list hs
  refine call_tuple_list pl.isList (fun h' hk => ?_) (by rw [List.size_toArray, ← rv.length]; exact hz)
  have I1 : Inv X pins σ H { s with heap := h' } := I.kept (t' := s.toks) hk
  have I2 : Inv X pins σ (upd H h'.objs.size (.frz { cls := .type "tuple", data := .seq its.toArray } (.tup xs))) { s with heap := h'.push { cls := .type "tuple", data := .seq its.toArray } } :=
    I1.laid (t' := s.toks) (fun b o e => Heap.get?_push_of_some _ e) (Nat.le_refl _) (show ObjOk X.prog X.w _ _ _ (.frz _ (.tup xs)) from ⟨by simp [Heap.get?, Heap.push], hz, its, rv, IsTup.new _ _⟩)
  exact ⟨.ref h'.objs.size, _, I2, rfl, q _ _ (I1.hok.fresh (Nat.le_refl _)) rfl rfl⟩
theorem pe_tupleOfX {a : Expr} {ta : TE} {p pos : Pos} (hg : Gl X "tuple") (hm : X.mg "tuple" = none) (ha : PE X a ta) (na : starEach [a] X.env = (false, eval a X.env) :: starEach [] X.env := by rfl) :
    PE X (.Call (.Name "tuple" p) [a] [] pos) (tThen ta (kTupX X.K)) := by
  refine ⟨fun pins s σ H Q I h => ?_⟩
  exact Call_ (ld_blt I hg hm boot_tuple (PyProof.Rows.callWith_type1 (one_arg ha I h (fun v s2 x H2 I2 r q => rl_tupleX pins s2 σ H2 x v Q I2 r q) na) na))
/-- a method of a tuple known exactly -/
def tBMX (r : V → List V → Hp → VK → Prop) (to : TE) (t : TA) : TE := fun σ H Q => to σ H fun x H1 => (∃ p ys, x = V.ref p ∧ XTup H1 p ys) ∧ t σ H1 fun xs H2 => r x xs H2 Q
theorem pe_bmX {o e : Expr} {es : List Expr} {to : TE} {t : TA} {name : Str} {id : String} {apos cpos : Pos} {r : V → List V → Hp → VK → Prop} (slot : Slot "tuple" name id) (hty : typeOf (.builtin id) = pure (.type "method_descriptor")) (hm : MtR X id r) (ho : PE X o to) (ha : PA X (e :: es) t)
    (hbase : attributeBase o name X.env (eval o X.env) = eval o X.env := by rfl)
    (hfew : ((backTo cpos (starEach (e :: es) X.env)).all (fun x => !x.1) && (backToKw cpos (keywordEach [] X.env)).all (fun x => x.1.isSome)
      && decide ((e :: es).length + ([] : List Keyword).length + (if ([] : List Keyword).isEmpty then 0 else 1) < 30)) = true := by rfl)
    (hline : (apos.endLine == cpos.line) = true := by rfl) (hs : starEach (e :: es) X.env = (false, eval e X.env) :: starEach es X.env := by rfl) (hplain : (backTo cpos (starEach es X.env)).any (·.1) = false := by rfl) :
    PE X (.Call (.Attribute o name apos) (e :: es) [] cpos) (tBMX r to t) := by
  refine ⟨fun pins s σ H Q I h => ?_⟩
  refine wpAny_Call_method_late hbase hfew hline rfl (thn (ho.run pins s σ H _ I h) fun v s1 ⟨x, H1, I1, r1, ty, q1⟩ => ?_)
  obtain ⟨p, ys, ex, hx⟩ := ty
  subst ex
  obtain rfl : v = Value.ref p := r1
  obtain ⟨o1, e1, e2, e3⟩ := hx.ex
  have hobj : s1.heap.get? p = some o1 := (I1.hok p _ e1).1
  refine ⟨"tuple", id, PySem.F.plainAttrs_tuple, slot, hty, ⟨o1, hobj, e2⟩, (fun a ea => by cases ea; exact ⟨o1, hobj, e3⟩), ?_⟩
  have hA := ha.run cpos pins s1 σ H1 _ I1 q1
  rw [hs] at hA ⊢
  refine Calls.callWith_builtin (by show (false || (backTo cpos (starEach es X.env)).any (·.1)) = false; rw [hplain] <;> rfl) (Calls.evalArgs_plain ?_)
  exact thn hA fun us s2 ⟨vs, H2, I2, r2, q2⟩ => hm pins s2 σ H2 (.ref p) vs (.ref p) us Q I2 rfl r2 q2
end
end Bx

set_option Elab.async false
set_option linter.all false
set_option maxRecDepth 100000
set_option maxHeartbeats 4000000
/-! St: a text times a number. -/
namespace Bx
open PySem PySem.Spec PyProof.Rows L2 TL
theorem fold_cat {α : Type} : ∀ (ls : List (Array α)) (a : Array α), (ls.foldl (· ++ ·) a).toList = a.toList ++ (ls.map Array.toList).flatten
  | [], a => by simp
  | l :: ls, a => by
    rw [List.foldl_cons, fold_cat ls (a ++ l)]
    simp
theorem str_len (z : Str) : z.length = (tl z).length := by
  show z.cps.size = z.cps.toList.length
  rw [Array.length_toList]
theorem str_ext {x y : Str} (h : tl x = tl y) : x = y := by
  cases x with
  | mk a => cases y with
    | mk b =>
      have h : a.toList = b.toList := h
      rw [Array.toList_inj.mp h]
section
variable {X : Cx}
def rRepS : R2 := fun x y H Q => ∃ (z : Str) (n : Nat), x = .str z ∧ y = .int (n : Int) ∧ n ≤ 1000 ∧ z.length ≤ 100 ∧ ∀ u : Str, tl u = (List.replicate n (tl z)).flatten → Q (.str u) H
theorem op_repS : OpR X (binaryOp .Mult) rRepS := by
  intro pins s σ H x y v u Q I rx ry h
  obtain ⟨z, n, rfl, rfl, hn, hz, q⟩ := h
  obtain ⟨t, rfl⟩ := rx
  obtain ⟨t', rfl⟩ := ry
  have hr : (decide ((n : Int) < -(2 ^ 63 : Int)) || decide ((n : Int) ≥ 2 ^ 63)) = false := by
    rw [decide_eq_false (by omega), decide_eq_false (by omega)]
    rfl
  refine P.mul_str hr (fun h1 _ => ?_) (fun h1 _ => ?_) ?_
  · have h2 : (0 : Int) < n := by omega
    have h3 : (z.length : Int) ≤ (2 ^ 63 - 1) / n := by
      rw [Int.le_ediv_iff_mul_le h2]
      have : (z.length : Int) * n ≤ 100 * 1000 := Int.mul_le_mul (by omega) (by omega) (by omega) (by omega)
      omega
    omega
  · have : z.length * (n : Int).toNat ≤ 100 * 1000 := Nat.mul_le_mul hz (by omega)
    unfold Builtin.Str.tooLong
    rw [sizeLine_eq]
    exact decide_eq_false (by omega)
  · by_cases h1 : (n : Int) < 1
    · rw [if_pos h1]
      have h0 : n = 0 := by omega
      subst h0
      exact ⟨by decide, .str Str.empty, H, I.tok _, ⟨_, rfl⟩, q _ rfl⟩
    · rw [if_neg h1]
      by_cases h2 : ((n : Int) == 1 || z.length == 0) = true
      · rw [if_pos h2]
        refine ⟨.str z, H, I, ⟨t, rfl⟩, q z ?_⟩
        rcases Bool.or_eq_true_iff.mp h2 with e | e
        · have : n = 1 := by
            have := eq_of_beq e
            omega
          subst this
          simp
        · have : z.length = 0 := eq_of_beq e
          rw [str_len] at this
          rw [List.length_eq_zero_iff.mp this]
          simp
      · rw [if_neg h2]
        have e : tl (⟨(List.replicate (n : Int).toNat z.cps).foldl (· ++ ·) #[]⟩ : Str) = (List.replicate n (tl z)).flatten := by
          show ((List.replicate (n : Int).toNat z.cps).foldl (· ++ ·) #[]).toList = _
          rw [fold_cat, Int.toNat_natCast, List.map_replicate]
          rfl
        refine ⟨?_, .str _, H, I.tok _, ⟨_, rfl⟩, q _ e⟩
        have h3 : (tl (⟨(List.replicate (n : Int).toNat z.cps).foldl (· ++ ·) #[]⟩ : Str)).length ≤ 100 * 1000 := by
          rw [e, List.length_flatten, List.map_replicate, List.sum_replicate_nat, ← str_len]
          exact Nat.le_trans (Nat.mul_le_mul hn hz) (by decide)
        rw [← str_len] at h3
        show _ ≤ sizeLine
        rw [sizeLine_eq]
        omega
end
end Bx

set_option Elab.async false
set_option linter.all false
set_option maxRecDepth 100000
set_option maxHeartbeats 4000000
namespace Wd
open PySem PySem.Spec PyProof.Rows L2 Bx Gx




















































section
/-! ### texts read sign by sign -/
open TL
inductive Rs (α : Type) where
  | ok (x : α) (p : Nat)
  | ill (i : Nat)
def dg (c : Nat) : Bool := decide (48 ≤ c ∧ c ≤ 57)
/-- how many digits stand ahead, at most so many -/
def runD : Nat → List Nat → Nat
  | 0, _ => 0
  | _ + 1, [] => 0
  | k + 1, c :: r => if dg c = true then runD k r + 1 else 0
/-- how long the number ahead is -/
def numN : List Nat → Nat
  | [] => 0
  | c :: r => if c = 48 then 1 else runD 12 (c :: r)
theorem runD_le : ∀ (k : Nat) (d : List Nat), runD k d ≤ k ∧ runD k d ≤ d.length
  | 0, d => ⟨Nat.le_refl _, Nat.zero_le _⟩
  | k + 1, [] => ⟨Nat.zero_le _, Nat.le_refl _⟩
  | k + 1, c :: r => by
    rw [runD]
    have := runD_le k r
    split
    · rw [List.length_cons]
      omega
    · exact ⟨Nat.zero_le _, Nat.zero_le _⟩
theorem runD_dig : ∀ (k : Nat) (d : List Nat), ∀ c ∈ d.take (runD k d), dg c = true
  | 0, d, c, h => by rw [runD, List.take_zero] at h; cases h
  | k + 1, [], c, h => by simp at h
  | k + 1, x :: r, c, h => by
    rw [runD] at h
    by_cases e : dg x = true
    · rw [if_pos e, List.take_succ_cons, List.mem_cons] at h
      rcases h with rfl | h
      · exact e
      · exact runD_dig k r c h
    · rw [if_neg e, List.take_zero] at h
      cases h
theorem runD_go : ∀ (k : Nat) (d : List Nat) (e : Nat), e ≤ runD k d → ((e < k ∧ ∃ c, d[e]? = some c ∧ dg c = true) ↔ e < runD k d)
  | 0, d, e, _ => by rw [runD]; omega
  | k + 1, [], e, h => by
    rw [runD]
    constructor
    · rintro ⟨_, c, h, _⟩
      simp at h
    · intro h; omega
  | k + 1, x :: r, e, h => by
    rw [runD] at h ⊢
    by_cases c : dg x = true
    · rw [if_pos c] at h ⊢
      cases e with
      | zero => exact ⟨fun _ => Nat.succ_pos _, fun _ => ⟨Nat.succ_pos _, x, rfl, c⟩⟩
      | succ e =>
        have := runD_go k r e (by omega)
        rw [List.getElem?_cons_succ]
        constructor
        · rintro ⟨h1, h2⟩
          exact Nat.succ_lt_succ (this.mp ⟨by omega, h2⟩)
        · intro h1
          have := this.mpr (by omega)
          exact ⟨by omega, this.2⟩
    · rw [if_neg c] at h ⊢
      obtain rfl : e = 0 := by omega
      constructor
      · rintro ⟨_, c', h1, h2⟩
        rw [List.getElem?_cons_zero] at h1
        obtain rfl := Option.some.inj h1
        exact absurd h2 c
      · intro h; omega
theorem numN_le (d : List Nat) : numN d ≤ 12 ∧ numN d ≤ d.length := by
  cases d with
  | nil => exact ⟨Nat.zero_le _, Nat.le_refl _⟩
  | cons c r =>
    rw [numN]
    split
    · rw [List.length_cons]; omega
    · exact runD_le 12 (c :: r)
theorem numN_dig (d : List Nat) : ∀ c ∈ d.take (numN d), 48 ≤ c ∧ c ≤ 57 := by
  cases d with
  | nil => intro c h; simp at h
  | cons x r =>
    intro c h
    rw [numN] at h
    by_cases e : x = 48
    · rw [if_pos e, List.take_succ_cons, List.take_zero, List.mem_singleton] at h
      omega
    · rw [if_neg e] at h
      exact of_decide_eq_true (runD_dig 12 _ c h)
/-- the loop's question behind e signs of a number -/
theorem numN_go (d : List Nat) (e : Nat) (h : e ≤ numN d) : ((∃ c, d[e]? = some c ∧ dg c = true) ∧ e < 12 ∧ d.take e ≠ [48]) ↔ e < numN d := by
  cases d with
  | nil =>
    rw [numN]
    constructor
    · rintro ⟨⟨c, h, _⟩, _⟩
      simp at h
    · intro h; omega
  | cons x r =>
    rw [numN] at h ⊢
    by_cases c : x = 48
    · rw [if_pos c] at h ⊢
      subst c
      cases e with
      | zero => exact ⟨fun _ => Nat.one_pos, fun _ => ⟨⟨48, rfl, by decide⟩, by decide, by simp⟩⟩
      | succ e =>
        obtain rfl : e = 0 := by omega
        exact ⟨fun z => absurd rfl z.2.2, fun z => by omega⟩
    · rw [if_neg c] at h ⊢
      rw [← runD_go 12 (x :: r) e h]
      have hne : (x :: r).take e ≠ [48] := fun z => by
        cases e with
        | zero => simp at z
        | succ e =>
          rw [List.take_succ_cons] at z
          injection z with z _
          exact c z
      exact ⟨fun z => ⟨z.2.1, z.1⟩, fun z => ⟨z.2, z.1, hne⟩⟩
def valN (d : List Nat) : Nat := PySem.NumText.digitsVal (d.take (numN d))
def numR (cs : List Nat) (p : Nat) : Rs Nat := if numN (cs.drop p) = 0 then .ill p else .ok (valN (cs.drop p)) (p + numN (cs.drop p))
def byR (cs : List Nat) : List Nat → Nat → Rs Unit
  | [], p => .ok () p
  | s :: r, p => if cs[p]? = some s then byR cs r (p + 1) else .ill p
def numsR (cs : List Nat) : Nat → Nat → List Nat → Rs (List Nat)
  | 0, p, acc => .ok acc p
  | k + 1, p, acc => match byR cs [32] p with
    | .ill i => .ill i
    | .ok _ p1 => match numR cs p1 with
      | .ill i => .ill i
      | .ok v p2 => numsR cs k p2 (acc ++ [v])
/-- a tape's next row; a line feed ahead of it where it isn't the first -/
def rowR (cs : List Nat) (first : Bool) (p : Nat) : Rs (List Nat) := match byR cs (if first then [] else [10]) p with
  | .ill i => .ill i
  | .ok _ p1 => match numR cs p1 with
    | .ill i => .ill i
    | .ok v p2 => numsR cs 3 p2 [v]
inductive TapeR (cs : List Nat) : Nat → List (List Nat) → Rs (List (List Nat)) → Prop
  | done {p : Nat} {rows : List (List Nat)} : cs.length ≤ p → TapeR cs p rows (.ok rows p)
  | ill {p i : Nat} {rows : List (List Nat)} : p < cs.length → rowR cs rows.isEmpty p = .ill i → TapeR cs p rows (.ill i)
  | row {p q : Nat} {rows : List (List Nat)} {row : List Nat} {r : Rs (List (List Nat))} : p < cs.length → rowR cs rows.isEmpty p = .ok row q → TapeR cs q (rows ++ [row]) r → TapeR cs p rows r
theorem TapeR.uniq {cs : List Nat} {p : Nat} {rows : List (List Nat)} {r r' : Rs (List (List Nat))} (h : TapeR cs p rows r) : TapeR cs p rows r' → r = r' := by
  induction h with
  | done h1 =>
    intro h'
    cases h' with
    | done _ => rfl
    | ill h2 => omega
    | row h2 => omega
  | ill h1 e1 =>
    intro h'
    cases h' with
    | done h2 => omega
    | ill h2 e2 => rw [e1] at e2; injection e2 with e2; rw [e2]
    | row h2 e2 => rw [e1] at e2; cases e2
  | row h1 e1 _ ih =>
    intro h'
    cases h' with
    | done h2 => omega
    | ill h2 e2 => rw [e1] at e2; cases e2
    | row h2 e2 t =>
      rw [e1] at e2
      injection e2 with e2 e3
      subst e2 e3
      exact ih t
theorem numR_go {cs : List Nat} {p v q : Nat} (h : numR cs p = .ok v q) : p < q ∧ q ≤ cs.length := by
  unfold numR at h
  split at h
  · cases h
  · injection h with _ h
    have := numN_le (cs.drop p)
    rw [List.length_drop] at this
    omega
theorem byR_one {cs : List Nat} {s p q : Nat} {u : Unit} (h : byR cs [s] p = .ok u q) : q = p + 1 ∧ p < cs.length := by
  rw [byR] at h
  split at h
  · rename_i e
    rw [byR] at h
    injection h with _ h
    exact ⟨h.symm, (List.getElem?_eq_some_iff.mp e).1⟩
  · cases h
theorem numsR_go {cs : List Nat} : ∀ {k p q : Nat} {acc row : List Nat}, p ≤ cs.length → numsR cs k p acc = .ok row q → p ≤ q ∧ q ≤ cs.length ∧ row.length = acc.length + k
  | 0, p, q, acc, row, hp, h => by
    rw [numsR] at h
    injection h with h1 h2
    subst h1 h2
    exact ⟨Nat.le_refl _, hp, rfl⟩
  | k + 1, p, q, acc, row, hp, h => by
    rw [numsR] at h
    cases e1 : byR cs [32] p with
    | ill i => rw [e1] at h; cases h
    | ok u p1 =>
      rw [e1] at h
      dsimp only at h
      cases e2 : numR cs p1 with
      | ill i => rw [e2] at h; cases h
      | ok v p2 =>
        rw [e2] at h
        have h1 := byR_one e1
        have h2 := numR_go e2
        have h3 := numsR_go h2.2 h
        rw [List.length_append, List.length_singleton] at h3
        omega
theorem rowR_go {cs : List Nat} {first : Bool} {p q : Nat} {row : List Nat} (hp : p < cs.length) (h : rowR cs first p = .ok row q) : p < q ∧ q ≤ cs.length ∧ row.length = 4 := by
  unfold rowR at h
  cases e1 : byR cs (if first then [] else [10]) p with
  | ill i => rw [e1] at h; cases h
  | ok u p1 =>
    rw [e1] at h
    dsimp only at h
    have hp1 : p ≤ p1 := by
      cases first with
      | true =>
        have e1' : byR cs [] p = .ok u p1 := e1
        rw [byR] at e1'
        injection e1' with _ e1'
        omega
      | false =>
        have := byR_one (show byR cs [10] p = .ok u p1 from e1)
        omega
    cases e2 : numR cs p1 with
    | ill i => rw [e2] at h; cases h
    | ok v p2 =>
      rw [e2] at h
      have h2 := numR_go e2
      have h3 := numsR_go h2.2 h
      rw [List.length_singleton] at h3
      omega
end
end Wd

set_option Elab.async false
set_option linter.all false
set_option maxRecDepth 100000
set_option maxHeartbeats 4000000
namespace Wd
open PySem PySem.Spec PyProof.Rows L2 Bx Gx




















































section
variable {P : Program} {w : World} {K : PySem.W.Frag} {mg : Str → Option Value} {base : Heap}
/-! ### InvalidText(index); behind_signs, read_number -/
open TL
theorem drop_take_min (l : List Nat) {a b : Nat} (h : a ≤ b) : (l.drop (min a l.length)).take (min b l.length - min a l.length) = (l.drop a).take (b - a) := by
  by_cases h1 : a ≤ l.length
  · rw [Nat.min_eq_left h1]
    by_cases h2 : b ≤ l.length
    · rw [Nat.min_eq_left h2]
    · rw [Nat.min_eq_right (by omega), List.take_of_length_le (by rw [List.length_drop]; exact Nat.le_refl _), List.take_of_length_le (by rw [List.length_drop]; omega)]
  · have e : min a l.length = l.length := Nat.min_eq_right (by omega)
    rw [e, List.drop_length, List.drop_of_length_le (by omega)]
    simp
theorem tl_cutN (z : Str) {a b : Nat} (h : a ≤ b) : tl (L2.cutS z (some (a : Int)) (some (b : Int))) = ((tl z).drop a).take (b - a) := by
  unfold L2.cutS
  rw [tl_mk, HT.sIx_nat, HT.sIx_nat, str_len]
  exact drop_take_min (tl z) h
theorem cut_sign (z : Str) (p c : Nat) : V.str (L2.cutS z (some (p : Int)) (some ((p : Int) + 1))) = V.str ⟨#[c]⟩ ↔ (tl z)[p]? = some c := by
  have e : ((p : Int) + 1) = ((p + 1 : Nat) : Int) := rfl
  rw [e]
  have h1 := tl_cutN z (Nat.le_succ p)
  rw [show p.succ - p = 1 by omega] at h1
  constructor
  · intro h
    injection h with h
    have h1 : tl (L2.cutS z (some (p : Int)) (some ((p + 1 : Nat) : Int))) = ((tl z).drop p).take 1 := h1
    rw [h] at h1
    cases hd : (tl z).drop p with
    | nil => rw [hd] at h1; cases h1
    | cons x r =>
      rw [hd, List.take_succ_cons, List.take_zero] at h1
      have hx : c = x := by
        have : [c] = [x] := h1
        injection this
      have : (tl z)[p]? = ((tl z).drop p)[0]? := by rw [List.getElem?_drop, Nat.add_zero]
      rw [this, hd, hx]
      rfl
  · intro h
    congr 1
    refine ext_tl ?_
    have h1 : tl (L2.cutS z (some (p : Int)) (some ((p + 1 : Nat) : Int))) = ((tl z).drop p).take 1 := h1
    rw [h1]
    obtain ⟨hp, he⟩ := List.getElem?_eq_some_iff.mp h
    rw [List.drop_eq_getElem_cons hp, List.take_succ_cons, List.take_zero, he]
/-- InvalidText of an index -/
def XT (CT : Addr) (i : Nat) (H : Hp) (E : XK) : Prop := ∀ (d : Addr) (H' : Hp), Ext H H' → H' d = some (.xd [("index", .int (i : Int))]) → E (.ref CT) (some d) H'
theorem XT.ext {CT : Addr} {i : Nat} {H H' : Hp} {E : XK} (h : XT CT i H E) (x : Ext H H') : XT CT i H' E := fun d H2 x2 e => h d H2 (x.trans x2) e
def initTxt : Stmt → Stmt
  | .ClassDef _ _ _ body _ _ _ _ _ _ _ => body.getD 0 (.Pass ⟨0, 0, 0, 0⟩)
  | s => s
abbrev initTextS : Stmt := initTxt st_InvalidText
theorem sc_initText : FnScope ["self", "index"] ["self", "index"] (defScope initTextS) := ⟨rfl, rfl, rfl, by decide +kernel, rfl, by decide +kernel, by decide +kernel⟩
theorem ok_initText {f C : Addr} {fd : FuncData} (F : Fun K "__init__" "InvalidText.__init__" initTextS f fd) (T : OexC K C) (hno : PySem.W.findIn K (.ref C) "index" = some none) : FnOk P w K mg base CX0 1 f fd ["self", "index"] (fun vs H Q _ => ∃ (a : Addr) (v : V), vs = [.ref a, v] ∧ H a = some (exo a C none) ∧ ∀ dx, H dx = none → dx ≠ a → Q .non (upd (upd H dx (exd dx [("index", v)])) a (exo a C (some dx)))) := by
  refine F.ok sc_initText (fun vs H Q E h => ?_) (fun cdv A outer s H vs Q E hr h => ?_)
  · obtain ⟨a, v, rfl, _⟩ := h
    rfl
  · obtain ⟨a, v, rfl, ha, k⟩ := h
    refine ⟨_, pss_one (ps_ost (pv 0) (pv 1)), ?_⟩
    exact ⟨_, rfl, _, rfl, a, C, rfl, T, hno, .inl ⟨ha, k⟩⟩
theorem ext_madeT {H1 : Hp} {a dx C : Addr} {f : Str} {v : V} (ha : H1 a = none) (hd : H1 dx = none) (hne : dx ≠ a) : Ext H1 (upd (del (upd (upd (upd H1 a (exo a C none)) dx (exd dx [(f, v)])) a (exo a C (some dx))) a) dx (.xd [(f, v)])) := by
  have key : ∀ b, b ≠ a → b ≠ dx → upd (del (upd (upd (upd H1 a (exo a C none)) dx (exd dx [(f, v)])) a (exo a C (some dx))) a) dx (.xd [(f, v)]) b = H1 b := fun b h1 h2 => by
    rw [upd_ne h2, del_ne h1, upd_ne h1, upd_ne h2, upd_ne h1]
  refine ⟨fun b o e _ => ?_, fun T t => ?_, fun b o e => ⟨o, ?_⟩⟩
  · rw [key b (ne_of_none e ha) (ne_of_none e hd)]
    exact e
  · obtain ⟨ps, e, r⟩ := t
    exact ⟨ps, by rw [key T (ne_of_none e ha) (ne_of_none e hd)]; exact e, r⟩
  · rw [key b (ne_of_none e ha) (ne_of_none e hd)]
    exact e
/-- a text short enough -/
abbrev Shrt (z : Str) : Prop := z.length ≤ 100000
theorem Shrt.sz {z : Str} (h : Shrt z) : z.length ≤ sizeLine := by
  have : 100000 ≤ sizeLine := by decide
  exact Nat.le_trans h this
def spBhd (CT : Addr) : Sp := fun vs H Q E => ∃ (z s : Str) (p : Nat), vs = [.str z, .int (p : Int), .str s] ∧ Shrt z ∧ (∀ u q, byR (tl z) (tl s) p = .ok u q → Q (.int (q : Int)) H) ∧ (∀ i, byR (tl z) (tl s) p = .ill i → XT CT i H E)
abbrev bhN : List Str := ["text", "at", "signs", "sign"]
theorem sc_bhd : FnScope bhN ["text", "at", "signs"] (defScope st_behind_signs) := ⟨rfl, rfl, rfl, by decide +kernel, rfl, by decide +kernel, by decide +kernel⟩
theorem ok_bhd {f CT : Addr} {fd : FuncData} (F : Fun K "behind_signs" "behind_signs" st_behind_signs f fd) (Y : Yc P w K mg base "InvalidText" CT "index") : FnOk P w K mg base (L2.CX P w) 3 f fd ["text", "at", "signs"] (spBhd CT) := by
  refine F.okX sc_bhd (fun vs H Q E h => ?_) (fun cdv A outer s H vs Q E hr h => ?_)
  · obtain ⟨z, s, p, rfl, _⟩ := h
    rfl
  · obtain ⟨z, sg, p, rfl, hz, k1, k2⟩ := h
    have nd := sc_bhd.nd
    obtain ⟨fI, fdI, i1, i2, i3, i4⟩ := Y.i
    refine ⟨_, pss_cons (ps_for (passes_of rfl) rfl (pi_str (pv 2)) (pg_name (i := 3) nd rfl (Or.inl rfl))
        (pss_cons (ps_if (pt_cmpR op_ne (pe_slice sl_str (pv 0) (po_some (pv 1)) (po_some (pe_op op_add (pv 1) pe_int))) (pv 3) (nomark _)) (pss_one (ps_raise rfl (takes_of rfl rfl rfl rfl) (pmk_oex (dvs := []) Y.o i1 i2 i4 (hr.mono (j := 2) (by decide)) i3 .nil pass0 rfl Y.g (pa_cons (pv 1) pa_nil)))) pss_nil)
        (pss_one (ps_aug (i := 1) nd rfl (Or.inl rfl) pe_int iop_add))))
      (pss_one (ps_ret (pv 1))), ?_⟩
    refine ⟨_, rfl, _, rfl, ?_⟩
    have stp : ∀ i c, (tl sg)[i]? = some c → byR (tl z) ((tl sg).drop i) (p + i) = if (tl z)[p + i]? = some c then byR (tl z) ((tl sg).drop (i + 1)) (p + (i + 1)) else .ill (p + i) := fun i c h => by
      obtain ⟨hi, he⟩ := List.getElem?_eq_some_iff.mp h
      rw [List.drop_eq_getElem_cons hi, byR, he]
      rfl
    refine for_it walk_str (fun i σ H2 => ∃ o3 : Option V, σ = [some (.str z), some (.int ((p + i : Nat) : Int)), some (.str sg), o3] ∧ H2 = H ∧ byR (tl z) (tl sg) p = byR (tl z) ((tl sg).drop i) (p + i)) ⟨_, rfl, rfl, rfl⟩ (fun _ _ _ _ _ => trivial) (fun i x σ H2 H3 hi hP hY => ?_) (fun σ H2 hP => ?_)
    · obtain ⟨o3, rfl, rfl, hb⟩ := hP
      obtain ⟨rfl, c, hc, rfl⟩ := hY
      have hc' : (tl sg)[i]? = some c := by rw [← hc, Array.getElem?_toList]
      rw [stp i c hc'] at hb
      refine ⟨_, rfl, _, rfl, _, rfl, _, rfl, _, _, rfl, rfl, _, rfl, z, rfl, hz.sz, _, rfl, rfl, _, rfl, ?_⟩
      by_cases e : (tl z)[p + i]? = some c
      · have e2 := (cut_sign z (p + i) c).mpr e
        rw [decide_eq_true e2]
        refine iteF ⟨_, rfl, _, _, rfl, rfl, some (.str ⟨#[c]⟩), rfl, rfl, ?_⟩
        rw [hb, if_pos e]
      · have e2 := fun q => e ((cut_sign z (p + i) c).mp q)
        rw [decide_eq_false e2]
        rw [if_neg e] at hb
        refine iteT ⟨_, rfl, (by show 1 ≤ 1000; decide), fun a ha => ?_⟩
        refine ⟨a, _, rfl, upd_same, fun dx hdx hne => ?_⟩
        have hdx2 : H3 dx = none := by rw [upd_ne hne] at hdx; exact hdx
        refine ⟨rfl, dx, _, upd_same, by rw [upd_ne hne]; exact upd_same, hdx2, ?_⟩
        exact k2 _ hb dx _ (ext_madeT (C := CT) (f := "index") ha hdx2 hne) upd_same
    · obtain ⟨o3, rfl, rfl, hb⟩ := hP
      refine ⟨_, rfl, k1 () _ ?_⟩
      rw [hb, List.drop_of_length_le (by rw [Array.length_toList]; exact Nat.le_refl _), byR]
end
end Wd

set_option Elab.async false
set_option linter.all false
set_option maxRecDepth 100000
set_option maxHeartbeats 4000000
/-! Mo: readings grow with their wish; what a while's test asks of itself. -/
namespace Bx
open PySem PySem.Spec PyProof.Rows L2
def MT (t : TT) : Prop := ∀ (σ : L2.St) (H : Hp) (Q Q' : Bool → Hp → Prop), (∀ b H1, Q b H1 → Q' b H1) → t σ H Q → t σ H Q'
def ME (t : TE) : Prop := ∀ (σ : L2.St) (H : Hp) (Q Q' : VK), (∀ x H1, Q x H1 → Q' x H1) → t σ H Q → t σ H Q'
def MA (t : TA) : Prop := ∀ (σ : L2.St) (H : Hp) (Q Q' : List V → Hp → Prop), (∀ x H1, Q x H1 → Q' x H1) → t σ H Q → t σ H Q'
def MO (t : TO) : Prop := ∀ (σ : L2.St) (H : Hp) (Q Q' : Option Int → Hp → Prop), (∀ x H1, Q x H1 → Q' x H1) → t σ H Q → t σ H Q'
def M2 (r : R2) : Prop := ∀ (x y : V) (H : Hp) (Q Q' : VK), (∀ x H1, Q x H1 → Q' x H1) → r x y H Q → r x y H Q'
def ML (r : List V → Hp → VK → Prop) : Prop := ∀ (x : List V) (H : Hp) (Q Q' : VK), (∀ x H1, Q x H1 → Q' x H1) → r x H Q → r x H Q'
variable {a b : TT} {e g : TE} {l : TA} {o p : TO} {r : R2}
theorem me_var (i : Nat) : ME (tVar i) := fun _ _ _ _ h ⟨v, e, q⟩ => ⟨v, e, h _ _ q⟩
theorem me_c (v : V) : ME (tC v) := fun _ _ _ _ h q => h _ _ q
theorem me_op (hr : M2 r) (he : ME e) (hg : ME g) : ME (tOp r e g) := fun σ H _ _ h q => he σ H _ _ (fun _ H1 q => hg σ H1 _ _ (fun _ _ q => hr _ _ _ _ _ h q) q) q
theorem ma_nil : MA tNil := fun _ _ _ _ h q => h _ _ q
theorem ma_cons (he : ME e) (hl : MA l) : MA (tCons e l) := fun σ H _ _ h q => he σ H _ _ (fun _ H1 q => hl σ H1 _ _ (fun _ _ q => h _ _ q) q) q
theorem me_cb {r : List V → Hp → VK → Prop} (hr : ML r) (hl : MA l) : ME (tCB r l) := fun σ H _ _ h q => hl σ H _ _ (fun _ _ q => hr _ _ _ _ h q) q
theorem me_call {sp : Sp} {E : XK} (hr : ∀ vs H Q Q', (∀ x H1, Q x H1 → Q' x H1) → sp vs H Q E → sp vs H Q' E) (hl : MA l) : ME (tCall sp [] E l) := fun σ H _ _ h q => hl σ H _ _ (fun _ _ q => hr _ _ _ _ h q) q
theorem mo_no : MO tNoPart := fun _ _ _ _ h q => h _ _ q
theorem mo_part (he : ME e) : MO (tPart e) := fun σ H _ _ h q => he σ H _ _ (fun _ _ ⟨i, e, q⟩ => ⟨i, e, h _ _ q⟩) q
theorem me_sl {r : V → Option Int → Option Int → Hp → VK → Prop} (hr : ∀ x lo hi H (Q Q' : VK), (∀ x H1, Q x H1 → Q' x H1) → r x lo hi H Q → r x lo hi H Q') (he : ME e) (ho : MO o) (hp : MO p) : ME (L2.tSl r e o p) := fun σ H _ _ h q =>
  he σ H _ _ (fun _ H1 q => ho σ H1 _ _ (fun _ H2 q => hp σ H2 _ _ (fun _ _ q => hr _ _ _ _ _ _ h q) q) q) q
theorem mt_test (he : ME e) : MT (tTest e) := fun σ H _ _ h q => he σ H _ _ (fun _ _ ⟨k, e, q⟩ => ⟨k, e, h _ _ q⟩) q
theorem mt_b (he : ME e) : MT (tB e) := fun σ H _ _ h q => he σ H _ _ (fun _ _ ⟨k, e, q⟩ => ⟨k, e, h _ _ q⟩) q
theorem mt_and (ha : MT a) (hb : MT b) : MT (tAnd a b) := fun σ H _ _ h q => ha σ H _ _ (fun c H1 q => by
  cases c with
  | true => exact hb σ H1 _ _ h q
  | false => exact h _ _ q) q
theorem mt_or (ha : MT a) (hb : MT b) : MT (tOr a b) := fun σ H _ _ h q => ha σ H _ _ (fun c H1 q => by
  cases c with
  | true => exact h _ _ q
  | false => exact hb σ H1 _ _ h q) q
theorem mt_not (ha : MT a) : MT (tNot a) := fun σ H _ _ h q => ha σ H _ _ (fun c H1 q => h _ _ q) q
theorem m2_i0 (g : Int → Int → V) : M2 (rI0 g) := fun _ _ _ _ _ h ⟨i, j, e1, e2, q⟩ => ⟨i, j, e1, e2, h _ _ q⟩
theorem m2_i (C : Int → Int → Prop) (g : Int → Int → V) : M2 (rI C g) := fun _ _ _ _ _ h ⟨i, j, e1, e2, e3, q⟩ => ⟨i, j, e1, e2, e3, h _ _ q⟩
theorem m2_eq : M2 rEq := fun _ _ _ _ _ h ⟨e, q⟩ => ⟨e, h _ _ q⟩
theorem m2_ne : M2 rNe := fun _ _ _ _ _ h ⟨e, q⟩ => ⟨e, h _ _ q⟩
theorem m2_ixL (K : PySem.W.Frag) : M2 (rIxL K) := fun _ _ _ _ _ h ⟨p, xs, i, v, e1, e2, e3, e4, q⟩ => ⟨p, xs, i, v, e1, e2, e3, e4, h _ _ q⟩
theorem m2_ixT (K : PySem.W.Frag) : M2 (rIxT K) := fun _ _ _ _ _ h ⟨p, xs, i, v, e1, e2, e3, e4, q⟩ => ⟨p, xs, i, v, e1, e2, e3, e4, h _ _ q⟩
theorem m2_ixS : M2 rIxS := fun _ _ _ _ _ h ⟨z, i, c, e1, e2, e3, e4, q⟩ => ⟨z, i, c, e1, e2, e3, e4, h _ _ q⟩
theorem mr_slS (x : V) (lo hi : Option Int) (H : Hp) (Q Q' : VK) (h : ∀ x H1, Q x H1 → Q' x H1) (k : rSlS x lo hi H Q) : rSlS x lo hi H Q' := by
  obtain ⟨z, e1, e2, q⟩ := k
  exact ⟨z, e1, e2, h _ _ q⟩
end Bx

set_option Elab.async false
set_option linter.all false
set_option maxRecDepth 100000
set_option maxHeartbeats 4000000
namespace Wd
open PySem PySem.Spec PyProof.Rows L2 Bx Gx




















































section
variable {P : Program} {w : World} {K : PySem.W.Frag} {mg : Str → Option Value} {base : Heap}
/-! ### read_number -/
open TL
/-- what the module says of numbers -/
structure NumG (mg : Str → Option Value) : Prop where
  dg : ∃ t, mg "DIGITS" = some (.str "0123456789" t)
  md : ∃ t, mg "MOST_DIGITS" = some (.int 12 t)
theorem digits_mem (c : Nat) : decide (c ∈ tl (Str.ofString "0123456789")) = dg c := by
  have e : tl (Str.ofString "0123456789") = [48, 49, 50, 51, 52, 53, 54, 55, 56, 57] := by rw [tl_ofString]; decide
  rw [e]
  unfold dg
  rw [decide_eq_decide]
  simp only [List.mem_cons, List.not_mem_nil, or_false]
  omega
theorem cut_nought (z : Str) {p e : Nat} : V.str (L2.cutS z (some (p : Int)) (some (((p + e : Nat)) : Int))) = V.str (Str.ofString "0") ↔ ((tl z).drop p).take e = [48] := by
  have h1 := tl_cutN z (Nat.le_add_right p e)
  rw [show p + e - p = e by omega] at h1
  have h0 : tl (Str.ofString "0") = [48] := by rw [tl_ofString]; decide
  rw [← h1, ← h0]
  exact ⟨fun h => by injection h with h; rw [h], fun h => by rw [ext_tl h]⟩
theorem int_of {z : Str} {p : Nat} (h : numN ((tl z).drop p) ≠ 0) : PySem.intText? (L2.cutS z (some (p : Int)) (some ((p + numN ((tl z).drop p) : Nat) : Int))) = some ((valN ((tl z).drop p) : Nat) : Int) ∧ (L2.cutS z (some (p : Int)) (some ((p + numN ((tl z).drop p) : Nat) : Int))).length ≤ 640 := by
  have h1 := tl_cutN z (Nat.le_add_right p (numN ((tl z).drop p)))
  rw [show p + numN ((tl z).drop p) - p = numN ((tl z).drop p) by omega] at h1
  have hl := numN_le ((tl z).drop p)
  have hlen : (L2.cutS z (some (p : Int)) (some ((p + numN ((tl z).drop p) : Nat) : Int))).length ≤ 12 := by
    rw [str_len, h1, List.length_take]
    omega
  refine ⟨?_, by omega⟩
  replace h1 : (L2.cutS z (some (p : Int)) (some ((p + numN ((tl z).drop p) : Nat) : Int))).cps.toList = ((tl z).drop p).take (numN ((tl z).drop p)) := h1
  rw [intText_digits (by rw [h1]; exact numN_dig _) (by
    rw [h1]
    intro z0
    have := congrArg List.length z0
    rw [List.length_take, List.length_nil] at this
    omega) (by omega), h1]
  rfl
def spNum (CT : Addr) : Sp := fun vs H Q E => ∃ (z : Str) (p : Nat), vs = [.str z, .int (p : Int)] ∧ Shrt z ∧ (∀ v q, numR (tl z) p = .ok v q → ∀ t, H t = none → Q (.ref t) (upd H t (.tup [.int (v : Int), .int (q : Int)]))) ∧ (∀ i, numR (tl z) p = .ill i → XT CT i H E)
abbrev rnN : List Str := ["text", "at", "end"]
theorem sc_num : FnScope rnN ["text", "at"] (defScope st_read_number) := ⟨rfl, rfl, rfl, by decide +kernel, rfl, by decide +kernel, by decide +kernel⟩
theorem ok_num {f CT : Addr} {fd : FuncData} (F : Fun K "read_number" "read_number" st_read_number f fd) (B : Bl mg) (G : NumG mg) (Y : Yc P w K mg base "InvalidText" CT "index") : FnOk P w K mg base (L2.CX P w) 3 f fd ["text", "at"] (spNum CT) := by
  refine F.okX sc_num (fun vs H Q E h => ?_) (fun cdv A outer s H vs Q E hr h => ?_)
  · obtain ⟨z, p, rfl, _⟩ := h
    rfl
  · obtain ⟨z, p, rfl, hz, k1, k2⟩ := h
    have nd := sc_num.nd
    obtain ⟨fI, fdI, i1, i2, i3, i4⟩ := Y.i
    obtain ⟨tD, eD⟩ := G.dg
    obtain ⟨tM, eM⟩ := G.md
    refine ⟨_, pss_cons (ps_set (i := 2) nd rfl (Or.inl rfl) (pv 1))
      (pss_cons (ps_while (passes_of rfl) (PW.pt (pw_and (pt_cmpR op_lt (pv 2) (pe_callB call_len (by rfl) B.len PySem.boot_len (pa_cons (pv 0) pa_nil)) (nomark _)) (pw_and (pt_cmpR op_in_sign (pe_ix ix_str (pv 0) (pv 2) (fun _ _ => rfl)) (pe_glob rfl eD (v := .str "0123456789") ⟨_, rfl⟩) (by rfl)) (pw_and (pt_cmpR op_lt (pe_op op_sub (pv 2) (pv 1)) (pe_glob rfl eM (v := .int 12) ⟨_, rfl⟩) (nomark _)) (pw_and1 (pt_cmpR op_ne (pe_slice sl_str (pv 0) (po_some (pv 1)) (po_some (pv 2))) pe_str (nomark _)))))))
        (pss_one (ps_aug (i := 2) nd rfl (Or.inl rfl) pe_int iop_add)))
      (pss_cons (ps_if (pt_cmpR op_eq (pv 2) (pv 1) (nomark _)) (pss_one (ps_raise rfl (takes_of rfl rfl rfl rfl) (pmk_oex (dvs := []) Y.o i1 i2 i4 (hr.mono (j := 2) (by decide)) i3 .nil pass0 rfl Y.g (pa_cons (pv 1) pa_nil)))) pss_nil)
      (pss_one (ps_ret (pe_tup (pa_cons (pe_callTy call_int_str rfl B.int (by decide +kernel) (pa_cons (pe_slice sl_str (pv 0) (po_some (pv 1)) (po_some (pv 2))) pa_nil)) (pa_cons (pv 2) pa_nil))))))), ?_⟩
    dsimp only [gName, tSeq, List.set, L2.start]
    refine ⟨_, rfl, ?_⟩
    obtain ⟨d, hd⟩ : ∃ d, d = (tl z).drop p := ⟨_, rfl⟩
    have hdl : d.length = (tl z).length - p := by rw [hd, List.length_drop]
    have hat : ∀ e : Nat, (tl z)[p + e]? = d[e]? := fun e => by rw [hd, List.getElem?_drop]
    dsimp only [gName, tSeq, List.set, List.map, List.replicate, List.append, List.length]
    refine via (fun σ H2 => σ = [some (.str z), some (.int (p : Int)), some (.int ((p + numN d : Nat) : Int))] ∧ H2 = H) ?_ (fun nx hnx => ?_)
    rotate_left
    refine while_by (fun σ H2 => ∃ e : Nat, σ = [some (.str z), some (.int (p : Int)), some (.int ((p + e : Nat) : Int))] ∧ H2 = H ∧ e ≤ numN d)
      (fun σ _ => match σ with
        | [_, _, some (.int a)] => p + 20 - a.toNat
        | _ => 0) ⟨0, rfl, rfl, Nat.zero_le _⟩ ?_ ?_
    · rintro σ H2 ⟨e, rfl, rfl, he⟩
      have hgo := numN_go d e he
      have hle := numN_le d
      have hzl : z.length = (tl z).length := str_len z
      refine ⟨_, rfl, _, rfl, _, z.length, rfl, ⟨hz.sz, rfl⟩, _, _, rfl, rfl, _, rfl, ?_⟩
      by_cases c1 : p + e < (tl z).length
      · rw [decide_eq_true (show ((p + e : Nat) : Int) < (z.length : Int) by omega)]
        have he1 : e < d.length := by omega
        have hc : d[e]? = some d[e] := List.getElem?_eq_getElem he1
        refine iteT ⟨_, rfl, _, rfl, z, _, d[e], rfl, rfl, hz.sz, atI_nat (by rw [← hc]; exact hat e), d[e], _, rfl, rfl, _, rfl, ?_⟩
        rw [digits_mem]
        by_cases c2 : dg d[e] = true
        · rw [c2]
          refine iteT ⟨_, rfl, _, rfl, _, _, rfl, rfl, _, _, rfl, rfl, _, rfl, ?_⟩
          by_cases c3 : e < 12
          · rw [decide_eq_true (show ((p + e : Nat) : Int) - (p : Int) < 12 by omega)]
            refine iteT ⟨_, rfl, _, rfl, _, rfl, _, rfl, _, rfl, z, rfl, hz.sz, rfl, _, rfl, ?_⟩
            by_cases c4 : d.take e = [48]
            · have e4 := (cut_nought z (p := p) (e := e)).mpr (by rw [← hd]; exact c4)
              rw [decide_eq_true e4]
              have hn : ¬ e < numN d := fun q => (hgo.mpr q).2.2 c4
              exact iteF (hnx _ _ ⟨by rw [show e = numN d by omega], rfl⟩)
            · have e4 : ¬ V.str (L2.cutS z (some (p : Int)) (some (((p + e : Nat)) : Int))) = V.str (Str.ofString "0") := fun q => c4 (by have := (cut_nought z).mp q; rw [← hd] at this; exact this)
              rw [decide_eq_false e4]
              have hy : e < numN d := hgo.mp ⟨⟨_, hc, c2⟩, c3, c4⟩
              refine iteT ⟨_, rfl, _, _, rfl, rfl, ⟨e + 1, ?_, rfl, hy⟩, ?_⟩
              · rfl
              · show p + 20 - (((p + e : Nat) : Int) + 1).toNat < p + 20 - ((p + e : Nat) : Int).toNat
                omega
          · rw [decide_eq_false (show ¬ ((p + e : Nat) : Int) - (p : Int) < 12 by omega)]
            have hn : ¬ e < numN d := fun q => c3 (hgo.mpr q).2.1
            exact iteF (iteF (hnx _ _ ⟨by rw [show e = numN d by omega], rfl⟩))
        · rw [Bool.eq_false_iff.mpr c2]
          have hn : ¬ e < numN d := fun q => by
            obtain ⟨c, h1, h2⟩ := (hgo.mpr q).1
            rw [hc] at h1
            rw [Option.some.inj h1] at c2
            exact c2 h2
          exact iteF (iteF (hnx _ _ ⟨by rw [show e = numN d by omega], rfl⟩))
      · rw [decide_eq_false (show ¬ ((p + e : Nat) : Int) < (z.length : Int) by omega)]
        have hn : ¬ e < numN d := fun q => by omega
        exact iteF (iteF (hnx _ _ ⟨by rw [show e = numN d by omega], rfl⟩))
    · exact mt_and (mt_test (me_op (m2_i0 _) (me_var 2) (me_cb (fun _ _ _ _ h ⟨x, n, e1, e2, q⟩ => ⟨x, n, e1, e2, h _ _ q⟩) (ma_cons (me_var 0) ma_nil))))
        (mt_and (mt_test (me_op (fun _ _ _ _ _ h ⟨c, z, e1, e2, q⟩ => ⟨c, z, e1, e2, h _ _ q⟩) (me_op m2_ixS (me_var 0) (me_var 2)) (me_c _)))
        (mt_and (mt_test (me_op (m2_i0 _) (me_op (m2_i0 _) (me_var 2) (me_var 1)) (me_c _)))
          (mt_test (me_op m2_ne (me_sl mr_slS (me_var 0) (mo_part (me_var 1)) (mo_part (me_var 2))) (me_c _)))))
    rintro σ H2 ⟨rfl, rfl⟩
    dsimp only [tSeq]
    refine ⟨_, rfl, _, rfl, rfl, _, rfl, ?_⟩
    by_cases c : numN d = 0
    · have hb : numR (tl z) p = .ill p := by unfold numR; rw [← hd, if_pos c]
      rw [c, Nat.add_zero, decide_eq_true (rfl : V.int (p : Int) = V.int (p : Int))]
      refine iteT ⟨_, rfl, (by show 1 ≤ 1000; decide), fun a ha => ?_⟩
      refine ⟨a, _, rfl, upd_same, fun dx hdx hne => ?_⟩
      have hdx2 : H2 dx = none := by rw [upd_ne hne] at hdx; exact hdx
      refine ⟨rfl, dx, _, upd_same, by rw [upd_ne hne]; exact upd_same, hdx2, ?_⟩
      exact k2 _ hb dx _ (ext_madeT (C := CT) (f := "index") ha hdx2 hne) upd_same
    · have hb : numR (tl z) p = .ok (valN d) (p + numN d) := by unfold numR; rw [← hd, if_neg c]
      rw [decide_eq_false (fun q => by injection q with q; omega : ¬ V.int ((p + numN d : Nat) : Int) = V.int (p : Int))]
      have hv := int_of (z := z) (p := p) (by rw [← hd]; exact c)
      rw [← hd] at hv
      refine iteF ⟨_, rfl, _, rfl, _, rfl, _, rfl, _, rfl, z, rfl, hz.sz, _, _, rfl, hv.1, hv.2, _, rfl, (by show 2 ≤ sizeLine; decide), fun t ht => ?_⟩
      exact k1 _ _ hb t ht
end
end Wd

set_option Elab.async false
set_option linter.all false
set_option maxRecDepth 100000
set_option maxHeartbeats 4000000
namespace Wd
open PySem PySem.Spec PyProof.Rows L2 Bx Gx




















































section
/-! ### rows of numbers, read until no blank stands ahead -/
open TL
inductive NumsR (cs : List Nat) : Nat → List Nat → Rs (List Nat) → Prop
  | stop {p : Nat} {acc : List Nat} : cs[p]? ≠ some 32 → NumsR cs p acc (.ok acc p)
  | ill {p i : Nat} {acc : List Nat} : cs[p]? = some 32 → numR cs (p + 1) = .ill i → NumsR cs p acc (.ill i)
  | more {p v q : Nat} {acc : List Nat} {r : Rs (List Nat)} : cs[p]? = some 32 → numR cs (p + 1) = .ok v q → NumsR cs q (acc ++ [v]) r → NumsR cs p acc r
theorem NumsR.uniq {cs : List Nat} {p : Nat} {acc : List Nat} {r r' : Rs (List Nat)} (h : NumsR cs p acc r) : NumsR cs p acc r' → r = r' := by
  induction h with
  | stop h1 =>
    intro h'
    cases h' with
    | stop _ => rfl
    | ill h2 _ => exact absurd h2 h1
    | more h2 _ _ => exact absurd h2 h1
  | ill h1 e1 =>
    intro h'
    cases h' with
    | stop h2 => exact absurd h1 h2
    | ill h2 e2 => rw [e1] at e2; injection e2 with e2; rw [e2]
    | more h2 e2 _ => rw [e1] at e2; cases e2
  | more h1 e1 _ ih =>
    intro h'
    cases h' with
    | stop h2 => exact absurd h1 h2
    | ill h2 e2 => rw [e1] at e2; cases e2
    | more h2 e2 t =>
      rw [e1] at e2
      injection e2 with e2 e3
      subst e2 e3
      exact ih t
/-- how many blanks stand from p on -/
def blk (cs : List Nat) (p : Nat) : Nat := (cs.drop p).count 32
theorem blk_le {cs : List Nat} {p q : Nat} (h : p ≤ q) : blk cs q ≤ blk cs p := by
  unfold blk
  rw [show q = p + (q - p) by omega, ← List.drop_drop]
  exact (List.drop_sublist _ _).count_le _
theorem blk_at {cs : List Nat} {p : Nat} (h : cs[p]? = some 32) : blk cs p = blk cs (p + 1) + 1 := by
  obtain ⟨hp, he⟩ := List.getElem?_eq_some_iff.mp h
  unfold blk
  rw [List.drop_eq_getElem_cons hp, he, List.count_cons_self]
theorem NumsR.go {cs : List Nat} {p : Nat} {acc : List Nat} {r : Rs (List Nat)} (h : NumsR cs p acc r) : p ≤ cs.length → ∀ l q, r = .ok l q → p ≤ q ∧ q ≤ cs.length ∧ l.length + blk cs q ≤ acc.length + blk cs p := by
  induction h with
  | stop h1 =>
    intro hp l q e
    injection e with e1 e2
    subst e1 e2
    exact ⟨Nat.le_refl _, hp, Nat.le_refl _⟩
  | ill h1 e1 =>
    intro hp l q e
    cases e
  | @more p v q acc r h1 e1 _ ih =>
    intro hp l q' e
    have hg := numR_go e1
    obtain ⟨a1, a2, a3⟩ := ih hg.2 l q' e
    have hb := blk_at h1
    have hb2 : blk cs q ≤ blk cs (p + 1) := blk_le (by omega)
    rw [List.length_append, List.length_singleton] at a3
    exact ⟨by omega, a2, by omega⟩
theorem nums_ex (cs : List Nat) : ∀ (k p : Nat) (acc : List Nat), cs.length - p ≤ k → ∃ R, NumsR cs p acc R
  | k, p, acc, h => by
    by_cases hb : cs[p]? = some 32
    · have hp := (List.getElem?_eq_some_iff.mp hb).1
      cases e : numR cs (p + 1) with
      | ill i => exact ⟨_, .ill hb e⟩
      | ok v q =>
        have hg := numR_go e
        cases k with
        | zero => omega
        | succ k =>
          obtain ⟨R, hR⟩ := nums_ex cs k q (acc ++ [v]) (by omega)
          exact ⟨R, .more hb e hR⟩
    · exact ⟨_, .stop hb⟩
/-- at least one number, a blank ahead of each -/
inductive Nums1 (cs : List Nat) (p : Nat) : Rs (List Nat) → Prop
  | ill {i : Nat} : byR cs [32] p = .ill i → Nums1 cs p (.ill i)
  | ill2 {i : Nat} : byR cs [32] p = .ok () (p + 1) → numR cs (p + 1) = .ill i → Nums1 cs p (.ill i)
  | ok {v q : Nat} {r : Rs (List Nat)} : byR cs [32] p = .ok () (p + 1) → numR cs (p + 1) = .ok v q → NumsR cs q [v] r → Nums1 cs p r
theorem by_blank {cs : List Nat} {p : Nat} : (cs[p]? = some 32 ∧ byR cs [32] p = .ok () (p + 1)) ∨ (cs[p]? ≠ some 32 ∧ byR cs [32] p = .ill p) := by
  rw [byR]
  by_cases h : cs[p]? = some 32
  · exact .inl ⟨h, by rw [if_pos h, byR]⟩
  · exact .inr ⟨h, by rw [if_neg h]⟩
theorem Nums1.uniq {cs : List Nat} {p : Nat} {r r' : Rs (List Nat)} (h : Nums1 cs p r) (h' : Nums1 cs p r') : r = r' := by
  cases h with
  | ill e =>
    cases h' with
    | ill e2 => rw [e] at e2; injection e2 with e2; rw [e2]
    | ill2 e2 _ => rw [e] at e2; cases e2
    | ok e2 _ _ => rw [e] at e2; cases e2
  | ill2 e f =>
    cases h' with
    | ill e2 => rw [e] at e2; cases e2
    | ill2 e2 f2 => rw [f] at f2; injection f2 with f2; rw [f2]
    | ok e2 f2 _ => rw [f] at f2; cases f2
  | ok e f t =>
    cases h' with
    | ill e2 => rw [e] at e2; cases e2
    | ill2 e2 f2 => rw [f] at f2; cases f2
    | ok e2 f2 t2 =>
      rw [f] at f2
      injection f2 with f2 f3
      subst f2 f3
      exact t.uniq t2
theorem Nums1.go {cs : List Nat} {p : Nat} {l : List Nat} {q : Nat} (h : Nums1 cs p (.ok l q)) : p < q ∧ q ≤ cs.length ∧ l.length + blk cs q ≤ blk cs p ∧ p < cs.length := by
  cases h with
  | ok e f t =>
    have hg := numR_go f
    have hb : cs[p]? = some 32 := by
      rcases by_blank (cs := cs) (p := p) with h | h
      · exact h.1
      · rw [e] at h; cases h.2
    have h1 := blk_at hb
    obtain ⟨a1, a2, a3⟩ := t.go hg.2 l q rfl
    rename_i v q0
    have hb2 : blk cs q0 ≤ blk cs (p + 1) := blk_le (by omega)
    rw [List.length_singleton] at a3
    exact ⟨by omega, a2, by omega, (List.getElem?_eq_some_iff.mp hb).1⟩
theorem nums1_ex (cs : List Nat) (p : Nat) : ∃ R, Nums1 cs p R := by
  rcases by_blank (cs := cs) (p := p) with h | h
  · cases e : numR cs (p + 1) with
    | ill i => exact ⟨_, .ill2 h.2 e⟩
    | ok v q =>
      obtain ⟨R, hR⟩ := nums_ex cs _ q [v] (Nat.le_refl _)
      exact ⟨R, .ok h.2 e hR⟩
  · exact ⟨_, .ill h.2⟩
/-- a border row's begin: a line feed, a place, a colon -/
def headR (cs : List Nat) (p : Nat) : Rs Nat := match byR cs [10] p with
  | .ill i => .ill i
  | .ok _ p1 => match numR cs p1 with
    | .ill i => .ill i
    | .ok v p2 => match byR cs [58] p2 with
      | .ill i => .ill i
      | .ok _ p3 => .ok v p3
theorem headR_go {cs : List Nat} {p v q : Nat} (h : headR cs p = .ok v q) : p < q ∧ q ≤ cs.length := by
  unfold headR at h
  cases e1 : byR cs [10] p with
  | ill i => rw [e1] at h; cases h
  | ok u p1 =>
    rw [e1] at h
    dsimp only at h
    cases e2 : numR cs p1 with
    | ill i => rw [e2] at h; cases h
    | ok v2 p2 =>
      rw [e2] at h
      dsimp only at h
      cases e3 : byR cs [58] p2 with
      | ill i => rw [e3] at h; cases h
      | ok u3 p3 =>
        rw [e3] at h
        injection h with h1 h2
        subst h1 h2
        have a1 := byR_one e1
        have a2 := numR_go e2
        have a3 := byR_one e3
        omega
/-- border rows up to the text's end -/
inductive LandR (cs : List Nat) : Nat → List (Nat × List Nat) → Rs (List (Nat × List Nat)) → Prop
  | done {p : Nat} {rows : List (Nat × List Nat)} : cs.length ≤ p → LandR cs p rows (.ok rows p)
  | ill {p i : Nat} {rows : List (Nat × List Nat)} : p < cs.length → headR cs p = .ill i → LandR cs p rows (.ill i)
  | ill2 {p v q i : Nat} {rows : List (Nat × List Nat)} : p < cs.length → headR cs p = .ok v q → Nums1 cs q (.ill i) → LandR cs p rows (.ill i)
  | row {p v q q2 : Nat} {l : List Nat} {rows : List (Nat × List Nat)} {r : Rs (List (Nat × List Nat))} : p < cs.length → headR cs p = .ok v q → Nums1 cs q (.ok l q2) → LandR cs q2 (rows ++ [(v, l)]) r → LandR cs p rows r
theorem LandR.uniq {cs : List Nat} {p : Nat} {rows : List (Nat × List Nat)} {r r' : Rs (List (Nat × List Nat))} (h : LandR cs p rows r) : LandR cs p rows r' → r = r' := by
  induction h with
  | done h1 =>
    intro h'
    cases h' with
    | done _ => rfl
    | ill h2 => omega
    | ill2 h2 => omega
    | row h2 => omega
  | ill h1 e1 =>
    intro h'
    cases h' with
    | done h2 => omega
    | ill h2 e2 => rw [e1] at e2; injection e2 with e2; rw [e2]
    | ill2 h2 e2 => rw [e1] at e2; cases e2
    | row h2 e2 => rw [e1] at e2; cases e2
  | ill2 h1 e1 n1 =>
    intro h'
    cases h' with
    | done h2 => omega
    | ill h2 e2 => rw [e1] at e2; cases e2
    | ill2 h2 e2 n2 =>
      rw [e1] at e2
      injection e2 with e2 e3
      subst e2 e3
      have := n1.uniq n2
      injection this with this
      rw [this]
    | row h2 e2 n2 =>
      rw [e1] at e2
      injection e2 with e2 e3
      subst e2 e3
      cases n1.uniq n2
  | row h1 e1 n1 _ ih =>
    intro h'
    cases h' with
    | done h2 => omega
    | ill h2 e2 => rw [e1] at e2; cases e2
    | ill2 h2 e2 n2 =>
      rw [e1] at e2
      injection e2 with e2 e3
      subst e2 e3
      cases n1.uniq n2
    | row h2 e2 n2 t =>
      rw [e1] at e2
      injection e2 with e2 e3
      subst e2 e3
      have := n1.uniq n2
      injection this with e4 e5
      subst e4 e5
      exact ih t
theorem land_ex (cs : List Nat) : ∀ (k p : Nat) (rows : List (Nat × List Nat)), cs.length - p ≤ k → ∃ R, LandR cs p rows R
  | k, p, rows, h => by
    by_cases hp : p < cs.length
    · cases e : headR cs p with
      | ill i => exact ⟨_, .ill hp e⟩
      | ok v q =>
        have hg := headR_go e
        obtain ⟨S, hS⟩ := nums1_ex cs q
        cases S with
        | ill i => exact ⟨_, .ill2 hp e hS⟩
        | ok l q2 =>
          have hg2 := hS.go
          cases k with
          | zero => omega
          | succ k =>
            obtain ⟨R, hR⟩ := land_ex cs k q2 (rows ++ [(v, l)]) (by omega)
            exact ⟨R, .row hp e hS hR⟩
    · exact ⟨_, .done (by omega)⟩
/-- the borders that rows name, as they are named -/
def bordN (rows : List (Nat × List Nat)) : List (Nat × Nat) := rows.flatMap fun x => x.2.map fun o => (min x.1 o, max x.1 o)
theorem bordN_app (rows : List (Nat × List Nat)) (v : Nat) (l : List Nat) : bordN (rows ++ [(v, l)]) = bordN rows ++ l.map fun o => (min v o, max v o) := by
  unfold bordN
  rw [List.flatMap_append]
  simp
theorem LandR.len {cs : List Nat} {p : Nat} {rows : List (Nat × List Nat)} {r : Rs (List (Nat × List Nat))} (h : LandR cs p rows r) : ∀ rs q, r = .ok rs q → (bordN rs).length ≤ (bordN rows).length + blk cs p := by
  induction h with
  | done h1 =>
    intro rs q e
    injection e with e _
    subst e
    omega
  | ill h1 e1 =>
    intro rs q e
    cases e
  | ill2 h1 e1 n1 =>
    intro rs q e
    cases e
  | @row p v q q2 l rows r h1 e1 n1 _ ih =>
    intro rs q' e
    have h2 := ih rs q' e
    have hg := n1.go
    have hg2 := headR_go e1
    have hb : blk cs q ≤ blk cs p := blk_le (by omega)
    rw [bordN_app, List.length_append, List.length_map] at h2
    omega
end
end Wd

set_option Elab.async false
set_option linter.all false
set_option maxRecDepth 100000
set_option maxHeartbeats 4000000
namespace Wd
open PySem PySem.Spec PyProof.Rows L2 Bx Gx




















































section
variable {P : Program} {w : World} {K : PySem.W.Frag} {mg : Str → Option Value} {base : Heap}
/-! ### check_once: the first word that stands twice -/
open TL
abbrev initTwiceS : Stmt := initTxt st_Twice
theorem sc_initTwice : FnScope ["self", "word"] ["self", "word"] (defScope initTwiceS) := ⟨rfl, rfl, rfl, by decide +kernel, rfl, by decide +kernel, by decide +kernel⟩
theorem ok_initTwice {f C : Addr} {fd : FuncData} (F : Fun K "__init__" "Twice.__init__" initTwiceS f fd) (T : OexC K C) (hno : PySem.W.findIn K (.ref C) "word" = some none) : FnOk P w K mg base CX0 1 f fd ["self", "word"] (fun vs H Q _ => ∃ (a : Addr) (v : V), vs = [.ref a, v] ∧ H a = some (exo a C none) ∧ ∀ dx, H dx = none → dx ≠ a → Q .non (upd (upd H dx (exd dx [("word", v)])) a (exo a C (some dx)))) := by
  refine F.ok sc_initTwice (fun vs H Q E h => ?_) (fun cdv A outer s H vs Q E hr h => ?_)
  · obtain ⟨a, v, rfl, _⟩ := h
    rfl
  · obtain ⟨a, v, rfl, ha, k⟩ := h
    refine ⟨_, pss_one (ps_ost (pv 0) (pv 1)), ?_⟩
    exact ⟨_, rfl, _, rfl, a, C, rfl, T, hno, .inl ⟨ha, k⟩⟩
/-- an own error with one field -/
def XV (C : Addr) (f : Str) (v : V) (H : Hp) (E : XK) : Prop := ∀ (d : Addr) (H' : Hp), Ext H H' → H' d = some (.xd [(f, v)]) → E (.ref C) (some d) H'
theorem XV.ext {C : Addr} {f : Str} {v : V} {H H' : Hp} {E : XK} (h : XV C f v H E) (x : Ext H H') : XV C f v H' E := fun d H2 x2 e => h d H2 (x.trans x2) e
/-- the first word that is among those ahead of it -/
def twiceW : List Str → List Str → Option Str
  | _, [] => none
  | seen, a :: r => if a ∈ seen then some a else twiceW (seen ++ [a]) r
def spOnce (K : PySem.W.Frag) (C : Addr) : Sp := fun vs H Q E => ∃ (d : Addr) (ws : List Str), vs = [.ref d] ∧ SqL K H d (ws.map V.str) ∧ ws.length ≤ 500 ∧ (twiceW [] ws = none → ∀ H', Ext H H' → Q .non H') ∧ (∀ a, twiceW [] ws = some a → XV C "word" (.str a) H E)
abbrev onN : List Str := ["words", "seen", "word"]
theorem sc_once : FnScope onN ["words"] (defScope st_check_once) := ⟨rfl, rfl, rfl, by decide +kernel, rfl, by decide +kernel, by decide +kernel⟩
theorem ok_once {f CW : Addr} {fd : FuncData} (F : Fun K "check_once" "check_once" st_check_once f fd) (B : Bl mg) (Y : Yc P w K mg base "Twice" CW "word") : FnOk P w K mg base (L2.CX P w) 3 f fd ["words"] (spOnce K CW) := by
  refine F.okX sc_once (fun vs H Q E h => ?_) (fun cdv A outer s H vs Q E hr h => ?_)
  · obtain ⟨d, ws, rfl, _⟩ := h
    rfl
  · obtain ⟨d, ws, rfl, hd, hl, k1, k2⟩ := h
    have nd := sc_once.nd
    obtain ⟨fI, fdI, i1, i2, i3, i4⟩ := Y.i
    refine ⟨_, pss_cons (ps_set (i := 1) nd rfl (Or.inl rfl) (pe_callTy0 cr_set0K rfl B.set (by decide +kernel)))
      (pss_one (ps_for (passes_of rfl) rfl (pi_list (pv 0)) (pg_name (i := 2) nd rfl (Or.inl rfl))
        (pss_cons (ps_if (pt_cmpR or_sinK (pv 2) (pv 1) (by rfl)) (pss_one (ps_raise rfl (takes_of rfl rfl rfl rfl) (pmk_oex (dvs := []) Y.o i1 i2 i4 (hr.mono (j := 2) (by decide)) i3 .nil pass0 rfl Y.g (pa_cons (pv 2) pa_nil)))) pss_nil)
        (pss_one (ps_expr (pe_saddK (pv 1) (pa_cons (pv 2) pa_nil))))))), ?_⟩
    refine ⟨rfl, fun S hS => ?_⟩
    dsimp only [gName, tSeq, List.set, L2.start, List.map, List.replicate, List.append, List.length]
    have hkS : ∀ x : Str, kV (Sum.inr x : L2.Key) = V.str x := fun _ => rfl
    refine ⟨_, rfl, d, rfl, ⟨_, (Ext.new hS).sqL hd⟩, for_list (K := K) (a := d) (xs := ws.map V.str) (fun i σ G => ∃ (o2 : Option V) (M : L2.Key → Bool) (n : Nat), σ = [some (.ref d), some (.ref S), o2] ∧ Ext H G ∧ G S = some (SetK P w S M n) ∧ n ≤ i ∧ (∀ x : Str, M (.inr x) = decide (x ∈ ws.take i)) ∧ twiceW [] ws = twiceW (ws.take i) (ws.drop i))
      ⟨none, _, 0, rfl, .new hS, upd_same, Nat.le_refl _, (fun x => by simp), (by rw [List.take_zero, List.drop_zero])⟩ (fun i σ G _ ⟨o2, M, n, e, x, _⟩ => x.sqL hd) (fun i v σ G hv ⟨o2, M, n, e, x, hM, hn, hm, ht⟩ => ?_) (fun σ G ⟨o2, M, n, e, x, hM, hn, hm, ht⟩ => ?_)⟩
    · subst e
      rw [List.getElem?_map] at hv
      cases ha : ws[i]? with
      | none => rw [ha] at hv; cases hv
      | some a =>
        rw [ha] at hv
        obtain rfl := Option.some.inj hv
        obtain ⟨hi, he⟩ := List.getElem?_eq_some_iff.mp ha
        rw [List.drop_eq_getElem_cons hi, he, twiceW] at ht
        refine ⟨_, rfl, _, rfl, Sum.inr a, S, M, n, rfl, rfl, hM, _, rfl, ?_⟩
        show if M (Sum.inr a) = true then _ else _
        rw [hm a]
        by_cases hin : a ∈ ws.take i
        · rw [if_pos hin] at ht
          rw [decide_eq_true hin]
          refine iteT ⟨_, rfl, (by show 1 ≤ 1000; decide), fun a0 ha0 => ?_⟩
          refine ⟨a0, _, rfl, upd_same, fun dx hdx hne => ?_⟩
          have hdx2 : G dx = none := by rw [upd_ne hne] at hdx; exact hdx
          refine ⟨rfl, dx, _, upd_same, by rw [upd_ne hne]; exact upd_same, hdx2, ?_⟩
          exact (k2 a ht).ext x dx _ (ext_madeT (C := CW) (f := "word") ha0 hdx2 hne) upd_same
        · rw [if_neg hin] at ht
          rw [decide_eq_false hin]
          refine iteF ?_
          dsimp only [tNext, tSeq, gName, List.set]
          have hsb : 502 < scanBound := by decide
          refine ⟨_, rfl, ⟨S, M, n, rfl, hM⟩, _, rfl, S, Sum.inr a, M, n, rfl, rfl, hM, by omega, some (.str a), _, _, rfl, x.write hS, upd_same, ?_, fun y => ?_, ?_⟩
          · split <;> omega
          · rw [hm y, ← Bool.decide_or, decide_eq_decide, List.take_add_one, ha, List.mem_append]
            exact or_congr Iff.rfl ⟨fun q => by injection q with q; exact List.mem_singleton.mpr q, fun q => by rw [List.mem_singleton.mp q]⟩
          · rw [ht, List.take_add_one, ha]
            rfl
    · subst e
      rw [List.length_map, List.drop_length, twiceW] at ht
      exact k1 ht G x
end
end Wd

set_option Elab.async false
set_option linter.all false
set_option maxRecDepth 100000
set_option maxHeartbeats 4000000
namespace Wd
open PySem PySem.Spec PyProof.Rows L2 Bx Gx




















































section
/-! ### numbers that are read are below 10 ^ 12 -/
open TL
theorem log2_lt {i : Int} {m k : Nat} (h : 0 ≤ i ∧ i ≤ m) (hm : m < 2 ^ k) (hk : 0 < k) : i.natAbs.log2 < k := by
  by_cases z : i.natAbs = 0
  · rw [z]; exact hk
  · exact (Nat.log2_lt z).mpr (by omega)
theorem fold_lt : ∀ (cs : List Nat) (a k : Nat), (∀ c ∈ cs, c ≤ 57) → a < 10 ^ k → cs.foldl (fun acc c => acc * 10 + (c - 48)) a < 10 ^ (k + cs.length)
  | [], a, k, _, h => h
  | c :: cs, a, k, hc, h => by
    have h1 := hc c List.mem_cons_self
    have h2 : a * 10 + (c - 48) < 10 ^ (k + 1) := by
      rw [Nat.pow_succ]
      omega
    have := fold_lt cs _ (k + 1) (fun x hx => hc x (List.mem_cons_of_mem _ hx)) h2
    rw [List.foldl_cons, List.length_cons, show k + (cs.length + 1) = k + 1 + cs.length by omega]
    exact this
theorem valN_lt (d : List Nat) : valN d < 10 ^ 12 := by
  unfold valN PySem.NumText.digitsVal
  have h := fold_lt (d.take (numN d)) 0 0 (fun c hc => (numN_dig d c hc).2) (by decide)
  have hl : (d.take (numN d)).length ≤ 12 := by
    rw [List.length_take]
    have := numN_le d
    omega
  exact Nat.lt_of_lt_of_le h (Nat.pow_le_pow_right (by decide) (by omega))
theorem numR_lt {cs : List Nat} {p v q : Nat} (h : numR cs p = .ok v q) : v < 10 ^ 12 := by
  unfold numR at h
  split at h
  · cases h
  · injection h with h _
    rw [← h]
    exact valN_lt _
theorem NumsR.lt {cs : List Nat} {p : Nat} {acc : List Nat} {r : Rs (List Nat)} (h : NumsR cs p acc r) : (∀ x ∈ acc, x < 10 ^ 12) → ∀ l q, r = .ok l q → ∀ x ∈ l, x < 10 ^ 12 := by
  induction h with
  | stop h1 =>
    intro ha l q e
    injection e with e _
    subst e
    exact ha
  | ill h1 e1 =>
    intro ha l q e
    cases e
  | more h1 e1 _ ih =>
    intro ha
    refine ih fun x hx => ?_
    rcases List.mem_append.mp hx with hx | hx
    · exact ha x hx
    · rw [List.mem_singleton.mp hx]
      exact numR_lt e1
theorem Nums1.lt {cs : List Nat} {p : Nat} {l : List Nat} {q : Nat} (h : Nums1 cs p (.ok l q)) : ∀ x ∈ l, x < 10 ^ 12 := by
  cases h with
  | ok e f t => exact t.lt (fun x hx => by rw [List.mem_singleton.mp hx]; exact numR_lt f) l q rfl
theorem headR_lt {cs : List Nat} {p v q : Nat} (h : headR cs p = .ok v q) : v < 10 ^ 12 := by
  unfold headR at h
  cases e1 : byR cs [10] p with
  | ill i => rw [e1] at h; cases h
  | ok u p1 =>
    rw [e1] at h
    dsimp only at h
    cases e2 : numR cs p1 with
    | ill i => rw [e2] at h; cases h
    | ok v2 p2 =>
      rw [e2] at h
      dsimp only at h
      cases e3 : byR cs [58] p2 with
      | ill i => rw [e3] at h; cases h
      | ok u3 p3 =>
        rw [e3] at h
        injection h with h1 h2
        rw [← h1]
        exact numR_lt e2
theorem LandR.lt {cs : List Nat} {p : Nat} {rows : List (Nat × List Nat)} {r : Rs (List (Nat × List Nat))} (h : LandR cs p rows r) : (∀ x ∈ rows, x.1 < 10 ^ 12 ∧ ∀ o ∈ x.2, o < 10 ^ 12) → ∀ rs q, r = .ok rs q → ∀ x ∈ rs, x.1 < 10 ^ 12 ∧ ∀ o ∈ x.2, o < 10 ^ 12 := by
  induction h with
  | done h1 =>
    intro ha rs q e
    injection e with e _
    subst e
    exact ha
  | ill h1 e1 =>
    intro ha rs q e
    cases e
  | ill2 h1 e1 n1 =>
    intro ha rs q e
    cases e
  | row h1 e1 n1 _ ih =>
    intro ha
    refine ih fun x hx => ?_
    rcases List.mem_append.mp hx with hx | hx
    · exact ha x hx
    · rw [List.mem_singleton.mp hx]
      exact ⟨headR_lt e1, n1.lt⟩
end
end Wd

set_option Elab.async false
set_option linter.all false
set_option maxRecDepth 100000
set_option maxHeartbeats 4000000
namespace Wd
open PySem PySem.Spec PyProof.Rows L2 Bx Gx




















































section
variable {P : Program} {w : World} {K : PySem.W.Frag} {mg : Str → Option Value} {base : Heap}
/-! ### read_numbers: none and more -/
open TL
theorem tl_blank : tl (Str.ofString " ") = [32] := by rw [tl_ofString]; decide
theorem tl_feed : tl (Str.ofString "\n") = [10] := by rw [tl_ofString]; decide
theorem tt_via {T : TT} {σ : L2.St} {H : Hp} {Q : Bool → Hp → Prop} (c : Bool) (h : ∀ Q' : Bool → Hp → Prop, Q' c H → T σ H Q') (k : Q c H) : T σ H Q := h Q k
def spNums0 (CT : Addr) : Sp := fun vs H Q E => ∃ (z : Str) (p : Nat) (R : Rs (List Nat)), vs = [.str z, .int (p : Int), .int 0, .non] ∧ Shrt z ∧ p ≤ (tl z).length ∧ blk (tl z) 0 ≤ 900 ∧ NumsR (tl z) p [] R ∧
  (∀ l q, R = .ok l q → ∀ (t d : Addr) H', Ext H H' → H d = none → H' t = some (.tup [.ref d, .int (q : Int)]) → H' d = some (.lst (vsN l)) → Q (.ref t) H') ∧ (∀ i, R = .ill i → XT CT i H E)
abbrev nsN : List Str := ["text", "at", "least", "most", "numbers", "number"]
theorem sc_nums : FnScope nsN ["text", "at", "least", "most"] (defScope st_read_numbers) := ⟨rfl, rfl, rfl, by decide +kernel, rfl, by decide +kernel, by decide +kernel⟩
theorem ok_nums0 {f CT : Addr} {fd : FuncData} (F : Fun K "read_numbers" "read_numbers" st_read_numbers f fd) (B : Bl mg) (c1 : CalX P w K mg base 3 "behind_signs" ["text", "at", "signs"] (spBhd CT)) (c2 : CalX P w K mg base 3 "read_number" ["text", "at"] (spNum CT)) : FnOk P w K mg base (L2.CX P w) 4 f fd ["text", "at", "least", "most"] (spNums0 CT) := by
  refine F.okX sc_nums (fun vs H Q E h => ?_) (fun cdv A outer s H vs Q E hr h => ?_)
  · obtain ⟨z, p, R, rfl, _⟩ := h
    rfl
  · obtain ⟨z, p, R, rfl, hz, hp0, hbl, hR, k1, k2⟩ := h
    have nd := sc_nums.nd
    refine ⟨_, pss_cons (ps_set (i := 4) nd rfl (Or.inl rfl) (pe_lst pa_nil))
      (pss_cons (ps_while (passes_of rfl) (PW.pt (pw_or (pt_cmpR op_lt (pe_callB call_len (by rfl) B.len PySem.boot_len (pa_cons (pv 4) pa_nil)) (pv 2) (nomark _)) (pw_or1 (PW.pt (pw_and (pt_cmpR op_eq (pe_slice sl_str (pv 0) (po_some (pv 1)) (po_some (pe_op op_add (pv 1) pe_int))) pe_str (nomark _)) (pw_and1 (PW.pt (pw_or (pt_cmpR op_isN (pv 3) pe_non (nomark _)) (pw_or1 (pt_cmpR op_lt (pe_callB call_len (by rfl) B.len PySem.boot_len (pa_cons (pv 4) pa_nil)) (pv 3) (nomark _)))))))))))
        (pss_cons (ps_asg (pe_calS c2 (hr.mono (by decide)) (takes_of rfl rfl rfl rfl) rfl (pa_cons (pv 0) (pa_cons (pe_calS c1 (hr.mono (by decide)) (takes_of rfl rfl rfl rfl) rfl (pa_cons (pv 0) (pa_cons (pv 1) (pa_cons pe_str pa_nil)))) pa_nil))) (pg_tup (by rfl) (pgs_cons (pg_name (i := 5) nd rfl (Or.inl rfl)) (pgs_cons (pg_name (i := 1) nd rfl (Or.inl rfl)) pgs_nil))))
        (pss_one (ps_expr (pe_bm PySem.F.plainAttrs_list PySem.F.slot_list_append PySem.F.type_list_append mt_append (pv 4) (pa_cons (pv 5) pa_nil))))))
      (pss_one (ps_ret (pe_tup (pa_cons (pv 4) (pa_cons (pv 1) pa_nil)))))), ?_⟩
    dsimp only [gName, tSeq, List.set, L2.start, List.map, List.replicate, List.append, List.length]
    refine ⟨Nat.zero_le _, fun D hD => ?_⟩
    dsimp only [gName, tSeq, List.set]
    refine while_by (fun σ H2 => ∃ (p' : Nat) (acc : List Nat) (o5 : Option V), σ = [some (.str z), some (.int (p' : Int)), some (.int 0), some .non, some (.ref D), o5] ∧ H2 D = some (.lst (vsN acc)) ∧ Ext H H2 ∧ acc.length + blk (tl z) p' ≤ 900 ∧ NumsR (tl z) p' acc R ∧ p' ≤ (tl z).length)
      (fun σ _ => match σ with
        | [_, some (.int q), _, _, _, _] => (tl z).length - q.toNat
        | _ => 0) ⟨p, [], none, rfl, upd_same, .new hD, by have := blk_le (cs := tl z) (Nat.zero_le p); rw [List.length_nil]; omega, hR, hp0⟩ ?_ ?_
    · rintro σ H2 ⟨p', acc, o5, rfl, e2, x2, hb2, hN, hp'⟩
      have hvl : (vsN acc).length = acc.length := List.length_map _
      refine tt_via (decide ((tl z)[p']? = some 32)) (fun Q' hQ' => ?_) ?_
      · refine ⟨_, rfl, _, acc.length, rfl, .inl ⟨_, SqL.of e2, hvl.symm⟩, _, rfl, _, _, rfl, rfl, _, rfl, ?_⟩
        rw [decide_eq_false (show ¬ ((acc.length : Nat) : Int) < 0 by omega)]
        refine iteF ⟨_, rfl, _, rfl, _, rfl, _, rfl, _, _, rfl, rfl, _, rfl, z, rfl, hz.sz, rfl, _, rfl, ?_⟩
        have e1 : Str.ofString " " = ⟨#[32]⟩ := by decide
        by_cases hc : (tl z)[p']? = some 32
        · rw [decide_eq_true (by rw [e1]; exact (cut_sign z p' 32).mpr hc)]
          rw [decide_eq_true hc] at hQ'
          refine iteT ⟨_, rfl, rfl, _, rfl, ?_⟩
          rw [decide_eq_true (rfl : V.non = V.non)]
          exact iteT hQ'
        · rw [decide_eq_false (by rw [e1]; exact fun y => hc ((cut_sign z p' 32).mp y))]
          rw [decide_eq_false hc] at hQ'
          exact iteF hQ'
      by_cases hb32 : (tl z)[p']? = some 32
      · rw [decide_eq_true hb32]
        refine iteT ?_
        dsimp only [tSeq]
        refine ⟨_, rfl, _, rfl, _, rfl, z, Str.ofString " ", p', rfl, hz, fun u q hu => ?_, fun i hi => ?_⟩
        · rw [tl_blank] at hu
          have hb := byR_one hu
          obtain rfl := hb.1
          refine ⟨z, p' + 1, rfl, hz, fun v q2 hv t ht => ?_, fun i hi => ?_⟩
          · refine ⟨t, _, rfl, SqT.of upd_same, rfl, _, _, rfl, _, _, rfl, rfl, ?_⟩
            have x3 : Ext H2 (upd H2 t (.tup [.int (v : Int), .int (q2 : Int)])) := .new ht
            have e3 := x3.lst e2
            dsimp only [gName, tSeq, List.set]
            have hg := numR_go hv
            have b1 := blk_at hb32
            have b2 : blk (tl z) q2 ≤ blk (tl z) (p' + 1) := blk_le (by omega)
            have more : NumsR (tl z) q2 (acc ++ [v]) R := by
              cases hN with
              | stop h => exact absurd hb32 h
              | ill h f => rw [hv] at f; cases f
              | more h f t =>
                rw [hv] at f
                injection f with f1 f2
                subst f1 f2
                exact t
            refine ⟨_, rfl, .inl ⟨rfl, _, SqL.of e3⟩, _, rfl, D, _, _, rfl, rfl, e3, small1000 (by rw [hvl]; omega), ⟨q2, acc ++ [v], some (.int (v : Int)), rfl, ?_, (x2.trans x3).write hD, by rw [List.length_append, List.length_singleton]; omega, more, hg.2⟩, ?_⟩
            · rw [upd_same]
              show _ = some (HO.lst (List.map _ (acc ++ [v])))
              rw [List.map_append]
              rfl
            · show (tl z).length - (q2 : Int).toNat < (tl z).length - (p' : Int).toNat
              omega
          · exact (k2 i (hN.uniq (.ill hb32 hi))).ext x2
        · rw [tl_blank] at hi
          rcases by_blank (cs := tl z) (p := p') with h | h
          · rw [hi] at h; cases h.2
          · exact absurd hb32 h.1
      · rw [decide_eq_false hb32]
        have hRo : R = .ok acc p' := hN.uniq (.stop hb32)
        refine iteF ⟨_, rfl, _, rfl, (by show 2 ≤ sizeLine; decide), fun t ht => ?_⟩
        exact k1 acc p' hRo t D _ (x2.trans (.new ht)) hD upd_same ((Ext.new ht).lst e2)
    · exact mt_or (mt_test (me_op (m2_i0 _) (me_cb (fun _ _ _ _ h ⟨x, n, e1, e2, q⟩ => ⟨x, n, e1, e2, h _ _ q⟩) (ma_cons (me_var 4) ma_nil)) (me_var 2)))
        (mt_and (mt_test (me_op m2_eq (me_sl mr_slS (me_var 0) (mo_part (me_var 1)) (mo_part (me_op (m2_i0 _) (me_var 1) (me_c _)))) (me_c _)))
          (mt_or (mt_test (me_op (fun _ _ _ _ _ h ⟨e, q⟩ => ⟨e, h _ _ q⟩) (me_var 3) (me_c _)))
            (mt_test (me_op (m2_i0 _) (me_cb (fun _ _ _ _ h ⟨x, n, e1, e2, q⟩ => ⟨x, n, e1, e2, h _ _ q⟩) (ma_cons (me_var 4) ma_nil)) (me_var 3)))))
end
end Wd

set_option Elab.async false
set_option linter.all false
set_option maxRecDepth 100000
set_option maxHeartbeats 4000000
namespace Wd
open PySem PySem.Spec PyProof.Rows L2 Bx Gx




















































section
variable {P : Program} {w : World} {K : PySem.W.Frag} {mg : Str → Option Value} {base : Heap}
/-! ### the jar that a law draws from -/
/-- a jar: two numbers in a list -/
def JarAt (H : Hp) (p : Addr) : Prop := ∃ a b : Int, H p = some (.lst [.int a, .int b]) ∧ 0 ≤ a ∧ 0 ≤ b ∧ b < 4294967296
theorem JarAt.ext {H H' : Hp} {p : Addr} (h : JarAt H p) (x : Ext H H') : JarAt H' p := by
  obtain ⟨a, b, h1, h2⟩ := h
  exact ⟨a, b, x.lst h1, h2⟩
theorem JarAt.notin {H : Hp} {p q : Addr} (h : JarAt H p) (hq : H q = none) : q ∉ [p] := fun e => by
  rw [List.mem_singleton] at e
  obtain ⟨a, b, h1, _⟩ := h
  rw [e, h1] at hq
  cases hq
theorem JarAt.upd {H : Hp} {p q : Addr} {o : HO} (h : JarAt H p) (hq : q ≠ p) : JarAt (upd H q o) p := by
  obtain ⟨a, b, h1, h2⟩ := h
  exact ⟨a, b, by rw [upd_ne (Ne.symm hq)]; exact h1, h2⟩
def spJar (K : PySem.W.Frag) : Sp := fun vs H Q _ => ∃ c : Int, vs = [.int c] ∧ ∀ (p : Addr) (H' : Hp), Ext H H' → H p = none → JarAt H' p → Q (.ref p) H'
theorem sc_jar : FnScope ["cell"] ["cell"] (defScope st__law_jar) := ⟨rfl, rfl, rfl, by decide +kernel, rfl, by decide +kernel, by decide +kernel⟩
theorem ok_jar {f : Addr} {fd : FuncData} (F : Fun K "_law_jar" "_law_jar" st__law_jar f fd) (B : Bl mg) : FnOk P w K mg base CX0 1 f fd ["cell"] (spJar K) := by
  refine F.ok sc_jar (fun vs H Q E h => ?_) (fun cdv A outer s H vs Q E hr h => ?_)
  · obtain ⟨c, rfl, _⟩ := h
    rfl
  · obtain ⟨c, rfl, k⟩ := h
    have nd := sc_jar.nd
    refine ⟨_, pss_cons (ps_set (i := 0) nd rfl (Or.inl rfl) (pe_op op_mod (pe_callTy call_int1 rfl B.int (by decide +kernel) (pa_cons (pv 0) pa_nil)) (pe_op op_mulW (pe_op op_mulW (pe_op op_pow pe_int pe_int) (pe_op op_pow pe_int pe_int)) (pe_op op_pow pe_int pe_int))))
      (pss_one (ps_ret (pe_lst (pa_cons (pe_callB (call_max2 rfl) (by rfl) B.max (by decide +kernel) (pa_cons pe_int (pa_cons (pe_op op_sub (pv 0) (pe_op op_pow pe_int pe_int)) pa_nil))) (pa_cons (pe_op op_add (pe_op op_mod (pv 0) pe_int) pe_int) pa_nil))))), ?_⟩
    refine ⟨_, rfl, .inl ⟨_, rfl, ?_⟩⟩
    refine ⟨_, _, rfl, rfl, ⟨by decide, by decide, by decide⟩, _, _, rfl, rfl, ⟨by decide, by decide, by decide⟩, _, _, rfl, rfl, (by show _ < 1000000; decide +kernel), _, _, rfl, rfl, ⟨by decide, by decide, by decide⟩, _, _, rfl, rfl, (by show _ < 1000000; decide +kernel), _, _, rfl, rfl, (by show (0 : Int) < (10 : Int) ^ (64 : Int).toNat * 10 ^ (64 : Int).toNat * 10 ^ (64 : Int).toNat; decide +kernel), ?_⟩
    generalize (c % ((10 : Int) ^ (64 : Int).toNat * 10 ^ (64 : Int).toNat * 10 ^ (64 : Int).toNat)) = c2
    dsimp only [gName, List.set, L2.start]
    refine ⟨_, rfl, _, _, rfl, rfl, ⟨by decide, by decide, by decide⟩, _, _, rfl, rfl, _, _, rfl, _, rfl, _, _, rfl, rfl, (by show (0 : Int) < 2147483629; decide), _, _, rfl, rfl, (by show 2 ≤ sizeLine; decide), fun p hp => ?_⟩
    refine k p _ (.new hp) hp ⟨_, _, upd_same, ?_, ?_, ?_⟩
    · split <;> omega
    · have := Int.emod_nonneg c2 (show (2147483629 : Int) ≠ 0 by decide)
      omega
    · have := Int.emod_lt_of_pos c2 (show (0 : Int) < 2147483629 by decide)
      omega
def spDrawn (K : PySem.W.Frag) : Sp := fun vs H Q _ => ∃ (p : Addr) (many : Nat), vs = [.ref p, .int (many : Int)] ∧ JarAt H p ∧ 0 < many ∧ many < 2 ^ 62 ∧ ∀ (n : Nat) H', n < many → ExtS [p] H H' → JarAt H' p → Q (.int (n : Int)) H'
abbrev drN : List Str := ["jar", "many", "digit"]
theorem sc_drawn : FnScope drN ["jar", "many"] (defScope st__law_drawn) := ⟨rfl, rfl, rfl, by decide +kernel, rfl, by decide +kernel, by decide +kernel⟩
theorem nat_of {i : Int} {m : Nat} (h0 : 0 ≤ i) (h1 : i < (m : Int)) : ∃ n : Nat, i = (n : Int) ∧ n < m := ⟨i.toNat, by omega, by omega⟩
theorem ok_drawn {f : Addr} {fd : FuncData} (F : Fun K "_law_drawn" "_law_drawn" st__law_drawn f fd) (B : Bl mg) : FnOk P w K mg base CX0 1 f fd ["jar", "many"] (spDrawn K) := by
  refine F.ok sc_drawn (fun vs H Q E h => ?_) (fun cdv A outer s H vs Q E hr h => ?_)
  · obtain ⟨p, many, rfl, _⟩ := h
    rfl
  · obtain ⟨p, many, rfl, ⟨a, b, hp, h0, hb0, hb1⟩, hm0, hm1, k⟩ := h
    have nd := sc_drawn.nd
    have nop : ∀ o, ExtS [p] H (upd H p o) := fun o => (ExtS.refl _ _).write (.inr ⟨by simp, _, hp⟩)
    refine ⟨_, pss_cons (ps_if (pt_cmpR op_gt (pe_ix ix_list (pv 0) pe_int (fun _ _ => rfl)) pe_int (nomark _)) (pss_cons (ps_set (i := 2) nd rfl (Or.inl rfl) (pe_op op_mod (pe_callTy call_int1 rfl B.int (by decide +kernel) (pa_cons (pe_ix ix_list (pv 0) pe_int (fun _ _ => rfl)) pa_nil)) (pv 1)))
        (pss_cons (ps_asg (pe_op op_fdivW (pe_ix ix_list (pv 0) pe_int (fun _ _ => rfl)) (pv 1)) (pg_sub (pv 0) pe_int set_list))
        (pss_one (ps_ret (pv 2))))) pss_nil)
      (pss_cons (ps_asg (pe_op op_mod (pe_callTy call_int1 rfl B.int (by decide +kernel) (pa_cons (pe_op op_add (pe_op op_mul (pe_ix ix_list (pv 0) pe_int (fun _ _ => rfl)) pe_int) pe_int) pa_nil)) pe_int) (pg_sub (pv 0) pe_int set_list))
      (pss_one (ps_ret (pe_op op_mod (pe_op op_fdiv (pe_op op_mod (pe_callTy call_int1 rfl B.int (by decide +kernel) (pa_cons (pe_op op_mul (pe_ix ix_list (pv 0) pe_int (fun _ _ => rfl)) (pe_ix ix_list (pv 0) pe_int (fun _ _ => rfl))) pa_nil)) pe_int) pe_int) (pv 1))))), ?_⟩
    refine ⟨_, rfl, p, _, _, _, rfl, rfl, SqL.of hp, atI_nat (j := 0) rfl, _, _, rfl, rfl, _, rfl, ?_⟩
    by_cases ha : (0 : Int) < a
    · rw [decide_eq_true ha]
      refine iteT ⟨_, rfl, p, _, _, _, rfl, rfl, SqL.of hp, atI_nat (j := 0) rfl, .inl ⟨_, rfl, _, rfl, _, _, rfl, rfl, (by omega), ?_⟩⟩
      have hlog : (many : Int).natAbs.log2 < 9000 := by
        rw [Int.natAbs_natCast]
        have := (Nat.log2_lt (by omega : many ≠ 0)).mpr hm1
        omega
      refine ⟨_, rfl, p, _, _, _, rfl, rfl, SqL.of hp, atI_nat (j := 0) rfl, _, rfl, _, _, rfl, rfl, ⟨by omega, hlog⟩, ?_⟩
      dsimp only [gName, List.set, L2.start, List.map, List.replicate, List.append, List.length]
      refine ⟨_, rfl, p, _, 0, 0, rfl, rfl, hp, rfl, ?_⟩
      obtain ⟨n, hn, hlt⟩ := nat_of (Int.emod_nonneg a (show (many : Int) ≠ 0 by omega)) (Int.emod_lt_of_pos a (show (0 : Int) < (many : Int) by omega))
      rw [hn]
      refine ⟨_, rfl, k n _ hlt (nop _) ⟨_, b, upd_same, Int.ediv_nonneg h0 (by omega), hb0, hb1⟩⟩
    · rw [decide_eq_false ha]
      refine iteF ?_
      dsimp only [tNext, tSeq]
      refine ⟨_, rfl, p, _, _, _, rfl, rfl, SqL.of hp, atI_nat (j := 1) rfl, _, _, rfl, rfl, .inr ⟨by decide, by decide⟩, _, _, rfl, rfl, .inl ⟨_, rfl, _, _, rfl, rfl, (by show (0 : Int) < 2147483647; decide), ?_⟩⟩
      have hc0 := Int.emod_nonneg (b * 48271 + 12820163) (show (2147483647 : Int) ≠ 0 by decide)
      have hc1 := Int.emod_lt_of_pos (b * 48271 + 12820163) (show (0 : Int) < 2147483647 by decide)
      dsimp only [gName, List.set, gSub]
      generalize (b * 48271 + 12820163) % 2147483647 = c at hc0 hc1 ⊢
      refine ⟨_, rfl, p, _, 1, 1, rfl, rfl, hp, rfl, ?_⟩
      have hp2 : (upd H p (.lst ([V.int a, V.int b].set 1 (.int c)))) p = some (.lst [.int a, .int c]) := upd_same
      have x2 := nop (.lst ([V.int a, V.int b].set 1 (.int c)))
      generalize upd H p (.lst ([V.int a, V.int b].set 1 (.int c))) = H2 at hp2 x2 ⊢
      refine ⟨_, rfl, p, _, _, _, rfl, rfl, SqL.of hp2, atI_nat (j := 1) rfl, _, rfl, p, _, _, _, rfl, rfl, SqL.of hp2, atI_nat (j := 1) rfl, _, _, rfl, rfl, .inl ⟨by omega, by omega⟩, .inl ⟨_, rfl, _, _, rfl, rfl, (by show (0 : Int) < 2147483629; decide), _, _, rfl, rfl, ⟨by decide, by decide⟩, _, rfl, _, _, rfl, rfl, (by show (0 : Int) < (many : Int); omega), ?_⟩⟩
      obtain ⟨n, hn, hlt⟩ := nat_of (Int.emod_nonneg (c * c % 2147483629 / 64) (show (many : Int) ≠ 0 by omega)) (Int.emod_lt_of_pos (c * c % 2147483629 / 64) (show (0 : Int) < (many : Int) by omega))
      dsimp only
      rw [hn]
      exact k n _ hlt x2 ⟨a, c, hp2, h0, hc0, by omega⟩
end
end Wd

set_option Elab.async false
set_option linter.all false
set_option maxRecDepth 100000
set_option maxHeartbeats 4000000
namespace Wd
open PySem PySem.Spec PyProof.Rows L2 Bx Gx




















































section
variable {P : Program} {w : World} {K : PySem.W.Frag} {mg : Str → Option Value} {base : Heap}
/-! ### the law's reader: a text, a place in it, the first sign that is wrong -/
open TL
/-- a reader: at z's sign p; the first wrong sign, if there was one -/
def RdAt (H : Hp) (a : Addr) (z : Str) (p : Nat) (il : V) : Prop := H a = some (.lst [.str z, .int (p : Int), il])
def illV : Option Nat → V
  | none => .non
  | some i => .int (i : Int)
def spIll : Sp := fun vs H Q _ => ∃ (a : Addr) (z : Str) (p : Nat) (il : Option Nat), vs = [.ref a] ∧ RdAt H a z p (illV il) ∧ Q .non (upd H a (.lst [.str z, .int (p : Int), illV (il.orElse fun _ => some p)]))
theorem sc_ill : FnScope ["at"] ["at"] (defScope st__law_ill) := ⟨rfl, rfl, rfl, by decide +kernel, rfl, by decide +kernel, by decide +kernel⟩
theorem ok_ill {f : Addr} {fd : FuncData} (F : Fun K "_law_ill" "_law_ill" st__law_ill f fd) : FnOk P w K mg base CX0 1 f fd ["at"] spIll := by
  refine F.ok sc_ill (fun vs H Q E h => ?_) (fun cdv A outer s H vs Q E hr h => ?_)
  · obtain ⟨a, z, p, il, rfl, _⟩ := h
    rfl
  · obtain ⟨a, z, p, il, rfl, ha, k⟩ := h
    have nd := sc_ill.nd
    refine ⟨_, pss_one (ps_asg (pe_ifExp (pt_cmpR op_isN (pe_ix ix_list (pv 0) pe_int (fun _ _ => rfl)) pe_non (nomark _)) (pe_ix ix_list (pv 0) pe_int (fun _ _ => rfl)) (pe_ix ix_list (pv 0) pe_int (fun _ _ => rfl))) (pg_sub (pv 0) pe_int set_list)), ?_⟩
    refine ⟨_, rfl, a, _, _, _, rfl, rfl, SqL.of ha, atI_nat (j := 2) rfl, rfl, _, rfl, ?_⟩
    cases il with
    | none =>
      rw [decide_eq_true (show illV none = V.non from rfl)]
      exact iteT ⟨_, rfl, a, _, _, _, rfl, rfl, SqL.of ha, atI_nat (j := 1) rfl, _, rfl, a, _, 2, 2, rfl, rfl, ha, rfl, k⟩
    | some i =>
      rw [decide_eq_false (fun q => nomatch q : ¬ illV (some i) = V.non)]
      exact iteF ⟨_, rfl, a, _, _, _, rfl, rfl, SqL.of ha, atI_nat (j := 2) rfl, _, rfl, a, _, 2, 2, rfl, rfl, ha, rfl, k⟩
def spSign : Sp := fun vs H Q _ => ∃ (a : Addr) (z : Str) (p : Nat) (il : V), vs = [.ref a] ∧ RdAt H a z p il ∧ Shrt z ∧ Q (.str (L2.cutS z (some (p : Int)) (some ((p : Int) + 1)))) H
theorem spSign_mono (vs : List V) (H : Hp) (Q Q' : VK) (h : ∀ x H1, Q x H1 → Q' x H1) (k : spSign vs H Q E0) : spSign vs H Q' E0 := by
  obtain ⟨a, z, p, il, e1, e2, e3, q⟩ := k
  exact ⟨a, z, p, il, e1, e2, e3, h _ _ q⟩
theorem sc_sign : FnScope ["at"] ["at"] (defScope st__law_sign) := ⟨rfl, rfl, rfl, by decide +kernel, rfl, by decide +kernel, by decide +kernel⟩
theorem ok_sign {f : Addr} {fd : FuncData} (F : Fun K "_law_sign" "_law_sign" st__law_sign f fd) : FnOk P w K mg base CX0 1 f fd ["at"] spSign := by
  refine F.ok sc_sign (fun vs H Q E h => ?_) (fun cdv A outer s H vs Q E hr h => ?_)
  · obtain ⟨a, z, p, il, rfl, _⟩ := h
    rfl
  · obtain ⟨a, z, p, il, rfl, ha, hz, k⟩ := h
    refine ⟨_, pss_one (ps_ret (pe_slice sl_str (pe_ix ix_list (pv 0) pe_int (fun _ _ => rfl)) (po_some (pe_ix ix_list (pv 0) pe_int (fun _ _ => rfl))) (po_some (pe_op op_add (pe_ix ix_list (pv 0) pe_int (fun _ _ => rfl)) pe_int)))), ?_⟩
    exact ⟨_, rfl, a, _, _, _, rfl, rfl, SqL.of ha, atI_nat (j := 0) rfl, _, rfl, a, _, _, _, rfl, rfl, SqL.of ha, atI_nat (j := 1) rfl, _, rfl, _, rfl, a, _, _, _, rfl, rfl, SqL.of ha, atI_nat (j := 1) rfl, _, _, rfl, rfl, _, rfl, z, rfl, hz.sz, k⟩
/-- the reader behind what was read or not -/
def rdTo {α : Type} (z : Str) : Rs α → HO
  | .ok _ q => .lst [.str z, .int (q : Int), .non]
  | .ill i => .lst [.str z, .int (i : Int), .int (i : Int)]
def spBy : Sp := fun vs H Q _ => ∃ (a : Addr) (z sg : Str) (p : Nat), vs = [.ref a, .str sg] ∧ RdAt H a z p .non ∧ Shrt z ∧ Q .non (upd H a (rdTo z (byR (tl z) (tl sg) p)))
abbrev byN : List Str := ["at", "signs", "sign"]
theorem sc_by : FnScope byN ["at", "signs"] (defScope st__law_by) := ⟨rfl, rfl, rfl, by decide +kernel, rfl, by decide +kernel, by decide +kernel⟩
theorem ok_by {f : Addr} {fd : FuncData} (F : Fun K "_law_by" "_law_by" st__law_by f fd) (c1 : Cal P w K mg base 1 "_law_sign" ["at"] spSign) (c2 : Cal P w K mg base 1 "_law_ill" ["at"] spIll) : FnOk P w K mg base CX0 2 f fd ["at", "signs"] spBy := by
  refine F.ok sc_by (fun vs H Q E h => ?_) (fun cdv A outer s H vs Q E hr h => ?_)
  · obtain ⟨a, z, sg, p, rfl, _⟩ := h
    rfl
  · obtain ⟨a, z, sg, p, rfl, ha, hz, k⟩ := h
    have nd := sc_by.nd
    refine ⟨_, pss_one (ps_for PassesOwn.never rfl (pi_str (pv 1)) (pg_name (i := 2) nd rfl (Or.inl rfl))
        (pss_one (ps_if (PW.pt (pw_and (pt_cmpR op_isN (pe_ix ix_list (pv 0) pe_int (fun _ _ => rfl)) pe_non (nomark _)) (pw_and1 (pt_cmpR op_eq (pe_cal c1 (hr.mono (by decide)) rfl (pa_cons (pv 0) pa_nil)) (pv 2) (nomark _))))) (pss_one (ps_asg (pe_op op_add (pe_ix ix_list (pv 0) pe_int (fun _ _ => rfl)) pe_int) (pg_sub (pv 0) pe_int set_list))) (pss_one (ps_expr (pe_cal c2 (hr.mono (by decide)) rfl (pa_cons (pv 0) pa_nil))))))), ?_⟩
    refine ⟨_, rfl, _, rfl, ?_⟩
    have stp : ∀ i c, (tl sg)[i]? = some c → ∀ q, byR (tl z) ((tl sg).drop i) q = if (tl z)[q]? = some c then byR (tl z) ((tl sg).drop (i + 1)) (q + 1) else .ill q := fun i c h q => by
      obtain ⟨hi, he⟩ := List.getElem?_eq_some_iff.mp h
      rw [List.drop_eq_getElem_cons hi, byR, he]
    have updu : ∀ (o1 o2 : HO), upd (upd H a o1) a o2 = upd H a o2 := fun o1 o2 => upd_upd
    refine for_it walk_str (fun i σ H2 => ∃ o2 : Option V, σ = [some (.ref a), some (.str sg), o2] ∧ ((∃ q : Nat, H2 = upd H a (.lst [.str z, .int (q : Int), .non]) ∧ byR (tl z) (tl sg) p = byR (tl z) ((tl sg).drop i) q) ∨ (∃ q : Nat, H2 = upd H a (.lst [.str z, .int (q : Int), .int (q : Int)]) ∧ byR (tl z) (tl sg) p = .ill q)))
      ⟨_, rfl, .inl ⟨p, ?_, rfl⟩⟩ (fun _ _ _ _ _ => trivial) (fun i x σ H2 H3 hi hP hY => ?_) (fun σ H2 hP => ?_)
    · funext b
      by_cases e : b = a
      · rw [e, upd_same]; exact ha
      · rw [upd_ne e]
    · obtain ⟨o3, rfl, hP⟩ := hP
      obtain ⟨rfl, c, hc, rfl⟩ := hY
      have hc' : (tl sg)[i]? = some c := by rw [← hc, Array.getElem?_toList]
      rcases hP with ⟨q, rfl, hb⟩ | ⟨q, rfl, hb⟩
      · rw [stp i c hc' q] at hb
        refine ⟨_, rfl, a, _, _, _, rfl, rfl, SqL.of upd_same, atI_nat (j := 2) rfl, rfl, _, rfl, ?_⟩
        rw [decide_eq_true (rfl : V.non = V.non)]
        refine iteT ⟨_, rfl, a, z, q, .non, rfl, upd_same, hz, _, rfl, rfl, _, rfl, ?_⟩
        by_cases e : (tl z)[q]? = some c
        · rw [decide_eq_true ((cut_sign z q c).mpr e)]
          rw [if_pos e] at hb
          refine iteT ⟨_, rfl, a, _, _, _, rfl, rfl, SqL.of upd_same, atI_nat (j := 1) rfl, _, _, rfl, rfl, _, rfl, a, _, 1, 1, rfl, rfl, upd_same, rfl, some (.str ⟨#[c]⟩), rfl, .inl ⟨q + 1, ?_, hb⟩⟩
          rw [updu]
          rfl
        · rw [decide_eq_false fun y => e ((cut_sign z q c).mp y)]
          rw [if_neg e] at hb
          refine iteF ⟨_, rfl, a, z, q, none, rfl, upd_same, some (.str ⟨#[c]⟩), rfl, .inr ⟨q, ?_, hb⟩⟩
          rw [updu]
          rfl
      · refine ⟨_, rfl, a, _, _, _, rfl, rfl, SqL.of upd_same, atI_nat (j := 2) rfl, rfl, _, rfl, ?_⟩
        rw [decide_eq_false (fun y => nomatch y : ¬ V.int (q : Int) = V.non)]
        refine iteF (iteF ⟨_, rfl, a, z, q, some q, rfl, upd_same, some (.str ⟨#[c]⟩), rfl, .inr ⟨q, ?_, hb⟩⟩)
        rw [updu]
        rfl
    · obtain ⟨o3, rfl, hP⟩ := hP
      rcases hP with ⟨q, rfl, hb⟩ | ⟨q, rfl, hb⟩
      · rw [List.drop_of_length_le (by rw [Array.length_toList]; exact Nat.le_refl _), byR] at hb
        rw [hb] at k
        exact k
      · rw [hb] at k
        exact k
end
end Wd

set_option Elab.async false
set_option linter.all false
set_option maxRecDepth 100000
set_option maxHeartbeats 4000000
namespace Wd
open PySem PySem.Spec PyProof.Rows L2 Bx Gx




















































section
variable {P : Program} {w : World} {K : PySem.W.Frag} {mg : Str → Option Value} {base : Heap}
/-! ### the law's reader: a number -/
open TL
theorem cut_empty (z : Str) (p : Nat) : V.str (L2.cutS z (some (p : Int)) (some ((p : Int) + 1))) = V.str (Str.ofString "") ↔ (tl z).length ≤ p := by
  have h1 := tl_cutN z (Nat.le_succ p)
  rw [show p.succ - p = 1 by omega] at h1
  have h1 : tl (L2.cutS z (some (p : Int)) (some ((p : Int) + 1))) = ((tl z).drop p).take 1 := h1
  have h0 : tl (Str.ofString "") = [] := by rw [tl_ofString]; rfl
  have hl : (((tl z).drop p).take 1).length = min 1 ((tl z).length - p) := by rw [List.length_take, List.length_drop]
  constructor
  · intro h
    injection h with h
    rw [h, h0] at h1
    rw [← h1, List.length_nil] at hl
    omega
  · intro h
    refine congrArg V.str (ext_tl ?_)
    rw [h1, h0]
    refine List.length_eq_zero_iff.mp ?_
    omega
def spRun : Sp := fun vs H Q _ => ∃ (a : Addr) (z : Str) (p : Nat), vs = [.ref a, .str (Str.ofString "0123456789"), .int 12] ∧ RdAt H a z p .non ∧ Shrt z ∧
  Q (.str (L2.cutS z (some (p : Int)) (some ((p + runD 12 ((tl z).drop p) : Nat) : Int)))) (upd H a (if runD 12 ((tl z).drop p) = 0 then .lst [.str z, .int (p : Int), .int (p : Int)] else .lst [.str z, .int ((p + runD 12 ((tl z).drop p) : Nat) : Int), .non]))
abbrev ruN : List Str := ["at", "signs", "top_one", "begin"]
theorem sc_run : FnScope ruN ["at", "signs", "top_one"] (defScope st__law_run) := ⟨rfl, rfl, rfl, by decide +kernel, rfl, by decide +kernel, by decide +kernel⟩
theorem ok_run {f : Addr} {fd : FuncData} (F : Fun K "_law_run" "_law_run" st__law_run f fd) (c1 : Cal P w K mg base 1 "_law_sign" ["at"] spSign) (c2 : Cal P w K mg base 1 "_law_ill" ["at"] spIll) : FnOk P w K mg base CX0 2 f fd ["at", "signs", "top_one"] spRun := by
  refine F.ok sc_run (fun vs H Q E h => ?_) (fun cdv A outer s H vs Q E hr h => ?_)
  · obtain ⟨a, z, p, rfl, _⟩ := h
    rfl
  · obtain ⟨a, z, p, rfl, ha, hz, k⟩ := h
    have nd := sc_run.nd
    refine ⟨_, pss_cons (ps_set (i := 3) nd rfl (Or.inl rfl) (pe_ix ix_list (pv 0) pe_int (fun _ _ => rfl)))
      (pss_cons (ps_while PassesOwn.never (PW.pt (pw_and (pt_cmpR op_isN (pe_ix ix_list (pv 0) pe_int (fun _ _ => rfl)) pe_non (nomark _)) (pw_and (pt_cmpR op_lt (pe_op op_sub (pe_ix ix_list (pv 0) pe_int (fun _ _ => rfl)) (pv 3)) (pv 2) (nomark _)) (pw_and (pt_cmpR op_ne (pe_cal c1 (hr.mono (by decide)) rfl (pa_cons (pv 0) pa_nil)) pe_str (nomark _)) (pw_and1 (pt_cmpR op_in_sign (pe_cal c1 (hr.mono (by decide)) rfl (pa_cons (pv 0) pa_nil)) (pv 1) (by rfl)))))))
        (pss_one (ps_asg (pe_op op_add (pe_ix ix_list (pv 0) pe_int (fun _ _ => rfl)) pe_int) (pg_sub (pv 0) pe_int set_list))))
      (pss_cons (ps_if (pt_cmpR op_eq (pe_ix ix_list (pv 0) pe_int (fun _ _ => rfl)) (pv 3) (nomark _)) (pss_one (ps_expr (pe_cal c2 (hr.mono (by decide)) rfl (pa_cons (pv 0) pa_nil)))) pss_nil)
      (pss_one (ps_ret (pe_slice sl_str (pe_ix ix_list (pv 0) pe_int (fun _ _ => rfl)) (po_some (pv 3)) (po_some (pe_ix ix_list (pv 0) pe_int (fun _ _ => rfl)))))))), ?_⟩
    refine ⟨_, rfl, a, _, _, _, rfl, rfl, SqL.of ha, atI_nat (j := 1) rfl, ?_⟩
    obtain ⟨d, hd⟩ : ∃ d, d = (tl z).drop p := ⟨_, rfl⟩
    rw [← hd] at k
    have hdl : d.length = (tl z).length - p := by rw [hd, List.length_drop]
    have hat : ∀ e : Nat, (tl z)[p + e]? = d[e]? := fun e => by rw [hd, List.getElem?_drop]
    have updu : ∀ (o1 o2 : HO), upd (upd H a o1) a o2 = upd H a o2 := fun o1 o2 => upd_upd
    dsimp only [gName, tSeq, List.set, L2.start, List.map, List.replicate, List.append, List.length]
    refine via (fun σ H2 => σ = [some (.ref a), some (.str (Str.ofString "0123456789")), some (.int 12), some (.int (p : Int))] ∧ H2 = upd H a (.lst [.str z, .int ((p + runD 12 d : Nat) : Int), .non])) ?_ (fun nx hnx => ?_)
    rotate_left
    refine while_by (fun σ H2 => ∃ e : Nat, σ = [some (.ref a), some (.str (Str.ofString "0123456789")), some (.int 12), some (.int (p : Int))] ∧ H2 = upd H a (.lst [.str z, .int ((p + e : Nat) : Int), .non]) ∧ e ≤ runD 12 d)
      (fun _ H2 => match H2 a with
        | some (.lst [_, .int q, _]) => p + 20 - q.toNat
        | _ => 0) ⟨0, rfl, ?_, Nat.zero_le _⟩ ?_ ?_
    · funext b
      by_cases e : b = a
      · rw [e, upd_same]; exact ha
      · rw [upd_ne e]
    · rintro σ H2 ⟨e, rfl, rfl, he⟩
      have hgo := runD_go 12 d e he
      have hle := runD_le 12 d
      have hup : upd H a (.lst [.str z, .int ((p + e : Nat) : Int), .non]) a = some (.lst [.str z, .int ((p + e : Nat) : Int), .non]) := upd_same
      refine ⟨_, rfl, a, _, _, _, rfl, rfl, SqL.of hup, atI_nat (j := 2) rfl, rfl, _, rfl, ?_⟩
      rw [decide_eq_true (rfl : V.non = V.non)]
      refine iteT ⟨_, rfl, a, _, _, _, rfl, rfl, SqL.of hup, atI_nat (j := 1) rfl, _, rfl, _, _, rfl, rfl, _, rfl, _, _, rfl, rfl, _, rfl, ?_⟩
      by_cases c3 : e < 12
      · rw [decide_eq_true (show ((p + e : Nat) : Int) - (p : Int) < 12 by omega)]
        refine iteT ⟨_, rfl, a, z, p + e, .non, rfl, hup, hz, rfl, _, rfl, ?_⟩
        by_cases c1 : p + e < (tl z).length
        · have hne : ¬ V.str (L2.cutS z (some ((p + e : Nat) : Int)) (some (((p + e : Nat) : Int) + 1))) = V.str (Str.ofString "") := fun q => by have := (cut_empty z (p + e)).mp q; omega
          rw [decide_eq_false hne]
          have he1 : e < d.length := by omega
          have hc : d[e]? = some d[e] := List.getElem?_eq_getElem he1
          have hs := (cut_sign z (p + e) d[e]).mpr (by rw [← hc]; exact hat e)
          refine iteT ⟨_, rfl, a, z, p + e, .non, rfl, hup, hz, _, rfl, d[e], _, hs, rfl, _, rfl, ?_⟩
          rw [digits_mem]
          by_cases c2 : dg d[e] = true
          · rw [c2]
            refine iteT ⟨_, rfl, a, _, _, _, rfl, rfl, SqL.of hup, atI_nat (j := 1) rfl, _, _, rfl, rfl, _, rfl, a, _, 1, 1, rfl, rfl, hup, rfl, ⟨e + 1, rfl, ?_, hgo.mp ⟨c3, _, hc, c2⟩⟩, ?_⟩
            · rw [updu]
              rfl
            · rw [updu, hup, upd_same]
              show p + 20 - (((p + e : Nat) : Int) + 1).toNat < p + 20 - ((p + e : Nat) : Int).toNat
              omega
          · rw [Bool.eq_false_iff.mpr c2]
            have hn : ¬ e < runD 12 d := fun q => by
              obtain ⟨c, h1, h2⟩ := (hgo.mpr q).2
              rw [hc] at h1
              rw [Option.some.inj h1] at c2
              exact c2 h2
            exact iteF (hnx _ _ ⟨rfl, by rw [show e = runD 12 d by omega]⟩)
        · have hye : V.str (L2.cutS z (some ((p + e : Nat) : Int)) (some (((p + e : Nat) : Int) + 1))) = V.str (Str.ofString "") := (cut_empty z (p + e)).mpr (by omega)
          rw [decide_eq_true hye]
          have hn : ¬ e < runD 12 d := fun q => by omega
          exact iteF (iteF (hnx _ _ ⟨rfl, by rw [show e = runD 12 d by omega]⟩))
      · rw [decide_eq_false (show ¬ ((p + e : Nat) : Int) - (p : Int) < 12 by omega)]
        have hn : ¬ e < runD 12 d := fun q => c3 (hgo.mpr q).1
        exact iteF (iteF (hnx _ _ ⟨rfl, by rw [show e = runD 12 d by omega]⟩))
    · exact mt_and (mt_test (me_op (fun _ _ _ _ _ h ⟨e, q⟩ => ⟨e, h _ _ q⟩) (me_op (m2_ixL _) (me_var 0) (me_c _)) (me_c _)))
        (mt_and (mt_test (me_op (m2_i0 _) (me_op (m2_i0 _) (me_op (m2_ixL _) (me_var 0) (me_c _)) (me_var 3)) (me_var 2)))
        (mt_and (mt_test (me_op m2_ne (me_call spSign_mono (ma_cons (me_var 0) ma_nil)) (me_c _)))
          (mt_test (me_op (fun _ _ _ _ _ h ⟨c, z, e1, e2, q⟩ => ⟨c, z, e1, e2, h _ _ q⟩) (me_call spSign_mono (ma_cons (me_var 0) ma_nil)) (me_var 1)))))
    rintro σ H2 ⟨rfl, rfl⟩
    dsimp only [tNext, tSeq]
    have hup : ∀ e : Nat, upd H a (.lst [.str z, .int ((p + e : Nat) : Int), .non]) a = some (.lst [.str z, .int ((p + e : Nat) : Int), .non]) := fun e => upd_same
    refine ⟨_, rfl, a, _, _, _, rfl, rfl, SqL.of (hup _), atI_nat (j := 1) rfl, _, rfl, rfl, _, rfl, ?_⟩
    by_cases c : runD 12 d = 0
    · rw [c] at k ⊢
      rw [if_pos rfl] at k
      rw [decide_eq_true (show V.int ((p + 0 : Nat) : Int) = V.int (p : Int) from rfl)]
      refine iteT ⟨_, rfl, a, z, p, none, rfl, hup 0, ?_⟩
      rw [updu]
      dsimp only [tNext, tSeq]
      exact ⟨_, rfl, a, _, _, _, rfl, rfl, SqL.of upd_same, atI_nat (j := 0) rfl, _, rfl, _, rfl, _, rfl, a, _, _, _, rfl, rfl, SqL.of upd_same, atI_nat (j := 1) rfl, _, rfl, z, rfl, hz.sz, k⟩
    · rw [if_neg c] at k
      rw [decide_eq_false (fun q => c (by injection q with q; omega) : ¬ V.int ((p + runD 12 d : Nat) : Int) = V.int (p : Int))]
      refine iteF ?_
      dsimp only [tNext, tSeq]
      exact ⟨_, rfl, a, _, _, _, rfl, rfl, SqL.of (hup _), atI_nat (j := 0) rfl, _, rfl, _, rfl, _, rfl, a, _, _, _, rfl, rfl, SqL.of (hup _), atI_nat (j := 1) rfl, _, rfl, z, rfl, hz.sz, k⟩
end
end Wd

set_option Elab.async false
set_option linter.all false
set_option maxRecDepth 100000
set_option maxHeartbeats 4000000
namespace Wd
open PySem PySem.Spec PyProof.Rows L2 Bx Gx




















































section
variable {P : Program} {w : World} {K : PySem.W.Frag} {mg : Str → Option Value} {base : Heap}
open TL
def valOf : Rs Nat → Nat
  | .ok v _ => v
  | .ill _ => 0
def spNumL : Sp := fun vs H Q _ => ∃ (a : Addr) (z : Str) (p : Nat), vs = [.ref a] ∧ RdAt H a z p .non ∧ Shrt z ∧
  Q (.int ((valOf (numR (tl z) p) : Nat) : Int)) (upd H a (rdTo z (numR (tl z) p)))
theorem numN_48 (d : List Nat) (h : d[0]? = some 48) : numN d = 1 ∧ valN d = 0 := by
  cases d with
  | nil => simp at h
  | cons c r =>
    rw [List.getElem?_cons_zero] at h
    obtain rfl := Option.some.inj h
    have e : numN (48 :: r) = 1 := by rw [numN, if_pos rfl]
    refine ⟨e, ?_⟩
    unfold valN
    rw [e, List.take_succ_cons, List.take_zero]
    decide
theorem numN_not (d : List Nat) (h : d[0]? ≠ some 48) : numN d = runD 12 d := by
  cases d with
  | nil => rfl
  | cons c r =>
    rw [numN, if_neg]
    intro e
    rw [e] at h
    exact h rfl
theorem sign_48 (z : Str) (p : Nat) : V.str (L2.cutS z (some (p : Int)) (some ((p : Int) + 1))) = V.str (Str.ofString "0") ↔ ((tl z).drop p)[0]? = some 48 := by
  have h := cut_sign z p 48
  rw [List.getElem?_drop, Nat.add_zero, ← h]
  have e : Str.ofString "0" = ⟨#[48]⟩ := by decide
  rw [e]
abbrev numLN : List Str := ["at", "digits"]
theorem sc_numL : FnScope numLN ["at"] (defScope st__law_number) := ⟨rfl, rfl, rfl, by decide +kernel, rfl, by decide +kernel, by decide +kernel⟩
theorem ok_numL {f : Addr} {fd : FuncData} (F : Fun K "_law_number" "_law_number" st__law_number f fd) (B : Bl mg) (c1 : Cal P w K mg base 1 "_law_sign" ["at"] spSign) (c2 : Cal P w K mg base 2 "_law_run" ["at", "signs", "top_one"] spRun) : FnOk P w K mg base CX0 3 f fd ["at"] spNumL := by
  refine F.ok sc_numL (fun vs H Q E h => ?_) (fun cdv A outer s H vs Q E hr h => ?_)
  · obtain ⟨a, z, p, rfl, _⟩ := h
    rfl
  · obtain ⟨a, z, p, rfl, ha, hz, k⟩ := h
    have nd := sc_numL.nd
    refine ⟨_, pss_cons (ps_if (PW.pt (pw_and (pt_cmpR op_isN (pe_ix ix_list (pv 0) pe_int (fun _ _ => rfl)) pe_non (nomark _)) (pw_and1 (pt_cmpR op_eq (pe_cal c1 (hr.mono (by decide)) rfl (pa_cons (pv 0) pa_nil)) pe_str (nomark _))))) (pss_cons (ps_asg (pe_op op_add (pe_ix ix_list (pv 0) pe_int (fun _ _ => rfl)) pe_int) (pg_sub (pv 0) pe_int set_list))
        (pss_one (ps_ret pe_int))) pss_nil)
      (pss_cons (ps_set (i := 1) nd rfl (Or.inl rfl) (pe_cal c2 (hr.mono (by decide)) rfl (pa_cons (pv 0) (pa_cons pe_str (pa_cons pe_int pa_nil)))))
      (pss_one (ps_ret (pe_ifExp (pt_cmpR op_isN (pe_ix ix_list (pv 0) pe_int (fun _ _ => rfl)) pe_non (nomark _)) (pe_callTy call_int_str rfl B.int (by decide +kernel) (pa_cons (pv 1) pa_nil)) pe_int)))), ?_⟩
    have updu : ∀ (o1 o2 : HO), upd (upd H a o1) a o2 = upd H a o2 := fun o1 o2 => upd_upd
    refine ⟨_, rfl, a, _, _, _, rfl, rfl, SqL.of ha, atI_nat (j := 2) rfl, rfl, _, rfl, ?_⟩
    rw [decide_eq_true (rfl : V.non = V.non)]
    refine iteT ⟨_, rfl, a, z, p, .non, rfl, ha, hz, rfl, _, rfl, ?_⟩
    by_cases c : ((tl z).drop p)[0]? = some 48
    · rw [decide_eq_true ((sign_48 z p).mpr c)]
      have hb : numR (tl z) p = .ok 0 (p + 1) := by
        have := numN_48 _ c
        unfold numR
        rw [this.1, this.2, if_neg (by decide)]
      rw [hb] at k
      exact iteT ⟨_, rfl, a, _, _, _, rfl, rfl, SqL.of ha, atI_nat (j := 1) rfl, _, _, rfl, rfl, _, rfl, a, _, 1, 1, rfl, rfl, ha, rfl, k⟩
    · rw [decide_eq_false (fun q => c ((sign_48 z p).mp q))]
      refine iteF ?_
      dsimp only [gName, tNext, tSeq, List.set, L2.start, List.map, List.replicate, List.append, List.length]
      have hn := numN_not _ c
      refine ⟨_, rfl, a, z, p, rfl, ha, hz, ?_⟩
      unfold numR at k
      rw [hn] at k
      by_cases c0 : runD 12 ((tl z).drop p) = 0
      · rw [if_pos c0] at k ⊢
        refine ⟨_, rfl, a, _, _, _, rfl, rfl, SqL.of upd_same, atI_nat (j := 2) rfl, rfl, _, rfl, ?_⟩
        rw [decide_eq_false (fun q => nomatch q : ¬ V.int (p : Int) = V.non)]
        exact iteF k
      · rw [if_neg c0] at k ⊢
        have hv := int_of (z := z) (p := p) (by rw [hn]; exact c0)
        rw [hn] at hv
        refine ⟨_, rfl, a, _, _, _, rfl, rfl, SqL.of upd_same, atI_nat (j := 2) rfl, rfl, _, rfl, ?_⟩
        rw [decide_eq_true (rfl : V.non = V.non)]
        exact iteT ⟨_, rfl, _, _, rfl, hv.1, hv.2, k⟩
end
end Wd

set_option Elab.async false
set_option linter.all false
set_option maxRecDepth 100000
set_option maxHeartbeats 4000000
namespace Wd
open PySem PySem.Spec PyProof.Rows L2 Bx Gx




















































section
variable {P : Program} {w : World} {K : PySem.W.Frag} {mg : Str → Option Value} {base : Heap}
/-! ### the law's reader: a row of numbers -/
open TL
inductive RowN (cs : List Nat) (p : Nat) : Rs (List Nat) → Prop
  | ill {i : Nat} : numR cs p = .ill i → RowN cs p (.ill i)
  | ok {v q : Nat} {r : Rs (List Nat)} : numR cs p = .ok v q → NumsR cs q [v] r → RowN cs p r
theorem rowN_nums1 {cs : List Nat} {p : Nat} {r : Rs (List Nat)} (h : RowN cs (p + 1) r) (hb : byR cs [32] p = .ok () (p + 1)) : Nums1 cs p r := by
  cases h with
  | ill e => exact .ill2 hb e
  | ok e t => exact .ok hb e t
theorem rowN_ex (cs : List Nat) (p : Nat) : ∃ R, RowN cs p R := by
  cases e : numR cs p with
  | ill i => exact ⟨_, .ill e⟩
  | ok v q =>
    obtain ⟨R, hR⟩ := nums_ex cs _ q [v] (Nat.le_refl _)
    exact ⟨R, .ok e hR⟩
def spRowL (K : PySem.W.Frag) : Sp := fun vs H Q _ => ∃ (a : Addr) (z : Str) (p : Nat) (R : Rs (List Nat)), vs = [.ref a] ∧ RdAt H a z p .non ∧ Shrt z ∧ blk (tl z) 0 ≤ 900 ∧ RowN (tl z) p R ∧
  ∀ (t : Addr) (l : List Nat) H', ExtS [a] H H' → H t = none → H' t = some (.tup (vsN l)) → l.length ≤ 901 → (∀ l' q, R = .ok l' q → l = l' ∧ RdAt H' a z q .non) → (∀ i, R = .ill i → ∃ q : Nat, RdAt H' a z q (.int (i : Int))) → Q (.ref t) H'
abbrev rwLN : List Str := ["at", "found"]
theorem sc_rowL : FnScope rwLN ["at"] (defScope st__law_row) := ⟨rfl, rfl, rfl, by decide +kernel, rfl, by decide +kernel, by decide +kernel⟩
theorem ok_rowL {f : Addr} {fd : FuncData} (F : Fun K "_law_row" "_law_row" st__law_row f fd) (c1 : Cal P w K mg base 1 "_law_sign" ["at"] spSign) (c2 : Cal P w K mg base 2 "_law_by" ["at", "signs"] spBy) (c3 : Cal P w K mg base 3 "_law_number" ["at"] spNumL) : FnOk P w K mg base CX0 4 f fd ["at"] (spRowL K) := by
  refine F.ok sc_rowL (fun vs H Q E h => ?_) (fun cdv A outer s H vs Q E hr h => ?_)
  · obtain ⟨a, z, p, R, rfl, _⟩ := h
    rfl
  · obtain ⟨a, z, p, R, rfl, ha, hz, hbl, hR, k⟩ := h
    have nd := sc_rowL.nd
    refine ⟨_, pss_cons (ps_set (i := 1) nd rfl (Or.inl rfl) (pe_tup (pa_cons (pe_cal c3 (hr.mono (by decide)) rfl (pa_cons (pv 0) pa_nil)) pa_nil)))
      (pss_cons (ps_while PassesOwn.never (PW.pt (pw_and (pt_cmpR op_isN (pe_ix ix_list (pv 0) pe_int (fun _ _ => rfl)) pe_non (nomark _)) (pw_and1 (pt_cmpR op_eq (pe_cal c1 (hr.mono (by decide)) rfl (pa_cons (pv 0) pa_nil)) pe_str (nomark _)))))
        (pss_cons (ps_expr (pe_cal c2 (hr.mono (by decide)) rfl (pa_cons (pv 0) (pa_cons pe_str pa_nil))))
        (pss_one (ps_set (i := 1) nd rfl (Or.inl rfl) (pe_op op_catA (pv 1) (pe_tup (pa_cons (pe_cal c3 (hr.mono (by decide)) rfl (pa_cons (pv 0) pa_nil)) pa_nil)))))))
      (pss_one (ps_ret (pv 1)))), ?_⟩
    have rdS : ∀ {G : Hp} {q : Nat} {il : V}, RdAt G a z q il → ∀ o', ExtS [a] G (upd G a o') := fun h o' => (ExtS.refl _ _).write (.inr ⟨by simp, _, h⟩)
    refine ⟨_, rfl, a, z, p, rfl, ha, hz, by show 1 ≤ sizeLine; decide, fun t ht => ?_⟩
    have hat : a ≠ t := ne_of_none (upd_same : upd H a (rdTo z (numR (tl z) p)) a = _) ht
    have htH : H t = none := (rdS ha _).free ht
    have x1 : ExtS [a] H (upd (upd H a (rdTo z (numR (tl z) p))) t (.tup (vsN [valOf (numR (tl z) p)]))) := (rdS ha _).trans (.new ht)
    have eA : (upd (upd H a (rdTo z (numR (tl z) p))) t (.tup (vsN [valOf (numR (tl z) p)]))) a = some (rdTo z (numR (tl z) p)) := by rw [upd_ne hat, upd_same]
    have eT : (upd (upd H a (rdTo z (numR (tl z) p))) t (.tup (vsN [valOf (numR (tl z) p)]))) t = some (.tup (vsN [valOf (numR (tl z) p)])) := upd_same
    dsimp only [gName, tSeq, List.set, L2.start, List.append, List.length]
    show tWhile _ _ _ _ (upd (upd H a (rdTo z (numR (tl z) p))) t (.tup (vsN [valOf (numR (tl z) p)])))
    generalize (upd (upd H a (rdTo z (numR (tl z) p))) t (.tup (vsN [valOf (numR (tl z) p)]))) = H1 at x1 eA eT ⊢
    refine while_by (fun σ G => ∃ (l : List Nat) (t : Addr), σ = [some (.ref a), some (.ref t)] ∧ G t = some (.tup (vsN l)) ∧ H t = none ∧ l ≠ [] ∧ ExtS [a] H G ∧
        ((∃ q : Nat, RdAt G a z q .non ∧ NumsR (tl z) q l R ∧ q ≤ (tl z).length ∧ l.length + blk (tl z) q ≤ 901) ∨ (l.length ≤ 901 ∧ ∃ i q : Nat, RdAt G a z q (.int (i : Int)) ∧ R = .ill i)))
      (fun _ G => match G a with
        | some (.lst [_, .int q, .non]) => (tl z).length + 1 - q.toNat
        | _ => 0) ⟨[valOf (numR (tl z) p)], t, rfl, eT, htH, by simp, x1, ?_⟩ ?_ ?_
    · cases hv : numR (tl z) p with
      | ill i =>
        rw [hv] at eA
        refine .inr ⟨by rw [List.length_singleton]; decide, i, i, eA, ?_⟩
        cases hR with
        | ill e => rw [hv] at e; injection e with e; rw [e]
        | ok e _ => rw [hv] at e; cases e
      | ok v q =>
        rw [hv] at eA
        have hg := numR_go hv
        refine .inl ⟨q, eA, ?_, hg.2, ?_⟩
        · cases hR with
          | ill e => rw [hv] at e; cases e
          | ok e n =>
            rw [hv] at e
            injection e with e1 e2
            subst e1 e2
            exact n
        · have := blk_le (cs := tl z) (Nat.zero_le q)
          rw [List.length_singleton]
          omega
    · rintro σ G ⟨l, t, rfl, eT, htH, hne, x, ⟨q, hA, hN, hq, hb⟩ | ⟨hl9, i, q, hA, hRi⟩⟩
      rotate_left
      · refine ⟨_, rfl, a, _, _, _, rfl, rfl, SqL.of hA, atI_nat (j := 2) rfl, rfl, _, rfl, ?_⟩
        rw [decide_eq_false (fun y => nomatch y : ¬ V.int (i : Int) = V.non)]
        refine iteF (iteF ⟨_, rfl, k t l G x htH eT hl9 (fun l' q' e => by rw [hRi] at e; cases e) (fun i' e => ⟨q, by rw [hRi] at e; injection e with e; rw [← e]; exact hA⟩)⟩)
      · refine ⟨_, rfl, a, _, _, _, rfl, rfl, SqL.of hA, atI_nat (j := 2) rfl, rfl, _, rfl, ?_⟩
        rw [decide_eq_true (rfl : V.non = V.non)]
        refine iteT ⟨_, rfl, a, z, q, .non, rfl, hA, hz, rfl, _, rfl, ?_⟩
        have e32 : Str.ofString " " = ⟨#[32]⟩ := by decide
        by_cases hc : (tl z)[q]? = some 32
        · rw [decide_eq_true (by rw [e32]; exact (cut_sign z q 32).mpr hc)]
          refine iteT ?_
          dsimp only [tSeq]
          have hb32 : byR (tl z) [32] q = .ok () (q + 1) := by
            rcases by_blank (cs := tl z) (p := q) with h | h
            · exact h.2
            · exact absurd hc h.1
          refine ⟨_, rfl, a, z, Str.ofString " ", q, rfl, hA, hz, ?_⟩
          rw [tl_blank, hb32]
          have hA2 : (upd G a (rdTo z (Rs.ok () (q + 1) : Rs Unit))) a = some (rdTo z (Rs.ok () (q + 1) : Rs Unit)) := upd_same
          have x2 : ExtS [a] G (upd G a (rdTo z (Rs.ok () (q + 1) : Rs Unit))) := rdS hA _
          have eT2 : (upd G a (rdTo z (Rs.ok () (q + 1) : Rs Unit))) t = some (.tup (vsN l)) := x2.tup eT
          have hdec : (match G a with | some (.lst [_, .int q, .non]) => (tl z).length + 1 - q.toNat | _ => 0) = (tl z).length + 1 - q := by
            rw [show G a = _ from hA]
            show (tl z).length + 1 - (q : Int).toNat = _
            omega
          rw [hdec]
          clear hdec
          generalize upd G a (rdTo z (Rs.ok () (q + 1) : Rs Unit)) = G2 at hA2 x2 eT2 ⊢
          have hq1 := (List.getElem?_eq_some_iff.mp hc).1
          have hb1 := blk_at hc
          refine ⟨_, rfl, _, rfl, a, z, q + 1, rfl, hA2, hz, by show 1 ≤ sizeLine; decide, fun t2 ht2 => ?_⟩
          have hat2 : a ≠ t2 := ne_of_none (upd_same : upd G2 a (rdTo z (numR (tl z) (q + 1))) a = _) ht2
          have hA3 : (upd G2 a (rdTo z (numR (tl z) (q + 1)))) a = some (rdTo z (numR (tl z) (q + 1))) := upd_same
          have x3 : ExtS [a] G2 (upd G2 a (rdTo z (numR (tl z) (q + 1)))) := rdS hA2 _
          have eT3 := x3.tup eT2
          generalize upd G2 a (rdTo z (numR (tl z) (q + 1))) = G3 at hA3 x3 eT3 ht2 ⊢
          have hvl : (vsN l).length = l.length := List.length_map _
          refine ⟨t, t2, _, _, rfl, rfl, SqT.of ((Ext.new ht2).tup eT3), SqT.of upd_same, ?_, fun y => ?_, fun _ y => (nomatch y), fun _ _ t3 ht3 => ?_⟩
          · have : 2000 ≤ sizeLine := by decide
            rw [hvl, List.length_singleton]
            omega
          · exact absurd (by rw [← List.length_eq_zero_iff, ← hvl, y]; rfl) hne
          have x4 : ExtS [a] G3 (upd (upd G3 t2 (.tup [.int ((valOf (numR (tl z) (q + 1)) : Nat) : Int)])) t3 (.tup (vsN l ++ [.int ((valOf (numR (tl z) (q + 1)) : Nat) : Int)]))) := (ExtS.new ht2).trans (.new ht3)
          have hcat : vsN l ++ [V.int ((valOf (numR (tl z) (q + 1)) : Nat) : Int)] = vsN (l ++ [valOf (numR (tl z) (q + 1))]) := by
            show _ = List.map _ (l ++ [valOf (numR (tl z) (q + 1))])
            rw [List.map_append]
            rfl
          have e5 : (upd (upd G3 t2 (.tup [.int ((valOf (numR (tl z) (q + 1)) : Nat) : Int)])) t3 (.tup (vsN l ++ [.int ((valOf (numR (tl z) (q + 1)) : Nat) : Int)]))) t3 = some (.tup (vsN (l ++ [valOf (numR (tl z) (q + 1))]))) := by rw [upd_same, hcat]
          have hA5 : (upd (upd G3 t2 (.tup [.int ((valOf (numR (tl z) (q + 1)) : Nat) : Int)])) t3 (.tup (vsN l ++ [.int ((valOf (numR (tl z) (q + 1)) : Nat) : Int)]))) a = some (rdTo z (numR (tl z) (q + 1))) := by
            have h1 : (upd G3 t2 (.tup [.int ((valOf (numR (tl z) (q + 1)) : Nat) : Int)])) a = some (rdTo z (numR (tl z) (q + 1))) := by rw [upd_ne hat2]; exact hA3
            rw [upd_ne (ne_of_none h1 ht3)]
            exact h1
          have ht3H : H t3 = none := (((x.trans x2).trans x3).trans (.new ht2)).free ht3
          generalize (upd (upd G3 t2 (.tup [.int ((valOf (numR (tl z) (q + 1)) : Nat) : Int)])) t3 (.tup (vsN l ++ [.int ((valOf (numR (tl z) (q + 1)) : Nat) : Int)]))) = G5 at x4 e5 hA5 ⊢
          have xx := ((x.trans x2).trans x3).trans x4
          refine ⟨⟨l ++ [valOf (numR (tl z) (q + 1))], t3, rfl, e5, ht3H, by simp, xx, ?_⟩, ?_⟩
          · cases hv : numR (tl z) (q + 1) with
            | ill i =>
              rw [hv] at hA5
              refine .inr ⟨by rw [List.length_append, List.length_singleton]; omega, i, i, hA5, hN.uniq (.ill hc hv)⟩
            | ok v q2 =>
              rw [hv] at hA5
              have hg := numR_go hv
              have hb2 : blk (tl z) q2 ≤ blk (tl z) (q + 1) := blk_le (by omega)
              refine .inl ⟨q2, hA5, ?_, hg.2, by rw [List.length_append, List.length_singleton]; omega⟩
              cases hN with
              | stop h => exact absurd hc h
              | ill h e => rw [hv] at e; cases e
              | more h e n =>
                rw [hv] at e
                injection e with e1 e2
                subst e1 e2
                exact n
          · cases hv : numR (tl z) (q + 1) with
            | ill i =>
              rw [hv] at hA5
              rw [hA5]
              show 0 < _
              omega
            | ok v q2 =>
              rw [hv] at hA5
              have hg := numR_go hv
              rw [hA5]
              show (tl z).length + 1 - (q2 : Int).toNat < _
              omega
        · rw [decide_eq_false (by rw [e32]; exact fun y => hc ((cut_sign z q 32).mp y))]
          have hRo : R = .ok l q := hN.uniq (.stop hc)
          refine iteF ⟨_, rfl, k t l G x htH eT (by omega) (fun l' q' e => ?_) (fun i e => by rw [hRo] at e; cases e)⟩
          rw [hRo] at e
          injection e with e1 e2
          subst e1 e2
          exact ⟨rfl, hA⟩
    · exact mt_and (mt_test (me_op (fun _ _ _ _ _ h ⟨e, q⟩ => ⟨e, h _ _ q⟩) (me_op (m2_ixL _) (me_var 0) (me_c _)) (me_c _)))
        (mt_test (me_op m2_eq (me_call spSign_mono (ma_cons (me_var 0) ma_nil)) (me_c _)))
end
end Wd

set_option Elab.async false
set_option linter.all false
set_option maxRecDepth 100000
set_option maxHeartbeats 4000000
namespace Wd
open PySem PySem.Spec PyProof.Rows L2 Bx Gx




















































section
variable {P : Program} {w : World} {K : PySem.W.Frag} {mg : Str → Option Value} {base : Heap}
/-! ### rows of numbers, line by line: read_lines -/
open TL
def mapR (a : List Nat) : Rs (List Nat) → Rs (List Nat)
  | .ok l q => .ok (a ++ l) q
  | .ill i => .ill i
theorem NumsR.pre {cs : List Nat} {a : List Nat} {p : Nat} {acc : List Nat} {r : Rs (List Nat)} (h : NumsR cs p acc r) : NumsR cs p (a ++ acc) (mapR a r) := by
  induction h with
  | stop h1 => exact .stop h1
  | ill h1 e1 => exact .ill h1 e1
  | more h1 e1 _ ih => exact .more h1 e1 (by rw [List.append_assoc]; exact ih)
theorem NumsR.go2 {cs : List Nat} {p : Nat} {acc : List Nat} {r : Rs (List Nat)} (h : NumsR cs p acc r) : ∀ l q, r = .ok l q → 2 * l.length + p ≤ 2 * acc.length + q := by
  induction h with
  | stop h1 => intro l q e; injection e with e1 e2; subst e1 e2; omega
  | ill h1 e1 => intro l q e; cases e
  | more h1 e1 _ ih =>
    intro l q e
    have := ih l q e
    have hg := numR_go e1
    rw [List.length_append, List.length_singleton] at this
    omega
theorem NumsR.ne {cs : List Nat} {p : Nat} {acc : List Nat} {r : Rs (List Nat)} (h : NumsR cs p acc r) : ∀ l q, r = .ok l q → acc.length ≤ l.length := by
  induction h with
  | stop h1 => intro l q e; injection e with e1 e2; subst e1; exact Nat.le_refl _
  | ill h1 e1 => intro l q e; cases e
  | more h1 e1 _ ih => intro l q e; have := ih l q e; rw [List.length_append] at this; omega
theorem RowN.uniq {cs : List Nat} {p : Nat} {r r' : Rs (List Nat)} (h : RowN cs p r) (h' : RowN cs p r') : r = r' := by
  cases h with
  | ill e =>
    cases h' with
    | ill e2 => rw [e] at e2; injection e2 with e2; rw [e2]
    | ok e2 _ => rw [e] at e2; cases e2
  | ok e t =>
    cases h' with
    | ill e2 => rw [e] at e2; cases e2
    | ok e2 t2 =>
      rw [e] at e2
      injection e2 with e2 e3
      subst e2 e3
      exact t.uniq t2
theorem RowN.go {cs : List Nat} {p : Nat} {l : List Nat} {q : Nat} (h : RowN cs p (.ok l q)) : p < q ∧ q ≤ cs.length ∧ 2 * l.length + p ≤ q + 1 ∧ l ≠ [] := by
  cases h with
  | ok e t =>
    have hg := numR_go e
    obtain ⟨a1, a2, a3⟩ := t.go hg.2 l q rfl
    have a4 := t.go2 l q rfl
    rw [List.length_singleton] at a4
    refine ⟨by omega, a2, by omega, fun y => ?_⟩
    have := t.ne l q rfl
    rw [y] at this
    simp at this
inductive PlanR (cs : List Nat) : Nat → List (List Nat) → Rs (List (List Nat)) → Prop
  | done {p : Nat} {rows : List (List Nat)} : rows ≠ [] → cs.length ≤ p → PlanR cs p rows (.ok rows p)
  | ill {p i : Nat} {rows : List (List Nat)} : (rows = [] ∨ p < cs.length) → byR cs (if rows.isEmpty then [] else [10]) p = .ill i → PlanR cs p rows (.ill i)
  | ill2 {p p1 i : Nat} {rows : List (List Nat)} : (rows = [] ∨ p < cs.length) → byR cs (if rows.isEmpty then [] else [10]) p = .ok () p1 → RowN cs p1 (.ill i) → PlanR cs p rows (.ill i)
  | row {p p1 q : Nat} {l : List Nat} {rows : List (List Nat)} {r : Rs (List (List Nat))} : (rows = [] ∨ p < cs.length) → byR cs (if rows.isEmpty then [] else [10]) p = .ok () p1 → RowN cs p1 (.ok l q) → PlanR cs q (rows ++ [l]) r → PlanR cs p rows r
theorem PlanR.uniq {cs : List Nat} {p : Nat} {rows : List (List Nat)} {r r' : Rs (List (List Nat))} (h : PlanR cs p rows r) : PlanR cs p rows r' → r = r' := by
  induction h with
  | done h1 h2 =>
    intro h'
    cases h' with
    | done _ _ => rfl
    | ill g => rcases g with g | g; exact absurd g h1; omega
    | ill2 g => rcases g with g | g; exact absurd g h1; omega
    | row g => rcases g with g | g; exact absurd g h1; omega
  | ill g e =>
    intro h'
    cases h' with
    | done h1 h2 => rcases g with g | g; exact absurd g h1; omega
    | ill _ e2 => rw [e] at e2; injection e2 with e2; rw [e2]
    | ill2 _ e2 => rw [e] at e2; cases e2
    | row _ e2 => rw [e] at e2; cases e2
  | ill2 g e n =>
    intro h'
    cases h' with
    | done h1 h2 => rcases g with g | g; exact absurd g h1; omega
    | ill _ e2 => rw [e] at e2; cases e2
    | ill2 _ e2 n2 =>
      rw [e] at e2
      injection e2 with _ e2
      subst e2
      have := n.uniq n2
      injection this with this
      rw [this]
    | row _ e2 n2 =>
      rw [e] at e2
      injection e2 with _ e2
      subst e2
      cases n.uniq n2
  | row g e n _ ih =>
    intro h'
    cases h' with
    | done h1 h2 => rcases g with g | g; exact absurd g h1; omega
    | ill _ e2 => rw [e] at e2; cases e2
    | ill2 _ e2 n2 =>
      rw [e] at e2
      injection e2 with _ e2
      subst e2
      cases n.uniq n2
    | row _ e2 n2 t =>
      rw [e] at e2
      injection e2 with _ e2
      subst e2
      have := n.uniq n2
      injection this with e3 e4
      subst e3 e4
      exact ih t
theorem plan_ex (cs : List Nat) : ∀ (k p : Nat) (rows : List (List Nat)), p ≤ cs.length → cs.length - p + (if rows = [] then 1 else 0) ≤ k → ∃ R, PlanR cs p rows R
  | k, p, rows, hp, h => by
    by_cases hg : rows = [] ∨ p < cs.length
    · cases e : byR cs (if rows.isEmpty then [] else [10]) p with
      | ill i => exact ⟨_, .ill hg e⟩
      | ok u p1 =>
        obtain ⟨S, hS⟩ := rowN_ex cs p1
        cases S with
        | ill i => exact ⟨_, .ill2 hg e hS⟩
        | ok l q =>
          have g2 := hS.go
          have hpp : p ≤ p1 := by
            cases hr : rows.isEmpty with
            | true => rw [hr] at e; injection e with _ e; omega
            | false => rw [hr] at e; have := byR_one e; omega
          have hne : rows ++ [l] ≠ [] := by simp
          cases k with
          | zero =>
            rcases hg with hg | hg
            · rw [if_pos hg] at h; omega
            · omega
          | succ k =>
            obtain ⟨R, hR⟩ := plan_ex cs k q (rows ++ [l]) g2.2.1 (by rw [if_neg hne]; split at h <;> omega)
            exact ⟨R, .row hg e hS hR⟩
    · rw [not_or] at hg
      exact ⟨_, .done hg.1 (by omega)⟩
/-- how many numbers -/
def cntR (rows : List (List Nat)) : Nat := rows.flatten.length
theorem PlanR.len {cs : List Nat} {p : Nat} {rows : List (List Nat)} {r : Rs (List (List Nat))} (h : PlanR cs p rows r) : (rows = [] → p = 0) → p ≤ cs.length → 2 * cntR rows ≤ p + (if rows.isEmpty then 0 else 1) → (∀ l ∈ rows, l ≠ []) → ∀ rs q, r = .ok rs q → 2 * cntR rs ≤ cs.length + 1 ∧ (∀ l ∈ rs, l ≠ []) ∧ rs ≠ [] := by
  induction h with
  | done h1 h2 =>
    intro h3 h4 h5 h6 rs q e
    injection e with e1 e2
    subst e1 e2
    refine ⟨?_, h6, h1⟩
    split at h5 <;> omega
  | ill => intro _ _ _ _ rs q e; cases e
  | ill2 => intro _ _ _ _ rs q e; cases e
  | @row p p1 q l rows r g e n _ ih =>
    intro h3 h4 h5 h6
    have hg := n.go
    refine ih (fun y => absurd y (by simp)) hg.2.1 ?_ (fun x hx => ?_)
    · have e2 : (rows ++ [l]).isEmpty = false := by cases rows <;> rfl
      rw [e2, if_neg Bool.false_ne_true]
      have e3 : cntR (rows ++ [l]) = cntR rows + l.length := by unfold cntR; rw [List.flatten_append, List.length_append, List.flatten_singleton]
      rw [e3]
      cases hr : rows.isEmpty with
      | true =>
        rw [hr] at e h5
        injection e with _ e
        rw [if_pos rfl] at h5
        omega
      | false =>
        rw [hr] at e h5
        have := byR_one e
        rw [if_neg Bool.false_ne_true] at h5
        omega
    · rcases List.mem_append.mp hx with hx | hx
      · exact h6 x hx
      · rw [List.mem_singleton.mp hx]
        exact hg.2.2.2
theorem PlanR.lt {cs : List Nat} {p : Nat} {rows : List (List Nat)} {r : Rs (List (List Nat))} (h : PlanR cs p rows r) : (∀ l ∈ rows, ∀ x ∈ l, x < 10 ^ 12) → ∀ rs q, r = .ok rs q → ∀ l ∈ rs, ∀ x ∈ l, x < 10 ^ 12 := by
  induction h with
  | done h1 h2 =>
    intro ha rs q e
    injection e with e _
    subst e
    exact ha
  | ill => intro _ rs q e; cases e
  | ill2 => intro _ rs q e; cases e
  | row g e n _ ih =>
    intro ha
    refine ih fun l hl => ?_
    rcases List.mem_append.mp hl with hl | hl
    · exact ha l hl
    · rw [List.mem_singleton.mp hl]
      cases n with
      | ok e2 t => exact t.lt (fun x hx => by rw [List.mem_singleton.mp hx]; exact numR_lt e2) _ _ rfl
/-- rows in a list: each a list of its own -/
structure RowsL (K : PySem.W.Frag) (H : Hp) (D : Addr) (rows : List (List Nat)) : Prop where
  ex : ∃ as : List Addr, H D = some (.lst (as.map V.ref)) ∧ as.length = rows.length ∧ ∀ (i : Nat) (a : Addr) (r : List Nat), as[i]? = some a → rows[i]? = some r → H a = some (.lst (vsN r)) ∧ a ≠ D
theorem RowsL.ext {H H' : Hp} {D : Addr} {rows : List (List Nat)} (h : RowsL K H D rows) (x : Ext H H') : RowsL K H' D rows := by
  obtain ⟨as, h1, h2, h3⟩ := h.ex
  exact ⟨as, x.lst h1, h2, fun i a r e1 e2 => ⟨x.lst (h3 i a r e1 e2).1, (h3 i a r e1 e2).2⟩⟩
theorem RowsL.push {H : Hp} {D a : Addr} {rows : List (List Nat)} {row : List Nat} (h : RowsL K H D rows) (ha : H a = some (.lst (vsN row))) (hne : a ≠ D) : ∃ as, H D = some (.lst as) ∧ as.length = rows.length ∧ RowsL K (upd H D (.lst (as ++ [.ref a]))) D (rows ++ [row]) := by
  obtain ⟨as, h1, h2, h3⟩ := h.ex
  refine ⟨as.map V.ref, h1, by rw [List.length_map, h2], as ++ [a], by rw [upd_same, List.map_append]; rfl, by rw [List.length_append, List.length_append, h2]; rfl, fun i b r e1 e2 => ?_⟩
  by_cases hi : i < as.length
  · rw [List.getElem?_append_left hi] at e1
    rw [List.getElem?_append_left (by omega)] at e2
    have := h3 i b r e1 e2
    exact ⟨by rw [upd_ne this.2]; exact this.1, this.2⟩
  · rw [List.getElem?_append_right (by omega)] at e1
    rw [List.getElem?_append_right (by omega)] at e2
    have hi2 : i - as.length = 0 := by
      have := (List.getElem?_eq_some_iff.mp e1).1
      rw [List.length_singleton] at this
      omega
    rw [hi2, List.getElem?_cons_zero] at e1
    rw [show i - rows.length = 0 by omega, List.getElem?_cons_zero] at e2
    rw [← Option.some.inj e1, ← Option.some.inj e2]
    exact ⟨by rw [upd_ne hne]; exact ha, hne⟩
def spLinesP (K : PySem.W.Frag) (CT : Addr) : Sp := fun vs H Q E => ∃ (z : Str) (R : Rs (List (List Nat))), vs = [.str z, .int 0, .int 0, .non] ∧ Shrt z ∧ blk (tl z) 0 ≤ 900 ∧ PlanR (tl z) 0 [] R ∧
  (∀ rows q, R = .ok rows q → ∀ (D : Addr) H', Ext H H' → H D = none → RowsL K H' D rows → Q (.ref D) H') ∧ (∀ i, R = .ill i → XT CT i H E)
abbrev rlN : List Str := ["text", "at", "least", "most", "rows", "first", "others"]
theorem sc_lines : FnScope rlN ["text", "at", "least", "most"] (defScope st_read_lines) := ⟨rfl, rfl, rfl, by decide +kernel, rfl, by decide +kernel, by decide +kernel⟩
theorem ok_linesP {f CT : Addr} {fd : FuncData} (F : Fun K "read_lines" "read_lines" st_read_lines f fd) (B : Bl mg) (c1 : CalX P w K mg base 3 "behind_signs" ["text", "at", "signs"] (spBhd CT)) (c2 : CalX P w K mg base 3 "read_number" ["text", "at"] (spNum CT)) (c3 : CalX P w K mg base 4 "read_numbers" ["text", "at", "least", "most"] (spNums0 CT)) : FnOk P w K mg base (L2.CX P w) 5 f fd ["text", "at", "least", "most"] (spLinesP K CT) := by
  refine F.okX sc_lines (fun vs H Q E h => ?_) (fun cdv A outer s H vs Q E hr h => ?_)
  · obtain ⟨z, R, rfl, _⟩ := h
    rfl
  · obtain ⟨z, R, rfl, hz, hbl, hT, k1, k2⟩ := h
    have nd := sc_lines.nd
    refine ⟨_, pss_cons (ps_set (i := 4) nd rfl (Or.inl rfl) (pe_lst pa_nil))
      (pss_cons (ps_while (passes_of rfl) (PW.pt (pw_or (pt_not (pt_truth (pv 4) (by intro _; rfl))) (pw_or1 (pt_cmpR op_lt (pv 1) (pe_callB call_len (by rfl) B.len PySem.boot_len (pa_cons (pv 0) pa_nil)) (nomark _)))))
        (pss_cons (ps_if (pt_truth (pv 4) (by intro _; rfl)) (pss_one (ps_set (i := 1) nd rfl (Or.inl rfl) (pe_calS c1 (hr.mono (by decide)) (takes_of rfl rfl rfl rfl) rfl (pa_cons (pv 0) (pa_cons (pv 1) (pa_cons pe_str pa_nil)))))) pss_nil)
        (pss_cons (ps_asg (pe_calS c2 (hr.mono (by decide)) (takes_of rfl rfl rfl rfl) rfl (pa_cons (pv 0) (pa_cons (pv 1) pa_nil))) (pg_tup (by rfl) (pgs_cons (pg_name (i := 5) nd rfl (Or.inl rfl)) (pgs_cons (pg_name (i := 1) nd rfl (Or.inl rfl)) pgs_nil))))
        (pss_cons (ps_asg (pe_calS c3 (hr.mono (by decide)) (takes_of rfl rfl rfl rfl) rfl (pa_cons (pv 0) (pa_cons (pv 1) (pa_cons (pv 2) (pa_cons (pv 3) pa_nil))))) (pg_tup (by rfl) (pgs_cons (pg_name (i := 6) nd rfl (Or.inl rfl)) (pgs_cons (pg_name (i := 1) nd rfl (Or.inl rfl)) pgs_nil))))
        (pss_one (ps_expr (pe_bm PySem.F.plainAttrs_list PySem.F.slot_list_append PySem.F.type_list_append mt_append (pv 4) (pa_cons (pe_op op_cat (pe_lst (pa_cons (pv 5) pa_nil)) (pv 6)) pa_nil))))))))
      (pss_one (ps_ret (pv 4)))), ?_⟩
    dsimp only [gName, tSeq, List.set, L2.start, List.map, List.replicate, List.append, List.length]
    refine ⟨Nat.zero_le _, fun D hD => ?_⟩
    dsimp only [gName, tSeq, List.set]
    refine while_by (fun σ H2 => ∃ (p : Nat) (rows : List (List Nat)) (o5 o6 : Option V), σ = [some (.str z), some (.int (p : Int)), some (.int 0), some .non, some (.ref D), o5, o6] ∧ RowsL K H2 D rows ∧ rows.length ≤ p ∧ p ≤ (tl z).length ∧ Ext H H2 ∧ PlanR (tl z) p rows R)
      (fun σ _ => match σ with
        | [_, some (.int p), _, _, _, _, _] => (tl z).length + 1 - p.toNat
        | _ => 0) ⟨0, [], none, none, rfl, ⟨[], upd_same, rfl, (fun i a r e => by simp at e)⟩, Nat.le_refl _, Nat.zero_le _, .new hD, hT⟩ ?_ ?_
    · rintro σ H2 ⟨p, rows, o5, o6, rfl, hL, hlp, hpl, x2, hT2⟩
      obtain ⟨as, ha1, ha2, ha3⟩ := hL.ex
      have hzl : z.length = (tl z).length := str_len z
      have hemp : (!(as.map V.ref).isEmpty) = !rows.isEmpty := by
        cases as <;> cases rows <;> simp_all
      refine tt_via (rows.isEmpty || decide (p < (tl z).length)) (fun Q' hQ' => ?_) ?_
      · refine ⟨_, rfl, !rows.isEmpty, .inl ⟨_, SqL.of ha1, hemp.symm⟩, ?_⟩
        cases he : rows.isEmpty with
        | true =>
          rw [he, Bool.true_or] at hQ'
          exact iteT hQ'
        | false =>
          rw [he, Bool.false_or] at hQ'
          refine iteF ⟨_, rfl, _, rfl, _, z.length, rfl, ⟨hz.sz, rfl⟩, _, _, rfl, rfl, _, rfl, ?_⟩
          have e : decide (((p : Nat) : Int) < ((z.length : Nat) : Int)) = decide (p < (tl z).length) := decide_eq_decide.mpr (by omega)
          rw [e]
          exact hQ'
      by_cases hlt : rows = [] ∨ p < (tl z).length
      · have hc : (rows.isEmpty || decide (p < (tl z).length)) = true := by
          rcases hlt with h | h
          · rw [h]; rfl
          · rw [decide_eq_true h, Bool.or_true]
        rw [hc]
        refine iteT ?_
        dsimp only [tSeq]
        refine via (fun σ H3 => ∃ p1 : Nat, σ = [some (.str z), some (.int (p1 : Int)), some (.int 0), some .non, some (.ref D), o5, o6] ∧ H3 = H2 ∧ p ≤ p1 ∧ byR (tl z) (if rows.isEmpty then [] else [10]) p = .ok () p1) ?_ (fun nx hnx => ?_)
        rotate_left
        · refine ⟨_, rfl, !rows.isEmpty, .inl ⟨_, SqL.of ha1, hemp.symm⟩, ?_⟩
          cases he : rows.isEmpty with
          | true => exact iteF (hnx _ _ ⟨p, rfl, rfl, Nat.le_refl _, by rw [he]; rfl⟩)
          | false =>
            refine iteT ⟨_, rfl, _, rfl, z, Str.ofString "\n", p, rfl, hz, fun u q hu => ?_, fun i hi => ?_⟩
            · rw [tl_feed] at hu
              exact hnx _ _ ⟨q, rfl, rfl, by have := byR_one hu; omega, by rw [he]; exact hu⟩
            · rw [tl_feed] at hi
              exact (k2 i (hT2.uniq (.ill hlt (by rw [he]; exact hi)))).ext x2
        rintro σ H3 ⟨p1, rfl, rfl, hpp, hb1⟩
        dsimp only [tSeq]
        refine ⟨_, rfl, _, rfl, z, p1, rfl, hz, fun v p2 hv t ht => ?_, fun i hi => ?_⟩
        rotate_left
        · exact (k2 i (hT2.uniq (.ill2 hlt hb1 (.ill hi)))).ext x2
        have hgv := numR_go hv
        refine ⟨t, _, rfl, SqT.of upd_same, rfl, _, _, rfl, _, _, rfl, rfl, ?_⟩
        have x3 : Ext H3 (upd H3 t (.tup [.int (v : Int), .int (p2 : Int)])) := .new ht
        generalize upd H3 t (.tup [.int (v : Int), .int (p2 : Int)]) = H4 at x3 ⊢
        dsimp only [gName, List.set]
        obtain ⟨S, hS⟩ := nums_ex (tl z) _ p2 [] (Nat.le_refl _)
        have hrow : RowN (tl z) p1 (mapR [v] S) := .ok hv (hS.pre (a := [v]))
        refine ⟨_, rfl, _, rfl, _, rfl, _, rfl, z, p2, S, rfl, hz, hgv.2, hbl, hS, fun l p3 hl t2 d2 H5 x5 hd20 ht2 hd2 => ?_, fun i hi => ?_⟩
        rotate_left
        · rw [hi] at hrow
          exact (k2 i (hT2.uniq (.ill2 hlt hb1 hrow))).ext (x2.trans x3)
        rw [hl] at hrow
        have hrow : RowN (tl z) p1 (.ok (v :: l) p3) := hrow
        have hgo := hrow.go
        refine ⟨t2, _, rfl, SqT.of ht2, rfl, _, _, rfl, _, _, rfl, rfl, ?_⟩
        dsimp only [gName, List.set]
        have hL5 := hL.ext (x3.trans x5)
        have hD5 : ∃ as2 : List Addr, H5 D = some (.lst (as2.map V.ref)) := let ⟨as2, h, _⟩ := hL5.ex; ⟨as2, h⟩
        obtain ⟨as2, hD5⟩ := hD5
        have hzs : (tl z).length ≤ 100000 := by rw [← hzl]; exact hz
        have hsl : 200000 ≤ sizeLine := by decide
        refine ⟨_, rfl, .inl ⟨rfl, _, SqL.of hD5⟩, _, rfl, (by show 1 ≤ sizeLine; omega), fun q1 hq1 => ⟨_, rfl, q1, d2, _, _, rfl, rfl, upd_same, (Ext.new hq1).lst hd2, ?_, fun q2 hq2 => ?_⟩⟩
        · have hl4 := hgo.2.2.1
          rw [List.length_cons] at hl4
          show 1 + (vsN l).length ≤ sizeLine
          rw [show (vsN l).length = l.length from List.length_map _]
          omega
        have x6 : Ext H5 (upd (upd H5 q1 (.lst [.int (v : Int)])) q2 (.lst ([.int (v : Int)] ++ vsN l))) := (Ext.new hq1).trans (.new hq2)
        have hq2' : upd (upd H5 q1 (.lst [.int (v : Int)])) q2 (.lst ([.int (v : Int)] ++ vsN l)) q2 = some (.lst (vsN (v :: l))) := upd_same
        have hqD : q2 ≠ D := fun e => by
          rw [e] at hq2
          have h7 := (Ext.new hq1 (o := .lst [.int (v : Int)])).lst hD5
          rw [h7] at hq2
          cases hq2
        generalize upd (upd H5 q1 (.lst [.int (v : Int)])) q2 (.lst ([.int (v : Int)] ++ vsN l)) = H6 at x6 hq2' ⊢
        obtain ⟨as3, f1, f2, f3⟩ := (hL5.ext x6).push hq2' hqD
        have x26 := ((x2.trans x3).trans x5).trans x6
        have hnx : PlanR (tl z) p3 (rows ++ [v :: l]) R := by
          cases hT2 with
          | done h1 h2 => rcases hlt with h | h; exact absurd h h1; omega
          | ill _ e => rw [hb1] at e; cases e
          | ill2 _ e n => rw [hb1] at e; injection e with _ e; subst e; cases hrow.uniq n
          | row _ e n t =>
            rw [hb1] at e
            injection e with _ e
            subst e
            have e3 := hrow.uniq n
            injection e3 with e3 e4
            subst e3 e4
            exact t
        refine ⟨D, as3, _, rfl, rfl, f1, by omega, ⟨p3, rows ++ [v :: l], _, _, rfl, f3, ?_, hgo.2.1, x26.write hD, hnx⟩, ?_⟩
        · rw [List.length_append, List.length_singleton]
          omega
        · show (tl z).length + 1 - (p3 : Int).toNat < (tl z).length + 1 - (p : Int).toNat
          omega
      · rw [not_or] at hlt
        have hc : (rows.isEmpty || decide (p < (tl z).length)) = false := by
          rw [decide_eq_false hlt.2, Bool.or_false]
          cases rows with
          | nil => exact absurd rfl hlt.1
          | cons _ _ => rfl
        rw [hc]
        have hR : R = .ok rows p := hT2.uniq (.done hlt.1 (by omega))
        exact iteF ⟨_, rfl, k1 _ _ hR D H2 x2 hD hL⟩
    · exact mt_or (mt_not fun σ H _ _ h ⟨v, e, kk, ht, q⟩ => ⟨v, e, kk, ht, h _ _ q⟩) (mt_test (me_op (m2_i0 _) (me_var 1) (me_cb (fun _ _ _ _ h ⟨x, n, e1, e2, q⟩ => ⟨x, n, e1, e2, h _ _ q⟩) (ma_cons (me_var 0) ma_nil))))
end
end Wd

set_option Elab.async false
set_option linter.all false
set_option maxRecDepth 100000
set_option maxHeartbeats 4000000
namespace Wd
open PySem PySem.Spec PyProof.Rows L2 Bx Gx




















































section
variable {P : Program} {w : World} {K : PySem.W.Frag} {mg : Str → Option Value} {base : Heap}
/-! ### InvalidLand(place); check_land, check_head, check_heads, check_lot of any values -/
def idxD (l : List Int) : PyData := .tuple (l.map PyData.int)
/-- InvalidLand of a place -/
def XL (K : PySem.W.Frag) (CL : Addr) (l : List Int) (H : Hp) (E : XK) : Prop := ∀ (d q : Addr) (H' : Hp), Ext H H' → H' d = some (.xd [("place", .ref q)]) → SqT K H' q (l.map V.int) → E (.ref CL) (some d) H'
def initOf : Stmt → Stmt
  | .ClassDef _ _ _ body _ _ _ _ _ _ _ => body.getD 0 (.Pass ⟨0, 0, 0, 0⟩)
  | s => s
abbrev initLandS : Stmt := initOf st_InvalidLand
theorem sc_initLand : FnScope ["self", "place"] ["self", "place"] (defScope initLandS) := ⟨rfl, rfl, rfl, by decide +kernel, rfl, by decide +kernel, by decide +kernel⟩
theorem ok_initLand {f C : Addr} {fd : FuncData} (F : Fun K "__init__" "InvalidLand.__init__" initLandS f fd) (T : OexC K C) (hno : PySem.W.findIn K (.ref C) "place" = some none) : FnOk P w K mg base CX0 1 f fd ["self", "place"] (fun vs H Q _ => ∃ (a : Addr) (v : V), vs = [.ref a, v] ∧ H a = some (exo a C none) ∧ ∀ dx, H dx = none → dx ≠ a → Q .non (upd (upd H dx (exd dx [("place", v)])) a (exo a C (some dx)))) := by
  refine F.ok sc_initLand (fun vs H Q E h => ?_) (fun cdv A outer s H vs Q E hr h => ?_)
  · obtain ⟨a, v, rfl, _⟩ := h
    rfl
  · obtain ⟨a, v, rfl, ha, k⟩ := h
    refine ⟨_, pss_one (ps_ost (pv 0) (pv 1)), ?_⟩
    exact ⟨_, rfl, _, rfl, a, C, rfl, T, hno, .inl ⟨ha, k⟩⟩
theorem ext_made {H1 : Hp} {a dx C : Addr} {f : Str} {v : V} (ha : H1 a = none) (hd : H1 dx = none) (hne : dx ≠ a) : Ext H1 (upd (del (upd (upd (upd H1 a (exo a C none)) dx (exd dx [(f, v)])) a (exo a C (some dx))) a) dx (.xd [(f, v)])) := by
  have key : ∀ b, b ≠ a → b ≠ dx → upd (del (upd (upd (upd H1 a (exo a C none)) dx (exd dx [(f, v)])) a (exo a C (some dx))) a) dx (.xd [(f, v)]) b = H1 b := fun b h1 h2 => by
    rw [upd_ne h2, del_ne h1, upd_ne h1, upd_ne h2, upd_ne h1]
  refine ⟨fun b o e _ => ?_, fun T t => ?_, fun b o e => ⟨o, ?_⟩⟩
  · rw [key b (ne_of_none e ha) (ne_of_none e hd)]
    exact e
  · obtain ⟨ps, e, r⟩ := t
    exact ⟨ps, by rw [key T (ne_of_none e ha) (ne_of_none e hd)]; exact e, r⟩
  · rw [key b (ne_of_none e ha) (ne_of_none e hd)]
    exact e
def spCkLandX (K : PySem.W.Frag) (CL : Addr) : Sp := fun vs H Q E => ∃ (v : V) (d : PyData), vs = [v] ∧ Dp K H v d ∧ shortD 100000 d ∧ (landF d = none → Q .non H) ∧ (∀ l, landF d = some l → XL K CL l H E)
theorem ok_cklX {f CL : Addr} {fd : FuncData} (F : Fun K "check_land" "check_land" st_check_land f fd) (Y : Yc P w K mg base "InvalidLand" CL "place") (c1 : Cal P w K mg base 4 "fault_of_land" ["value"] (spFaultLandA K)) : FnOk P w K mg base (L2.CX P w) 5 f fd ["land"] (spCkLandX K CL) := by
  refine F.okX sc_check_land (fun vs H Q E h => ?_) (fun cdv A outer s H vs Q E hr h => ?_)
  · obtain ⟨v, d, rfl, _⟩ := h
    rfl
  · obtain ⟨v, d, rfl, hd, hsz, k1, k2⟩ := h
    obtain ⟨fI, fd, i1, i2, i3, i4⟩ := Y.i
    refine ⟨_, pss_cons (ps_set (i := 1) sc_check_land.nd rfl (Or.inl rfl) (pe_cal c1 hr rfl (pa_cons (pv 0) pa_nil)))
      (pss_one (ps_if (pt_cmpR op_notN (pv 1) pe_non (nomark _)) (pss_one (ps_raise rfl (takes_of rfl rfl rfl rfl) (pmk_oex (dvs := []) Y.o i1 i2 i4 (hr.mono (j := 2) (by decide)) i3 .nil pass0 rfl Y.g (pa_cons (pv 1) pa_nil)))) pss_nil)), ?_⟩
    refine ⟨_, rfl, v, d, rfl, hd, hsz, ?_⟩
    cases e : landF d with
    | none => exact ⟨_, rfl, rfl, false, rfl, iteF (k1 e)⟩
    | some l =>
      intro q H' x hq0 hq
      refine ⟨_, rfl, rfl, true, rfl, iteT ⟨_, rfl, (by show 1 ≤ 1000; decide), fun a ha => ?_⟩⟩
      refine ⟨a, _, rfl, upd_same, fun dx hdx hne => ?_⟩
      have hdx2 : H' dx = none := by rw [upd_ne hne] at hdx; exact hdx
      refine ⟨rfl, dx, _, upd_same, by rw [upd_ne hne]; exact upd_same, hdx2, ?_⟩
      have x2 := ext_made (C := CL) (f := "place") (v := V.ref q) ha hdx2 hne
      exact k2 l e dx q _ (x.trans x2) upd_same (x2.sqT (SqT.of hq))
/-! ### heads -/
def spCkHeadX (K : PySem.W.Frag) (CP : Addr) : Sp := fun vs H Q E => ∃ (l v : V) (fs : List Int) (bd d : PyData), vs = [l, v] ∧ Dp K H l (.tuple [.tuple (fs.map .int), bd]) ∧ fs.length ≤ 100 ∧ Dp K H v d ∧ (isIntD 0 ((fs.length : Int) - 1) d = true → Q .non H) ∧ (isIntD 0 ((fs.length : Int) - 1) d = false → E (.ref CP) none H)
/-- two unlike places -/
def headsB (n : Nat) (d e : PyData) : Bool := isIntD 0 ((n : Int) - 1) d && (isIntD 0 ((n : Int) - 1) e && decide (intD d ≠ intD e))
theorem isIntD_int {lo hi : Int} {d : PyData} (h : isIntD lo hi d = true) : ∃ i, d = .int i ∧ lo ≤ i ∧ i ≤ hi := by
  cases d with
  | int i => exact ⟨i, rfl, of_decide_eq_true h⟩
  | _ => cases h
theorem headsB_ok {n : Nat} {d e : PyData} (h : headsB n d e = true) : ∃ a b : Nat, d = .int (a : Int) ∧ e = .int (b : Int) ∧ a < n ∧ b < n ∧ a ≠ b := by
  obtain ⟨h1, h⟩ := Bool.and_eq_true_iff.mp h
  obtain ⟨h2, h3⟩ := Bool.and_eq_true_iff.mp h
  obtain ⟨i, rfl, i0, i1⟩ := isIntD_int h1
  obtain ⟨j, rfl, j0, j1⟩ := isIntD_int h2
  have h3 : i ≠ j := of_decide_eq_true h3
  refine ⟨i.toNat, j.toNat, by rw [Int.toNat_of_nonneg i0], by rw [Int.toNat_of_nonneg j0], by omega, by omega, by omega⟩
def spCkHsX (K : PySem.W.Frag) (CP : Addr) : Sp := fun vs H Q E => ∃ (l v u : V) (fs : List Int) (bd d e : PyData), vs = [l, v, u] ∧ Dp K H l (.tuple [.tuple (fs.map .int), bd]) ∧ fs.length ≤ 100 ∧ Dp K H v d ∧ Dp K H u e ∧ (headsB fs.length d e = true → Q .non H) ∧ (headsB fs.length d e = false → E (.ref CP) none H)
/-! ### check_lot -/
def spCkLotX (K : PySem.W.Frag) (CT T1 T2 : Addr) : Sp := fun vs H Q E => ∃ (l v : V) (fs : List Int) (bd d : PyData), vs = [l, v] ∧ Dp K H l (.tuple [.tuple (fs.map .int), bd]) ∧ fs.length ≤ 100 ∧ Dp K H v d ∧ (∀ ds, d = .tuple ds → ds.length ≤ 6000) ∧ TabG H T1 ∧ TabG H T2 ∧
  (lotB fs.length d = true → ∀ H', Ext H H' → Q .non H') ∧ (lotB fs.length d = false → ∀ H', Ext H H' → E (.ref CT) none H')
end
end Wd

set_option Elab.async false
set_option linter.all false
set_option maxRecDepth 100000
set_option maxHeartbeats 4000000
namespace Wd
open PySem PySem.Spec PyProof.Rows L2 Bx Gx




















































section
/-! ### rows as a plan in sequence -/
open TL
theorem twiceW_none : ∀ (seen ws : List Str), twiceW seen ws = none → (∀ x ∈ ws, x ∉ seen) ∧ ws.Nodup
  | _, [], _ => ⟨fun x hx => (nomatch hx), List.nodup_nil⟩
  | seen, a :: r, h => by
    rw [twiceW] at h
    by_cases c : a ∈ seen
    · rw [if_pos c] at h; cases h
    · rw [if_neg c] at h
      have ih := twiceW_none _ r h
      refine ⟨fun x hx => ?_, List.nodup_cons.mpr ⟨fun m => ih.1 a m (List.mem_append_right _ List.mem_cons_self), ih.2⟩⟩
      rcases List.mem_cons.mp hx with rfl | hx
      · exact c
      · exact fun m => ih.1 x hx (List.mem_append_left _ m)
theorem nodup_of_map {α β : Type} (f : α → β) : ∀ {l : List α}, (l.map f).Nodup → l.Nodup
  | [], _ => List.nodup_nil
  | x :: l, h => by
    rw [List.map_cons, List.nodup_cons] at h
    exact List.nodup_cons.mpr ⟨fun m => h.1 (List.mem_map_of_mem m), nodup_of_map f h.2⟩
def nTN (m : Nat) : Str := Str.ofString (toString (m : Int))
theorem nTN_inj {a b : Nat} (h : nTN a = nTN b) : a = b := by
  have e := congrArg tl h
  unfold nTN at e
  rw [tl_num, tl_num] at e
  exact numL_inj e
def sortN (u : List Nat) : List Nat := u.mergeSort fun a b => decide (a ≤ b)
def planN (rows : List (List Nat)) : List (List Nat) := (rows.map sortN).mergeSort fun u v => decide (u.headD 0 ≤ v.headD 0)
theorem sortN_perm (u : List Nat) : (sortN u).Perm u := List.mergeSort_perm _ _
theorem sortN_asc {u : List Nat} (h : u.Nodup) : (sortN u).Pairwise (· < ·) := by
  have h1 : (sortN u).Pairwise fun a b => decide (a ≤ b) = true := List.pairwise_mergeSort (fun a b c h1 h2 => by rw [decide_eq_true_eq] at *; omega) (fun a b => by rw [Bool.or_eq_true, decide_eq_true_eq, decide_eq_true_eq]; omega) u
  have h2 : (sortN u).Nodup := (sortN_perm u).nodup_iff.mpr h
  exact (h1.and h2).imp fun {a b} q => by have := of_decide_eq_true q.1; have := q.2; omega
theorem headD_mem {u : List Nat} (h : u ≠ []) : u.headD 0 ∈ u := by
  cases u with
  | nil => exact absurd rfl h
  | cons a r => exact List.mem_cons_self
/-- rows without a number twice, none empty -/
structure RowsOk (rows : List (List Nat)) : Prop where
  ne : ∀ l ∈ rows, l ≠ []
  nd : rows.flatten.Nodup
theorem nodup_pair : ∀ {rows : List (List Nat)}, rows.flatten.Nodup → rows.Pairwise fun u v => ∀ x ∈ u, x ∉ v
  | [], _ => .nil
  | u :: r, h => by
    rw [List.flatten_cons, List.nodup_append] at h
    exact .cons (fun v hv x hx m => h.2.2 x hx x (List.mem_flatten.mpr ⟨v, hv, m⟩) rfl) (nodup_pair h.2.1)
theorem nodup_each : ∀ {rows : List (List Nat)}, rows.flatten.Nodup → ∀ u ∈ rows, u.Nodup
  | [], _, u, hu => nomatch hu
  | v :: r, h, u, hu => by
    rw [List.flatten_cons, List.nodup_append] at h
    rcases List.mem_cons.mp hu with rfl | hu
    · exact h.1
    · exact nodup_each h.2.1 u hu
theorem RowsOk.sorted {rows : List (List Nat)} (h : RowsOk rows) : (∀ u ∈ rows.map sortN, u ≠ [] ∧ u.Pairwise (· < ·)) ∧ (rows.map sortN).Perm (planN rows) ∧ (planN rows).Pairwise hdLt := by
  have hne : ∀ u ∈ rows, sortN u ≠ [] := fun u hu e => h.ne u hu (by
    have := (sortN_perm u).length_eq
    rw [e] at this
    exact List.length_eq_zero_iff.mp this.symm)
  refine ⟨fun v hv => ?_, (List.mergeSort_perm _ _).symm, ?_⟩
  · obtain ⟨u, hu, rfl⟩ := List.mem_map.mp hv
    exact ⟨hne u hu, sortN_asc (nodup_each h.nd u hu)⟩
  · have h1 : (planN rows).Pairwise fun u v => decide (u.headD 0 ≤ v.headD 0) = true := List.pairwise_mergeSort (fun a b c h1 h2 => by rw [decide_eq_true_eq] at *; omega) (fun a b => by rw [Bool.or_eq_true, decide_eq_true_eq, decide_eq_true_eq]; omega) _
    have h2 : (rows.map sortN).Pairwise fun u v => u.headD 0 ≠ v.headD 0 := by
      rw [List.pairwise_map]
      refine List.Pairwise.imp_of_mem (fun {u v} hu hv q e => ?_) (nodup_pair h.nd)
      have m1 := (sortN_perm u).mem_iff.mp (headD_mem (hne u hu))
      have m2 := (sortN_perm v).mem_iff.mp (headD_mem (hne v hv))
      rw [← e] at m2
      exact q _ m1 m2
    have h3 : (planN rows).Pairwise fun u v => u.headD 0 ≠ v.headD 0 := (List.mergeSort_perm _ _).symm.pairwise h2 (fun {a b} q e => q e.symm)
    exact (h1.and h3).imp fun {u v} q => by
      have := of_decide_eq_true q.1
      have := q.2
      show u.headD 0 < v.headD 0
      omega
theorem RowsOk.mem {rows : List (List Nat)} (h : RowsOk rows) {v : List Nat} (hv : v ∈ planN rows) : ∃ u ∈ rows, v.Perm u ∧ v ≠ [] ∧ v.Pairwise (· < ·) := by
  obtain ⟨u, hu, rfl⟩ := List.mem_map.mp ((List.mergeSort_perm _ _).mem_iff.mp hv)
  exact ⟨u, hu, sortN_perm u, h.sorted.1 _ (List.mem_map_of_mem hu)⟩
def wordD (s : String) (d : PyData) : PyData := .tuple [.str (Str.ofString s), d]
noncomputable def ansP (n : Nat) (bs : List (Nat × Nat)) : Rs (List (List Nat)) → PyData
  | .ill i => wordD "text" (.int (i : Int))
  | .ok rows _ => match twiceW [] (rows.flatten.map nTN) with
    | some a => wordD "twice" (.str a)
    | none => match planF n bs (planD (planN rows)) with
      | some i => wordD "plan" (.int i)
      | none => wordD "told" (planD (planN rows))
end
end Wd

set_option Elab.async false
set_option linter.all false
set_option maxRecDepth 100000
set_option maxHeartbeats 4000000
/-! Lq: a walk over a list within a reading, whatever is done at each thing (the outer and the inner clause of a comprehension alike). -/
namespace Bx
open PySem PySem.Spec PyProof.Rows L2
theorem lq_list {K : PySem.W.Frag} {a : Addr} {xs : List V} {H0 : Hp} {fin : Hp → Prop} {step : (Hp → Prop) → V → Hp → Prop} (Pv : Nat → Hp → Prop) (h0 : Pv 0 H0)
    (hl : ∀ i G, Pv i G → SqL K G a xs) (hs : ∀ i x G, xs[i]? = some x → Pv i G → step (Pv (i + 1)) x G) (hd : ∀ G, Pv xs.length G → fin G) :
    ∃ W : Nat → Nat → Hp → Prop, (∃ m, W 0 m H0) ∧ ∀ i m G, W i m G → ((Itl K a).stop i G ∧ fin G) ∨
      ((Itl K a).go i G ∧ ∃ Nx : Hp → Prop, (∀ G', Nx G' → ∃ m', m' < m ∧ W (i + 1) m' G') ∧ ∀ x G', (Itl K a).yld i G x G' → step Nx x G') := by
  refine ⟨fun i m G => i + m = xs.length ∧ Pv i G, ⟨xs.length, Nat.zero_add _, h0⟩, fun i m G h => ?_⟩
  obtain ⟨e, p⟩ := h
  cases m with
  | zero =>
    have e2 : i = xs.length := by omega
    refine .inl ⟨⟨xs, hl i G p, by omega⟩, hd G ?_⟩
    rw [← e2]
    exact p
  | succ m =>
    have hi : i < xs.length := by omega
    refine .inr ⟨⟨xs, xs[i], hl i G p, List.getElem?_eq_getElem hi⟩, Pv (i + 1), fun G' p' => ⟨m, Nat.lt_succ_self m, by omega, p'⟩, fun x G' y => ?_⟩
    obtain ⟨e3, y⟩ := y
    subst e3
    exact hs i x _ (y xs (hl i _ p)) p
end Bx

set_option Elab.async false
set_option linter.all false
set_option maxRecDepth 100000
set_option maxHeartbeats 4000000
namespace Wd
open PySem PySem.Spec PyProof.Rows L2 Bx Gx




















































section
variable {P : Program} {w : World} {K : PySem.W.Frag} {mg : Str → Option Value} {base : Heap}
/-! ### plan_told -/
open TL
theorem fn_lift {k : Nat} {f : Addr} {fd : FuncData} {ps : List Str} {sp : Sp} (F : FnOk P w K mg base CX0 k f fd ps sp) : FnOk P w K mg base (L2.CX P w) k f fd ps sp :=
  ⟨F.len, fun A outer s H args us vs Q E hr e hb hv h => codeAny_mono (F.run A outer s H args us vs Q E hr e hb hv h) fun r s' hq => by
    cases r with
    | error e => exact False.elim hq
    | ok fl =>
      cases fl with
      | ret u => exact hq
      | _ => exact False.elim hq⟩
def spOr (a b : Sp) : Sp := fun vs H Q E => a vs H Q E ∨ b vs H Q E
theorem fn_or {CX : CXT} {k : Nat} {f : Addr} {fd : FuncData} {ps : List Str} {sp1 sp2 : Sp} (h1 : FnOk P w K mg base CX k f fd ps sp1) (h2 : FnOk P w K mg base CX k f fd ps sp2) : FnOk P w K mg base CX k f fd ps (spOr sp1 sp2) :=
  ⟨fun vs H Q E h => h.elim (h1.len vs H Q E) (h2.len vs H Q E), fun A outer s H args us vs Q E hr e0 hb hv h => h.elim (h1.run A outer s H args us vs Q E hr e0 hb hv) (h2.run A outer s H args us vs Q E hr e0 hb hv)⟩
theorem sm_lot {l : List Nat} (hl : l.length ≤ 500) : smD (lotD l) = true := by
  have h1 : smDs (l.map fun (p : Nat) => PyData.int (p : Int)) = true := by
    clear hl
    induction l with
    | nil => rfl
    | cons p r ih => simp only [List.map_cons, smDs, smD, Bool.true_and]; exact ih
  show (decide ((l.map fun (p : Nat) => PyData.int (p : Int)).length ≤ 500) && smDs _) = true
  rw [h1, List.length_map, decide_eq_true hl]
  rfl
theorem sm_lots {rs : List (List Nat)} (h1 : rs.length ≤ 500) (h2 : ∀ r ∈ rs, r.length ≤ 500) : smD (PyData.tuple (rs.map lotD)) = true := by
  have e : smDs (rs.map lotD) = true := by
    clear h1
    induction rs with
    | nil => rfl
    | cons r l ih =>
      rw [List.map_cons, smDs, sm_lot (h2 r List.mem_cons_self), ih fun s hs => h2 s (List.mem_cons_of_mem _ hs)]
      rfl
  show (decide ((rs.map lotD).length ≤ 500) && smDs _) = true
  rw [e, List.length_map, decide_eq_true h1]
  rfl
theorem flat_len : ∀ {rows : List (List Nat)}, (∀ l ∈ rows, l ≠ []) → rows.length ≤ rows.flatten.length
  | [], _ => Nat.le_refl _
  | u :: r, h => by
    have h1 := flat_len (rows := r) fun l hl => h l (List.mem_cons_of_mem _ hl)
    have h2 := List.length_pos_iff.mpr (h u List.mem_cons_self)
    rw [List.flatten_cons, List.length_append, List.length_cons]
    omega
theorem flat_mem : ∀ {rows : List (List Nat)} {u : List Nat}, u ∈ rows → u.length ≤ rows.flatten.length
  | v :: r, u, h => by
    rw [List.flatten_cons, List.length_append]
    rcases List.mem_cons.mp h with rfl | h
    · omega
    · have := flat_mem h
      omega
abbrev initPlanS : Stmt := initTxt st_InvalidPlan
theorem sc_initPlan : FnScope ["self", "index"] ["self", "index"] (defScope initPlanS) := ⟨rfl, rfl, rfl, by decide +kernel, rfl, by decide +kernel, by decide +kernel⟩
theorem ok_initPlan {f C : Addr} {fd : FuncData} (F : Fun K "__init__" "InvalidPlan.__init__" initPlanS f fd) (T : OexC K C) (hno : PySem.W.findIn K (.ref C) "index" = some none) : FnOk P w K mg base CX0 1 f fd ["self", "index"] (fun vs H Q _ => ∃ (a : Addr) (v : V), vs = [.ref a, v] ∧ H a = some (exo a C none) ∧ ∀ dx, H dx = none → dx ≠ a → Q .non (upd (upd H dx (exd dx [("index", v)])) a (exo a C (some dx)))) := by
  refine F.ok sc_initPlan (fun vs H Q E h => ?_) (fun cdv A outer s H vs Q E hr h => ?_)
  · obtain ⟨a, v, rfl, _⟩ := h
    rfl
  · obtain ⟨a, v, rfl, ha, k⟩ := h
    refine ⟨_, pss_one (ps_ost (pv 0) (pv 1)), ?_⟩
    exact ⟨_, rfl, _, rfl, a, C, rfl, T, hno, .inl ⟨ha, k⟩⟩
/-- no text -/
def NoStr (K : PySem.W.Frag) (H : Hp) (v : V) : Prop := ∃ T, TyB K H v T ∧ T ≠ "str" ∧ T ∈ tyNames
def spCkT (K : PySem.W.Frag) (CT : Addr) : Sp := fun vs H Q E => ∃ v : V, vs = [v] ∧ (((∃ z, v = .str z) ∧ Q .non H) ∨ (NoStr K H v ∧ XT CT 0 H E))
theorem sc_ckt : FnScope ["text"] ["text"] (defScope st_check_text) := ⟨rfl, rfl, rfl, by decide +kernel, rfl, by decide +kernel, by decide +kernel⟩
theorem ok_ckt {f CT : Addr} {fd : FuncData} (F : Fun K "check_text" "check_text" st_check_text f fd) (B : Bl mg) (Y : Yc P w K mg base "InvalidText" CT "index") : FnOk P w K mg base (L2.CX P w) 3 f fd ["text"] (spCkT K CT) := by
  refine F.okX sc_ckt (fun vs H Q E h => ?_) (fun cdv A outer s H vs Q E hr h => ?_)
  · obtain ⟨v, rfl, _⟩ := h
    rfl
  · obtain ⟨v, rfl, hv⟩ := h
    have nd := sc_ckt.nd
    obtain ⟨fI, fdI, i1, i2, i3, i4⟩ := Y.i
    refine ⟨_, pss_one (ps_if (pt_cmpR op_neTy (pe_callTy call_type1 rfl B.type (by decide +kernel) (pa_cons (pv 0) pa_nil)) (pe_bltn rfl B.str (by decide +kernel) (v := .ty "str") rfl) (nomark _)) (pss_one (ps_raise rfl (takes_of rfl rfl rfl rfl) (pmk_oex (dvs := []) Y.o i1 i2 i4 (hr.mono (j := 2) (by decide)) i3 .nil pass0 rfl Y.g (pa_cons pe_int pa_nil)))) pss_nil), ?_⟩
    rcases hv with ⟨⟨z, rfl⟩, k⟩ | ⟨⟨T, hT, hne, hmem⟩, k⟩
    · exact ⟨_, rfl, _, "str", rfl, .str z, "str", "str", rfl, rfl, by decide, by decide, false, rfl, iteF k⟩
    · refine ⟨_, rfl, _, T, rfl, hT, T, "str", rfl, rfl, hmem, by decide, _, rfl, ?_⟩
      rw [decide_eq_false hne]
      refine iteT ⟨(by show 1 ≤ 1000; decide), fun a ha => ?_⟩
      refine ⟨a, _, rfl, upd_same, fun dx hdx hne => ?_⟩
      have hdx2 : H dx = none := by rw [upd_ne hne] at hdx; exact hdx
      refine ⟨rfl, dx, _, upd_same, by rw [upd_ne hne]; exact upd_same, hdx2, ?_⟩
      exact k dx _ (ext_madeT (C := CT) (f := "index") ha hdx2 hne) upd_same
def spPTold (K : PySem.W.Frag) (CT CW CL CP T1 T2 T3 T4 : Addr) : Sp := fun vs H Q E => ∃ l v : V, vs = [l, v] ∧ ((∃ d il, Dp K H l d ∧ shortD 100000 d ∧ landF d = some il ∧ XL K CL il H E) ∨
  (∃ fs bs, Dp K H l (landD fs bs) ∧ LandOk fs bs ∧ Tabs [T1, T2, T3, T4] H ∧ ((∃ z R, v = .str z ∧ z.length ≤ 100 ∧ PlanR (tl z) 0 [] R ∧ (∀ i, R = .ill i → XT CT i H E) ∧
    (∀ rows q, R = .ok rows q → (∀ a, twiceW [] (rows.flatten.map nTN) = some a → XV CW "word" (.str a) H E) ∧
      (twiceW [] (rows.flatten.map nTN) = none → (∀ i, planF fs.length bs (planD (planN rows)) = some i → XV CP "index" (.int i) H E) ∧ (planF fs.length bs (planD (planN rows)) = none → ∀ u H', Ext H H' → Dp K H' u (planD (planN rows)) → Q u H')))) ∨ (NoStr K H v ∧ XT CT 0 H E))))
abbrev ptN : List Str := ["land", "text", "rows", "row", "place", "plan", "index"]
theorem sc_ptold : FnScope ptN ["land", "text"] (defScope st_plan_told) := ⟨rfl, rfl, rfl, by decide +kernel, rfl, by decide +kernel, by decide +kernel⟩
theorem ok_ptold {f CT CW CL CP T1 T2 T3 T4 : Addr} {fd : FuncData} (F : Fun K "plan_told" "plan_told" st_plan_told f fd) (B : Bl mg) (YP : Yc P w K mg base "InvalidPlan" CP "index") (c1 : CalX P w K mg base 5 "check_land" ["land"] (spOr (spFaultLand K) (spCkLandX K CL))) (c2 : CalX P w K mg base 3 "check_text" ["text"] (spCkT K CT)) (c3 : CalX P w K mg base 5 "read_lines" ["text", "at", "least", "most"] (spLinesP K CT))
    (c4 : CalX P w K mg base 3 "check_once" ["words"] (spOnce K CW)) (c5 : Cal P w K mg base 1 "plan_with" ["wards"] (spPlanWith K)) (c6 : Cal P w K mg base 9 "fault_of_plan" ["land", "value"] (spFaultPlanA K T1 T2 T3 T4)) : FnOk P w K mg base (L2.CX P w) 10 f fd ["land", "text"] (spPTold K CT CW CL CP T1 T2 T3 T4) := by
  refine F.okX sc_ptold (fun vs H Q E h => ?_) (fun cdv A outer s H vs Q E hr h => ?_)
  · obtain ⟨l, v, rfl, _⟩ := h
    rfl
  · obtain ⟨l, v, rfl, hv⟩ := h
    have nd := sc_ptold.nd
    obtain ⟨fI, fdI, i1, i2, i3, i4⟩ := YP.i
    refine ⟨_, pss_cons (ps_expr (pe_calS c1 (hr.mono (by decide)) (takes_of rfl rfl rfl rfl) rfl (pa_cons (pv 0) pa_nil)))
      (pss_cons (ps_expr (pe_calS c2 (hr.mono (by decide)) (takes_of rfl rfl rfl rfl) rfl (pa_cons (pv 1) pa_nil)))
      (pss_cons (ps_set (i := 2) nd rfl (Or.inl rfl) (pe_calS c3 (hr.mono (by decide)) (takes_of rfl rfl rfl rfl) rfl (pa_cons (pv 1) (pa_cons pe_int (pa_cons pe_int (pa_cons pe_non pa_nil))))))
      (pss_cons (ps_expr (pe_calS c4 (hr.mono (by decide)) (takes_of rfl rfl rfl rfl) rfl (pa_cons (pe_lc2 (own := [("row", 3), ("place", 4)]) (vs1 := [4]) (g := gName 3) (g1 := gName 4) (by rfl) nd (pi_list (pv 2)) (blkOk_by (own := [("row", 3), ("place", 4)]) (N := ptN) (sc := defScope st_plan_told) (by decide +kernel)) (by decide)
        (fun _ _ _ _ _ => pg_name (i := 3) nd rfl (Or.inl rfl)) (fun _ _ _ _ _ => pts_nil) (fun _ _ _ _ _ => pi_listK (K := K) rfl (pv 3)) (fun _ _ _ _ _ => pg_name (i := 4) nd rfl (Or.inl rfl)) (fun _ _ _ _ _ => pts_nil) (fun _ _ _ _ _ => pe_callTy call_str_int rfl B.str (by decide +kernel) (pa_cons (pv 4) pa_nil))) pa_nil)))
      (pss_cons (ps_set (i := 5) nd rfl (Or.inl rfl) (pe_cal c5 (hr.mono (by decide)) rfl (pa_cons (pv 2) pa_nil)))
      (pss_cons (ps_set (i := 6) nd rfl (Or.inl rfl) (pe_cal c6 (hr.mono (by decide)) rfl (pa_cons (pv 0) (pa_cons (pv 5) pa_nil))))
      (pss_cons (ps_if (pt_cmpR op_notN (pv 6) pe_non (nomark _)) (pss_one (ps_raise rfl (takes_of rfl rfl rfl rfl) (pmk_oex (dvs := []) YP.o i1 i2 i4 (hr.mono (j := 2) (by decide)) i3 .nil pass0 rfl YP.g (pa_cons (pv 6) pa_nil)))) pss_nil)
      (pss_one (ps_ret (pv 5))))))))), ?_⟩
    rcases hv with ⟨d, il, hd, hsd, hF, kL⟩ | ⟨fs, bs, hl, ok, hT, hv⟩
    · refine ⟨_, rfl, .inr ⟨l, d, rfl, hd, hsd, fun y => (by rw [hF] at y; cases y), fun il' y => ?_⟩⟩
      rw [hF] at y
      rw [← Option.some.inj y]
      exact kL
    refine ⟨_, rfl, .inl ⟨l, fs, bs, rfl, hl, ok, ?_⟩⟩
    refine ⟨_, rfl, v, rfl, ?_⟩
    rcases hv with ⟨z, R, rfl, hz, hR, k2, k1⟩ | ⟨hno, k⟩
    rotate_left
    · exact .inr ⟨hno, k⟩
    refine .inl ⟨⟨z, rfl⟩, ?_⟩
    have hzs : Shrt z := by show _ ≤ 100000; omega
    have hbk : blk (tl z) 0 ≤ 900 := by
      unfold blk
      refine Nat.le_trans List.count_le_length ?_
      rw [List.drop_zero, ← str_len]
      omega
    refine ⟨_, rfl, z, R, rfl, hzs, hbk, hR, fun rows q hRo D H1 x1 hDH hL => ?_, k2⟩
    have k1 := k1 rows q hRo
    rw [hRo] at hR
    have hlen := hR.len (fun _ => rfl) (Nat.zero_le _) (Nat.zero_le _) (fun l hl => nomatch hl) rows q rfl
    have hlt := hR.lt (fun l hl => nomatch hl) rows q rfl
    have hcs : (tl z).length ≤ 100 := by rw [← str_len]; exact hz
    have hcnt : rows.flatten.length ≤ 50 := by
      have := hlen.1
      unfold cntR at this
      omega
    obtain ⟨as, a1, a2, a3⟩ := hL.ex
    dsimp only [gName, tSeq, List.set, L2.start, List.map, List.replicate, List.append, List.length]
    refine ⟨_, rfl, D, rfl, ⟨_, SqL.of a1⟩, fun W hW => ?_⟩
    refine lq_list (K := K) (a := D) (xs := as.map V.ref) (fun i G => G W = some (.lst (((rows.take i).flatten.map nTN).map V.str)) ∧ Ext H1 G)
      ⟨upd_same, .new hW⟩ (fun i G ⟨g1, g2⟩ => SqL.of (g2.lst a1)) (fun i v G hv ⟨g1, g2⟩ => ?_) (fun G ⟨g1, g2⟩ => ?_)
    · rw [List.getElem?_map] at hv
      cases ha : as[i]? with
      | none => rw [ha] at hv; cases hv
      | some b =>
        rw [ha] at hv
        obtain rfl := Option.some.inj hv
        have hi : i < rows.length := by
          have := (List.getElem?_eq_some_iff.mp ha).1
          omega
        have hr0 := List.getElem?_eq_getElem hi
        have hb := (a3 i b rows[i] ha hr0).1
        have hmem := List.getElem_mem hi
        generalize rows[i] = row at hr0 hb hmem
        have hltr := hlt row hmem
        refine ⟨rfl, ?_⟩
        dsimp only [tYes]
        rw [if_pos rfl]
        have htk : (rows.take (i + 1)).flatten = (rows.take i).flatten ++ row := by
          rw [List.take_add_one, hr0, List.flatten_append]
          show _ ++ List.flatten [row] = _
          rw [List.flatten_singleton]
        have hlen2 : (rows.take i).flatten.length + row.length ≤ 50 := by
          have h1 : (rows.take (i + 1)).flatten.length ≤ rows.flatten.length := by
            have h2 := congrArg List.length (show rows.flatten = (rows.take (i + 1)).flatten ++ (rows.drop (i + 1)).flatten from by rw [← List.flatten_append, List.take_append_drop])
            rw [List.length_append] at h2
            omega
          rw [htk, List.length_append] at h1
          omega
        refine ⟨_, rfl, b, rfl, ⟨_, SqL.of (g2.lst hb)⟩, ?_⟩
        refine lq_list (K := K) (a := b) (xs := vsN row) (fun j G => G W = some (.lst ((((rows.take i).flatten ++ row.take j).map nTN).map V.str)) ∧ Ext H1 G)
          ⟨by rw [List.take_zero, List.append_nil]; exact g1, g2⟩ (fun j G ⟨b1, b2⟩ => SqL.of (b2.lst hb)) (fun j v G hv ⟨b1, b2⟩ => ?_) (fun G ⟨b1, b2⟩ => ⟨?_, b2⟩)
        · rw [List.getElem?_map] at hv
          cases ho : row[j]? with
          | none => rw [ho] at hv; cases hv
          | some o =>
            rw [ho] at hv
            obtain rfl := Option.some.inj hv
            have ho12 := hltr o (List.mem_of_getElem? ho)
            refine ⟨rfl, ?_⟩
            rw [if_pos rfl]
            refine ⟨_, rfl, _, rfl, log2_lt (m := 10 ^ 12) (k := 1920) (by omega) (by decide +kernel) (by decide), _, b1, small1000 (by rw [List.length_map, List.length_map, List.length_append, List.length_take]; omega), ?_, b2.write hW⟩
            have e3 : (((rows.take i).flatten ++ row.take (j + 1)).map nTN).map V.str = (((rows.take i).flatten ++ row.take j).map nTN).map V.str ++ [V.str (Str.ofString (toString (o : Int)))] := by
              rw [List.take_add_one, ho, ← List.append_assoc]
              generalize (rows.take i).flatten ++ row.take j = pre
              rw [List.map_append, List.map_append]
              rfl
            rw [upd_same, e3]
        · rw [show (vsN row).length = row.length from List.length_map _, List.take_length] at b1
          rw [htk]
          exact b1
    · rw [List.length_map, a2, List.take_length] at g1
      refine ⟨W, rows.flatten.map nTN, rfl, SqL.of g1, by rw [List.length_map]; omega, fun hn G5 x5 => ?_, fun a ha => ((k1.1 a ha).ext (x1.trans g2))⟩
      have k1 := k1.2 hn
      have hok : RowsOk rows := ⟨hlen.2.1, nodup_of_map nTN (twiceW_none _ _ hn).2⟩
      obtain ⟨s1, s2, s3⟩ := hok.sorted
      have x15 : Ext H1 G5 := g2.trans x5
      have xH5 : Ext H G5 := x1.trans x15
      have hfl := flat_len hlen.2.1
      dsimp only [gName, tSeq, List.set]
      refine ⟨_, rfl, D, as, rows, rows.map sortN, planN rows, rfl, x15.lst a1, ⟨by rw [List.length_map]; exact a2, by rw [List.length_map], fun i a u v e1 e2 e3 => ?_⟩, fun u hu => ⟨(s1 u hu).1, (s1 u hu).2, ?_⟩, by rw [List.length_map]; omega, s2, s3, fun q H6 x6 hq0 hq => ?_⟩
      · rw [List.getElem?_map, e2] at e3
        rw [← Option.some.inj e3]
        exact ⟨x15.lst (a3 i a u e1 e2).1, (sortN_perm u).symm⟩
      · obtain ⟨u0, hu0, rfl⟩ := List.mem_map.mp hu
        rw [(sortN_perm u0).length_eq]
        have := flat_mem hu0
        omega
      have xH6 := xH5.trans x6
      have hsm : smD (planD (planN rows)) = true := sm_lots (by rw [← s2.length_eq, List.length_map]; omega) (fun r hr => by
        obtain ⟨u, hu, hp, _⟩ := hok.mem hr
        rw [hp.length_eq]
        have := flat_mem hu
        omega)
      dsimp only [gName, tSeq, List.set]
      refine ⟨_, rfl, _, rfl, l, .ref q, fs, bs, planD (planN rows), rfl, dp_ext xH6 hl, ok, hq, hsm, fun T hT' => xH6.tabs _ (hT T hT'), fun H7 x7 => ?_⟩
      have xH7 := xH6.trans x7
      dsimp only [gName, tSeq, List.set]
      cases hF : planF fs.length bs (planD (planN rows)) with
      | none =>
        refine ⟨_, rfl, rfl, _, rfl, ?_⟩
        rw [show decide (optV none = V.non) = true from decide_eq_true rfl]
        exact iteF ⟨_, rfl, k1.2 hF _ _ xH7 (dp_ext x7 hq)⟩
      | some i =>
        refine ⟨_, rfl, rfl, _, rfl, ?_⟩
        rw [decide_eq_false (fun y => nomatch y : ¬ optV (some i) = V.non)]
        refine iteT ⟨_, rfl, (by show 1 ≤ 1000; decide), fun a0 ha0 => ?_⟩
        refine ⟨a0, _, rfl, upd_same, fun dx hdx hne => ?_⟩
        have hdx2 : H7 dx = none := by rw [upd_ne hne] at hdx; exact hdx
        refine ⟨rfl, dx, _, upd_same, by rw [upd_ne hne]; exact upd_same, hdx2, ?_⟩
        exact (k1.1 i hF).ext xH7 dx _ (ext_madeT (C := CP) (f := "index") ha0 hdx2 hne) upd_same
end
end Wd

set_option Elab.async false
set_option linter.all false
set_option maxRecDepth 100000
set_option maxHeartbeats 4000000
namespace Wd
open PySem PySem.Spec PyProof.Rows L2 Bx Gx




















































section
variable {P : Program} {w : World} {K : PySem.W.Frag} {mg : Str → Option Value} {base : Heap}
/-! ### the law's own look whether a lot hangs together -/
structure Wk (bs : List (Nat × Nat)) (u : List Nat) (h : Nat) (S W : List Nat) : Prop where
  nd : S.Nodup
  sub : ∀ x ∈ S, x ∈ u
  ws : ∀ x ∈ W, x ∈ S
  conn : ∀ x ∈ S, Mk.Conn bs (· ∈ u) h x
  hd : h ∈ S
  wl : W.length ≤ S.length
structure Wc (bs : List (Nat × Nat)) (u : List Nat) (S W : List Nat) (q : Nat → Prop) : Prop where
  cl : ∀ x ∈ S, x ∉ W → ¬ q x → ∀ y ∈ u, Mk.adj bs x y = true → y ∈ S
theorem Wk.len {bs : List (Nat × Nat)} {u : List Nat} {h : Nat} {S W : List Nat} (k : Wk bs u h S W) : S.length ≤ u.length := k.nd.length_le_of_subset fun x hx => k.sub x hx
theorem Wk.push {bs : List (Nat × Nat)} {u : List Nat} {h p y : Nat} {S W : List Nat} (k : Wk bs u h S W) (hp : p ∈ S) (hy : y ∈ u) (hn : y ∉ S) (ha : Mk.adj bs p y = true) : Wk bs u h (S ++ [y]) (W ++ [y]) := by
  refine ⟨?_, fun x hx => ?_, fun x hx => ?_, fun x hx => ?_, List.mem_append_left _ k.hd, by rw [List.length_append, List.length_append]; exact Nat.add_le_add_right k.wl 1⟩
  · rw [List.nodup_append]
    exact ⟨k.nd, by simp, fun a ha b hb e => hn (by rw [← List.mem_singleton.mp hb, ← e]; exact ha)⟩
  · rcases List.mem_append.mp hx with hx | hx
    · exact k.sub x hx
    · rw [List.mem_singleton.mp hx]; exact hy
  · rcases List.mem_append.mp hx with hx | hx
    · exact List.mem_append_left _ (k.ws x hx)
    · exact List.mem_append_right _ hx
  · rcases List.mem_append.mp hx with hx | hx
    · exact k.conn x hx
    · rw [List.mem_singleton.mp hx]
      exact .step (k.conn p hp) ha hy
theorem Wk.fin {bs : List (Nat × Nat)} {u : List Nat} {h : Nat} {S : List Nat} (k : Wk bs u h S []) (c : Wc bs u S [] (fun _ => False)) (hu : u.Pairwise (· < ·)) : decide (S.length = u.length) = hangB bs u := by
  have hnd : u.Nodup := hu.imp fun h => Nat.ne_of_lt h
  have hl := k.len
  have key : S.length = u.length ↔ Hangs bs u := by
    constructor
    · intro e x hx y hy
      have all : ∀ z ∈ u, z ∈ S := fun z hz => by
        by_cases m : z ∈ S
        · exact m
        · have := (List.nodup_cons.mpr ⟨m, k.nd⟩).length_le_of_subset (l₂ := u) (fun a ha => by
            rcases List.mem_cons.mp ha with rfl | ha
            · exact hz
            · exact k.sub a ha)
          rw [List.length_cons] at this
          omega
      exact (k.conn x (all x hx)).symm.trans (k.conn y (all y hy))
    · intro hg
      have h2 := hnd.length_le_of_subset (l₂ := S) (fun y hy => ((hg h (k.sub h k.hd) y hy).closed (T := (· ∈ S)) k.hd fun x z hx hz ha => c.cl x hx (fun m => nomatch m) id z hz ha).2)
      omega
  by_cases e : S.length = u.length
  · rw [decide_eq_true e, hangB_iff.mpr (key.mp e)]
  · rw [decide_eq_false e]
    cases hb : hangB bs u with
    | false => rfl
    | true => exact absurd (key.mpr (hangB_iff.mp hb)) e
theorem inV_neg (l : List Nat) : inV (.int (-1)) (vsN l) = false := by
  unfold inV
  rw [List.any_eq_false]
  intro y hy
  obtain ⟨m, _, rfl⟩ := List.mem_map.mp hy
  show ¬ (((m : Int) == (-1)) = true)
  rw [beq_iff_eq]
  omega
theorem vsN_int (l : List Nat) : (l.map fun (m : Nat) => (m : Int)).map V.int = vsN l := by rw [List.map_map]; rfl
theorem nil_ne {H : Hp} {D z : Addr} (l : List Nat) (h : H D = some (.lst (vsN l))) (hz : H z = some (.lst [])) : ∃ d e, Dp K H (.ref D) d ∧ Dp K H (.ref z) e ∧ SeqAt.shaped d = true ∧ SeqAt.shaped e = true ∧ (!PyData.eqv d e) = !l.isEmpty := by
  refine ⟨.list ((l.map fun (m : Nat) => (m : Int)).map .int), .list [], .lst (SqL.of (by rw [h, vsN_int])) (dpAll_of_ints _), .lst (SqL.of hz) .nil, (Sh.ints (n := 0) _).shaped (by decide), (Sh.lst (n := 0) (fun d hd => by cases hd)).shaped (by decide), ?_⟩
  rw [eqv_nil]
  cases l <;> rfl
theorem m2_neD : M2 (rNeD K) := fun _ _ _ _ _ h ⟨d, e, a, b, c, f, q⟩ => ⟨d, e, a, b, c, f, h _ _ q⟩
theorem me_nil : ME (tLst tNil) := fun _ _ _ _ h ⟨a, k⟩ => ⟨a, fun p hp => h _ _ (k p hp)⟩
theorem vsN_app (l : List Nat) (x : Nat) : vsN l ++ [V.int (x : Int)] = vsN (l ++ [x]) := by
  show _ = List.map _ (l ++ [x])
  rw [List.map_append]
  rfl
theorem adj_pair {bs : List (Nat × Nat)} {c d : Nat} (h : (c, d) ∈ bs) (hlt : c < d) : Mk.adj bs c d = true := by
  unfold Mk.adj
  rw [show min c d = c by omega, show max c d = d by omega]
  exact List.contains_iff_mem.mpr h
theorem adj_mem {bs : List (Nat × Nat)} {x y : Nat} (h : Mk.adj bs x y = true) : (min x y, max x y) ∈ bs := List.contains_iff_mem.mp h
def spHangsL (K : PySem.W.Frag) : Sp := fun vs H Q _ => ∃ (l v : V) (fs : List Int) (bs : List (Nat × Nat)) (u : List Nat), vs = [l, v] ∧ Dp K H l (landD fs bs) ∧ LandOk fs bs ∧ Dp K H v (lotD u) ∧ LotOk fs.length u ∧ ∀ H', Ext H H' → Q (.bl (hangB bs u)) H'
abbrev hgN : List Str := ["land", "lot", "seen", "waiting", "place", "one", "other", "by_it"]
theorem sc_hangsL : FnScope hgN ["land", "lot"] (defScope st__law_hangs) := ⟨rfl, rfl, rfl, by decide +kernel, rfl, by decide +kernel, by decide +kernel⟩
theorem ok_hangsL {f : Addr} {fd : FuncData} (F : Fun K "_law_hangs" "_law_hangs" st__law_hangs f fd) (B : Bl mg) : FnOk P w K mg base CX0 1 f fd ["land", "lot"] (spHangsL K) := by
  refine F.ok sc_hangsL (fun vs H Q E h => ?_) (fun cdv A outer s H vs Q E hr h => ?_)
  · obtain ⟨l, v, fs, bs, u, rfl, _⟩ := h
    rfl
  · obtain ⟨l, v, fs, bs, u, rfl, hl, ok, hv, lo, k⟩ := h
    have nd := sc_hangsL.nd
    refine ⟨_, pss_cons (ps_par (i := 2) (j := 3) (by rfl) nd rfl rfl (by decide) rfl rfl (pa_cons (pe_lst (pa_cons (pe_ix ix_tup (pv 1) pe_int (fun _ _ => rfl)) pa_nil)) (pa_cons (pe_lst (pa_cons (pe_ix ix_tup (pv 1) pe_int (fun _ _ => rfl)) pa_nil)) pa_nil)) (by rfl))
      (pss_cons (ps_while PassesOwn.never (pt_cmpR (op_neDK (K := K) rfl hr.units) (pv 3) (pe_lst pa_nil) (nomark _))
        (pss_cons (ps_set (i := 4) nd rfl (Or.inl rfl) (pe_bm0 PySem.F.plainAttrs_list PySem.F.slot_list_pop PySem.F.type_list_pop mt_pop (pv 3)))
        (pss_one (ps_for PassesOwn.never rfl (pi_tup (pe_ix ix_tup (pv 0) pe_int (fun _ _ => rfl))) (pg_tup (by rfl) (pgs_cons (pg_name (i := 5) nd rfl (Or.inl rfl)) (pgs_cons (pg_name (i := 6) nd rfl (Or.inl rfl)) pgs_nil)))
          (pss_cons (ps_set (i := 7) nd rfl (Or.inl rfl) (pe_ifExp (pt_cmpR op_eq (pv 5) (pv 4) (nomark _)) (pv 6) (pe_ifExp (pt_cmpR op_eq (pv 6) (pv 4) (nomark _)) (pv 5) (pe_un un_neg pe_int))))
          (pss_one (ps_if (PW.pt (pw_and (pt_cmpR op_in_seq (pv 7) (pv 1) (by rfl)) (pw_and1 (pt_cmpR op_notIn_seq (pv 7) (pv 2) (by rfl))))) (pss_cons (ps_expr (pe_bm PySem.F.plainAttrs_list PySem.F.slot_list_append PySem.F.type_list_append mt_append (pv 2) (pa_cons (pv 7) pa_nil)))
            (pss_one (ps_expr (pe_bm PySem.F.plainAttrs_list PySem.F.slot_list_append PySem.F.type_list_append mt_append (pv 3) (pa_cons (pv 7) pa_nil))))) pss_nil)))))))
      (pss_one (ps_ret (pe_cmpR op_eq (pe_callB call_len (by rfl) B.len PySem.boot_len (pa_cons (pv 2) pa_nil)) (pe_callB call_len (by rfl) B.len PySem.boot_len (pa_cons (pv 1) pa_nil)) (nomark _))))), ?_⟩
    obtain ⟨la, lxs, rfl, h1, h2⟩ := dp_tup hl
    cases h2 with
    | @cons v1 _ _ _ d1 h2 =>
    cases h2 with
    | @cons v2 _ _ _ d2 h3 =>
    cases h3
    obtain ⟨ba, ys, rfl, s2, hys⟩ := dp_tup d2
    have hyl := dpAll_len hys
    rw [List.length_map] at hyl
    obtain ⟨va, rfl, hu⟩ := dp_lot hv
    obtain ⟨h, r, hur⟩ := List.exists_cons_of_ne_nil lo.ne
    have hhu : h ∈ u := by rw [hur]; exact List.mem_cons_self
    have hu0 : (u.map fun (p : Nat) => V.int (p : Int))[0]? = some (.int (h : Int)) := by rw [hur]; rfl
    have hul : u.length ≤ 12 := by
      have := Mk.nodup_le fs.length u (lo.asc.imp fun h => Nat.ne_of_lt h) lo.lt
      have := ok.most
      omega
    have hsl : 1000 ≤ sizeLine := by decide
    refine ⟨_, rfl, va, _, _, _, rfl, rfl, hu, atI_nat hu0, by show 1 ≤ sizeLine; omega, fun a ha => ?_⟩
    refine ⟨_, rfl, va, _, _, _, rfl, rfl, (Ext.new ha).sqT hu, atI_nat hu0, by show 1 ≤ sizeLine; omega, fun b hb => ?_⟩
    refine ⟨_, _, rfl, ?_⟩
    have hab : a ≠ b := ne_of_none upd_same hb
    have hbH : H b = none := (Ext.new ha).free hb
    have x0 : Ext H (upd (upd H a (.lst [.int (h : Int)])) b (.lst [.int (h : Int)])) := (Ext.new ha).trans (.new hb)
    have ea : (upd (upd H a (.lst [.int (h : Int)])) b (.lst [.int (h : Int)])) a = some (.lst (vsN [h])) := by rw [upd_ne hab, upd_same]; rfl
    have eb : (upd (upd H a (.lst [.int (h : Int)])) b (.lst [.int (h : Int)])) b = some (.lst (vsN [h])) := upd_same
    dsimp only [tNext, tSeq, gName, List.set, L2.start, List.map, List.replicate, List.append, List.length]
    generalize upd (upd H a (.lst [.int (h : Int)])) b (.lst [.int (h : Int)]) = H1 at x0 ea eb ⊢
    refine while_by (fun σ G => ∃ (S W : List Nat) (o4 o5 o6 o7 : Option V), σ = [some (.ref la), some (.ref va), some (.ref a), some (.ref b), o4, o5, o6, o7] ∧ G a = some (.lst (vsN S)) ∧ G b = some (.lst (vsN W)) ∧ Ext H G ∧ Wk bs u h S W ∧ Wc bs u S W (fun _ => False))
      (fun _ G => match G a, G b with
        | some (.lst xs), some (.lst ys) => ys.length + 2 * (u.length - xs.length)
        | _, _ => 0) ⟨[h], [h], none, none, none, none, rfl, ea, eb, x0, ⟨by simp, (fun x hx => by rw [List.mem_singleton.mp hx]; exact hhu), (fun x hx => hx), (fun x hx => by rw [List.mem_singleton.mp hx]; exact .refl hhu), by simp, Nat.le_refl _⟩, ⟨fun x hx hn => absurd hx hn⟩⟩ ?_ ?_
    · rintro σ G ⟨S, W, o4, o5, o6, o7, rfl, e1, e2, x, wk, wc⟩
      have hSl := wk.len
      refine ⟨_, rfl, Nat.zero_le _, fun z hz => ?_⟩
      obtain ⟨d, d', q1, q2, q3, q4, q5⟩ := nil_ne (K := K) (H := upd G z (.lst [])) (D := b) (z := z) W ((Ext.new hz).lst e2) upd_same
      refine ⟨d, d', q1, q2, q3, q4, _, rfl, ?_⟩
      rw [q5]
      have hmu : (match G a, G b with | some (.lst xs), some (.lst ys) => ys.length + 2 * (u.length - xs.length) | _, _ => 0) = W.length + 2 * (u.length - S.length) := by
        rw [e1, e2]
        show (vsN W).length + 2 * (u.length - (vsN S).length) = _
        rw [show (vsN W).length = W.length from List.length_map _, show (vsN S).length = S.length from List.length_map _]
      rw [hmu]
      clear hmu
      have e1z := (Ext.new hz (o := .lst [])).lst e1
      have e2z := (Ext.new hz (o := .lst [])).lst e2
      have xz := x.trans (.new hz (o := .lst []))
      generalize upd G z (.lst []) = G1 at e1z e2z xz ⊢
      clear q1 q2 q3 q4 q5 hz e1 e2 x
      rcases List.eq_nil_or_concat W with rfl | ⟨W0, p, hW⟩
      · refine iteF ?_
        have hfin := wk.fin wc lo.asc
        refine ⟨_, rfl, _, S.length, rfl, .inl ⟨_, SqL.of e1z, (List.length_map _).symm⟩, _, rfl, _, u.length, rfl, .inr ⟨_, xz.sqT hu, (List.length_map _).symm⟩, rfl, ?_⟩
        rw [show decide (V.int ((S.length : Nat) : Int) = V.int ((u.length : Nat) : Int)) = decide (S.length = u.length) from decide_eq_decide.mpr ⟨fun e => by injection e with e; omega, fun e => by rw [e]⟩, hfin]
        exact k G1 xz
      · rw [List.concat_eq_append] at hW
        subst hW
        rw [show (!(W0 ++ [p]).isEmpty) = true by cases W0 <;> rfl]
        refine iteT ?_
        have hp : p ∈ S := wk.ws p (List.mem_append_right _ List.mem_cons_self)
        dsimp only [tSeq]
        refine ⟨_, rfl, .inl ⟨rfl, _, SqL.of e2z⟩, b, _, .int (p : Int), rfl, rfl, e2z, ?_, ?_⟩
        · rw [← vsN_app, List.length_append, List.length_singleton, Nat.add_sub_cancel, List.getElem?_append_right (Nat.le_refl _), Nat.sub_self]
          rfl
        rw [← vsN_app, List.dropLast_concat]
        have e1b : (upd G1 b (.lst (vsN W0))) a = some (.lst (vsN S)) := by rw [upd_ne hab]; exact e1z
        have e2b : (upd G1 b (.lst (vsN W0))) b = some (.lst (vsN W0)) := upd_same
        have xb : Ext H (upd G1 b (.lst (vsN W0))) := xz.write hbH
        generalize upd G1 b (.lst (vsN W0)) = G2 at e1b e2b xb ⊢
        clear e1z e2z xz
        dsimp only [gName, List.set]
        have wk0 : Wk bs u h S W0 := ⟨wk.nd, wk.sub, fun x hx => wk.ws x (List.mem_append_left _ hx), wk.conn, wk.hd, by have := wk.wl; rw [List.length_append] at this; omega⟩
        have wc0 : Wc bs u S W0 (· = p) := ⟨fun x hx hn hq => wc.cl x hx (fun m => by
          rcases List.mem_append.mp m with m | m
          · exact hn m
          · exact hq (List.mem_singleton.mp m)) id⟩
        refine ⟨_, rfl, la, _, _, _, rfl, rfl, xb.sqT h1, atI_nat (j := 1) rfl, ba, rfl, ⟨_, xb.sqT s2⟩, for_tup (K := K) (a := ba) (xs := ys) (fun i σ G => ∃ (S' W' : List Nat) (o5 o6 o7 : Option V), σ = [some (.ref la), some (.ref va), some (.ref a), some (.ref b), some (.int (p : Int)), o5, o6, o7] ∧ G a = some (.lst (vsN S')) ∧ G b = some (.lst (vsN W')) ∧ Ext H G ∧ Wk bs u h S' W' ∧ Wc bs u S' W' (· = p) ∧ p ∈ S' ∧
            (∀ j c d, j < i → bs[j]? = some (c, d) → (c = p → d ∈ u → d ∈ S') ∧ (d = p → c ∈ u → c ∈ S')) ∧ W'.length + 2 * (u.length - S'.length) ≤ W0.length + 2 * (u.length - S.length))
          ⟨S, W0, o5, o6, o7, rfl, e1b, e2b, xb, wk0, wc0, hp, (fun j c d hj => absurd hj (Nat.not_lt_zero _)), Nat.le_refl _⟩ (fun i σ G _ ⟨_, _, _, _, _, _, _, _, x, _⟩ => x.sqT s2) (fun i v σ G hv ⟨S', W', o5, o6, o7, e, g1, g2, x, wk', wc', hp', hpart, hle⟩ => ?_) (fun σ G ⟨S', W', o5, o6, o7, e, g1, g2, x, wk', wc', hp', hpart, hle⟩ => ?_)⟩
        · subst e
          obtain ⟨dy, hdy, hpy⟩ := dpAll_get' hys hv
          have hi := (List.getElem?_eq_some_iff.mp hv).1
          have hbi := List.getElem?_eq_getElem (show i < bs.length by omega)
          rw [List.getElem?_map, hbi] at hdy
          obtain rfl := Option.some.inj hdy
          have hbm := List.getElem_mem (show i < bs.length by omega)
          generalize bs[i] = cd at hpy hbi hbm
          obtain ⟨c, d⟩ := cd
          have hcd := ok.bord (c, d) hbm
          obtain ⟨pb, rfl, hb2⟩ := dp_lot (ps := [c, d]) hpy
          refine ⟨pb, _, rfl, x.sqT hb2, rfl, _, _, rfl, _, _, rfl, rfl, ?_⟩
          dsimp only [tSeq]
          refine via (fun σ' G' => ∃ y : Int, σ' = [some (.ref la), some (.ref va), some (.ref a), some (.ref b), some (.int (p : Int)), some (.int (c : Int)), some (.int (d : Int)), some (.int y)] ∧ G' = G ∧
              ((∃ e : Nat, y = (e : Int) ∧ Mk.adj bs p e = true ∧ ∀ S'' : List Nat, (e ∈ u → e ∈ S'') → (c = p → d ∈ u → d ∈ S'') ∧ (d = p → c ∈ u → c ∈ S'')) ∨ (y = -1 ∧ c ≠ p ∧ d ≠ p))) (fun σ' G' hJ => ?_) (fun nx hnx => ?_)
          rotate_left
          · refine ⟨_, rfl, _, rfl, rfl, _, rfl, ?_⟩
            by_cases hc : c = p
            · rw [show decide (V.int (c : Int) = V.int (p : Int)) = true from decide_eq_true (by rw [hc])]
              exact iteT ⟨_, rfl, hnx _ _ ⟨_, rfl, rfl, .inl ⟨d, rfl, by rw [← hc]; exact adj_pair hbm hcd.1, fun S'' h => ⟨fun _ => h, fun e => by omega⟩⟩⟩⟩
            · rw [show decide (V.int (c : Int) = V.int (p : Int)) = false from decide_eq_false (fun e => hc (by injection e with e; omega))]
              refine iteF ⟨_, rfl, _, rfl, rfl, _, rfl, ?_⟩
              by_cases hd : d = p
              · rw [show decide (V.int (d : Int) = V.int (p : Int)) = true from decide_eq_true (by rw [hd])]
                exact iteT ⟨_, rfl, hnx _ _ ⟨_, rfl, rfl, .inl ⟨c, rfl, by rw [← hd, Mk.adj_comm]; exact adj_pair hbm hcd.1, fun S'' h => ⟨fun e => by omega, fun _ => h⟩⟩⟩⟩
              · rw [show decide (V.int (d : Int) = V.int (p : Int)) = false from decide_eq_false (fun e => hd (by injection e with e; omega))]
                exact iteF ⟨_, rfl, hnx _ _ ⟨_, rfl, rfl, .inr ⟨rfl, hc, hd⟩⟩⟩
          obtain ⟨y, rfl, rfl, hy⟩ := hJ
          have vl : ∀ l : List Nat, (vsN l).length = l.length := fun l => List.length_map _
          have part : ∀ S'' : List Nat, (∀ z ∈ S', z ∈ S'') → ((c = p → d ∈ u → d ∈ S'') ∧ (d = p → c ∈ u → c ∈ S'')) → ∀ j c' d', j < i + 1 → bs[j]? = some (c', d') → (c' = p → d' ∈ u → d' ∈ S'') ∧ (d' = p → c' ∈ u → c' ∈ S'') := fun S'' hsub hcd2 j c' d' hj hb => by
            by_cases hji : j < i
            · have := hpart j c' d' hji hb
              exact ⟨fun e m => hsub _ (this.1 e m), fun e m => hsub _ (this.2 e m)⟩
            · rw [show j = i by omega, hbi] at hb
              injection hb with hb
              injection hb with e1 e2
              subst e1 e2
              exact hcd2
          refine ⟨_, rfl, _, rfl, va, vsN u, rfl, .inr (x.sqT hu), rfl, flat_vsN u, _, rfl, ?_⟩
          rw [if_neg Bool.false_ne_true]
          rcases hy with ⟨e, rfl, hadj, hpe⟩ | ⟨rfl, hc, hd⟩
          · rw [inV_vsN]
            by_cases he : e ∈ u
            · rw [decide_eq_true he]
              refine iteT ⟨_, rfl, _, rfl, a, vsN S', rfl, .inl (SqL.of g1), rfl, flat_vsN S', _, rfl, ?_⟩
              rw [if_pos rfl, inV_vsN]
              by_cases hs : e ∈ S'
              · rw [decide_eq_true hs]
                exact iteF ⟨S', W', _, _, _, rfl, g1, g2, x, wk', wc', hp', part S' (fun z h => h) (hpe S' fun _ => hs), hle⟩
              · rw [decide_eq_false hs]
                have wk2 := wk'.push hp' he hs hadj
                have hl2 := wk2.len
                rw [List.length_append, List.length_singleton] at hl2
                refine iteT ⟨_, rfl, .inl ⟨rfl, _, SqL.of g1⟩, _, rfl, a, _, _, rfl, rfl, g1, by rw [vl]; omega, ?_⟩
                have g2' : (upd G' a (.lst (vsN S' ++ [.int (e : Int)]))) b = some (.lst (vsN W')) := by rw [upd_ne (fun y => hab y.symm)]; exact g2
                have hWl : W'.length ≤ 100 := by
                  have := wk'.len
                  have := wk'.wl
                  omega
                refine ⟨_, rfl, .inl ⟨rfl, _, SqL.of g2'⟩, _, rfl, b, _, _, rfl, rfl, g2', by rw [vl]; omega, ?_⟩
                refine ⟨S' ++ [e], W' ++ [e], _, _, _, rfl, ?_, ?_, (x.write ha).write hbH, wk2, ⟨fun z hz hn hq y hy hA => ?_⟩, List.mem_append_left _ hp', part _ (fun z h => List.mem_append_left _ h) (hpe _ fun _ => List.mem_append_right _ List.mem_cons_self), ?_⟩
                · rw [upd_ne hab, upd_same, vsN_app]
                · rw [upd_same, vsN_app]
                · refine List.mem_append_left _ (wc'.cl z ?_ (fun m => hn (List.mem_append_left _ m)) hq y hy hA)
                  rcases List.mem_append.mp hz with hz | hz
                  · exact hz
                  · exact absurd (List.mem_append_right _ hz) hn
                · rw [List.length_append, List.length_append, List.length_singleton]
                  omega
            · rw [decide_eq_false he]
              exact iteF (iteF ⟨S', W', _, _, _, rfl, g1, g2, x, wk', wc', hp', part S' (fun z h => h) (hpe S' fun m => absurd m he), hle⟩)
          · rw [inV_neg]
            exact iteF (iteF ⟨S', W', _, _, _, rfl, g1, g2, x, wk', wc', hp', part S' (fun z h => h) ⟨fun e => absurd e hc, fun e => absurd e hd⟩, hle⟩)
        · subst e
          rw [hyl] at hpart
          refine ⟨⟨S', W', _, _, _, _, rfl, g1, g2, x, wk', ⟨fun z hz hn _ y hy hA => ?_⟩⟩, ?_⟩
          · by_cases hzp : z = p
            · subst hzp
              have hm := adj_mem hA
              have hne := (Mk.adj_lt ok.bord hA).2.2
              obtain ⟨j, hj, ej⟩ := List.mem_iff_getElem.mp hm
              have hpj := hpart j _ _ hj (by rw [List.getElem?_eq_getElem hj, ej])
              by_cases hlt : z < y
              · have e1 : min z y = z := by omega
                have e2 : max z y = y := by omega
                rw [e1, e2] at hpj
                exact hpj.1 rfl hy
              · have e1 : min z y = y := by omega
                have e2 : max z y = z := by omega
                rw [e1, e2] at hpj
                exact hpj.2 rfl hy
            · exact wc'.cl z hz hn hzp y hy hA
          · rw [g1, g2]
            show (vsN W').length + 2 * (u.length - (vsN S').length) < _
            rw [show (vsN W').length = W'.length from List.length_map _, show (vsN S').length = S'.length from List.length_map _, List.length_append, List.length_singleton]
            omega
    · exact mt_test (me_op m2_neD (me_var 3) me_nil)
end
end Wd

set_option Elab.async false
set_option linter.all false
set_option maxRecDepth 100000
set_option maxHeartbeats 4000000
namespace Wd
open PySem PySem.Spec PyProof.Rows L2 Bx Gx




















































section
/-! ### the fault of lots in sequence without a place twice -/
structure SrtP (zs : List (List Nat)) : Prop where
  ne : zs ≠ []
  lots : ∀ u ∈ zs, u ≠ [] ∧ u.Pairwise (· < ·)
  nd : zs.flatten.Nodup
  hd : zs.Pairwise hdLt
theorem flat_sortN : ∀ rows : List (List Nat), (rows.map sortN).flatten.Perm rows.flatten
  | [] => .refl _
  | u :: r => by
    rw [List.map_cons, List.flatten_cons, List.flatten_cons]
    exact (sortN_perm u).append (flat_sortN r)
theorem planN_flat (rows : List (List Nat)) : (planN rows).flatten.Perm rows.flatten := (List.Perm.flatten (List.mergeSort_perm _ _)).trans (flat_sortN rows)
theorem RowsOk.srt {rows : List (List Nat)} (h : RowsOk rows) (hne : rows ≠ []) : SrtP (planN rows) := by
  have hs := h.sorted
  refine ⟨fun e => hne ?_, fun u hu => hs.1 u (hs.2.1.mem_iff.mpr hu), (planN_flat rows).nodup_iff.mpr h.nd, hs.2.2⟩
  have := hs.2.1.length_eq
  rw [e, List.length_map] at this
  exact List.length_eq_zero_iff.mp this
noncomputable def badP (n : Nat) (bs : List (Nat × Nat)) (u : List Nat) : Bool := !decide (∀ p ∈ u, p < n) || !hangB bs u
noncomputable def fltP (n : Nat) (bs : List (Nat × Nat)) (zs : List (List Nat)) : Option Int := match (List.range zs.length).find? fun k => badP n bs (zs.getD k []) with
  | some k => some (k : Int)
  | none => if zs.flatten.length < n then some (zs.length : Int) else none
theorem find_congrN {p q : Nat → Bool} : ∀ (l : List Nat), (∀ k ∈ l, p k = q k) → l.find? p = l.find? q
  | [], _ => rfl
  | x :: l, h => by
    rw [List.find?_cons, List.find?_cons, h x List.mem_cons_self, find_congrN l fun k hk => h k (List.mem_cons_of_mem _ hk)]
theorem ward_get {zs : List (List Nat)} {k : Nat} (h : k < zs.length) : (zs.map lotD).getD k .none = lotD zs[k] ∧ wardAt (zs.map lotD) k = zs[k] ∧ zs.getD k [] = zs[k] := by
  have e : (zs.map lotD).getD k .none = lotD zs[k] := by rw [List.getD_eq_getElem?_getD, List.getElem?_map, List.getElem?_eq_getElem h]; rfl
  refine ⟨e, ?_, by rw [List.getD_eq_getElem?_getD, List.getElem?_eq_getElem h]; rfl⟩
  unfold wardAt
  rw [e, natsD_lotD]
theorem flat_dis : ∀ {zs : List (List Nat)}, zs.flatten.Nodup → ∀ (i j : Nat) (hi : i < zs.length) (hj : j < zs.length), i ≠ j → ∀ x ∈ zs[i], x ∉ zs[j]
  | zs, h, i, j, hi, hj, hne, x, hx, m => by
    have hp := nodup_pair h
    rw [List.pairwise_iff_getElem] at hp
    by_cases hl : i < j
    · exact hp i j hi hj hl x hx m
    · exact hp j i hj hi (by omega) x m hx
theorem badW_badP {n : Nat} {bs : List (Nat × Nat)} {zs : List (List Nat)} (h : SrtP zs) {k : Nat} (hk : k < zs.length) : badW n bs (zs.map lotD) k = badP n bs (zs.getD k []) := by
  obtain ⟨e1, e2, e3⟩ := ward_get hk
  have hl := h.lots _ (List.getElem_mem hk)
  unfold badW badP
  rw [e1, e2, e3]
  have m1 : meetsW (zs.map lotD) k = false := by
    unfold meetsW
    rw [e2, List.any_eq_false]
    intro p hp
    rw [Bool.not_eq_true, List.any_eq_false]
    intro j hj
    have hj := List.mem_range.mp hj
    rw [(ward_get (show j < zs.length by omega)).2.1, decide_eq_true_eq]
    exact flat_dis h.nd k j hk (by omega) (by omega) p hp
  have m2 : (decide (0 < k) && lexLe zs[k] (wardAt (zs.map lotD) (k - 1))) = false := by
    by_cases h0 : 0 < k
    · have hk1 : k - 1 < zs.length := by omega
      rw [(ward_get hk1).2.1]
      have hh := h.hd
      rw [List.pairwise_iff_getElem] at hh
      have h3 : lexLe zs[k] zs[k - 1] = false := lexN_false hl.1 (h.lots _ (List.getElem_mem hk1)).1 (hh (k - 1) k hk1 hk (by omega))
      rw [h3, Bool.and_false]
    · rw [decide_eq_false h0, Bool.false_and]
  have m3 : lotB n (lotD zs[k]) = decide (∀ p ∈ zs[k], p < n) := by
    by_cases ha : ∀ p ∈ zs[k], p < n
    · rw [decide_eq_true ha]
      exact lotB_is ⟨hl.1, ha, hl.2⟩
    · rw [decide_eq_false ha]
      cases hb : lotB n (lotD zs[k]) with
      | false => rfl
      | true =>
        have := (lotB_ok hb).2.lt
        rw [natsD_lotD] at this
        exact absurd this ha
  rw [m1, m2, m3, Bool.false_or, Bool.or_false]
theorem planF_flt {n : Nat} {bs : List (Nat × Nat)} {zs : List (List Nat)} (h : SrtP zs) : planF n bs (planD zs) = fltP n bs zs := by
  have hne : (zs.map lotD).isEmpty = false := by
    cases zs with
    | nil => exact absurd rfl h.ne
    | cons _ _ => rfl
  show (if (zs.map lotD).isEmpty = true then some 0 else match (List.range (zs.map lotD).length).find? (badW n bs (zs.map lotD)) with
    | some k => some (k : Int)
    | none => if allW n (zs.map lotD) = true then none else some ((zs.map lotD).length : Int)) = _
  rw [if_neg (by rw [hne]; exact Bool.false_ne_true), List.length_map]
  unfold fltP
  rw [find_congrN (p := badW n bs (zs.map lotD)) (q := fun k => badP n bs (zs.getD k [])) (List.range zs.length) fun k hk => badW_badP h (List.mem_range.mp hk)]
  cases hf : (List.range zs.length).find? (fun k => badP n bs (zs.getD k [])) with
  | some k => rfl
  | none =>
    dsimp only
    have hall : ∀ u ∈ zs, ∀ p ∈ u, p < n := fun u hu p hp => by
      obtain ⟨k, hk, ek⟩ := List.mem_iff_getElem.mp hu
      have h1 := List.find?_eq_none.mp hf k (List.mem_range.mpr hk)
      rw [(ward_get hk).2.2, ek] at h1
      unfold badP at h1
      rw [Bool.not_eq_true, Bool.or_eq_false_iff, Bool.not_eq_false'] at h1
      exact of_decide_eq_true h1.1 p hp
    have hfl : ∀ p ∈ zs.flatten, p < n := fun p hp => by
      obtain ⟨u, hu, hp⟩ := List.mem_flatten.mp hp
      exact hall u hu p hp
    have key : allW n (zs.map lotD) = true ↔ ∀ p, p < n → p ∈ zs.flatten := by
      unfold allW
      rw [List.all_eq_true]
      constructor
      · intro a p hp
        have := a p (List.mem_range.mpr hp)
        rw [List.any_eq_true] at this
        obtain ⟨j, hj, e⟩ := this
        rw [List.length_map] at hj
        have hj := List.mem_range.mp hj
        rw [(ward_get hj).2.1, decide_eq_true_eq] at e
        exact List.mem_flatten.mpr ⟨_, List.getElem_mem hj, e⟩
      · intro a p hp
        obtain ⟨u, hu, hpu⟩ := List.mem_flatten.mp (a p (List.mem_range.mp hp))
        obtain ⟨k, hk, ek⟩ := List.mem_iff_getElem.mp hu
        rw [List.any_eq_true]
        refine ⟨k, List.mem_range.mpr (by rw [List.length_map]; exact hk), ?_⟩
        rw [(ward_get hk).2.1, ek, decide_eq_true_eq]
        exact hpu
    by_cases hlt : zs.flatten.length < n
    · rw [if_pos hlt, if_neg]
      intro a
      have := List.nodup_range.length_le_of_subset (l₁ := List.range n) (l₂ := zs.flatten) fun p hp => key.mp a p (List.mem_range.mp hp)
      rw [List.length_range] at this
      omega
    · rw [if_neg hlt, if_pos]
      refine key.mpr fun p hp => ?_
      by_cases m : p ∈ zs.flatten
      · exact m
      · have := (List.nodup_cons.mpr ⟨m, h.nd⟩).length_le_of_subset (l₂ := List.range n) fun a ha => by
          rcases List.mem_cons.mp ha with rfl | ha
          · exact List.mem_range.mpr hp
          · exact List.mem_range.mpr (hfl a ha)
        rw [List.length_cons, List.length_range] at this
        omega
end
end Wd

set_option Elab.async false
set_option linter.all false
set_option maxRecDepth 100000
set_option maxHeartbeats 4000000
/-! Mn: min(xs, default=None) of data; repr of data where nothing is being shown. -/
namespace Bx
open PySem PySem.Spec PyProof.Rows L2
open PySem.W (dataLt)
/-! ### the order of alike data -/
theorem lt_irr (d : PyData) : dataLt d d = false := PyProof.Rows.lex_irrefl (O := PyProof.Rows.itemOrd) _
theorem lt_asym {d e : PyData} (h : dataLt d e = true) : dataLt e d = false := by
  cases z : dataLt e d with
  | false => rfl
  | true => exact (Bool.noConfusion ((lt_irr d).symm.trans (PyProof.Rows.lex_trans (O := PyProof.Rows.itemOrd) _ _ _ h z)))
theorem lt_neg {d e f : PyData} (h1 : dataLt e d = false) (h2 : dataLt f e = false) : dataLt f d = false := by
  cases z : dataLt f d with
  | false => rfl
  | true =>
    rcases PyProof.Rows.lex_negTrans (O := PyProof.Rows.itemOrd) _ (PySem.W.keyToks e) _ z with q | q
    · exact Bool.noConfusion (q.symm.trans h2)
    · exact Bool.noConfusion (q.symm.trans h1)
/-- neither is less: they are equal -/
theorem lt_tri {d e : PyData} (h : PySem.W.alike d e = true) (h1 : dataLt d e = false) (h2 : dataLt e d = false) : PyData.eqv d e = true := by
  have et : PySem.W.keyToks d = PySem.W.keyToks e := PyProof.Rows.lex_total (O := PyProof.Rows.itemOrd) _ _ h1 h2
  cases q : PyData.eqv d e with
  | true => rfl
  | false =>
    have z := (PySem.W.toks_eqv d e h).2 q [.inl 0] [.inl 1]
    rw [et, PySem.W.lex_pre, PyProof.Rows.lex_irrefl] at z
    exact absurd z (by decide +kernel)
theorem foldMin_le : ∀ (xs : List PyData) (x : PyData), (∀ y, y = x ∨ y ∈ xs → dataLt y (xs.foldl (fun a y => if dataLt y a then y else a) x) = false) ∧ (xs.foldl (fun a y => if dataLt y a then y else a) x = x ∨ xs.foldl (fun a y => if dataLt y a then y else a) x ∈ xs)
  | [], x => ⟨(fun y h => h.elim (fun e => e ▸ lt_irr y) fun h => nomatch h), .inl rfl⟩
  | z :: xs, x => by
    rw [List.foldl_cons]
    by_cases c : dataLt z x = true
    · rw [if_pos c]
      obtain ⟨h1, h2⟩ := foldMin_le xs z
      refine ⟨fun y h => ?_, .inr (h2.elim (fun e => by rw [e]; exact List.mem_cons_self) fun m => List.mem_cons_of_mem _ m)⟩
      rcases h with rfl | h
      · exact lt_neg (h1 z (.inl rfl)) (lt_asym c)
      · rcases List.mem_cons.mp h with rfl | h
        · exact h1 _ (.inl rfl)
        · exact h1 _ (.inr h)
    · rw [if_neg c]
      obtain ⟨h1, h2⟩ := foldMin_le xs x
      refine ⟨fun y h => ?_, h2.elim .inl fun m => .inr (List.mem_cons_of_mem _ m)⟩
      rcases h with rfl | h
      · exact h1 _ (.inl rfl)
      · rcases List.mem_cons.mp h with rfl | h
        · exact lt_neg (h1 x (.inl rfl)) (by simpa using c)
        · exact h1 _ (.inr h)
/-! ### min(xs, default=None) -/
def rMinDt (K : PySem.W.Frag) : List V → List V → Hp → VK → Prop := fun vs zs H Q => ∃ (a : Addr) (xs : List V) (ds : List PyData), vs = [V.ref a] ∧ zs = [V.non] ∧ SqL K H a xs ∧ DpAll K H xs ds ∧ PySem.W.AlikeAll ds ∧ PyData.depthAll ds ≤ 40 ∧
  (ds = [] → Q .non H) ∧ ∀ x d, x ∈ xs → d ∈ ds → Dp K H x d → (∀ e ∈ ds, dataLt e d = false) → Q x H
theorem cr_minDt {X : Cx} (hc : X.calm = true) (hu : X.A.units + 64 < cLine) : CallRK X (.builtin "min") ["default"] (rMinDt X.K) := by
  intro pins s σ H vs zs us ws Q I r1 r2 h
  obtain ⟨a, xs, ds, rfl, rfl, hs, hd, ha, hdp, q0, q⟩ := h
  obtain rfl : us = [Value.ref a] := Vals.ref1 r1
  obtain ⟨u, rfl, ru⟩ := vals1 r2
  cases (show u = Value.none from ru)
  obtain ⟨its, rv, hl, hz⟩ := I.list hs
  obtain ⟨as, hr⟩ := Dp.readsAll I ds xs its hd rv
  have hl' : s.heap.IsList a its.toArray := hl.isList
  have hr' : ReadsAll s.heap its.toArray.toList ds as := by simpa using hr
  refine PySem.W.min_list_default (I.ok.hd hc) hl' hr' ha (by omega) (fun e h' tk hk => ?_) fun y ys i v h' tk bs e hv rd hk => ?_
  · exact ⟨.non, H, I.kept (t' := tk) hk, rfl, q0 e⟩
  · have hv' : its[i]? = some v := by simpa using hv
    have hxl := rv.length
    have hi := (List.getElem?_eq_some_iff.mp hv').1
    have hx : xs[i]? = some xs[i] := List.getElem?_eq_getElem (by omega)
    obtain ⟨d, hd1, hd2⟩ := dpAll_get' hd hx
    have rel := vals_at rv hx hv'
    have I' := I.kept (t' := tk) hk
    obtain ⟨bs2, rd2⟩ := Dp.reads I' d _ v hd2 rel
    obtain ⟨m1, m2⟩ := foldMin_le ys y
    have md : PySem.W.minD y ys ∈ ds := by
      rw [e]
      rcases m2 with z | z
      · exact List.mem_cons.mpr (.inl z)
      · exact List.mem_cons_of_mem _ z
    have ed : PySem.W.minD y ys = d := PySem.W.alike_unique _ _ v _ _ (ha.1 _ md _ (List.mem_of_getElem? hd1)) rd rd2
    refine ⟨xs[i], H, I', rel, q _ d (List.getElem_mem _) (List.mem_of_getElem? hd1) hd2 fun e' he' => ?_⟩
    rw [← ed]
    refine m1 e' ?_
    rw [e] at he'
    exact List.mem_cons.mp he'
/-! ### repr of data -/
def rReprD (K : PySem.W.Frag) : List V → Hp → VK → Prop := fun vs H Q => ∃ (a : Addr) (d : PyData), vs = [V.ref a] ∧ Dp K H (.ref a) d ∧ d.showable = true ∧ d.hasDict = false ∧ d.depth ≤ 40 ∧ d.shown.length ≤ sizeLine ∧ Q (.str d.shown) H
theorem cr_reprD {X : Cx} (hg : X.A.guards = some []) (hu : X.A.units + 64 < cLine) : CallR X (.builtin "repr") (rReprD X.K) := by
  intro pins s σ H vs us Q I r h
  obtain ⟨a, d, rfl, hd, h1, h2, h3, h4, q⟩ := h
  obtain rfl : us = [Value.ref a] := Vals.ref1 r
  obtain ⟨as, rd⟩ := Dp.reads I d _ _ hd (rfl : RelV (V.ref a) (Value.ref a))
  exact repr_of_reads' rd h1 (PyData.noDict_hsm h2) hg (by omega) (fun _ _ e => e) (fun h' u tk hk => ⟨.str d.shown, H, I.kept (t' := tk) hk, ⟨u, rfl⟩, q⟩) h4
/-- data that repr tells: its depth, and how much it holds -/
structure Rp (n W : Nat) (d : PyData) : Prop where
  show_ : d.showable = true
  dict : d.hasDict = false
  short : d.leavesShort 13 = true
  dep : d.depth ≤ n
  wt : d.weight ≤ W
theorem Rp.mono {n W m V : Nat} {d : PyData} (h : Rp n W d) (h1 : n ≤ m) (h2 : W ≤ V) : Rp m V d := ⟨h.show_, h.dict, h.short, Nat.le_trans h.dep h1, Nat.le_trans h.wt h2⟩
theorem Rp.int {i : Int} (h1 : -999999999999 ≤ i) (h2 : i ≤ 999999999999) : Rp 0 40 (.int i) := by
  have e : i.natAbs < 2 ^ 40 := by
    have : (2 : Nat) ^ 40 = 1099511627776 := by decide
    omega
  have hlog : i ≠ 0 → i.natAbs.log2 < 40 := fun hz => (Nat.log2_lt (by omega)).mpr e
  refine ⟨?_, by simp [PyData.hasDict], ?_, by simp [PyData.depth], ?_⟩
  · simp only [PyData.showable, decide_eq_true_eq]
    by_cases hz : i = 0
    · subst hz; decide
    · have := hlog hz
      omega
  · simp only [PyData.leavesShort, decide_eq_true_eq]
    exact PyData.shown_int_le2 h1 h2
  · simp only [PyData.weight]
    by_cases hz : i = 0
    · subst hz; decide
    · have := hlog hz
      rw [if_neg (by simpa using hz)]
      omega
theorem Rp.non : Rp 0 40 .none := ⟨by simp [PyData.showable], by simp [PyData.hasDict], by simp [PyData.leavesShort], by simp [PyData.depth], by simp [PyData.weight]⟩
theorem rp_all {n W : Nat} : ∀ {ds : List PyData}, (∀ d ∈ ds, Rp n W d) → PyData.showableAll ds = true ∧ PyData.hasDictAll ds = false ∧ PyData.leavesShortAll 13 ds = true ∧ PyData.depthAll ds ≤ n ∧ PyData.weightAll ds ≤ ds.length * (W + 1)
  | [], _ => by simp [PyData.showableAll, PyData.hasDictAll, PyData.leavesShortAll, PyData.depthAll, PyData.weightAll]
  | d :: ds, h => by
    obtain ⟨h1, h2, h3, h4, h5⟩ := rp_all fun x hx => h x (List.mem_cons_of_mem _ hx)
    have g := h d List.mem_cons_self
    refine ⟨by simp [PyData.showableAll, g.show_, h1], by simp [PyData.hasDictAll, g.dict, h2], by simp [PyData.leavesShortAll, g.short, h3], ?_, ?_⟩
    · simp only [PyData.depthAll]
      have := g.dep
      omega
    · simp only [PyData.weightAll, List.length_cons, Nat.succ_mul]
      have := g.wt
      omega
theorem Rp.tup {n W : Nat} {ds : List PyData} (h : ∀ d ∈ ds, Rp n W d) {V : Nat} (hv : ds.length * (W + 1) ≤ V) : Rp (n + 1) V (.tuple ds) := by
  obtain ⟨h1, h2, h3, h4, h5⟩ := rp_all h
  exact ⟨by simpa [PyData.showable] using h1, by simpa [PyData.hasDict] using h2, by simpa [PyData.leavesShort] using h3, by simp only [PyData.depth]; omega, by simp only [PyData.weight]; omega⟩
theorem Rp.lst {n W : Nat} {ds : List PyData} (h : ∀ d ∈ ds, Rp n W d) {V : Nat} (hv : ds.length * (W + 1) ≤ V) : Rp (n + 1) V (.list ds) := by
  obtain ⟨h1, h2, h3, h4, h5⟩ := rp_all h
  exact ⟨by simpa [PyData.showable] using h1, by simpa [PyData.hasDict] using h2, by simpa [PyData.leavesShort] using h3, by simp only [PyData.depth]; omega, by simp only [PyData.weight]; omega⟩
theorem Rp.len {n W : Nat} {d : PyData} (h : Rp n W d) (hW : W ≤ 1000000) : d.shown.length ≤ sizeLine := by
  have h2 := PyData.shown_le 13 (by decide) d h.short
  have := h.wt
  rw [sizeLine_eq]
  omega
theorem rp_repr {K : PySem.W.Frag} {H : Hp} {a : Addr} {d : PyData} {Q : VK} {n W : Nat} (h : Rp n W d) (hn : n ≤ 40) (hW : W ≤ 1000000) (hd : Dp K H (.ref a) d) (q : Q (.str d.shown) H) : rReprD K [V.ref a] H Q :=
  ⟨a, d, rfl, hd, h.show_, h.dict, Nat.le_trans h.dep hn, h.len hW, q⟩
end Bx

set_option Elab.async false
set_option linter.all false
set_option maxRecDepth 100000
set_option maxHeartbeats 4000000
/-! Mt: max(t) of a tuple of ints. -/
namespace Bx
open PySem PySem.Spec PyProof.Rows L2
open PySem.W (dataLt)
theorem maxD_ints : ∀ (ns : List Int) (n : Int), ∃ m, PySem.W.maxD (.int n) (ns.map PyData.int) = .int m ∧ (m = n ∨ m ∈ ns) ∧ n ≤ m ∧ ∀ y ∈ ns, y ≤ m
  | [], n => ⟨n, rfl, .inl rfl, Int.le_refl _, fun _ h => nomatch h⟩
  | x :: ns, n => by
    have e : PySem.W.maxD (.int n) ((x :: ns).map PyData.int) = PySem.W.maxD (if dataLt (.int n) (.int x) then .int x else .int n) (ns.map PyData.int) := rfl
    rw [PySem.W.dataLt_int] at e
    by_cases h : n < x
    · rw [decide_eq_true h, if_pos rfl] at e
      obtain ⟨m, h1, h2, h3, h4⟩ := maxD_ints ns x
      refine ⟨m, e.trans h1, .inr ?_, by omega, fun y hy => ?_⟩
      · rcases h2 with rfl | h2
        · exact List.mem_cons_self
        · exact List.mem_cons_of_mem _ h2
      · rcases List.mem_cons.mp hy with rfl | hy
        · exact h3
        · exact h4 y hy
    · rw [decide_eq_false h, if_neg Bool.false_ne_true] at e
      obtain ⟨m, h1, h2, h3, h4⟩ := maxD_ints ns n
      refine ⟨m, e.trans h1, ?_, h3, fun y hy => ?_⟩
      · rcases h2 with rfl | h2
        · exact .inl rfl
        · exact .inr (List.mem_cons_of_mem _ h2)
      · rcases List.mem_cons.mp hy with rfl | hy
        · omega
        · exact h4 y hy
def rMaxTI (K : PySem.W.Frag) : List V → Hp → VK → Prop := fun vs H Q => ∃ (a : Addr) (ns : List Int), vs = [V.ref a] ∧ SqT K H a (ns.map V.int) ∧ ns ≠ [] ∧ ∀ m, m ∈ ns → (∀ y ∈ ns, y ≤ m) → Q (.int m) H
theorem cr_maxTI {X : Cx} (hc : X.calm = true) (hu : X.A.units + 64 < cLine) : CallR X (.builtin "max") (rMaxTI X.K) := by
  intro pins s σ H vs us Q I r h
  obtain ⟨a, ns, rfl, hs, hne, q⟩ := h
  obtain rfl : us = [Value.ref a] := Vals.ref1 r
  obtain ⟨its, rv, hl, hz⟩ := I.tuple hs
  have hd : DpAll X.K H (ns.map V.int) (ns.map PyData.int) := dpAll_of_ints ns
  obtain ⟨as, hr⟩ := Dp.readsAll I _ _ its hd rv
  have hr' : ReadsAll s.heap its.toArray.toList (ns.map PyData.int) as := by simpa using hr
  obtain ⟨n, ms, rfl⟩ : ∃ n ms, ns = n :: ms := by
    cases ns with
    | nil => exact absurd rfl hne
    | cons n ms => exact ⟨n, ms, rfl⟩
  have ha : PySem.W.AlikeAll ((n :: ms).map PyData.int) := ⟨fun d h d' h' => by
    obtain ⟨i, _, rfl⟩ := List.mem_map.mp h
    obtain ⟨j, _, rfl⟩ := List.mem_map.mp h'
    simp [PySem.W.alike], fun d h => by
    obtain ⟨i, _, rfl⟩ := List.mem_map.mp h
    exact fun z => nomatch z⟩
  have key : ∀ l : List Int, PyData.depthAll (l.map PyData.int) ≤ 1 := fun l => by
    induction l with
    | nil => simp [PyData.depthAll]
    | cons x l ih =>
      rw [List.map_cons]
      simp [PyData.depthAll, PyData.depth]
      omega
  have hdp := key (n :: ms)
  obtain ⟨m, e1, e2, e3, e4⟩ := maxD_ints ms n
  refine PySem.W.max_tuple_data (I.ok.hd hc) hl hr' ha (by rw [List.map_cons] at hdp; omega) fun i v h' tk bs hv rd hk => ?_
  rw [e1] at rd
  cases rd
  refine ⟨.int m, H, I.kept (t' := tk) hk, ⟨_, rfl⟩, q m ?_ fun y hy => ?_⟩
  · rcases e2 with rfl | e2
    · exact List.mem_cons_self
    · exact List.mem_cons_of_mem _ e2
  · rcases List.mem_cons.mp hy with rfl | hy
    · exact e3
    · exact e4 y hy
end Bx

set_option Elab.async false
set_option linter.all false
set_option maxRecDepth 100000
set_option maxHeartbeats 4000000
namespace Wd
open PySem PySem.Spec PyProof.Rows L2 Bx Gx




















































section
variable {P : Program} {w : World} {K : PySem.W.Frag} {mg : Str → Option Value} {base : Heap}
/-! ### the law's own fault of a plan -/
theorem cr_maxTIK {X : Cx} {K : PySem.W.Frag} (h : X.K = K) (hc : X.calm = true) (hu : X.A.units + 64 < cLine) : CallR X (.builtin "max") (rMaxTI K) := h ▸ cr_maxTI hc hu
theorem sum_lens : ∀ zs : List (List Nat), ((zs.map fun u => (u.length : Int)).sum) = (zs.flatten.length : Int)
  | [] => rfl
  | u :: r => by
    rw [List.map_cons, List.sum_cons, sum_lens r, List.flatten_cons, List.length_append]
    omega
def spFaultLP (K : PySem.W.Frag) : Sp := fun vs H Q _ => ∃ (l v : V) (fs : List Int) (bs : List (Nat × Nat)) (zs : List (List Nat)), vs = [l, v] ∧ Dp K H l (landD fs bs) ∧ LandOk fs bs ∧ Dp K H v (planD zs) ∧ SrtP zs ∧ zs.length ≤ 100 ∧ (∀ u ∈ zs, u.length ≤ 100) ∧ ∀ H', Ext H H' → Q (optV (fltP fs.length bs zs)) H'
abbrev lfN : List Str := ["land", "plan", "many", "k", "wrong", "ward"]
theorem sc_faultLP : FnScope lfN ["land", "plan"] (defScope st__law_fault) := ⟨rfl, rfl, rfl, by decide +kernel, rfl, by decide +kernel, by decide +kernel⟩
theorem ok_faultLP {f : Addr} {fd : FuncData} (F : Fun K "_law_fault" "_law_fault" st__law_fault f fd) (B : Bl mg) (c1 : Cal P w K mg base 1 "_law_hangs" ["land", "lot"] (spHangsL K)) : FnOk P w K mg base CX0 2 f fd ["land", "plan"] (spFaultLP K) := by
  refine F.ok sc_faultLP (fun vs H Q E h => ?_) (fun cdv A outer s H vs Q E hr h => ?_)
  · obtain ⟨l, v, fs, bs, zs, rfl, _⟩ := h
    rfl
  · obtain ⟨l, v, fs, bs, zs, rfl, hl, ok, hv, hs, hz1, hz2, k⟩ := h
    have nd := sc_faultLP.nd
    refine ⟨_, pss_cons (ps_set (i := 2) nd rfl (Or.inr rfl) (pe_callB call_len (by rfl) B.len PySem.boot_len (pa_cons (pe_ix ix_tup (pv 0) pe_int (fun _ _ => rfl)) pa_nil)))
      (pss_cons (ps_setLc (i := 4) (own := [("k", 3)]) (g := gName 3) (by rfl) nd rfl rfl (sw_true rfl rfl rfl (by decide +kernel)) (pi_range1 rfl B.range (pa_cons (pe_callB call_len (by rfl) B.len PySem.boot_len (pa_cons (pv 1) pa_nil)) pa_nil)) (blkOk_by (own := [("k", 3)]) (N := lfN) (sc := defScope st__law_fault) (by decide +kernel)) (fun _ _ _ _ _ => pg_name (i := 3) nd rfl (Or.inl rfl)) (fun _ _ _ _ _ => pts_one (PW.pt (pw_or (pt_cmpR op_ge (pe_callB (cr_maxTIK (K := K) rfl (by rfl) hr.units) (by rfl) B.max (by decide +kernel) (pa_cons (pe_ix (ix_tupK (K := K) rfl) (pv 1) (pv 3) (fun _ _ => rfl)) pa_nil)) (pv 2) (nomark _)) (pw_or1 (pt_not (pt_val (pe_cal c1 (hr.mono (by decide)) rfl (pa_cons (pv 0) (pa_cons (pe_ix (ix_tupK (K := K) rfl) (pv 1) (pv 3) (fun _ _ => rfl)) pa_nil))) (by intro _; rfl))))))) (fun _ _ _ _ _ => pv 3))
      (pss_cons (ps_if (pt_cmpR (op_neDK (K := K) rfl hr.units) (pv 4) (pe_lst pa_nil) (nomark _)) (pss_one (ps_ret (pe_ix ix_list (pv 4) pe_int (fun _ _ => rfl)))) pss_nil)
      (pss_one (ps_ret (pe_ifExp (pt_cmpR op_lt (pe_callB (cr_sum (by rfl)) (by rfl) B.sum (by decide +kernel) (pa_cons (pe_lc (own := [("ward", 5)]) (g := gName 5) (by rfl) nd (pi_tup (pv 1)) (blkOk_by (own := [("ward", 5)]) (N := lfN) (sc := defScope st__law_fault) (by decide +kernel)) (fun _ _ _ _ _ => pg_name (i := 5) nd rfl (Or.inl rfl)) (fun _ _ _ _ _ => pts_nil) (fun _ _ _ _ _ => pe_callB (call_lenKB (K := K) rfl) (by rfl) B.len PySem.boot_len (pa_cons (pv 5) pa_nil))) pa_nil)) (pv 2) (nomark _)) (pe_callB call_len (by rfl) B.len PySem.boot_len (pa_cons (pv 1) pa_nil)) pe_non))))), ?_⟩
    obtain ⟨la, lxs, rfl, h1, h2⟩ := dp_tup hl
    cases h2 with
    | @cons v1 _ _ _ d1 h2 =>
    cases h2 with
    | @cons v2 _ _ _ d2 h3 =>
    cases h3
    obtain ⟨fa, rfl, hfa⟩ := dp_ints d1
    obtain ⟨pa, ps, rfl, p1, p2⟩ := dp_tup hv
    have hpl := dpAll_len p2
    rw [List.length_map] at hpl
    have hfl : (fs.map V.int).length = fs.length := List.length_map _
    have hsl : 1000 ≤ sizeLine := by decide
    refine ⟨_, rfl, la, _, _, _, rfl, rfl, h1, atI_nat (j := 0) rfl, _, fs.length, rfl, .inr ⟨_, hfa, hfl.symm⟩, ?_⟩
    dsimp only [gName, tSeq, List.set, L2.start, List.map, List.replicate, List.append, List.length]
    refine ⟨_, rfl, _, zs.length, rfl, .inr ⟨_, p1, hpl.symm⟩, _, rfl, by omega, by omega, fun D hD => ?_⟩
    refine lc_range (lo := 0) (n := (zs.length : Int).toNat) (fun i G => G D = some (.lst (vsN ((List.range i).filter fun k => badP fs.length bs (zs.getD k [])))) ∧ Ext H G) ⟨upd_same, .new hD⟩ (fun i G hi ⟨e, x⟩ => ?_) (fun G ⟨e, x⟩ => ?_)
    · rw [Int.toNat_natCast] at hi
      have hy := List.getElem?_eq_getElem (show i < ps.length by omega)
      obtain ⟨dy, hdy, hpy⟩ := dpAll_get' p2 hy
      rw [List.getElem?_map, List.getElem?_eq_getElem hi] at hdy
      obtain rfl := Option.some.inj hdy
      have hgd := (ward_get hi).2.2
      have hlo := hs.lots _ (List.getElem_mem hi)
      generalize ps[i] = yv at hy hpy
      generalize zs[i] = u at hpy hgd hlo
      obtain ⟨ua, rfl, hu⟩ := dp_lot hpy
      refine ⟨rfl, _, rfl, _, rfl, pa, _, _, _, rfl, rfl, x.sqT p1, by rw [Int.zero_add]; exact atI_nat hy, ?_⟩
      have hvl : ∀ l : List Nat, (vsN l).length = l.length := fun l => List.length_map _
      have hfi := List.length_filter_le (fun k => badP fs.length bs (zs.getD k [])) (List.range i)
      rw [List.length_range] at hfi
      have yes : ∀ G', Ext H G' → G' D = some (.lst (vsN ((List.range i).filter fun k => badP fs.length bs (zs.getD k [])))) → badP fs.length bs u = true → ∃ acc, G' D = some (.lst acc) ∧ acc.length < sizeLine ∧ ((upd G' D (.lst (acc ++ [.int (0 + (i : Int))]))) D = some (.lst (vsN ((List.range (i + 1)).filter fun k => badP fs.length bs (zs.getD k [])))) ∧ Ext H (upd G' D (.lst (acc ++ [.int (0 + (i : Int))])))) := fun G' x' e' hb => by
        refine ⟨_, e', by rw [hvl]; omega, ?_, x'.write hD⟩
        rw [upd_same, Int.zero_add, vsN_app, List.range_succ, List.filter_append, List.filter_cons_of_pos (by rw [hgd]; exact hb), List.filter_nil]
      have no : ∀ G', Ext H G' → G' D = some (.lst (vsN ((List.range i).filter fun k => badP fs.length bs (zs.getD k [])))) → badP fs.length bs u = false → G' D = some (.lst (vsN ((List.range (i + 1)).filter fun k => badP fs.length bs (zs.getD k [])))) ∧ Ext H G' := fun G' x' e' hb => by
        refine ⟨?_, x'⟩
        rw [List.range_succ, List.filter_append, List.filter_cons_of_neg (by rw [hgd, hb]; exact Bool.false_ne_true), List.filter_nil, List.append_nil]
        exact e'
      refine ⟨ua, u.map (fun (p : Nat) => (p : Int)), rfl, by rw [vsN_int]; exact x.sqT hu, by rw [Ne, List.map_eq_nil_iff]; exact hlo.1, fun m hm1 hm2 => ?_⟩
      obtain ⟨p, hp, rfl⟩ := List.mem_map.mp hm1
      refine ⟨_, rfl, _, _, rfl, rfl, _, rfl, ?_⟩
      by_cases hn : fs.length ≤ p
      · rw [show decide ((fs.length : Int) ≤ (p : Int)) = true from decide_eq_true (by omega)]
        refine iteT (iteT ⟨_, rfl, yes G x e ?_⟩)
        unfold badP
        rw [decide_eq_false (fun a => by have := a p hp; omega)]
        rfl
      · rw [show decide ((fs.length : Int) ≤ (p : Int)) = false from decide_eq_false (by omega)]
        have hlt : ∀ y ∈ u, y < fs.length := fun y hy => by
          have := hm2 _ (List.mem_map_of_mem (f := fun (p : Nat) => (p : Int)) hy)
          omega
        have hbp : badP fs.length bs u = !hangB bs u := by
          unfold badP
          rw [decide_eq_true hlt]
          rfl
        refine iteF ⟨_, rfl, _, rfl, _, rfl, pa, _, _, _, rfl, rfl, x.sqT p1, by rw [Int.zero_add]; exact atI_nat hy, .ref la, .ref ua, fs, bs, u, rfl, dp_ext x hl, ok, dp_ext x hpy, ⟨hlo.1, hlt, hlo.2⟩, fun G' x' => ?_⟩
        have xx := x.trans x'
        cases hb : hangB bs u with
        | false => exact ⟨false, rfl, iteT ⟨_, rfl, yes G' xx (x'.lst e) (by rw [hbp, hb]; rfl)⟩⟩
        | true => exact ⟨true, rfl, iteF (no G' xx (x'.lst e) (by rw [hbp, hb]; rfl))⟩
    · rw [Int.toNat_natCast] at e
      unfold fltP at k
      rw [← List.head?_filter] at k
      generalize (List.range zs.length).filter (fun k => badP fs.length bs (zs.getD k [])) = gs at e k
      dsimp only [gName, tSeq, List.set]
      refine ⟨_, rfl, Nat.zero_le _, fun z1 hz1 => ?_⟩
      obtain ⟨d, d', q1, q2, q3, q4, q5⟩ := nil_ne (K := K) (H := upd G z1 (.lst [])) (D := D) (z := z1) gs ((Ext.new hz1).lst e) upd_same
      refine ⟨d, d', q1, q2, q3, q4, _, rfl, ?_⟩
      rw [q5]
      have e2 := (Ext.new hz1 (o := .lst [])).lst e
      have x2 := x.trans (.new hz1 (o := .lst []))
      generalize upd G z1 (.lst []) = G2 at e2 x2 ⊢
      cases gs with
      | cons g r =>
        exact iteT ⟨_, rfl, D, _, _, _, rfl, rfl, SqL.of e2, atI_nat (j := 0) rfl, k G2 x2⟩
      | nil =>
        refine iteF ?_
        have k : ∀ H', Ext H H' → Q (optV (if zs.flatten.length < fs.length then some (zs.length : Int) else none)) H' := k
        dsimp only [tNext, tSeq]
        refine ⟨_, rfl, pa, rfl, ⟨_, x2.sqT p1⟩, fun D2 hD2 => ?_⟩
        refine lc_tup (K := K) (a := pa) (xs := ps) (fun i G3 => G3 D2 = some (.lst (((zs.take i).map fun u => (u.length : Int)).map V.int)) ∧ Ext G2 G3) ⟨upd_same, .new hD2⟩ (fun i G3 _ ⟨_, x3⟩ => (x2.trans x3).sqT p1) (fun i v G3 hv ⟨e3, x3⟩ => ?_) (fun G3 ⟨e3, x3⟩ => ?_)
        · obtain ⟨dy, hdy, hpy⟩ := dpAll_get' p2 hv
          have hi := (List.getElem?_eq_some_iff.mp hv).1
          have hzi := List.getElem?_eq_getElem (show i < zs.length by omega)
          rw [List.getElem?_map, hzi] at hdy
          obtain rfl := Option.some.inj hdy
          generalize zs[i] = u at hpy hzi
          obtain ⟨ua, rfl, hu⟩ := dp_lot hpy
          refine ⟨rfl, ?_⟩
          dsimp only [tYes]
          rw [if_pos rfl]
          refine ⟨_, rfl, _, u.length, rfl, .inr ⟨_, (x2.trans x3).sqT hu, (List.length_map _).symm⟩, _, e3, by rw [List.length_map, List.length_map, List.length_take]; omega, ?_, x3.write hD2⟩
          rw [upd_same, List.take_add_one, hzi, List.map_append, List.map_append]
          rfl
        · rw [hpl, List.take_length] at e3
          refine ⟨D2, _, rfl, SqL.of e3, ?_⟩
          have hsum := sum_lens zs
          rw [hsum]
          have xx := x2.trans x3
          refine ⟨_, rfl, _, _, rfl, rfl, _, rfl, ?_⟩
          by_cases hlt : zs.flatten.length < fs.length
          · rw [show decide ((zs.flatten.length : Int) < (fs.length : Int)) = true from decide_eq_true (by omega)]
            rw [if_pos hlt] at k
            exact iteT ⟨_, rfl, _, zs.length, rfl, .inr ⟨_, xx.sqT p1, hpl.symm⟩, k G3 xx⟩
          · rw [show decide ((zs.flatten.length : Int) < (fs.length : Int)) = false from decide_eq_false (by omega)]
            rw [if_neg hlt] at k
            exact iteF (k G3 xx)
end
end Wd

set_option Elab.async false
set_option linter.all false
set_option maxRecDepth 100000
set_option maxHeartbeats 4000000
/-! Rs: t[::-1] of a tuple, sorted(set(t)) of ints, >= of tuples of ints, a chain of three. -/
namespace Bx
open PySem PySem.Spec PyProof.Rows L2

/-! ### t[::-1] -/
theorem pick_back {α : Type} (xs : Array α) : ∀ n : Nat, n ≤ xs.size → (List.range n).filterMap (fun (m : Nat) => xs[n - 1 - m]?) = (xs.toList.take n).reverse
  | 0, _ => by simp
  | n + 1, h => by
    have ih := pick_back xs n (by omega)
    have e1 : (fun (m : Nat) => xs[n + 1 - 1 - (m + 1)]?) = fun m => xs[n - 1 - m]? := by
      funext m
      have : n + 1 - 1 - (m + 1) = n - 1 - m := by omega
      rw [this]
    have hx : xs[n]? = some xs[n] := Array.getElem?_eq_getElem (by omega)
    have hx2 : xs.toList[n]? = some xs[n] := by rw [Array.getElem?_toList]; exact hx
    rw [List.range_succ_eq_map, List.filterMap_cons, List.filterMap_map]
    show (match xs[n + 1 - 1 - 0]? with
      | none => _
      | some b => _) = _
    have e2 : n + 1 - 1 - 0 = n := by omega
    rw [e2, hx]
    show xs[n] :: List.filterMap (fun (m : Nat) => xs[n + 1 - 1 - (m + 1)]?) (List.range n) = _
    rw [e1, ih, List.take_add_one, hx2]
    simp
theorem fm_congr {α β : Type} (f g : α → Option β) : ∀ l : List α, (∀ x ∈ l, f x = g x) → l.filterMap f = l.filterMap g
  | [], _ => rfl
  | x :: l, h => by
    rw [List.filterMap_cons, List.filterMap_cons, h x List.mem_cons_self, fm_congr f g l fun y hy => h y (List.mem_cons_of_mem _ hy)]
theorem pick_rev (xs : Array Value) : ((List.range xs.size).filterMap fun (m : Nat) => xs[(((xs.size : Nat) : Int) - 1 + (m : Int) * (-1)).toNat]?).toArray = xs.toList.reverse.toArray := by
  have h := pick_back xs xs.size (Nat.le_refl _)
  have e2 : (List.range xs.size).filterMap (fun (m : Nat) => xs[(((xs.size : Nat) : Int) - 1 + (m : Int) * (-1)).toNat]?) = (List.range xs.size).filterMap (fun (m : Nat) => xs[xs.size - 1 - m]?) := by
    exact fm_congr _ _ _ fun m hm => by
      have z := List.mem_range.mp hm
      have : (((xs.size : Nat) : Int) - 1 + (m : Int) * (-1)).toNat = xs.size - 1 - m := by omega
      rw [this]
  rw [e2, h]
  have : xs.toList.take xs.size = xs.toList := List.take_of_length_le (by rw [Array.length_toList]; exact Nat.le_refl _)
  rw [this]
section
variable {prog : Program} {w : World} {A : Around} {E : Value → Shared → Prop} {s : Shared}
theorem part_is {v : Value} {o : Option Int} {Q : Option Int → Shared → Prop} (p : IsPart v o) (h : Q o s) : wpAny (model prog w) A (Builtin.Slice.slicePartIndex v) Q E s := by
  cases p with
  | none => exact PyProof.Rows.slicePart_none h
  | int i t => exact PyProof.Rows.slicePart_int h
theorem applied_back {sl : Addr} {vl vu vs : Value} {n : Nat} {Q : Int × Int × Nat → Shared → Prop} (hs : s.heap.IsSliceOf sl vl vu vs) (pl : IsPart vl none) (pu : IsPart vu none) (ps : IsPart vs (some (-1)))
    (h : Q ((n : Int) - 1, -1, n) s) : wpAny (model prog w) A (Builtin.Slice.sliceApplied (.ref sl) (pure (n : Int))) Q E s := by
  obtain ⟨os, a1, a2, a3⟩ := id hs
  unfold Builtin.Slice.sliceApplied Builtin.Slice.sliceFields
  refine wpAny_bind (wpAny_bind (wpAny_field a1 a3 (x := vl) rfl (wpAny_bind (wpAny_field a1 a3 (x := vu) rfl (wpAny_bind (wpAny_field a1 a3 (x := vs) rfl (wpAny_pure ?_)))))))
  refine wpAny_bind (part_is ps ?_)
  show wpAny _ _ (if ((-1 : Int) == 0) = true then _ else _) _ _ s
  rw [if_neg (by decide)]
  refine wpAny_bind (part_is pl (wpAny_bind (part_is pu (wpAny_bind (wpAny_pure ?_)))))
  show wpAny _ _ (pure ((n : Int) - 1, (-1 : Int), Builtin.Slice.slicePlaces ((n : Int) - 1) (-1) (-1))) _ _ s
  have e : Builtin.Slice.slicePlaces ((n : Int) - 1) (-1) (-1) = n := by
    unfold Builtin.Slice.slicePlaces
    rw [if_neg (by decide)]
    by_cases z : (n : Int) - 1 > -1
    · rw [if_pos z]
      have : -(-1 : Int) = 1 := by decide
      rw [this, Int.ediv_one]
      omega
    · rw [if_neg z]
      omega
  rw [e]
  exact wpAny_pure h
theorem getItem_back {t sl : Addr} {items : Array Value} {vl vu vs : Value} {Q : Value → Shared → Prop} (ht : PyProof.Rows.IsTup s.heap t items) (hs : s.heap.IsSliceOf sl vl vu vs) (pl : IsPart vl none) (pu : IsPart vu none) (ps : IsPart vs (some (-1)))
    (hsz : items.size ≤ sizeLine) (h : Q (.ref s.heap.objs.size) { s with heap := s.heap.push { cls := .type "tuple", data := .seq items.toList.reverse.toArray } }) : wpAny (model prog w) A (getItem (.ref t) (.ref sl)) Q E s := by
  have room : sizeOk (.seq items.toList.reverse.toArray) := by
    show items.toList.reverse.toArray.size ≤ sizeLine
    rw [List.size_toArray, List.length_reverse, Array.length_toList]
    exact hsz
  obtain ⟨os, a1, a2, a3⟩ := id hs
  have isS : s.TypeIs (.ref sl) "slice" := ⟨os, a1, a2⟩
  unfold getItem
  try with_reducible refine wpAny_holding ?_
  first | refine wpAny_bind (wpAny_pure ?_) | skip
  refine wpAny_bind (wpAny_sequenceKey ht.typeIs (by decide) (wpAny_bind (wpAny_callSpecial?_slot (name := Str.ofString "__getitem__") ht.typeIs PyProof.Rows.slot_tuple_getitem (wpAny_call_entry PyProof.Rows.slot_tuple_getitem ht.typeIs entry_tuple_getitem ?_ (args_tuple_getitem _ _)))))
  show wpAny _ _ (Builtin.Tuple.tupleItemsOf (.ref t) >>= _) _ _ s
  refine wpAny_bind (PyProof.Rows.tupleItemsOf_ ht (wpAny_bind (wpAny_typeOf isS ?_)))
  rw [if_pos (by decide)]
  refine wpAny_bind (applied_back hs pl pu ps ?_)
  have no : ¬ ((((items.size : Nat) : Int) - 1 == 0 && (-1 : Int) == 1 && items.size == items.size) = true) := by
    intro q
    rw [Bool.and_eq_true, Bool.and_eq_true] at q
    exact absurd q.1.2 (by decide)
  show wpAny _ _ (if (((items.size : Nat) : Int) - 1 == 0 && (-1 : Int) == 1 && items.size == items.size) = true then _ else _) _ _ s
  rw [if_neg no, pick_rev]
  first
    | exact wpAny_bind (m := Builtin.Tuple.tupleExact _) (wpAny_newObj_type (wpAny_pure ⟨_, rfl, wpAny_pure h⟩) room)
    | exact wpAny_bind (wpAny_bind (m := Builtin.Tuple.tupleExact _) (wpAny_newObj_type (wpAny_pure ⟨_, rfl, wpAny_pure h⟩) room))
end
section
variable {X : Cx}
def tRevT (K : PySem.W.Frag) (te : TE) : TE := fun σ H Q => te σ H fun x H1 => ∃ a xs, x = .ref a ∧ SqT K H1 a xs ∧ ∀ p, H1 p = none → Q (.ref p) (upd H1 p (.tup xs.reverse))
theorem pe_revT {e : Expr} {te : TE} {k : Nat} {p1 p2 p3 pos : Pos} (he : PE X e te) : PE X (.Subscript e (.Slice none none (some (.UnaryOp .USub (.Constant (.int 1) k p1) p2)) p3) pos) (tRevT X.K te) := by
  refine ⟨fun pins s σ H Q I h => Subscript_ (thn (he.run pins s σ H _ I h) fun v s1 ⟨x, H1, I1, r1, q1⟩ => ?_)⟩
  obtain ⟨a, xs, ex, hx, q⟩ := q1
  subst ex
  cases r1
  have back : PO X (some (.UnaryOp .USub (.Constant (.int 1) k p1) p2)) (tPart (tUn (rU fun i => .int (-i)) (tC (.int 1)))) := po_some (pe_un un_neg pe_int)
  refine wpAny_Slice (thn (po_none.run pins s1 σ H1 (fun o H2 => o = none ∧ H2 = H1) I1 ⟨rfl, rfl⟩) fun vl s2 ⟨l, H2, I2, pl, el, e2⟩ => ?_)
  subst el e2
  refine thn (po_none.run pins s2 σ H2 (fun o H3 => o = none ∧ H3 = H2) I2 ⟨rfl, rfl⟩) fun vu s3 ⟨u, H3, I3, pu, eu, e3⟩ => ?_
  subst eu e3
  refine thn (back.run pins s3 σ H3 (fun o H4 => o = some (-1) ∧ H4 = H3) I3 ⟨1, rfl, -1, rfl, rfl, rfl⟩) fun vs s4 ⟨o, H4, I4, ps, eo, e4⟩ => ?_
  subst eo e4
  have I5 : Inv X pins σ H4 { s4 with heap := s4.heap.push { cls := .type "slice", data := .fields #[vl, vu, vs] } } := I4.kept (t' := s4.toks) fun b ob z => Heap.get?_push_of_some _ z
  obtain ⟨its, r, ht, hz⟩ := I5.tuple hx
  have hlen := r.length
  show wpAny (model X.prog X.w) X.A (subscriptTail e (.Slice none none (some (.UnaryOp .USub (.Constant (.int 1) k p1) p2)) p3) (.ref a) (.ref s4.heap.objs.size)) (EP X pins σ Q) X.xe { s4 with heap := s4.heap.push { cls := .type "slice", data := .fields #[vl, vu, vs] } }
  refine tail_any (ops := [.ref a, .ref s4.heap.objs.size]) ht.typeIs (PyProof.Rows.slot_tuple_getitem.lookup) ?_ (by with_unfolding_all rfl)
  refine getItem_back (items := its.toArray) ht (Heap.IsSliceOf.new _ vl vu vs) pl pu ps (by rw [List.size_toArray]; omega) ?_
  refine ⟨.ref _, _, I5.laid (t' := s4.toks) (o := .tup xs.reverse) (fun b ob z => Heap.get?_push_of_some _ z) (Nat.le_refl _) ?_, rfl, q _ (I5.hok.fresh (Nat.le_refl _))⟩
  exact ⟨by rw [List.length_reverse]; exact hz, _, r.reverse, IsTup.new _ _⟩

/-! ### >= of tuples of ints -/
def rGeT (K : PySem.W.Frag) : R2 := fun x y H Q => ∃ (a b : Addr) (ns ms : List Int), x = .ref a ∧ y = .ref b ∧ SqT K H a (ns.map V.int) ∧ SqT K H b (ms.map V.int) ∧
  Q (.bl (Ob.lexAt (fun j => decide (ns.getD j 0 = ms.getD j 0)) (fun j => decide (ms.getD j 0 ≤ ns.getD j 0)) (decide (ns.length ≥ ms.length)) 0 (min ns.length ms.length))) H
theorem op_geT (hu : X.A.units < cLine) : OpR X (compareOp .GtE) (rGeT X.K) := by
  intro pins s σ H x y v u Q I rx ry h
  obtain ⟨a, b, ns, ms, rfl, rfl, ha, hb, q⟩ := h
  cases rx
  cases ry
  obtain ⟨its, r1, p1, _⟩ := I.tuple ha
  obtain ⟨its2, r2, p2, _⟩ := I.tuple hb
  have i1 : IntsAre its ns := Vals.ints r1
  have i2 : IntsAre its2 ms := Vals.ints r2
  have n1 : its.toArray.size = ns.length := by rw [List.size_toArray]; exact i1.length
  have n2 : its2.toArray.size = ms.length := by rw [List.size_toArray]; exact i2.length
  have g1 : ∀ j (z : j < its.toArray.size), ∃ t, its.toArray[j] = .int (ns.getD j 0) t := fun j z => PyProof.Rows.IntsAre.int_at i1 _ _ (by simp at z; simp [z])
  have g2 : ∀ j (z : j < its2.toArray.size), ∃ t, its2.toArray[j] = .int (ms.getD j 0) t := fun j z => PyProof.Rows.IntsAre.int_at i2 _ _ (by simp at z; simp [z])
  have main := Ob.RcOp.tuples_ge (A := X.A) (s := s) (e := fun j => decide (ns.getD j 0 = ms.getD j 0)) (r := fun j => decide (ms.getD j 0 ≤ ns.getD j 0)) p1 p2 hu (fun j z1 z2 => by
    obtain ⟨t, et⟩ := g1 j z1
    obtain ⟨t', et'⟩ := g2 j z2
    rw [et, et']
    have z : decide (ns.getD j 0 = ms.getD j 0) = (ns.getD j 0 == ms.getD j 0) := by
      by_cases c : ns.getD j 0 = ms.getD j 0
      · rw [decide_eq_true c]; exact (beq_iff_eq.mpr c).symm
      · rw [decide_eq_false c]; exact (beq_eq_false_iff_ne.mpr c).symm
    rw [z]
    exact SeqAt.EqAt.int_int _ _ _ _) (fun j z1 z2 _ => by
    obtain ⟨t, et⟩ := g1 j z1
    obtain ⟨t', et'⟩ := g2 j z2
    rw [et, et']
    exact Ob.RcOp.ge_int _ _ _ _)
  rw [n1, n2] at main
  show wpAny _ X.A (richCompare .GtE _ _) _ _ s
  exact main _ _ _ _ ⟨.bl _, H, I, rfl, q⟩

/-! ### sorted(set(t)) -/
end
section
variable {P : Program} {w : World} {A : Around} {E : Value → Shared → Prop} {s : Shared}
theorem sort_setI {a : Addr} {S : Int → Bool} {n : Nat} {Q : Value → Shared → Prop} (R : SetR w s.heap a S n) (hh : A.handled = none)
    (hQ : ∀ s' b (out : Array Value) (c : Nat) (ms : List Int), (∀ d o, s.heap.get? d = some o → s'.heap.get? d = some o) → s'.gens = s.gens → s'.os = s.os → s.heap.objs.size ≤ b → s'.heap.get? b = some (seqObj "list" out c) →
      IntsAre out.toList ms → ms.length = n → ms.Pairwise (· < ·) → (∀ k, k ∈ ms ↔ S k = true) → Q (.ref b) s') : wpAny (model P w) A (call (.builtin "sorted") [.ref a]) Q E s := by
  obtain ⟨o, es, ep, t, ho, hex, hd, gd, nd, mem, bd, fit, num, ris, led⟩ := R
  apply Calls.call_function_entry kind_sorted plain_sorted entry_sorted (args_sorted1 _)
  unfold Builtin.«sorted»
  apply wpAny_bind (m := checkCount "sorted" 1 1 _)
  apply wpAny_pure
  refine wpAny_bind (collect_set (A := A.in1) hh ⟨o, ho, hex.1, hd⟩ fit bd ris led fun s1 vs kp hz hg hos pm => ?_)
  have small : vs.length ≤ sizeLine := by
    rw [pm.length_eq, List.length_map, Array.length_toList, sizeLine_eq]
    unfold scanBound at bd
    omega
  have allI : ∀ v ∈ vs, ∃ i t, v = Value.int i t := fun v hv => by
    obtain ⟨e, he, rfl⟩ := List.mem_map.mp (pm.mem_iff.mp hv)
    obtain ⟨k, tk, e1⟩ := gd e he
    exact ⟨k, tk, e1.1⟩
  have isI := SrtO.ints_iv allI
  have ivs : (vs.map SrtO.iv).Perm (es.toList.map keyOf) := by
    have q := pm.map SrtO.iv
    rw [List.map_map] at q
    have e : (es.toList.map (SrtO.iv ∘ Prod.snd)) = es.toList.map keyOf := List.map_congr_left fun e he => by
      obtain ⟨k, tk, e1⟩ := gd e he
      show SrtO.iv e.2 = keyOf e
      unfold keyOf
      rw [e1.1]
      rfl
    rw [← e]
    exact q
  refine wpAny_bind (wpAny_newList ?_ small)
  have oL : (s1.heap.push (seqObj "list" vs.toArray 0)).get? s1.heap.objs.size = some (seqObj "list" vs.toArray 0) := Heap.get?_push_size _ rfl
  refine wpAny_bind (wpAny_holding (wpAny_call_entry (s := { s1 with heap := s1.heap.push (seqObj "list" vs.toArray 0) }) slot_list_sort ⟨_, oL, rfl⟩ entry_list_sort
    (SrtO.list_sort_ord SrtO.swo_int oL small (fun h2 => SrtO.ints_sortable isI h2) fun out sr sb => ⟨_, rfl, ?_⟩) (args_list_sort _)))
  obtain ⟨c, hc⟩ := sortedHeap_at (vs := vs) (out := out.toArray) oL
  obtain ⟨k1, k2, k3⟩ := SrtO.ints_out isI sr sb
  have k4 := k2.trans ivs
  have nd2 : (out.map SrtO.iv).Nodup := k4.nodup_iff.mpr nd
  refine wpAny_pure ⟨_, rfl, hQ _ s1.heap.objs.size out.toArray c (out.map SrtO.iv) (fun d u e => ?_) hg hos hz hc (by simpa using k1) ?_ ?_ fun k => ?_⟩
  · have q := kp d u e
    have lt := Heap.lt_size q
    exact (sortedHeap_old (Nat.ne_of_lt lt) (by rw [size_push']; exact Nat.lt_succ_of_lt lt)).trans (Heap.get?_push_of_some _ q)
  · rw [k4.length_eq, List.length_map, Array.length_toList]
    exact num
  · exact (k3.and nd2).imp fun {x y} z => by omega
  · rw [k4.mem_iff]
    exact (mem k).symm
end
section
variable {X : Cx}
def tSortSetT (K : PySem.W.Frag) (ta : TE) : TE := fun σ H Q => ta σ H fun x H1 => ∃ (l : Addr) (ns : List Int), x = V.ref l ∧ SqT K H1 l (ns.map V.int) ∧ ns.length ≤ 1000 ∧
  ∀ (ms : List Int) (p : Addr), ms.Pairwise (· < ·) → (∀ k, k ∈ ms ↔ k ∈ ns) → H1 p = none → Q (.ref p) (upd H1 p (.lst (ms.map V.int)))
theorem pe_sortSetT {a : Expr} {ta : TE} {p p2 q pos : Pos} (hc : X.calm = true) (hg : Gl X "sorted") (hm : X.mg "sorted" = none) (hg2 : Gl X "set") (hm2 : X.mg "set" = none) (hb : bootBuiltins ("sorted" : Str) = some (.builtin "sorted")) (ha : PE X a ta)
    (na : starEach [a] X.env = (false, eval a X.env) :: starEach [] X.env := by rfl) : PE X (.Call (.Name "sorted" p) [.Call (.Name "set" p2) [a] [] q] [] pos) (tSortSetT X.K ta) := by
  refine ⟨fun pins s σ H Q I h => ?_⟩
  refine Call_ (ld_blt I hg hm hb ?_)
  refine PyProof.Rows.callWith_builtin1 (PyProof.Rows.args_cons ?_ rfl) rfl rfl
  refine Call_ (ld_blt I hg2 hm2 PyProof.Rows.boot_set ?_)
  refine PyProof.Rows.callWith_type1 (PyProof.Rows.args_cons (thn (ha.run pins s σ H _ I h) fun v s1 ⟨x, H1, I1, r1, q1⟩ => PyProof.Rows.args_nil ?_) na) na rfl
  obtain ⟨l, ns, rfl, hq, h1, q1⟩ := q1
  cases r1
  obtain ⟨its, r, pt, hz⟩ := I1.tuple hq
  have hi : IntsAre its.toArray.toList ns := ints_of_vals r
  refine call_set_tupI ns (I1.ok.hd hc) (show s1.heap.IsTuple l its.toArray from pt) hi (by unfold scanBound; omega) fun h' tk c R1 hcn k => ?_
  refine PyProof.Rows.args_nil ?_
  have I2 : Inv X pins σ H1 { s1 with heap := h', toks := tk } := I1.kept fun b o e => k b o e
  refine sort_setI R1 (I2.ok.hd hc) fun s' b out c2 ms kp g o hb2 hgt hout hlen pw hmem => ?_
  have len : (ms.map V.int).length ≤ sizeLine := by
    rw [List.length_map, sizeLine_eq]
    omega
  have hn : H1 b = none := I2.hok.fresh hb2
  have J := I2.call (ch := []) (h' := s'.heap) (g' := s'.gens) (d' := s'.drawn) (t' := s'.toks) (H' := upd H1 b (.lst (ms.map V.int))) (Un.laid kp hb2 hn) (I2.hok.laid kp hb2 ⟨len, out.toList, c2, vals_of_ints hout, hgt⟩) (by rw [g]; exact I2.bare) (fun _ z => nomatch z)
  have e : s' = { ({ s1 with heap := h', toks := tk } : Shared) with heap := s'.heap, gens := s'.gens, drawn := s'.drawn, toks := s'.toks } := by
    cases s'; cases s1; cases o; rfl
  rw [e]
  exact ⟨.ref b, _, J, rfl, q1 ms b pw (fun k => by rw [hmem, decide_eq_true_eq]) hn⟩

/-! ### a chain of three -/
def tChain3 (r r' r2 : R2) (ta tb tc td : TE) : TE := fun σ H Q => ta σ H fun x H1 => tb σ H1 fun y H2 => r x y H2 fun z H3 => ∃ k, z = .bl k ∧ (if k = true then
    tc σ H3 fun z1 H4 => r' y z1 H4 fun z2 H5 => ∃ k2, z2 = .bl k2 ∧ (if k2 = true then td σ H5 fun z3 H6 => r2 z1 z3 H6 Q else Q (.bl false) H5) else Q (.bl false) H3)
theorem pe_chain3 {a b c d : Expr} {ta tb tc td : TE} {pos : Pos} {op op' op2 : CmpOp} {r r' r2 : R2} (ho : OpR X (compareOp op) r) (ho' : OpR X (compareOp op') r') (ho2 : OpR X (compareOp op2) r2) (ha : PE X a ta) (hb : PE X b tb) (hc : PE X c tc) (hd : PE X d td)
    (hm : lastMarks [op, op', op2] [b, c, d] = false := by with_unfolding_all rfl) : PE X (.Compare a [op, op', op2] [b, c, d] pos) (tChain3 r r' r2 ta tb tc td) := by
  refine ⟨fun pins s σ H Q I h => ?_⟩
  refine Compare_chain (thn (ha.run pins s σ H _ I h) fun v s1 ⟨x, H1, I1, r1, q1⟩ => chain_link (thn (hb.run pins s1 σ H1 _ I1 q1) fun u s2 ⟨y, H2, I2, r2', q2⟩ =>
    thn (ho pins s2 σ H2 x y v u _ I2 r1 r2' q2) fun d1 s3 ⟨z, H3, I3, r3, k, e, q3⟩ => ?_)) hm
  subst e
  cases r3
  refine wpAny_truthy_bool ?_
  cases k with
  | false => exact ite_ff ⟨.bl false, H3, I3, rfl, q3⟩
  | true =>
    refine ite_tt (chain_link (thn (hc.run pins s3 σ H3 _ I3 q3) fun w1 s4 ⟨z1, H4, I4, r4, q4⟩ => thn (ho' pins s4 σ H4 y z1 u w1 _ I4 r2' r4 q4) fun d2 s5 ⟨z2, H5, I5, r5, k2, e2, q5⟩ => ?_))
    subst e2
    cases r5
    refine wpAny_truthy_bool ?_
    cases k2 with
    | false => exact ite_ff ⟨.bl false, H5, I5, rfl, q5⟩
    | true => exact ite_tt (chain_last (thn (hd.run pins s5 σ H5 _ I5 q5) fun w2 s6 ⟨z3, H6, I6, r6, q6⟩ => ho2 pins s6 σ H6 z1 z3 w1 w2 Q I6 r4 r6 q6))
end
end Bx

set_option Elab.async false
set_option linter.all false
set_option maxRecDepth 100000
set_option maxHeartbeats 4000000
/-! Rt: sorted of a tuple of data. -/
namespace Bx
open PySem PySem.Spec PyProof.Rows L2
open PySem.W (EachIs AllAlike Sortable dataLe)
section
variable {prog : Program} {w : World} {A : Around} {E : Value → Shared → Prop} {s : Shared}
theorem collect_tup {t : Addr} {vs : List Value} {Q : List Value → Shared → Prop} (ht : PyProof.Rows.IsTup s.heap t vs.toArray) (hsz : vs.length ≤ sizeLine)
    (h : Q vs { s with heap := (s.heap.push (seqObj "list" #[] 0)).update s.heap.objs.size (Obj.mapSeq (· ++ vs.toArray)) }) : wpAny (model prog w) A (collect (.ref t)) Q E s := by
  obtain ⟨o, ho, hc, n, hd⟩ := id ht
  unfold collect
  apply wpAny_bind
  apply wpAny_runValue
  apply codeAny_builtin entry_proto_collect'
  show wpAny _ _ (do again (.builtin "list.__iadd__" ⟨[← newList [], .ref t], []⟩)) _ _ s
  apply wpAny_bind
  refine wpAny_newList (wpAny_pure ⟨Code.quiet_builtin _ (by decide +kernel), codeAny_builtin entry_list_iadd' ?_⟩)
  show wpAny _ _ (Builtin.List.listExtendWith (.ref s.heap.objs.size) (.ref t) (.ref s.heap.objs.size)) _ _ { s with heap := s.heap.push (seqObj "list" #[] 0) }
  unfold Builtin.List.listExtendWith
  have here : (s.heap.push (seqObj "list" #[] 0)).get? t = some o := Heap.get?_push_of_some _ ho
  have fresh : (s.heap.push (seqObj "list" #[] 0)).get? s.heap.objs.size = some (seqObj "list" #[] 0) := Heap.get?_push_size _ rfl
  refine wpAny_bind (wpAny_typeOf (T := "tuple") ⟨o, here, hc⟩ ?_)
  have yes : (Value.type "tuple" == Value.type "tuple") = true := by rfl
  rw [if_pos (by rw [yes]; simp)]
  refine wpAny_bind (listItems_at here hd (wpAny_bind (listItems_at (xs := #[]) (n := 0) fresh rfl ?_)))
  rw [if_neg (by simp)]
  refine wpAny_bind (listUpdate_at (xs := #[]) (n := 0) fresh rfl (wpAny_pure ?_) (Nat.zero_le _) (by show (#[] ++ vs.toArray).size ≤ sizeLine + 1; simp only [Array.size_append, List.size_toArray, List.length_nil]; omega))
  show wpAny (model prog w) A (do
      let o ← load s.heap.objs.size
      match o.data with
      | .seq xs _ => pure xs.toList
      | _ => unsupported "internal:collect") Q E { s with heap := (s.heap.push (seqObj "list" #[] 0)).update s.heap.objs.size (Obj.mapSeq (· ++ vs.toArray)) }
  refine wpAny_bind (wpAny_load (get?_update_seq fresh _) ?_)
  have e : ((#[] : Array Value) ++ vs.toArray).toList = vs := by simp
  show wpAny _ _ (pure ((#[] : Array Value) ++ vs.toArray).toList) Q E _
  rw [e]
  exact wpAny_pure h
theorem sortT_data {β : Type} {vs : List Value} {bs : List β} {enc : β → PyData} {R : Value → β → Prop} {t : Addr} {Q : Value → Shared → Prop} (ht : PyProof.Rows.IsTup s.heap t vs.toArray) (e : EachIs R vs bs) (er : EachIs (fun v b => ∃ as, Reads s.heap v (enc b) as) vs bs)
    (hal : AllAlike (bs.map enc)) (hk : Sortable (bs.map enc)) (hL : bs.length ≤ sizeLine) (hu : ∀ b, b ∈ bs → A.units + 3 + (enc b).depth < cLine)
    (h : ∀ out, out.length = bs.length → EachIs R out (bs.mergeSort (dataLe false enc)) → Q (.ref (s.heap.objs.size + 1)) { s with heap := sortedAll s.heap vs (List.toArray out) }) : wpAny (model prog w) A (call (.builtin "sorted") [.ref t]) Q E s := by
  have hz : vs.length ≤ sizeLine := by rw [e.length]; exact hL
  apply Calls.call_function_entry kind_sorted plain_sorted entry_sorted (args_sorted1 _)
  unfold Builtin.«sorted»
  apply wpAny_bind (m := checkCount "sorted" 1 1 _)
  apply wpAny_pure
  refine wpAny_bind (collect_tup ht hz (wpAny_bind (wpAny_newList ?_ hz)))
  have sz : ((s.heap.push (seqObj "list" #[] 0)).update s.heap.objs.size (Obj.mapSeq (· ++ vs.toArray))).objs.size = s.heap.objs.size + 1 := by
    rw [Heap.size_update, size_push']
  have new : (((s.heap.push (seqObj "list" #[] 0)).update s.heap.objs.size (Obj.mapSeq (· ++ vs.toArray))).push (seqObj "list" vs.toArray 0)).get? (s.heap.objs.size + 1) = some (seqObj "list" vs.toArray 0) := by
    rw [← sz]
    exact Heap.get?_push_size _ rfl
  have keep : ∀ b o, s.heap.get? b = some o → (((s.heap.push (seqObj "list" #[] 0)).update s.heap.objs.size (Obj.mapSeq (· ++ vs.toArray))).push (seqObj "list" vs.toArray 0)).get? b = some o := fun b o q => by
    refine Heap.get?_push_of_some _ ?_
    rw [Heap.get?_update_ne _ _ _ _ (Nat.ne_of_lt (Heap.lt_size q))]
    exact Heap.get?_push_of_some _ q
  show wpAny _ _ _ _ _ { s with heap := ((s.heap.push (seqObj "list" #[] 0)).update s.heap.objs.size (Obj.mapSeq (· ++ vs.toArray))).push (seqObj "list" vs.toArray 0) }
  rw [sz]
  refine wpAny_bind (wpAny_holding (PySem.W.list_sort_data (s := { s with heap := ((s.heap.push (seqObj "list" #[] 0)).update s.heap.objs.size (Obj.mapSeq (· ++ vs.toArray))).push (seqObj "list" vs.toArray 0) }) (enc := enc) (R := R) new e
    (er.mono fun v b ⟨as, r⟩ => ⟨as, PyProof.Rows.Reads.keeps keep r, fun hm => by
      obtain ⟨o, ho⟩ := PyProof.On.reads_mem_get r _ hm
      exact absurd (Heap.lt_size ho) (Nat.not_lt.mpr (Nat.le_succ _))⟩) hal hk hL (fun b hb => by
      have := hu b hb
      show A.units + 1 + 1 + _ < _
      omega) fun out ho he => ?_))
  exact wpAny_pure ⟨_, rfl, h out ho he⟩
end
section
variable {X : Cx}
/-- sorted(t) of a tuple of data that compare -/
def rSortTd (K : PySem.W.Frag) : List V → Hp → VK → Prop := fun vs H Q => ∃ (a : Addr) (xs : List V) (ds : List PyData), vs = [V.ref a] ∧ SqT K H a xs ∧ DpAll K H xs ds ∧ AllAlike ds ∧ Sortable ds ∧ ds.length ≤ 100000 ∧ (∀ d ∈ ds, d.depth ≤ 40) ∧
  ∀ ys es p, ys.Perm xs → DpAll K H ys es → es.Perm ds → es.Pairwise (fun d e => PySem.W.dataLt e d = false) → H p = none → Q (.ref p) (upd H p (.lst ys))
theorem cr_sortTd (hu : X.A.units + 64 < cLine) : CallR X (.builtin "sorted") (rSortTd X.K) := by
  intro pins s σ H vs us Q I r h
  obtain ⟨a, xs, ds, rfl, hs, hd, ha, hk, hn, hdp, q⟩ := h
  rw [Vals.ref1 r]
  obtain ⟨its, rv, ht, hz⟩ := I.tuple hs
  have e1 : (xs.zip ds).map (·.2) = ds := List.map_snd_zip (Nat.le_of_eq (dpAll_len hd).symm)
  have e0 : (xs.zip ds).map (·.1) = xs := List.map_fst_zip (Nat.le_of_eq (dpAll_len hd))
  have el : its.length = (xs.zip ds).length := by rw [← rv.length, List.length_zip, dpAll_len hd]; omega
  have rd : ∀ (i : Nat) (u : Value) (z : V × PyData), its[i]? = some u → (xs.zip ds)[i]? = some z → RelV z.1 u ∧ ∃ as, Reads s.heap u z.2 as := fun i u z h1 h2 => by
    obtain ⟨h3, h4⟩ := zip_at h2
    have h5 := vals_at rv h3 h1
    obtain ⟨as, h6⟩ := Dp.reads I z.2 z.1 u (dpAll_zipmem hd z (List.mem_of_getElem? h2)) h5
    exact ⟨h5, as, h6⟩
  refine sortT_data (vs := its) (bs := xs.zip ds) (R := fun v (b : V × PyData) => RelV b.1 v) (enc := fun b : V × PyData => b.2) ht (each_of el fun i u z h1 h2 => (rd i u z h1 h2).1) (each_of el fun i u z h1 h2 => (rd i u z h1 h2).2) (by rw [e1]; exact ha) (by rw [e1]; exact hk) (by rw [List.length_zip, sizeLine_eq]; omega)
    (fun b hb => by have := hdp b.2 (by rw [← e1]; exact List.mem_map.mpr ⟨b, hb, rfl⟩); omega) fun out ho he => ?_
  have hv := vals_of_each he
  have hperm : ((xs.zip ds).mergeSort (dataLe false fun b : V × PyData => b.2)).Perm (xs.zip ds) := List.mergeSort_perm ..
  have tot := PySem.W.sortLe_total (listOrd itemOrd) false (fun b : V × PyData => PySem.W.keyToks b.2)
  have hsort : ((xs.zip ds).mergeSort (dataLe false fun b : V × PyData => b.2)).Pairwise (fun a b => dataLe false (fun b : V × PyData => b.2) a b = true) := List.pairwise_mergeSort (fun a b c h1 h2 => tot.trans a b c h1 h2) (fun a b => Bool.or_eq_true_iff.mpr (tot.total a b)) _
  generalize (xs.zip ds).mergeSort (dataLe false fun b : V × PyData => b.2) = zs at hv hperm hsort he
  have kp : ∀ b o, s.heap.get? b = some o → (sortedAll s.heap its out.toArray).get? b = some o := fun b o e => sortedAll_old e
  obtain ⟨n, hat⟩ := sortedAll_at s.heap its out.toArray
  have hfr : H (s.heap.objs.size + 1) = none := I.hok.fresh (Nat.le_succ _)
  refine ⟨.ref (s.heap.objs.size + 1), upd H (s.heap.objs.size + 1) (.lst (zs.map (·.1))), I.laid (t' := s.toks) kp (Nat.le_succ _) ⟨?_, out, n, hv, hat⟩, rfl, q _ (zs.map (·.2)) _ ?_ (dpAll_zip fun z hz => dpAll_zipmem hd z (hperm.mem_iff.mp hz)) ?_ ?_ hfr⟩
  · rw [List.length_map, hperm.length_eq, List.length_zip, sizeLine_eq]
    omega
  · have := hperm.map (·.1)
    rw [e0] at this
    exact this
  · have := hperm.map (·.2)
    rw [e1] at this
    exact this
  · rw [List.pairwise_map]
    refine hsort.imp fun {d e} h => ?_
    rw [dataLe_not] at h
    simpa using h
end
end Bx

set_option Elab.async false
set_option linter.all false
set_option maxRecDepth 100000
set_option maxHeartbeats 4000000
namespace Wd
open PySem PySem.Spec PyProof.Rows L2 Bx Gx




















































section
variable {P : Program} {w : World} {K : PySem.W.Frag} {mg : Str → Option Value} {base : Heap}
/-! ### the law's reader: a whole plan -/
open TL
theorem cr_sortTdK {X : Cx} {K : PySem.W.Frag} (h : X.K = K) (hu : X.A.units + 64 < cLine) : CallR X (.builtin "sorted") (rSortTd K) := h ▸ cr_sortTd hu
theorem asc_sorted {u : List Nat} (hu : u.Pairwise (· < ·)) {es : List PyData} (pm : es.Perm (u.map fun (p : Nat) => PyData.int (p : Int))) (pw : es.Pairwise fun d e => PySem.W.dataLt e d = false) : es = u.map fun (p : Nat) => PyData.int (p : Int) := by
  obtain ⟨vs, h1, rfl⟩ := perm_unmap (fun (p : Nat) => PyData.int (p : Int)) pm rfl
  have nd : vs.Pairwise (· ≠ ·) := h1.symm.nodup (hu.imp fun h => Nat.ne_of_lt h)
  have hx : vs.Pairwise (· < ·) := by
    rw [List.pairwise_map] at pw
    refine (pw.and nd).imp fun {a b} h => ?_
    obtain ⟨h1, h2⟩ := h
    rw [PySem.W.dataLt_int, decide_eq_false_iff_not] at h1
    omega
  rw [perm_uniq (R := fun (a b : Nat) => a < b) (fun a b h1 h2 => by omega) h1 hx hu]
theorem depth_ints (u : List Nat) : ∀ d ∈ u.map (fun (p : Nat) => PyData.int (p : Int)), d.depth ≤ 40 := fun d hd => by
  obtain ⟨p, _, rfl⟩ := List.mem_map.mp hd
  simp [PyData.depth]
theorem alikeAll_nats (u : List Nat) : PySem.W.AllAlike (u.map fun (p : Nat) => PyData.int (p : Int)) := fun d hd e he => by
  obtain ⟨p, _, rfl⟩ := List.mem_map.mp hd
  obtain ⟨q, _, rfl⟩ := List.mem_map.mp he
  simp [PySem.W.alike]
theorem sortable_nats (u : List Nat) : PySem.W.Sortable (u.map fun (p : Nat) => PyData.int (p : Int)) := .inr fun d hd => by
  obtain ⟨p, _, rfl⟩ := List.mem_map.mp hd
  exact ⟨(fun z => nomatch z), fun xs z => nomatch z⟩
theorem lotD_inj {x y : List Nat} (h : lotD x = lotD y) : x = y := by
  unfold lotD at h
  injection h with h
  exact (List.map_inj_right fun a b e => by injection e with e; omega).mp h
theorem tyX_b {H : Hp} {v : V} {T : String} (h : TyB K H v T) (hm : T ∈ tyNames) : TyX K H v (.type T) := by
  cases h with
  | non => exact .base .non
  | bl b => exact .base (.bl b)
  | int i => exact .base (.int i)
  | str x => exact .base (.str x)
  | byt b => simp [tyNames] at hm
  | lst h =>
    rcases h with (h | ⟨o, h⟩) | ⟨o, _, _, h1, h2, _⟩
    · exact .base (.lst h)
    · exact .base (.frz h)
    · exact .kList h1 h2
  | tup h =>
    rcases h with (h | ⟨o, h⟩) | ⟨o, _, _, h1, h2, _⟩
    · exact .base (.tup h)
    · exact .fTuple h
    · exact .kTuple h1 h2
  | dK h => simp [tyNames] at hm
theorem isi_b {H : Hp} {v : V} {T U : String} (h : TyB K H v T) (hm : T ∈ tyNames) (hU : U ∈ ["bool", "int", "str", "list", "tuple"]) : ∃ t b, TyX K H v t ∧ PySem.W.kitOne K t (.type U) = some b ∧ b = decide (T = U ∨ (T = "bool" ∧ U = "int")) := by
  refine ⟨.type T, _, tyX_b h hm, ?_, rfl⟩
  simp only [tyNames, List.mem_cons, List.not_mem_nil, or_false] at hm hU
  rcases hm with rfl | rfl | rfl | rfl | rfl | rfl <;> rcases hU with rfl | rfl | rfl | rfl | rfl <;> exact kit_ty (by decide +kernel)
theorem isi_str {H : Hp} {v : V} {T : String} (h : TyB K H v T) (hm : T ∈ tyNames) : ∃ t b, TyX K H v t ∧ PySem.W.kitOne K t (.type "str") = some b ∧ b = decide (T = "str") := by
  obtain ⟨t, b, i1, i2, i3⟩ := isi_b (U := "str") h hm (by simp)
  exact ⟨t, b, i1, i2, by rw [i3]; simp⟩
theorem sl_listK {X : Cx} {K : PySem.W.Frag} (h : X.K = K) : SlR X (rSlL K) := h ▸ sl_list
theorem ext_goS {S : List Addr} {H H2 G : Hp} (x : Ext H H2) (y : ExtS S H2 G) (hS : ∀ b ∈ S, H b = none) : Ext H G :=
  ⟨fun b o e n => y.keep b o (x.keep b o e n) n (fun _ m => by rw [hS b m] at e; cases e), fun P t => y.tabs P (x.tabs P t), fun b o e => let ⟨o1, e1⟩ := x.live b o e; y.live b o1 e1⟩
theorem m2_eqD : M2 (rEqD K) := fun _ _ _ _ _ h ⟨d, e, a, b, c, f, q⟩ => ⟨d, e, a, b, c, f, h _ _ q⟩
theorem twiceW_findG {α : Type} [DecidableEq α] (f : α → Str) (inj : ∀ {a b : α}, f a = f b → a = b) (d : α) (bs : List α) : twiceW [] (bs.map f) = (((List.range bs.length).filter fun k => decide (bs.getD k d ∈ bs.take k)).head?).map fun k => f (bs.getD k d) := by
  rw [List.head?_filter, List.range_eq_range']
  have key : ∀ (suf pre : List α), pre ++ suf = bs → twiceW (pre.map f) (suf.map f) = ((List.range' pre.length suf.length).find? fun k => decide (bs.getD k d ∈ bs.take k)).map fun k => f (bs.getD k d) := by
    intro suf
    induction suf with
    | nil => intro pre _; rfl
    | cons a r ih =>
      intro pre e
      have g : bs.getD pre.length d = a := by rw [← e, List.getD_eq_getElem?_getD, List.getElem?_append_right (Nat.le_refl _), Nat.sub_self]; rfl
      have t : bs.take pre.length = pre := by rw [← e, List.take_left]
      rw [List.map_cons, twiceW, List.length_cons, List.range'_succ, List.find?_cons, g, t]
      by_cases c : a ∈ pre
      · rw [if_pos (List.mem_map_of_mem c), decide_eq_true c]
        show _ = some (f (bs.getD pre.length d))
        rw [g]
      · rw [if_neg, decide_eq_false c]
        · have := ih (pre ++ [a]) (by rw [List.append_assoc]; exact e)
          rw [List.map_append, List.length_append] at this
          exact this
        · intro m
          obtain ⟨y, hy, e2⟩ := List.mem_map.mp m
          rw [inj e2] at hy
          exact c hy
  exact key bs [] rfl
theorem sh_rows (us : List (List Nat)) : SeqAt.shaped (.list (us.map lotD)) = true := (Sh.lst (n := 3) fun d hd => by
  obtain ⟨u, _, rfl⟩ := List.mem_map.mp hd
  exact sh_lot 1 u).shaped (by decide)
theorem rows_len {H : Hp} {vs : List V} {us : List (List Nat)} (h : DpAll K H vs (us.map lotD)) : vs.length = us.length := by
  have := dpAll_len h
  rw [List.length_map] at this
  exact this
theorem tt_viaP {T : TT} {σ : L2.St} {H : Hp} {Q : Bool → Hp → Prop} (Pz : Bool → Hp → Prop) (h : ∀ Q' : Bool → Hp → Prop, (∀ c H', Pz c H' → Q' c H') → T σ H Q') (k : ∀ c H', Pz c H' → Q c H') : T σ H Q := h Q k
def spReadP (K : PySem.W.Frag) : Sp := fun vs H Q _ => ∃ (l v : V) (fs : List Int) (bs : List (Nat × Nat)), vs = [l, v] ∧ Dp K H l (landD fs bs) ∧ LandOk fs bs ∧ ((∃ z R, v = .str z ∧ z.length ≤ 100 ∧ PlanR (tl z) 0 [] R ∧ ∀ u H', Ext H H' → Dp K H' u (ansP fs.length bs R) → Q u H') ∨
  (NoStr K H v ∧ ∀ u H', Ext H H' → Dp K H' u (wordD "text" (.int 0)) → Q u H'))
abbrev lrN : List Str := ["land", "text", "at", "lots", "told", "lot", "k", "again", "plan", "place"]
theorem sc_readP : FnScope lrN ["land", "text"] (defScope st__law_read) := ⟨rfl, rfl, rfl, by decide +kernel, rfl, by decide +kernel, by decide +kernel⟩
theorem ok_readP {f : Addr} {fd : FuncData} (F : Fun K "_law_read" "_law_read" st__law_read f fd) (B : Bl mg) (c1 : Cal P w K mg base 2 "_law_by" ["at", "signs"] spBy) (c3 : Cal P w K mg base 4 "_law_row" ["at"] (spRowL K)) (c4 : Cal P w K mg base 2 "_law_fault" ["land", "plan"] (spFaultLP K)) : FnOk P w K mg base CX0 5 f fd ["land", "text"] (spReadP K) := by
  refine F.ok sc_readP (fun vs H Q E h => ?_) (fun cdv A outer s H vs Q E hr h => ?_)
  · obtain ⟨l, v, fs, bs, rfl, _⟩ := h
    rfl
  · obtain ⟨l, v, fs, bs, rfl, hl, ok, hv⟩ := h
    have nd := sc_readP.nd
    refine ⟨_, pss_cons (ps_if (pt_not (pt_val (pe_callB call_isi (by rfl) B.isinstance (by decide +kernel) (pa_cons (pv 1) (pa_cons (pe_bltn rfl B.str (by decide +kernel) (v := .ty "str") rfl) pa_nil))) (by intro _; rfl))) (pss_one (ps_ret (pe_tup (pa_cons pe_str (pa_cons pe_int pa_nil))))) pss_nil)
      (pss_cons (ps_par (i := 2) (j := 3) (by rfl) nd rfl rfl (by decide) rfl rfl (pa_cons (pe_lst (pa_cons (pv 1) (pa_cons pe_int (pa_cons pe_non pa_nil)))) (pa_cons (pe_lst pa_nil) pa_nil)) (by rfl))
      (pss_cons (ps_while PassesOwn.never (PW.pt (pw_and (pt_cmpR op_isN (pe_ix ix_list (pv 2) pe_int (fun _ _ => rfl)) pe_non (nomark _)) (pw_and1 (PW.pt (pw_or (pt_cmpR (op_eqDK (K := K) rfl hr.units) (pv 3) (pe_lst pa_nil) (nomark _)) (pw_or1 (pt_cmpR op_lt (pe_ix ix_list (pv 2) pe_int (fun _ _ => rfl)) (pe_callB call_len (by rfl) B.len PySem.boot_len (pa_cons (pv 1) pa_nil)) (nomark _))))))))
        (pss_cons (ps_expr (pe_cal c1 (hr.mono (by decide)) rfl (pa_cons (pv 2) (pa_cons (pe_op op_repS pe_str (pe_callTy call_int1 rfl B.int (by decide +kernel) (pa_cons (pe_cmpR (op_neDK (K := K) rfl hr.units) (pv 3) (pe_lst pa_nil) (nomark _)) pa_nil))) pa_nil))))
        (pss_one (ps_expr (pe_bm PySem.F.plainAttrs_list PySem.F.slot_list_append PySem.F.type_list_append mt_append (pv 3) (pa_cons (pe_ifExp (pt_cmpR op_isN (pe_ix ix_list (pv 2) pe_int (fun _ _ => rfl)) pe_non (nomark _)) (pe_cal c3 (hr.mono (by decide)) rfl (pa_cons (pv 2) pa_nil)) (pe_tup pa_nil)) pa_nil))))))
      (pss_cons (ps_if (pt_cmpR op_notN (pe_ix ix_list (pv 2) pe_int (fun _ _ => rfl)) pe_non (nomark _)) (pss_one (ps_ret (pe_tup (pa_cons pe_str (pa_cons (pe_ix ix_list (pv 2) pe_int (fun _ _ => rfl)) pa_nil))))) pss_nil)
      (pss_cons (ps_set (i := 4) nd rfl (Or.inr rfl) (pe_lst pa_nil))
      (pss_cons (ps_for PassesOwn.never rfl (pi_list (pv 3)) (pg_name (i := 5) nd rfl (Or.inl rfl))
        (pss_one (ps_set (i := 4) nd rfl (Or.inr rfl) (pe_op op_cat (pv 4) (pe_callTy call_list_of rfl B.list (by decide +kernel) (pa_cons (pv 5) pa_nil))))))
      (pss_cons (ps_setLc (i := 7) (own := [("k", 6)]) (g := gName 6) (by rfl) nd rfl rfl (sw_true rfl rfl rfl (by decide +kernel)) (pi_range1 rfl B.range (pa_cons (pe_callB call_len (by rfl) B.len PySem.boot_len (pa_cons (pv 4) pa_nil)) pa_nil)) (blkOk_by (own := [("k", 6)]) (N := lrN) (sc := defScope st__law_read) (by decide +kernel)) (fun _ _ _ _ _ => pg_name (i := 6) nd rfl (Or.inl rfl)) (fun _ _ _ _ _ => pts_one (pt_cmpR (op_inK (K := K) rfl) (pe_ix (ix_lstK (K := K) rfl) (pv 4) (pv 6) (fun _ _ => rfl)) (pe_slice (sl_listK (K := K) rfl) (pv 4) po_none (po_some (pv 6))) (by rfl))) (fun _ _ _ _ _ => pe_ix (ix_lstK (K := K) rfl) (pv 4) (pv 6) (fun _ _ => rfl)))
      (pss_cons (ps_if (pt_cmpR (op_neDK (K := K) rfl hr.units) (pv 7) (pe_lst pa_nil) (nomark _)) (pss_one (ps_ret (pe_tup (pa_cons pe_str (pa_cons (pe_callTy call_str_int rfl B.str (by decide +kernel) (pa_cons (pe_ix ix_list (pv 7) pe_int (fun _ _ => rfl)) pa_nil)) pa_nil))))) pss_nil)
      (pss_cons (ps_set (i := 8) nd rfl (Or.inl rfl) (pe_tupleOf rfl B.tuple (pe_callB (cr_sortDt hr.units) (by rfl) B.sorted (by decide +kernel) (pa_cons (pe_lc (own := [("lot", 5)]) (g := gName 5) (by rfl) nd (pi_list (pv 3)) (blkOk_by (own := [("lot", 5)]) (N := lrN) (sc := defScope st__law_read) (by decide +kernel)) (fun _ _ _ _ _ => pg_name (i := 5) nd rfl (Or.inl rfl)) (fun _ _ _ _ _ => pts_nil) (fun _ _ _ _ _ => pe_tupleOfK (K := K) rfl rfl B.tuple (pe_callB (cr_sortTdK (K := K) rfl hr.units) (by rfl) B.sorted (by decide +kernel) (pa_cons (pv 5) pa_nil)))) pa_nil))))
      (pss_cons (ps_set (i := 9) nd rfl (Or.inl rfl) (pe_cal c4 (hr.mono (by decide)) rfl (pa_cons (pv 0) (pa_cons (pv 8) pa_nil))))
      (pss_one (ps_ret (pe_ifExp (pt_cmpR op_isN (pv 9) pe_non (nomark _)) (pe_tup (pa_cons pe_str (pa_cons (pv 8) pa_nil))) (pe_tup (pa_cons pe_str (pa_cons (pv 9) pa_nil))))))))))))))), ?_⟩
    rcases hv with ⟨z, R, rfl, hz, hT, k⟩ | ⟨⟨T, hTy, hne, hmem⟩, k⟩
    rotate_left
    · obtain ⟨t, b, i1, i2, i3⟩ := isi_str hTy hmem
      refine ⟨_, rfl, v, _, _, _, _, rfl, .ty "str", i1, i2, ?_⟩
      rw [i3, decide_eq_false hne]
      exact ⟨_, rfl, iteT ⟨(by show 2 ≤ sizeLine; decide), fun t ht => k _ _ (.new ht) (dp_new ht (.cons (.str _) (.cons (.int _) .nil)))⟩⟩
    obtain ⟨t, b, i1, i2, i3⟩ := isi_str (K := K) (H := H) (.str z) (by decide)
    refine ⟨_, rfl, .str z, _, _, _, _, rfl, .ty "str", i1, i2, ?_⟩
    rw [i3, decide_eq_true rfl]
    refine ⟨_, rfl, iteF ?_⟩
    dsimp only [tNext, tSeq, gName, List.set, L2.start, List.map, List.replicate, List.append, List.length]
    refine ⟨_, rfl, by show 3 ≤ sizeLine; decide, fun a ha => ⟨Nat.zero_le _, fun D hD => ?_⟩⟩
    have haD : a ≠ D := ne_of_none upd_same hD
    have hDH : H D = none := (Ext.new ha).free hD
    have x1 : Ext H (upd (upd H a (.lst [.str z, .int 0, .non])) D (.lst [])) := (Ext.new ha).trans (.new hD)
    have hA : RdAt (upd (upd H a (.lst [.str z, .int 0, .non])) D (.lst [])) a z 0 .non := by
      show upd _ D _ a = _
      rw [upd_ne haD, upd_same]
      rfl
    have hL : (upd (upd H a (.lst [.str z, .int 0, .non])) D (.lst [])) D = some (.lst []) := upd_same
    generalize (upd (upd H a (.lst [.str z, .int 0, .non])) D (.lst [])) = H1 at x1 hA hL ⊢
    have hDa : D ∉ [a] := by simpa using fun y => haD (y : D = a).symm
    dsimp only [tNext, tSeq, gName, List.set]
    refine ⟨_, _, rfl, ?_⟩
    have hzl : z.length = (tl z).length := str_len z
    have hzs : Shrt z := by show _ ≤ 100000; omega
    have hbk : blk (tl z) 0 ≤ 900 := by
      unfold blk
      refine Nat.le_trans List.count_le_length ?_
      rw [List.drop_zero, ← str_len]
      omega
    have rdS : ∀ {G : Hp} {q : Nat} {il : V} {o : HO}, RdAt G a z q il → ∀ o', ExtS [a] G (upd G a o') := fun h o' => (ExtS.refl _ _).write (.inr ⟨by simp, _, h⟩)
    have hn : ∀ us : List (List Nat), noLs (us.map lotD) = true := noLs_map lotD fun u => noLs_map _ (fun _ => rfl) u
    have isN : ∀ i : Nat, decide (V.int (i : Int) = V.non) = false := fun i => decide_eq_false (fun y => nomatch y)
    have haS : ∀ b ∈ [a], H b = none := fun b hb => by rw [List.mem_singleton.mp hb]; exact ha
    refine via (fun σ G => ∃ (us : List (List Nat)) (vs : List V), σ = [some l, some (.str z), some (.ref a), some (.ref D), none, none, none, none, none, none] ∧ G D = some (.lst vs) ∧ DpAll K G vs (us.map lotD) ∧ Ext H G ∧
        ((∃ p : Nat, RdAt G a z p .non ∧ R = .ok us p) ∨ (∃ i q : Nat, RdAt G a z q (.int (i : Int)) ∧ R = .ill i))) (fun σ3 H3 hJ => ?_) (fun nx hnx => ?_)
    rotate_left
    · have hsl : 1000 ≤ sizeLine := by decide
      refine while_by (fun σ G => ∃ (us : List (List Nat)) (vs : List V), σ = [some l, some (.str z), some (.ref a), some (.ref D), none, none, none, none, none, none] ∧ G D = some (.lst vs) ∧ DpAll K G vs (us.map lotD) ∧ Ext H G ∧
          ((∃ p : Nat, RdAt G a z p .non ∧ PlanR (tl z) p us R ∧ us.length ≤ p ∧ p ≤ (tl z).length) ∨ (us.length ≤ 200 ∧ ∃ i q : Nat, RdAt G a z q (.int (i : Int)) ∧ R = .ill i)))
        (fun _ G => match G a with
          | some (.lst [_, .int q, .non]) => (tl z).length + 1 - q.toNat
          | _ => 0) ⟨[], [], rfl, hL, .nil, x1, .inl ⟨0, hA, hT, Nat.le_refl _, Nat.zero_le _⟩⟩ ?_ ?_
      · rintro σ G ⟨us, vs, rfl, hG, hds, x, ⟨p, hA2, hP, hup, hpl⟩ | ⟨hul, i, q, hA2, hR⟩⟩
        rotate_left
        · refine ⟨_, rfl, a, _, _, _, rfl, rfl, SqL.of hA2, atI_nat (j := 2) rfl, rfl, _, rfl, ?_⟩
          rw [isN]
          exact iteF (iteF (hnx _ _ ⟨us, vs, rfl, hG, hds, x, .inr ⟨i, q, hA2, hR⟩⟩))
        have hvl := rows_len hds
        have hmu : (match G a with | some (.lst [_, .int q, .non]) => (tl z).length + 1 - q.toNat | _ => 0) = (tl z).length + 1 - p := by
          rw [show G a = _ from hA2]
          show (tl z).length + 1 - (p : Int).toNat = _
          omega
        rw [hmu]
        clear hmu
        refine tt_viaP (fun c G1 => c = (us.isEmpty || decide (p < (tl z).length)) ∧ Ext G G1) (fun Q' hQ' => ?_) (fun c G1 ⟨hc, xg⟩ => ?_)
        · refine ⟨_, rfl, a, _, _, _, rfl, rfl, SqL.of hA2, atI_nat (j := 2) rfl, rfl, _, rfl, ?_⟩
          rw [decide_eq_true (rfl : V.non = V.non)]
          refine iteT ⟨_, rfl, Nat.zero_le _, fun z1 hz1 => ⟨.list (us.map lotD), .list [], .lst (SqL.of ((Ext.new hz1).lst hG)) (dpAll_ext (.new hz1) hds), .lst (SqL.of upd_same) .nil, sh_rows us, (Sh.lst (n := 0) (fun d hd => by cases hd)).shaped (by decide), _, rfl, ?_⟩⟩
          have he : PyData.eqv (.list (us.map lotD)) (.list []) = us.isEmpty := by rw [eqv_nil]; cases us <;> rfl
          rw [he]
          have hA3 : RdAt (upd G z1 (.lst [])) a z p .non := (Ext.new hz1).lst hA2
          have xz : Ext G (upd G z1 (.lst [])) := .new hz1
          generalize upd G z1 (.lst []) = G1 at hA3 xz ⊢
          cases hu : us.isEmpty with
          | true => exact iteT (hQ' _ _ ⟨by rw [hu]; rfl, xz⟩)
          | false =>
            refine iteF ⟨_, rfl, a, _, _, _, rfl, rfl, SqL.of hA3, atI_nat (j := 1) rfl, _, rfl, _, z.length, rfl, ⟨hzs.sz, rfl⟩, _, _, rfl, rfl, _, rfl, ?_⟩
            have e : decide (((p : Nat) : Int) < ((z.length : Nat) : Int)) = decide (p < (tl z).length) := decide_eq_decide.mpr (by omega)
            rw [e]
            exact hQ' _ _ ⟨by rw [hu]; rfl, xz⟩
        have hA3 : RdAt G1 a z p .non := xg.lst hA2
        have hG3 := xg.lst hG
        have hds3 := dpAll_ext xg hds
        have x3 := x.trans xg
        clear hA2 hG hds x xg
        by_cases hgo : us = [] ∨ p < (tl z).length
        rotate_left
        · rw [not_or] at hgo
          have e0 : us.isEmpty = false := by cases us with
            | nil => exact absurd rfl hgo.1
            | cons _ _ => rfl
          rw [hc, e0, decide_eq_false hgo.2]
          exact hnx _ _ ⟨us, vs, rfl, hG3, hds3, x3, .inl ⟨p, hA3, hP.uniq (.done hgo.1 (by omega))⟩⟩
        have hct : c = true := by
          rw [hc]
          rcases hgo with h | h
          · rw [h]; rfl
          · rw [decide_eq_true h, Bool.or_true]
        subst hct
        refine iteT ?_
        dsimp only [tSeq]
        refine ⟨_, rfl, _, rfl, Nat.zero_le _, fun z2 hz2 => ⟨.list (us.map lotD), .list [], .lst (SqL.of ((Ext.new hz2).lst hG3)) (dpAll_ext (.new hz2) hds3), .lst (SqL.of upd_same) .nil, sh_rows us, (Sh.lst (n := 0) (fun d hd => by cases hd)).shaped (by decide), .inr ⟨_, rfl, ?_⟩⟩⟩
        have he : PyData.eqv (.list (us.map lotD)) (.list []) = us.isEmpty := by rw [eqv_nil]; cases us <;> rfl
        rw [he]
        have hA4 : RdAt (upd G1 z2 (.lst [])) a z p .non := (Ext.new hz2).lst hA3
        have hG4 := (Ext.new hz2 (o := .lst [])).lst hG3
        have hds4 := dpAll_ext (Ext.new hz2 (o := .lst [])) hds3
        have x4 := x3.trans (.new hz2 (o := .lst []))
        generalize upd G1 z2 (.lst []) = G4 at hA4 hG4 hds4 x4 ⊢
        refine ⟨Str.ofString "\n", if us.isEmpty then 0 else 1, ?_, ?_, (by split <;> omega), (by decide), fun u hu => ?_⟩
        · rfl
        · cases us.isEmpty <;> rfl
        have hu2 : tl u = if us.isEmpty then [] else [10] := by
          rw [hu, tl_feed]
          cases us.isEmpty <;> rfl
        refine ⟨a, z, u, p, rfl, hA4, hzs, ?_⟩
        rw [hu2]
        have hA5 : (upd G4 a (rdTo z (byR (tl z) (if us.isEmpty then [] else [10]) p))) a = some (rdTo z (byR (tl z) (if us.isEmpty then [] else [10]) p)) := upd_same
        have y5 := rdS hA4 (o := .tup []) (rdTo z (byR (tl z) (if us.isEmpty then [] else [10]) p))
        have hG5 := y5.lst hDa hG4
        have hds5 := dpAll_extS y5 (hn us) hds4
        have x5 := ext_goS x4 y5 haS
        generalize upd G4 a (rdTo z (byR (tl z) (if us.isEmpty then [] else [10]) p)) = G5 at hA5 hG5 hds5 x5 ⊢
        clear y5 hA4 hG4 hds4 x4 hA3 hG3 hds3 x3
        have hvs : vs.length < sizeLine := by omega
        have fin : ∀ (t2 : Addr) (l2 : List Nat) (G6 : Hp), Ext H G6 → G6 D = some (.lst vs) → DpAll K G6 vs (us.map lotD) → G6 t2 = some (.tup (vsN l2)) → Ext H (upd G6 D (.lst (vs ++ [.ref t2]))) ∧ DpAll K (upd G6 D (.lst (vs ++ [.ref t2]))) (vs ++ [.ref t2]) ((us ++ [l2]).map lotD) := fun t2 l2 G6 x6 e6 d6 ht2 => by
          have xs : ExtS [D] G6 (upd G6 D (.lst (vs ++ [.ref t2]))) := (ExtS.refl _ _).write (.inr ⟨by simp, _, e6⟩)
          refine ⟨x6.write hDH, ?_⟩
          rw [List.map_append]
          exact dpAll_app (dpAll_extS xs (hn us) d6) (.cons (.tup (SqT.of (xs.tup ht2)) (dpAll_lot l2)) .nil)
        refine ⟨_, rfl, .inl ⟨rfl, _, SqL.of hG5⟩, ?_⟩
        cases hb : byR (tl z) (if us.isEmpty then [] else [10]) p with
        | ill i =>
          rw [hb] at hA5
          refine ⟨_, rfl, a, _, _, _, rfl, rfl, SqL.of hA5, atI_nat (j := 2) rfl, rfl, _, rfl, ?_⟩
          rw [isN]
          refine iteF ⟨Nat.zero_le _, fun t2 ht2 => ?_⟩
          obtain ⟨f1, f2⟩ := fin t2 [] (upd G5 t2 (.tup [])) (x5.trans (.new ht2)) ((Ext.new ht2).lst hG5) (dpAll_ext (.new ht2) hds5) upd_same
          have hAA : RdAt (upd (upd G5 t2 (.tup [])) D (.lst (vs ++ [.ref t2]))) a z i (.int (i : Int)) := by
            show upd _ D _ a = _
            rw [upd_ne haD, upd_ne (ne_of_none hA5 ht2)]
            exact hA5
          refine ⟨D, vs, _, rfl, rfl, (Ext.new ht2).lst hG5, hvs, ⟨us ++ [[]], vs ++ [.ref t2], rfl, upd_same, f2, f1, .inr ⟨by rw [List.length_append, List.length_singleton]; omega, i, i, hAA, hP.uniq (.ill hgo hb)⟩⟩, ?_⟩
          rw [show (upd (upd G5 t2 (.tup [])) D (.lst (vs ++ [.ref t2]))) a = _ from hAA]
          show 0 < _
          omega
        | ok w0 p1 =>
          rw [hb] at hA5
          refine ⟨_, rfl, a, _, _, _, rfl, rfl, SqL.of hA5, atI_nat (j := 2) rfl, rfl, _, rfl, ?_⟩
          rw [decide_eq_true (rfl : V.non = V.non)]
          obtain ⟨S, hS⟩ := rowN_ex (tl z) p1
          have hpp : p ≤ p1 := by
            cases hr : us.isEmpty with
            | true => rw [hr] at hb; injection hb with _ e; omega
            | false => rw [hr] at hb; have := byR_one hb; omega
          refine iteT ⟨_, rfl, a, z, p1, S, rfl, hA5, hzs, hbk, hS, fun t2 l2 G6 y6 htn ht2 hl2 g1 g2 => ?_⟩
          have hG6 := y6.lst hDa hG5
          obtain ⟨f1, f2⟩ := fin t2 l2 G6 (ext_goS x5 y6 haS) hG6 (dpAll_extS y6 (hn us) hds5) ht2
          cases S with
          | ill i =>
            obtain ⟨q, hq⟩ := g2 i rfl
            have hAA : RdAt (upd G6 D (.lst (vs ++ [.ref t2]))) a z q (.int (i : Int)) := by
              show upd _ D _ a = _
              rw [upd_ne haD]
              exact hq
            refine ⟨D, vs, _, rfl, rfl, hG6, hvs, ⟨us ++ [l2], vs ++ [.ref t2], rfl, upd_same, f2, f1, .inr ⟨by rw [List.length_append, List.length_singleton]; omega, i, q, hAA, hP.uniq (.ill2 hgo hb hS)⟩⟩, ?_⟩
            rw [show (upd G6 D (.lst (vs ++ [.ref t2]))) a = _ from hAA]
            show 0 < _
            omega
          | ok l' q =>
            obtain ⟨rfl, hq⟩ := g1 l' q rfl
            have hgo2 := hS.go
            have hAA : RdAt (upd G6 D (.lst (vs ++ [.ref t2]))) a z q .non := by
              show upd _ D _ a = _
              rw [upd_ne haD]
              exact hq
            have hnx2 : PlanR (tl z) q (us ++ [l2]) R := by
              cases hP with
              | done h1 h2 => rcases hgo with h | h; exact absurd h h1; omega
              | ill _ e => rw [hb] at e; cases e
              | ill2 _ e n => rw [hb] at e; injection e with _ e; subst e; cases hS.uniq n
              | row _ e n t =>
                rw [hb] at e
                injection e with _ e
                subst e
                have e3 := hS.uniq n
                injection e3 with e3 e4
                subst e3 e4
                exact t
            refine ⟨D, vs, _, rfl, rfl, hG6, hvs, ⟨us ++ [l2], vs ++ [.ref t2], rfl, upd_same, f2, f1, .inl ⟨q, hAA, hnx2, by rw [List.length_append, List.length_singleton]; omega, hgo2.2.1⟩⟩, ?_⟩
            rw [show (upd G6 D (.lst (vs ++ [.ref t2]))) a = _ from hAA]
            show (tl z).length + 1 - (q : Int).toNat < _
            omega
      · exact mt_and (mt_test (me_op (fun _ _ _ _ _ h ⟨e, q⟩ => ⟨e, h _ _ q⟩) (me_op (m2_ixL _) (me_var 2) (me_c _)) (me_c _)))
          (mt_or (mt_test (me_op m2_eqD (me_var 3) me_nil)) (mt_test (me_op (m2_i0 _) (me_op (m2_ixL _) (me_var 2) (me_c _)) (me_cb (fun _ _ _ _ h ⟨x, n, e1, e2, q⟩ => ⟨x, n, e1, e2, h _ _ q⟩) (ma_cons (me_var 1) ma_nil)))))
    obtain ⟨us, vs, rfl, hG, hds, x3, hst⟩ := hJ
    rcases hst with ⟨p, hA4, hR⟩ | ⟨i, q, h1, h2⟩
    rotate_left
    · refine ⟨_, rfl, a, _, _, _, rfl, rfl, SqL.of h1, atI_nat (j := 2) rfl, rfl, _, rfl, ?_⟩
      rw [isN]
      exact iteT ⟨_, rfl, a, _, _, _, rfl, rfl, SqL.of h1, atI_nat (j := 2) rfl, (by show 2 ≤ sizeLine; decide), fun t ht => k _ _ (x3.trans (.new ht)) (by rw [h2]; exact dp_new ht (.cons (.str _) (.cons (.int _) .nil)))⟩
    refine ⟨_, rfl, a, _, _, _, rfl, rfl, SqL.of hA4, atI_nat (j := 2) rfl, rfl, _, rfl, ?_⟩
    rw [decide_eq_true (rfl : V.non = V.non)]
    refine iteF ?_
    dsimp only [tNext, tSeq]
    rw [hR] at hT
    have hlen := hT.len (fun _ => rfl) (Nat.zero_le _) (Nat.zero_le _) (fun l hl => nomatch hl) us p rfl
    have hlt := hT.lt (fun l hl => nomatch hl) us p rfl
    have hcs : (tl z).length ≤ 100 := by rw [← str_len]; exact hz
    have hcnt : us.flatten.length ≤ 50 := by
      have := hlen.1
      unfold cntR at this
      omega
    have hfl := flat_len hlen.2.1
    have hvl := rows_len hds
    have hsl : 1000 ≤ sizeLine := by decide
    have vl : ∀ l : List Nat, (vsN l).length = l.length := fun l => List.length_map _
    refine ⟨Nat.zero_le _, fun T0 hT0 => ?_⟩
    have eT0 : (upd H3 T0 (.lst [])) T0 = some (.lst (vsN [])) := upd_same
    have xT0 : Ext H3 (upd H3 T0 (.lst [])) := .new hT0
    generalize upd H3 T0 (.lst []) = G0 at eT0 xT0 ⊢
    dsimp only [gName, List.set]
    refine ⟨_, rfl, D, rfl, ⟨_, SqL.of (xT0.lst hG)⟩, for_list (K := K) (a := D) (xs := vs) (fun i σ G => ∃ (T : Addr) (o5 : Option V), σ = [some l, some (.str z), some (.ref a), some (.ref D), some (.ref T), o5, none, none, none, none] ∧ G T = some (.lst (vsN (us.take i).flatten)) ∧ Ext H3 G)
      ⟨T0, none, rfl, by rw [List.take_zero]; exact eT0, xT0⟩ (fun i σ G _ ⟨_, _, _, _, x⟩ => SqL.of (x.lst hG)) (fun i v σ G hv ⟨T, o5, e, g1, x⟩ => ?_) (fun σ G ⟨T, o5, e, g1, x⟩ => ?_)⟩
    · subst e
      obtain ⟨dy, hdy, hpy⟩ := dpAll_get' hds hv
      have hi := (List.getElem?_eq_some_iff.mp hv).1
      have hui := List.getElem?_eq_getElem (show i < us.length by omega)
      rw [List.getElem?_map, hui] at hdy
      obtain rfl := Option.some.inj hdy
      have htk : (us.take (i + 1)).flatten = (us.take i).flatten ++ us[i] := by
        rw [List.take_add_one, hui, List.flatten_append]
        show _ ++ List.flatten [us[i]] = _
        rw [List.flatten_singleton]
      have hle2 : (us.take (i + 1)).flatten.length ≤ us.flatten.length := by
        have h2 := congrArg List.length (show us.flatten = (us.take (i + 1)).flatten ++ (us.drop (i + 1)).flatten from by rw [← List.flatten_append, List.take_append_drop])
        rw [List.length_append] at h2
        omega
      rw [htk, List.length_append] at hle2
      generalize us[i] = u at hpy htk hle2
      obtain ⟨ua, rfl, hu⟩ := dp_lot hpy
      refine ⟨_, rfl, _, rfl, ua, _, rfl, .inr (x.sqT hu), fun q1 hq1 => ⟨T, q1, _, _, rfl, rfl, (Ext.new hq1).lst g1, upd_same, by rw [vl, List.length_map]; omega, fun q2 hq2 => ?_⟩⟩
      refine ⟨q2, some (.ref ua), rfl, ?_, (x.trans (.new hq1)).trans (.new hq2)⟩
      rw [upd_same, htk]
      show some (HO.lst (List.map _ _ ++ List.map _ _)) = some (HO.lst (List.map _ (_ ++ _)))
      rw [List.map_append]
    subst e
    rw [hvl, List.take_length] at g1
    dsimp only [tSeq]
    have hb12 : ∀ y ∈ us.flatten, y < 10 ^ 12 := fun y hy => by
      obtain ⟨u, hu, hyu⟩ := List.mem_flatten.mp hy
      exact hlt u hu y hyu
    have hfind := twiceW_findG nTN nTN_inj 0 us.flatten
    have hnd : twiceW [] (us.flatten.map nTN) = none → RowsOk us := fun h => ⟨hlen.2.1, nodup_of_map nTN (twiceW_none _ _ h).2⟩
    have hmemb : ∀ u ∈ us, u.length ≤ us.flatten.length := fun u hu => flat_mem hu
    have hkT : ∀ a, twiceW [] (us.flatten.map nTN) = some a → ∀ u H', Ext H H' → Dp K H' u (wordD "twice" (.str a)) → Q u H' := fun a h u H' x hd => k u H' x (by rw [hR]; unfold ansP; dsimp only; rw [h]; exact hd)
    have hkP : twiceW [] (us.flatten.map nTN) = none → ∀ i, planF fs.length bs (planD (planN us)) = some i → ∀ u H', Ext H H' → Dp K H' u (wordD "plan" (.int i)) → Q u H' := fun h i h2 u H' x hd => k u H' x (by rw [hR]; unfold ansP; dsimp only; rw [h]; dsimp only; rw [h2]; exact hd)
    have hkO : twiceW [] (us.flatten.map nTN) = none → planF fs.length bs (planD (planN us)) = none → ∀ u H', Ext H H' → Dp K H' u (wordD "told" (planD (planN us))) → Q u H' := fun h h2 u H' x hd => k u H' x (by rw [hR]; unfold ansP; dsimp only; rw [h]; dsimp only; rw [h2]; exact hd)
    clear k hT
    generalize us.flatten = fl at g1 hb12 hfind hcnt hkT hkP hkO hmemb hfl hnd
    refine ⟨_, rfl, _, fl.length, rfl, .inl ⟨_, SqL.of g1, (vl fl).symm⟩, _, rfl, by omega, by omega, fun D2 hD2 => ?_⟩
    let pq : Nat → Bool := fun k => decide (fl.getD k 0 ∈ fl.take k)
    refine lc_range (lo := 0) (n := (fl.length : Int).toNat) (fun i G' => G' D2 = some (.lst (vsN (((List.range i).filter pq).map fun k => fl.getD k 0))) ∧ Ext G G') ⟨upd_same, .new hD2⟩ (fun i G' hi ⟨e, x'⟩ => ?_) (fun G' ⟨e, x'⟩ => ?_)
    · rw [Int.toNat_natCast] at hi
      have hgd : fl.getD i 0 = fl[i] := by rw [List.getD_eq_getElem?_getD, List.getElem?_eq_getElem hi]; rfl
      have hy : (vsN fl)[i]? = some (.int ((fl.getD i 0 : Nat) : Int)) := by
        show (fl.map _)[i]? = _
        rw [List.getElem?_map, List.getElem?_eq_getElem hi, hgd]
        rfl
      refine ⟨rfl, _, rfl, _, rfl, T, _, _, _, rfl, rfl, SqL.of (x'.lst g1), by rw [Int.zero_add]; exact atI_nat hy, _, rfl, _, rfl, _, rfl, T, vsN fl, rfl, SqL.of (x'.lst g1), fun r hr => ?_⟩
      have ecut : cutV (vsN fl) none (some (0 + (i : Int))) = vsN (fl.take i) := by
        have e2 : HT.sIx (vsN fl).length (vsN fl).length (some (0 + (i : Int))) = i := by
          show (if 0 + (i : Int) < 0 then ((0 + (i : Int)) + ((vsN fl).length : Int)).toNat else min (0 + (i : Int)).toNat (vsN fl).length) = _
          rw [if_neg (by omega), vl]
          omega
        unfold cutV
        rw [e2]
        show ((fl.map _).drop 0).take (i - 0) = (fl.take i).map _
        rw [List.drop_zero, Nat.sub_zero, List.map_take]
      rw [ecut]
      refine ⟨r, vsN (fl.take i), rfl, .inl (SqL.of upd_same), rfl, flat_vsN _, _, rfl, ?_⟩
      rw [if_neg Bool.false_ne_true, inV_vsN]
      have x6 : Ext G' (upd G' r (.lst (vsN (fl.take i)))) := .new hr
      have e6 := x6.lst e
      generalize upd G' r (.lst (vsN (fl.take i))) = G6 at x6 e6 ⊢
      have hfi := List.length_filter_le pq (List.range i)
      rw [List.length_range] at hfi
      by_cases hc : fl.getD i 0 ∈ fl.take i
      · rw [decide_eq_true hc]
        refine iteT ⟨_, rfl, _, rfl, T, _, _, _, rfl, rfl, SqL.of ((x'.trans x6).lst g1), by rw [Int.zero_add]; exact atI_nat hy, _, e6, by rw [vl, List.length_map]; omega, ?_, (x'.trans x6).write hD2⟩
        rw [upd_same, vsN_app, List.range_succ, List.filter_append, List.filter_cons_of_pos (by exact decide_eq_true hc), List.filter_nil, List.map_append]
        rfl
      · rw [decide_eq_false hc]
        refine iteF ⟨?_, x'.trans x6⟩
        rw [List.range_succ, List.filter_append, List.filter_cons_of_neg (by simpa [pq] using hc), List.filter_nil, List.append_nil]
        exact e6
    rw [Int.toNat_natCast] at e
    rw [show (List.range fl.length).filter (fun k => decide (fl.getD k 0 ∈ fl.take k)) = (List.range fl.length).filter pq from rfl] at hfind
    have hmem : ∀ k ∈ (List.range fl.length).filter pq, k < fl.length := fun k hk => List.mem_range.mp (List.mem_filter.mp hk).1
    generalize (List.range fl.length).filter pq = gs at e hfind hmem
    have xHG : Ext H G' := (x3.trans x).trans x'
    dsimp only [gName, tSeq, List.set]
    refine ⟨_, rfl, Nat.zero_le _, fun z1 hz1 => ?_⟩
    obtain ⟨d, d', q1, q2, q3, q4, q5⟩ := nil_ne (K := K) (H := upd G' z1 (.lst [])) (D := D2) (z := z1) (gs.map fun k => fl.getD k 0) ((Ext.new hz1).lst e) upd_same
    refine ⟨d, d', q1, q2, q3, q4, _, rfl, ?_⟩
    rw [q5]
    have e7 := (Ext.new hz1 (o := .lst [])).lst e
    have x37 : Ext H3 (upd G' z1 (.lst [])) := (x.trans x').trans (.new hz1)
    generalize upd G' z1 (.lst []) = G7 at e7 x37 ⊢
    have xH7 := x3.trans x37
    clear q1 q2 q3 q4 q5 e
    cases gs with
    | cons g r =>
      refine iteT ?_
      have hg := hmem g List.mem_cons_self
      have hy12 := hb12 (fl.getD g 0) (by rw [List.getD_eq_getElem?_getD, List.getElem?_eq_getElem hg]; exact List.getElem_mem hg)
      have hf2 : twiceW [] (fl.map nTN) = some (nTN (fl.getD g 0)) := hfind
      have e7 : G7 D2 = some (.lst (vsN (fl.getD g 0 :: r.map fun k => fl.getD k 0))) := e7
      refine ⟨_, rfl, D2, _, _, _, rfl, rfl, SqL.of e7, atI_nat (j := 0) rfl, _, rfl, log2_lt (m := 10 ^ 12) (k := 1920) (by omega) (by decide +kernel) (by decide), by show 2 ≤ sizeLine; omega, fun t9 ht9 => ?_⟩
      exact hkT _ hf2 (.ref t9) _ (xH7.trans (.new ht9)) (dp_new ht9 (.cons (.str _) (.cons (.str _) .nil)))
    | nil =>
      refine iteF ?_
      have hf2 : twiceW [] (fl.map nTN) = none := hfind
      have hok := hnd hf2
      obtain ⟨s1, s2, s3⟩ := hok.sorted
      have hsrt := hok.srt hlen.2.2
      dsimp only [tNext, tSeq]
      refine ⟨_, rfl, D, rfl, ⟨_, SqL.of (x37.lst hG)⟩, fun D8 hD8 => ?_⟩
      have hul := hvl
      refine lc_list (K := K) (a := D) (xs := vs) (fun i H2 => ∃ ys : List V, H2 D8 = some (.lst ys) ∧ DpAll K H2 ys (((us.map sortN).take i).map lotD) ∧ Ext G7 H2) ⟨[], upd_same, by rw [List.take_zero]; exact .nil, .new hD8⟩ (fun i H2 _ ⟨_, _, _, x2⟩ => SqL.of ((x37.trans x2).lst hG)) (fun i y H2 hy ⟨ys, e2, hd, x2⟩ => ?_) (fun H2 ⟨ys, e2, hd, x2⟩ => ?_)
      · have hi : i < us.length := by
          have := (List.getElem?_eq_some_iff.mp hy).1
          omega
        obtain ⟨dy, hdy, hpy⟩ := dpAll_get' hds hy
        have hui := List.getElem?_eq_getElem hi
        rw [List.getElem?_map, hui] at hdy
        obtain rfl := Option.some.inj hdy
        have hndu := nodup_each hok.nd _ (List.getElem_mem hi)
        have hmu := hmemb _ (List.getElem_mem hi)
        have etk : ((us.map sortN).take (i + 1)).map lotD = ((us.map sortN).take i).map lotD ++ [lotD (sortN us[i])] := by
          rw [List.take_add_one, List.getElem?_map, hui, List.map_append]
          rfl
        have hyl := dpAll_len hd
        rw [List.length_map, List.length_take, List.length_map] at hyl
        generalize us[i] = u at hpy hndu hmu etk
        obtain ⟨aw, rfl, hsw⟩ := dp_lot hpy
        refine ⟨rfl, ?_⟩
        dsimp only [tYes]
        rw [if_pos rfl]
        refine ⟨_, rfl, aw, vsN u, u.map (fun (p : Nat) => PyData.int (p : Int)), rfl, (x37.trans x2).sqT hsw, dpAll_lot u, alikeAll_nats u, sortable_nats u, by rw [List.length_map]; omega, depth_ints u, fun zs es p _ hze hpe hpw hp => ?_⟩
        have ee := asc_sorted (sortN_asc hndu) (hpe.trans ((sortN_perm u).symm.map _)) hpw
        subst ee
        refine .inl ⟨p, _, rfl, SqL.of upd_same, fun q hq => ?_⟩
        have x3' : Ext H2 (upd (upd H2 p (.lst zs)) q (.tup zs)) := (Ext.new hp).trans (.new hq)
        have hq3 : Dp K (upd (upd H2 p (.lst zs)) q (.tup zs)) (.ref q) (lotD (sortN u)) := dp_new hq (dpAll_ext (.new hp) hze)
        have e3 := x3'.lst e2
        generalize upd (upd H2 p _) q _ = H3' at x3' hq3 e3
        refine ⟨ys, e3, by omega, ys ++ [.ref q], upd_same, ?_, (x2.trans x3').write hD8⟩
        rw [etk]
        have x4 : ExtS [D8] H3' (upd H3' D8 (.lst (ys ++ [.ref q]))) := (ExtS.refl [D8] _).write (.inr ⟨by simp, _, e3⟩)
        exact dpAll_app (dpAll_extS x4 (hn _) (dpAll_ext x3' hd)) (.cons (dp_extS x4 (noLs_map _ (fun _ => rfl) _) hq3) .nil)
      · rw [hvl, List.take_of_length_le (by rw [List.length_map]; exact Nat.le_refl _)] at hd
        have hzl' : (planN us).length ≤ 50 := by rw [← s2.length_eq, List.length_map]; omega
        refine ⟨D8, ys, (us.map sortN).map lotD, rfl, SqL.of e2, hd, allAlike_lots _, sortable_lots fun u hu => (s1 u hu).1, by rw [List.length_map, List.length_map]; omega, depth_lots, fun zs' es p hz hpe hpw hp => ?_⟩
        have ee := sorted_lots (fun u hu => (s1 u (s2.mem_iff.mpr hu)).1) s3 s2 hpe hpw
        subst ee
        refine .inl ⟨p, _, rfl, SqL.of upd_same, fun q hq => ?_⟩
        have xq : Ext H2 (upd (upd H2 p (.lst zs')) q (.tup zs')) := (Ext.new hp).trans (.new hq)
        have hdq : Dp K (upd (upd H2 p (.lst zs')) q (.tup zs')) (.ref q) (planD (planN us)) := dp_new hq (dpAll_ext (.new hp) hz)
        generalize upd (upd H2 p (.lst zs')) q (.tup zs') = H5 at xq hdq ⊢
        have xH5 : Ext H H5 := xH7.trans (x2.trans xq)
        dsimp only [gName, List.set]
        refine ⟨_, rfl, _, rfl, l, .ref q, fs, bs, planN us, rfl, dp_ext xH5 hl, ok, hdq, hsrt, by omega, (fun u hu => ?_), fun H6 x6 => ?_⟩
        · obtain ⟨u0, hu0, hp0, _⟩ := hok.mem hu
          rw [hp0.length_eq]
          have := hmemb u0 hu0
          omega
        have hFl := planF_flt (n := fs.length) (bs := bs) hsrt
        have xH6 := xH5.trans x6
        dsimp only [gName, List.set]
        cases hF : fltP fs.length bs (planN us) with
        | none =>
          refine ⟨_, rfl, rfl, _, rfl, ?_⟩
          rw [show decide (optV none = V.non) = true from decide_eq_true rfl]
          exact iteT ⟨_, rfl, by show 2 ≤ sizeLine; omega, fun t9 ht9 => hkO hf2 (hFl.trans hF) (.ref t9) _ (xH6.trans (.new ht9)) (dp_new ht9 (.cons (.str _) (.cons (dp_ext x6 hdq) .nil)))⟩
        | some i =>
          refine ⟨_, rfl, rfl, _, rfl, ?_⟩
          rw [decide_eq_false (fun y => nomatch y : ¬ optV (some i) = V.non)]
          exact iteF ⟨_, rfl, by show 2 ≤ sizeLine; omega, fun t9 ht9 => hkP hf2 i (hFl.trans hF) (.ref t9) _ (xH6.trans (.new ht9)) (dp_new ht9 (.cons (.str _) (.cons (.int i) .nil)))⟩
end
end Wd

set_option Elab.async false
set_option linter.all false
set_option maxRecDepth 100000
set_option maxHeartbeats 4000000
namespace Wd
open PySem PySem.Spec PyProof.Rows L2 Bx Gx




















































section
variable {P : Program} {w : World} {K : PySem.W.Frag} {mg : Str → Option Value} {base : Heap}
/-! ### what the program tells of a plan's text, or of another value -/
open TL
theorem tyB_ext {H H' : Hp} (x : Ext H H') {v : V} {T : String} (h : TyB K H v T) (hT : T ∈ tyNames) : TyB K H' v T := by
  cases h with
  | non => exact .non
  | bl b => exact .bl b
  | int i => exact .int i
  | str z => exact .str z
  | byt b => exact .byt b
  | lst h => exact .lst (x.sqL h)
  | tup h => exact .tup (x.sqT h)
  | dK h => simp [tyNames] at hT
/-- what the written part says of the errors -/
structure PlanE (K : PySem.W.Frag) (mg : Str → Option Value) (CT CW CL CP CE : Addr) : Prop where
  gL : mg "InvalidLand" = some (.ref CL)
  gT : mg "InvalidText" = some (.ref CT)
  gW : mg "Twice" = some (.ref CW)
  gP : mg "InvalidPlan" = some (.ref CP)
  gE : mg "WardError" = some (.ref CE)
  ll : PySem.W.exmOne K (.ref CL) (.ref CL) = some true
  tl : PySem.W.exmOne K (.ref CT) (.ref CL) = some false
  tt : PySem.W.exmOne K (.ref CT) (.ref CT) = some true
  wl : PySem.W.exmOne K (.ref CW) (.ref CL) = some false
  wt : PySem.W.exmOne K (.ref CW) (.ref CT) = some false
  ww : PySem.W.exmOne K (.ref CW) (.ref CW) = some true
  pl : PySem.W.exmOne K (.ref CP) (.ref CL) = some false
  pt : PySem.W.exmOne K (.ref CP) (.ref CT) = some false
  pw : PySem.W.exmOne K (.ref CP) (.ref CW) = some false
  pp : PySem.W.exmOne K (.ref CP) (.ref CP) = some true
  xT : XfC K CT
  xW : XfC K CW
  xP : XfC K CP
  nT : PySem.W.findIn K (.ref CT) "index" = some none
  nW : PySem.W.findIn K (.ref CW) "word" = some none
  nP : PySem.W.findIn K (.ref CP) "index" = some none
def spToldP (K : PySem.W.Frag) (T1 T2 T3 T4 : Addr) : Sp := fun vs H Q _ => ∃ l v : V, vs = [l, v] ∧ ((∃ d il, Dp K H l d ∧ shortD 100000 d ∧ landF d = some il ∧ ∀ u H', Ext H H' → Dp K H' u (.tuple [.str (Str.ofString "land")]) → Q u H') ∨
  (∃ fs bs, Dp K H l (landD fs bs) ∧ LandOk fs bs ∧ Tabs [T1, T2, T3, T4] H ∧ ((∃ z R, v = .str z ∧ z.length ≤ 100 ∧ PlanR (tl z) 0 [] R ∧ ∀ u H', Ext H H' → Dp K H' u (ansP fs.length bs R) → Q u H') ∨
    (NoStr K H v ∧ ∀ u H', Ext H H' → Dp K H' u (wordD "text" (.int 0)) → Q u H'))))
abbrev toPN : List Str := ["land", "text", "found", "e"]
theorem sc_toldP : FnScope toPN ["land", "text"] (defScope st__law_told) := ⟨rfl, rfl, rfl, by decide +kernel, rfl, by decide +kernel, by decide +kernel⟩
theorem ok_toldP {f CT CW CL CP CE T1 T2 T3 T4 : Addr} {fd : FuncData} (F : Fun K "_law_told" "_law_told" st__law_told f fd) (E1 : PlanE K mg CT CW CL CP CE) (c1 : CalX P w K mg base 10 "plan_told" ["land", "text"] (spPTold K CT CW CL CP T1 T2 T3 T4)) : FnOk P w K mg base CX0 11 f fd ["land", "text"] (spToldP K T1 T2 T3 T4) := by
  refine F.ok sc_toldP (fun vs H Q E h => ?_) (fun cdv A outer s H vs Q E hr h => ?_)
  · obtain ⟨l, v, rfl, _⟩ := h
    rfl
  · obtain ⟨l, v, rfl, hv⟩ := h
    have nd := sc_toldP.nd
    refine ⟨_, pss_cons (ps_set (i := 2) nd rfl (Or.inl rfl) (pe_tup (pa_cons pe_str pa_nil)))
      (pss_cons (ps_tryN (tb := fun W => tAsg (tTup (tCons (tC (.str (Str.ofString "told"))) (tCons (tCallS (spPTold K CT CW CL CP T1 T2 T3 T4) (WE W) (tCons (tVar 0) (tCons (tVar 1) tNil))) tNil))) (gName 2)) rfl rfl nd takes_none5 (fun W pn xe tk _ => pss_one (ps_set (i := 2) nd rfl (Or.inl rfl) (pe_tup (pa_cons pe_str (pa_cons (pe_calS c1 (hr.mono (by decide)) tk rfl (pa_cons (pv 0) (pa_cons (pv 1) pa_nil))) pa_nil)))))
        (.bare ⟨rfl, by decide, .inl E1.gL⟩ (fun a oe cls d pn hz hf => pss_one (ps_set (i := 2) nd rfl (Or.inl rfl) (pe_tup (pa_cons pe_str pa_nil))))
          (.named (i := 3) rfl rfl ⟨rfl, by decide, .inl E1.gT⟩ (fun a oe cls d pn hz hf => pss_one (ps_set (i := 2) nd rfl (Or.inl rfl) (pe_tup (pa_cons pe_str (pa_cons (pe_xf E1.xT E1.nT hz hf (pv 3)) pa_nil)))))
            (.named (i := 3) rfl rfl ⟨rfl, by decide, .inl E1.gW⟩ (fun a oe cls d pn hz hf => pss_one (ps_set (i := 2) nd rfl (Or.inl rfl) (pe_tup (pa_cons pe_str (pa_cons (pe_xf E1.xW E1.nW hz hf (pv 3)) pa_nil)))))
              (.named (i := 3) rfl rfl ⟨rfl, by decide, .inl E1.gP⟩ (fun a oe cls d pn hz hf => pss_one (ps_set (i := 2) nd rfl (Or.inl rfl) (pe_tup (pa_cons pe_str (pa_cons (pe_xf E1.xP E1.nP hz hf (pv 3)) pa_nil)))))
                (.bare ⟨rfl, by decide, .inl E1.gE⟩ (fun a oe cls d pn hz hf => pss_one (ps_set (i := 2) nd rfl (Or.inl rfl) (pe_tup (pa_cons pe_str pa_nil)))) .nil))))))
      (pss_one (ps_ret (pv 2)))), ?_⟩
    refine ⟨by show 1 ≤ sizeLine; decide, fun t0 ht0 => ?_⟩
    have x0 : Ext H (upd H t0 (.tup [.str (Str.ofString "other")])) := .new ht0
    generalize upd H t0 (.tup [.str (Str.ofString "other")]) = H1 at x0 ⊢
    have fin : ∀ (σ : L2.St) (d : PyData) (u : V) (H' : Hp), Ext H H' → Dp K H' u d → σ = [some l, some v, some u, none] → (∀ u' H'', Ext H H'' → Dp K H'' u' d → Q u' H'') → tRet (tVar 2) { nx := fun x H' => Q V.non H', rt := Q } σ H' := fun σ d u H' x hd e hk => by
      rw [e]
      exact ⟨_, rfl, hk _ _ x hd⟩
    dsimp only [tNext, tSeq, gName, List.set, L2.start, List.map, List.replicate, List.append, List.length]
    refine ⟨_, rfl, _, rfl, l, v, rfl, ?_⟩
    rcases hv with ⟨d, il, hd, hsd, hF, k⟩ | ⟨fs, bs, hl, ok, hT, hv⟩
    · refine .inl ⟨d, il, dp_ext x0 hd, hsd, hF, fun dx q H' x ed eq => ?_⟩
      refine ⟨true, E1.ll, fun _ a ha => ⟨by show 1 ≤ sizeLine; decide, fun t ht => ?_⟩, fun y => nomatch y⟩
      exact fin _ _ (.ref t) _ ((x0.trans x).trans (.new ht)) (dp_new ht (.cons (.str _) .nil)) rfl k
    refine .inr ⟨fs, bs, dp_ext x0 hl, ok, fun T hT' => x0.tabs _ (hT T hT'), ?_⟩
    rcases hv with ⟨z, R, rfl, hz, hR, k⟩ | ⟨⟨T, hTy, hne, hmem⟩, k⟩
    · refine .inl ⟨z, R, rfl, hz, hR, fun i hRi d H' x ed => ?_, fun rows q hRo => ⟨fun a ha d H' x ed => ?_, fun hn => ⟨fun i hF d H' x ed => ?_, fun hF u H' x hd => ?_⟩⟩⟩
      · refine ⟨false, E1.tl, (fun y => nomatch y), fun _ => ⟨true, E1.tt, fun _ a ha => ?_, fun y => nomatch y⟩⟩
        refine ⟨_, rfl, rfl, rfl, d, _, _, rfl, ed, rfl, (by show 2 ≤ sizeLine; decide), fun t ht => ?_⟩
        exact fin _ _ (.ref t) _ ((x0.trans x).trans (.new ht)) (dp_new ht (.cons (.str _) (.cons (.int _) .nil))) rfl (fun u H' x hd => k u H' x (by rw [hRi]; exact hd))
      · refine ⟨false, E1.wl, (fun y => nomatch y), fun _ => ⟨false, E1.wt, (fun y => nomatch y), fun _ => ⟨true, E1.ww, fun _ b hb => ?_, fun y => nomatch y⟩⟩⟩
        refine ⟨_, rfl, rfl, rfl, d, _, _, rfl, ed, rfl, (by show 2 ≤ sizeLine; decide), fun t ht => ?_⟩
        exact fin _ _ (.ref t) _ ((x0.trans x).trans (.new ht)) (dp_new ht (.cons (.str _) (.cons (.str _) .nil))) rfl (fun u H' x hd => k u H' x (by rw [hRo]; unfold ansP; dsimp only; rw [ha]; exact hd))
      · refine ⟨false, E1.pl, (fun y => nomatch y), fun _ => ⟨false, E1.pt, (fun y => nomatch y), fun _ => ⟨false, E1.pw, (fun y => nomatch y), fun _ => ⟨true, E1.pp, fun _ b hb => ?_, fun y => nomatch y⟩⟩⟩⟩
        refine ⟨_, rfl, rfl, rfl, d, _, _, rfl, ed, rfl, (by show 2 ≤ sizeLine; decide), fun t ht => ?_⟩
        exact fin _ _ (.ref t) _ ((x0.trans x).trans (.new ht)) (dp_new ht (.cons (.str _) (.cons (.int _) .nil))) rfl (fun u H' x hd => k u H' x (by rw [hRo]; unfold ansP; dsimp only; rw [hn]; dsimp only; rw [hF]; exact hd))
      · refine ⟨by show 2 ≤ sizeLine; decide, fun t ht => ?_⟩
        exact fin _ _ (.ref t) _ ((x0.trans x).trans (.new ht)) (dp_new ht (.cons (.str _) (.cons hd .nil))) rfl (fun u H' x hd => k u H' x (by rw [hRo]; unfold ansP; dsimp only; rw [hn]; dsimp only; rw [hF]; exact hd))
    · refine .inr ⟨⟨T, tyB_ext x0 hTy hmem, hne, hmem⟩, fun d H' x ed => ?_⟩
      refine ⟨false, E1.tl, (fun y => nomatch y), fun _ => ⟨true, E1.tt, fun _ a ha => ?_, fun y => nomatch y⟩⟩
      refine ⟨_, rfl, rfl, rfl, d, _, _, rfl, ed, rfl, (by show 2 ≤ sizeLine; decide), fun t ht => ?_⟩
      exact fin _ _ (.ref t) _ ((x0.trans x).trans (.new ht)) (dp_new ht (.cons (.str _) (.cons (.int _) .nil))) rfl k
end
end Wd

set_option Elab.async false
set_option linter.all false
set_option maxRecDepth 100000
set_option maxHeartbeats 4000000
namespace Wd
open PySem PySem.Spec PyProof.Rows L2 Bx Gx




















































section
variable {P : Program} {w : World} {K : PySem.W.Frag} {mg : Str → Option Value} {base : Heap}
/-! ### equal, kinds too -/
mutual
/-- data whose lists and tuples are not too long -/
def lgD : PyData → Bool
  | .list ds => decide (ds.length ≤ 100001) && lgDs ds
  | .tuple ds => decide (ds.length ≤ 100001) && lgDs ds
  | _ => true
def lgDs : List PyData → Bool
  | [] => true
  | d :: ds => lgD d && lgDs ds
end
theorem lgD_seq {d : PyData} {ds : List PyData} (h : d = .list ds ∨ d = .tuple ds) (hs : lgD d = true) : ds.length ≤ 100001 ∧ lgDs ds = true := by
  rcases h with rfl | rfl <;> simpa [lgD] using hs
theorem lgDs_get : ∀ {ds : List PyData}, lgDs ds = true → ∀ d ∈ ds, lgD d = true
  | [], _, d, hd => by cases hd
  | e :: ds, h, d, hd => by
    simp only [lgDs, Bool.and_eq_true] at h
    rcases List.mem_cons.mp hd with z | z
    · rw [z]; exact h.1
    · exact lgDs_get h.2 d z
theorem lgDs_of {α : Type} (f : α → PyData) (xs : List α) (h : ∀ x ∈ xs, lgD (f x) = true) : lgDs (xs.map f) = true := by
  induction xs with
  | nil => rfl
  | cons x xs ih => rw [List.map_cons, lgDs, h x List.mem_cons_self, ih fun y hy => h y (List.mem_cons_of_mem _ hy)]; rfl
def spSameT (K : PySem.W.Frag) (r : Nat) : Sp := fun vs H Q _ => ∃ (v u : V) (d : PyData), vs = [v, u] ∧ Dp K H v d ∧ Dp K H u d ∧ d.canLay0 = true ∧ lgD d = true ∧ d.depth < r ∧ ∀ H', Ext H H' → Q (.bl true) H'
theorem sc_sameT : FnScope ["found", "due", "k"] ["found", "due"] (defScope st__law_same) := ⟨rfl, rfl, rfl, by decide +kernel, rfl, by decide +kernel, by decide +kernel⟩
theorem ok_sameT {f : Addr} {fd : FuncData} (F : Fun K "_law_same" "_law_same" st__law_same f fd) (B : Bl mg) (hm : mg "_law_same" = some (.ref f)) (hb : Binds K fd ["found", "due"] []) :
    ∀ r : Nat, FnOk P w K mg base CX0 (1 + r) f fd ["found", "due"] (spSameT K r)
  | 0 => by
    refine F.ok (k := 0) sc_sameT (fun vs H Q E h => ?_) (fun cdv A outer s H vs Q E hr h => ?_)
    · obtain ⟨v, u, d, rfl, _⟩ := h
      rfl
    · obtain ⟨v, u, d, rfl, _, _, _, _, h0, _⟩ := h
      omega
  | r + 1 => by
    have c2 : Cal P w K mg base (1 + r) "_law_same" ["found", "due"] (spSameT K r) := ⟨f, fd, ok_sameT F B hm hb r, hm, F.kp, hb⟩
    refine F.ok (k := 1 + r) sc_sameT (fun vs H Q E h => ?_) (fun cdv A outer s H vs Q E hr h => ?_)
    · obtain ⟨v, u, d, rfl, _⟩ := h
      rfl
    · obtain ⟨v, u, d, rfl, hv, hu, hlay, hsm, hdep, k⟩ := h
      have nd := sc_sameT.nd
      refine ⟨_, pss_cons (ps_if (pt_cmpR op_isN (pv 1) pe_non (nomark _)) (pss_one (ps_ret (pe_cmpR op_isN (pv 0) pe_non (nomark _)))) pss_nil)
        (pss_cons (ps_if (pt_cmpR op_isBA (pv 1) pe_bl (nomark _)) (pss_one (ps_ret (pe_cmpR op_isBA (pv 0) pe_bl (nomark _)))) pss_nil)
        (pss_cons (ps_if (pt_cmpR op_isBA (pv 1) pe_bl (nomark _)) (pss_one (ps_ret (pe_cmpR op_isBA (pv 0) pe_bl (nomark _)))) pss_nil)
        (pss_cons (ps_if (pt_val (pe_callB call_isi (by rfl) B.isinstance (by decide +kernel) (pa_cons (pv 1) (pa_cons (pe_bltn rfl B.int (by decide +kernel) (v := .ty "int") rfl) pa_nil))) (by intro _; rfl)) (pss_one (ps_ret (pe_and (pe_callB call_isi (by rfl) B.isinstance (by decide +kernel) (pa_cons (pv 0) (pa_cons (pe_bltn rfl B.int (by decide +kernel) (v := .ty "int") rfl) pa_nil))) (pe_and (pe_not (pe_callB call_isi (by rfl) B.isinstance (by decide +kernel) (pa_cons (pv 0) (pa_cons (pe_bltn rfl B.bool (by decide +kernel) (v := .ty "bool") rfl) pa_nil)))) (pe_one (pe_cmpR op_eq (pv 0) (pv 1) (nomark _))))))) pss_nil)
        (pss_cons (ps_if (pt_val (pe_callB call_isi (by rfl) B.isinstance (by decide +kernel) (pa_cons (pv 1) (pa_cons (pe_bltn rfl B.str (by decide +kernel) (v := .ty "str") rfl) pa_nil))) (by intro _; rfl)) (pss_one (ps_ret (pe_and (pe_callB call_isi (by rfl) B.isinstance (by decide +kernel) (pa_cons (pv 0) (pa_cons (pe_bltn rfl B.str (by decide +kernel) (v := .ty "str") rfl) pa_nil))) (pe_one (pe_cmpR op_eq (pv 0) (pv 1) (nomark _)))))) pss_nil)
        (pss_cons (ps_if (PW.pt (pw_or (pt_cmpR op_ne (pe_callB call_isi (by rfl) B.isinstance (by decide +kernel) (pa_cons (pv 1) (pa_cons (pe_bltn rfl B.tuple (by decide +kernel) (v := .ty "tuple") rfl) pa_nil))) (pe_callB call_isi (by rfl) B.isinstance (by decide +kernel) (pa_cons (pv 0) (pa_cons (pe_bltn rfl B.tuple (by decide +kernel) (v := .ty "tuple") rfl) pa_nil))) (nomark _)) (pw_or1 (pt_cmpR op_ne (pe_callB call_isi (by rfl) B.isinstance (by decide +kernel) (pa_cons (pv 1) (pa_cons (pe_bltn rfl B.list (by decide +kernel) (v := .ty "list") rfl) pa_nil))) (pe_callB call_isi (by rfl) B.isinstance (by decide +kernel) (pa_cons (pv 0) (pa_cons (pe_bltn rfl B.list (by decide +kernel) (v := .ty "list") rfl) pa_nil))) (nomark _))))) (pss_one (ps_ret pe_bl)) pss_nil)
        (pss_one (ps_ret (pe_and (pe_cmpR op_eq (pe_callB call_len (by rfl) B.len PySem.boot_len (pa_cons (pv 0) pa_nil)) (pe_callB call_len (by rfl) B.len PySem.boot_len (pa_cons (pv 1) pa_nil)) (nomark _)) (pe_one (pe_callB (cr_all rfl) (by rfl) B.all (by decide +kernel) (pa_cons (pe_lc (own := [("k", 2)]) (g := gName 2) (by rfl) nd (pi_range1 rfl B.range (pa_cons (pe_callB call_len (by rfl) B.len PySem.boot_len (pa_cons (pv 1) pa_nil)) pa_nil)) (blkOk_by (own := [("k", 2)]) (N := ["found", "due", "k"]) (sc := defScope st__law_same) (by decide +kernel)) (fun _ _ _ _ _ => pg_name (i := 2) nd rfl (Or.inl rfl)) (fun _ _ _ _ _ => pts_nil) (fun _ _ _ _ _ => pe_cal c2 hr rfl (pa_cons (pe_ix (ix_seqK (K := K) rfl) (pv 0) (pv 2) (fun _ _ => rfl)) (pa_cons (pe_ix (ix_seqK (K := K) rfl) (pv 1) (pv 2) (fun _ _ => rfl)) pa_nil)))) pa_nil))))))))))), ?_⟩
      obtain ⟨tv, hin⟩ := tyX_dp hv
      obtain ⟨tu, _⟩ := tyX_dp hu
      have kk := fun U hU => kit_in (K := K) (tyName d) U hin hU
      by_cases hs : tyName d = "tuple" ∨ tyName d = "list"
      · have nI : ¬ (tyName d = "int" ∨ tyName d = "bool" ∧ "int" = "int") := by rcases hs with e | e <;> rw [e] <;> decide
        have nS : ¬ (tyName d = "str" ∨ tyName d = "bool" ∧ "str" = "int") := by rcases hs with e | e <;> rw [e] <;> decide
        obtain ⟨av, xs, ds, rfl, sv, av2, hdd, hcl, hor⟩ := dp_seq hv hs
        obtain ⟨au, ys, ds', rfl, su, au2, _, _, hor'⟩ := dp_seq hu hs
        have eds : ds' = ds := seq_eq hor hor'
        subst eds
        have l1 := dpAll_len av2
        have l2 := dpAll_len au2
        have lenv : ∀ {H : Hp} {a : Addr} {xs : List V}, (SqL K H a xs ∨ SqT K H a xs) → LenV K (.ref a) H xs.length := fun h => by
          rcases h with h | h
          · exact .inl ⟨_, h, rfl⟩
          · exact .inr ⟨_, h, rfl⟩
        refine ⟨_, rfl, rfl, _, rfl, ?_⟩
        rw [decide_eq_false (fun y => nomatch y : ¬ V.ref au = V.non)]
        refine iteF ⟨_, rfl, true, rfl, _, rfl, ?_⟩
        rw [decide_eq_false (fun y => nomatch y : ¬ V.ref au = V.bl true)]
        refine iteF ⟨_, rfl, false, rfl, _, rfl, ?_⟩
        rw [decide_eq_false (fun y => nomatch y : ¬ V.ref au = V.bl false)]
        refine iteF ⟨_, rfl, .ref au, _, _, _, _, rfl, .ty "int", tu, kk "int" (by simp), _, rfl, ?_⟩
        rw [decide_eq_false nI]
        refine iteF ⟨_, rfl, .ref au, _, _, _, _, rfl, .ty "str", tu, kk "str" (by simp), _, rfl, ?_⟩
        rw [decide_eq_false nS]
        refine iteF ⟨_, rfl, .ref au, _, _, _, _, rfl, .ty "tuple", tu, kk "tuple" (by simp), _, rfl, .ref av, _, _, _, _, rfl, .ty "tuple", tv, kk "tuple" (by simp), rfl, _, rfl, ?_⟩
        rw [decide_eq_true rfl]
        refine iteF ⟨_, rfl, .ref au, _, _, _, _, rfl, .ty "list", tu, kk "list" (by simp), _, rfl, .ref av, _, _, _, _, rfl, .ty "list", tv, kk "list" (by simp), rfl, _, rfl, ?_⟩
        rw [decide_eq_true rfl]
        refine iteF ?_
        refine ⟨_, rfl, _, xs.length, rfl, lenv sv, _, rfl, _, ys.length, rfl, lenv su, rfl, _, rfl, ?_⟩
        obtain ⟨hl5, hsm2⟩ := lgD_seq hor' hsm
        have elen : decide (V.int (xs.length : Int) = V.int (ys.length : Int)) = true := decide_eq_true (by rw [l1, l2])
        rw [elen]
        refine iteT ⟨_, rfl, _, ys.length, rfl, lenv su, _, rfl, by omega, by omega, fun D hD => ?_⟩
        have nlst : ∀ {H H' : Hp} {a : Addr} {xs : List V}, Ext H H' → (SqL K H a xs ∨ SqT K H a xs) → (SqL K H' a xs ∨ SqT K H' a xs) := fun x h => h.elim (fun z => .inl (x.sqL z)) fun z => .inr (x.sqT z)
        refine lc_range (lo := 0) (n := (ys.length : Int).toNat) (fun i H4 => H4 D = some (.lst ((List.replicate i true).map V.bl)) ∧ Ext H H4) ⟨upd_same, .new hD⟩ (fun i H4 hi ⟨e4, x4⟩ => ?_) fun H4 ⟨e4, x4⟩ => ?_
        · rw [Int.toNat_natCast] at hi
          have hx := List.getElem?_eq_getElem (show i < xs.length by omega)
          have hy := List.getElem?_eq_getElem hi
          obtain ⟨d1, hd1, hp1⟩ := dpAll_get' av2 hx
          obtain ⟨d2, hd2, hp2⟩ := dpAll_get' au2 hy
          have ed : d2 = d1 := by
            rw [hd1] at hd2
            exact (Option.some.inj hd2).symm
          subst ed
          have hmem := List.mem_of_getElem? hd1
          have hcn : d2.canLay0 = true := canLay_get (hcl hlay) d2 hmem
          have hdn : d2.depth < r := by
            have := depth_get (Nat.le_refl _) d2 hmem
            omega
          have e0 : (0 : Int) + (i : Int) = (i : Int) := Int.zero_add _
          refine ⟨rfl, ?_⟩
          rw [e0]
          dsimp only [tYes]
          rw [if_pos rfl]
          refine ⟨_, rfl, _, rfl, rix_of (nlst x4 sv) hx ⟨_, rfl, _, rfl, rix_of (nlst x4 su) hy ⟨_, _, d2, rfl, dp_ext x4 hp1, dp_ext x4 hp2, hcn, lgDs_get hsm2 d2 hmem, hdn, fun H5 x5 => ?_⟩⟩⟩
          refine ⟨_, x5.lst e4, ?_, ?_, (x4.trans x5).write hD⟩
          · rw [List.length_map, List.length_replicate]
            have h2 : 200000 ≤ sizeLine := by decide
            omega
          · rw [upd_same, List.replicate_succ', List.map_append]
            rfl
        · rw [Int.toNat_natCast] at e4
          refine ⟨D, List.replicate ys.length true, rfl, SqL.of e4, ?_⟩
          have et : ((List.replicate ys.length true).all id) = true := by
            rw [List.all_eq_true]
            intro b hb
            rw [List.eq_of_mem_replicate hb]
            rfl
          rw [et]
          exact k H4 (x4)
      · cases hv with
        | lst h1 h2 => exact absurd (.inr rfl) hs
        | tup h1 h2 => exact absurd (.inl rfl) hs
        | non =>
          cases hu
          refine ⟨_, rfl, rfl, _, rfl, ?_⟩
          rw [decide_eq_true (rfl : V.non = V.non)]
          refine iteT ⟨_, rfl, rfl, ?_⟩
          rw [decide_eq_true (rfl : V.non = V.non)]
          exact k H (.refl _)
        | bl b =>
          cases hu
          refine ⟨_, rfl, rfl, _, rfl, ?_⟩
          rw [decide_eq_false (fun y => nomatch y : ¬ V.bl b = V.non)]
          refine iteF ⟨_, rfl, true, rfl, _, rfl, ?_⟩
          cases b with
          | true =>
            rw [decide_eq_true (rfl : V.bl true = V.bl true)]
            refine iteT ⟨_, rfl, true, rfl, ?_⟩
            rw [decide_eq_true (rfl : V.bl true = V.bl true)]
            exact k H (.refl _)
          | false =>
            rw [decide_eq_false (fun y => nomatch y : ¬ V.bl false = V.bl true)]
            refine iteF ⟨_, rfl, false, rfl, _, rfl, ?_⟩
            rw [decide_eq_true (rfl : V.bl false = V.bl false)]
            refine iteT ⟨_, rfl, false, rfl, ?_⟩
            rw [decide_eq_true (rfl : V.bl false = V.bl false)]
            exact k H (.refl _)
        | int i =>
          cases hu
          refine ⟨_, rfl, rfl, _, rfl, ?_⟩
          rw [decide_eq_false (fun y => nomatch y : ¬ V.int i = V.non)]
          refine iteF ⟨_, rfl, true, rfl, _, rfl, ?_⟩
          rw [decide_eq_false (fun y => nomatch y : ¬ V.int i = V.bl true)]
          refine iteF ⟨_, rfl, false, rfl, _, rfl, ?_⟩
          rw [decide_eq_false (fun y => nomatch y : ¬ V.int i = V.bl false)]
          refine iteF ⟨_, rfl, .int i, _, _, _, _, rfl, .ty "int", tu, kk "int" (by simp), _, rfl, ?_⟩
          rw [decide_eq_true (.inl rfl)]
          refine iteT ⟨_, rfl, .int i, _, _, _, _, rfl, .ty "int", tv, kk "int" (by simp), ?_⟩
          rw [decide_eq_true (.inl rfl)]
          have nB : ¬ (tyName (.int i) = "bool" ∨ tyName (.int i) = "bool" ∧ "bool" = "int") := by simp [tyName]
          refine ⟨_, rfl, iteT ⟨_, rfl, .int i, _, _, _, _, rfl, .ty "bool", tv, kk "bool" (by simp), ?_⟩⟩
          rw [decide_eq_false nB]
          refine ⟨_, rfl, _, rfl, iteT ⟨_, rfl, _, rfl, rfl, ?_⟩⟩
          rw [decide_eq_true (rfl : V.int i = V.int i)]
          exact k H (.refl _)
        | str z =>
          cases hu
          refine ⟨_, rfl, rfl, _, rfl, ?_⟩
          rw [decide_eq_false (fun y => nomatch y : ¬ V.str z = V.non)]
          refine iteF ⟨_, rfl, true, rfl, _, rfl, ?_⟩
          rw [decide_eq_false (fun y => nomatch y : ¬ V.str z = V.bl true)]
          refine iteF ⟨_, rfl, false, rfl, _, rfl, ?_⟩
          rw [decide_eq_false (fun y => nomatch y : ¬ V.str z = V.bl false)]
          have nI : ¬ (tyName (.str z) = "int" ∨ tyName (.str z) = "bool" ∧ "int" = "int") := by simp [tyName]
          refine iteF ⟨_, rfl, .str z, _, _, _, _, rfl, .ty "int", tu, kk "int" (by simp), _, rfl, ?_⟩
          rw [decide_eq_false nI]
          refine iteF ⟨_, rfl, .str z, _, _, _, _, rfl, .ty "str", tu, kk "str" (by simp), _, rfl, ?_⟩
          rw [decide_eq_true (.inl rfl)]
          refine iteT ⟨_, rfl, .str z, _, _, _, _, rfl, .ty "str", tv, kk "str" (by simp), ?_⟩
          refine ⟨_, rfl, iteT ⟨_, rfl, _, rfl, rfl, ?_⟩⟩
          rw [decide_eq_true (rfl : V.str z = V.str z)]
          exact k H (.refl _)
end
end Wd

set_option Elab.async false
set_option linter.all false
set_option maxRecDepth 100000
set_option maxHeartbeats 4000000
/-! Gj: sep.join(a generator expression). -/
namespace Gx
open PySem PySem.Spec PyProof.Rows L2 GenW
section
variable {X : Cx} {scope : Scope} {N : List Str} {src : List (Option Nat)} {c P : Addr}
variable {o elt tg iter : Expr} {ifs : List Expr} {apos cpos gpos : Pos} {wi : TI} {g : TG} {tt : TT} {te to : TE} {vs : List Nat} {k : Nat}
abbrev tGJoin (P : Addr) (to : TE) (wi : TI) (g : TG) (tt : TT) (te : TE) (vs : List Nat) (src : List (Option Nat)) : TE := fun σ H Q => to σ H fun v H1 => ∃ sep : Str, v = .str sep ∧
  tGen P wi g tt te vs src (fun _ => pTup) (fun Q ys H => ∃ zs : List Str, ys = zs.map V.str ∧ (zs.map (·.length)).sum + zs.length * sep.length ≤ 16777216 ∧ Q (.str (Txt.join sep zs)) H) σ H1 Q
theorem pe_gjoin (G : GParts X k scope N tg ifs elt g tt te) (hr : Room (k + 3) X.A) (ho : PE X o to) (TB : TabB X.base X.mg c P) (hcode : X.env.code = .ref c) (ok : GOk X.N X.env.scope scope N src) (hi : PI X tg iter wi)
    (hs : ∀ v, genFold iter X.env v = pure v := by intro _; rfl) (hbase : attributeBase o "join" X.env (eval o X.env) = eval o X.env := by rfl)
    (hfew : ((backTo cpos (starEach [.GeneratorExp elt [⟨tg, iter, ifs, 0⟩] scope gpos] X.env)).all (fun x => !x.1) && (backToKw cpos (keywordEach [] X.env)).all (fun x => x.1.isSome)
      && decide (([.GeneratorExp elt [⟨tg, iter, ifs, 0⟩] scope gpos] : List Expr).length + ([] : List Keyword).length + (if ([] : List Keyword).isEmpty then 0 else 1) < 30)) = true := by rfl)
    (hline : (apos.endLine == cpos.line) = true := by rfl)
    (he : starEach [.GeneratorExp elt [⟨tg, iter, ifs, 0⟩] scope gpos] X.env = (false, eval (.GeneratorExp elt [⟨tg, iter, ifs, 0⟩] scope gpos) X.env) :: starEach [] X.env := by rfl)
    (hplain : (backTo cpos (starEach [] X.env)).any (·.1) = false := by rfl) :
    PE X (.Call (.Attribute o "join" apos) [.GeneratorExp elt [⟨tg, iter, ifs, 0⟩] scope gpos] [] cpos) (tGJoin P to wi g tt te vs src) := by
  refine ⟨fun pins s σ H Q I h => ?_⟩
  refine wpAny_Call_method_late hbase hfew hline rfl (thn (ho.run pins s σ H _ I h) fun v s1 ⟨x', H1, I1, r1, sep, ex, q1⟩ => ?_)
  subst ex
  obtain ⟨tk, rfl⟩ := (show ∃ t, v = Value.str sep t from r1)
  refine ⟨"str", _, PySem.F.plainAttrs_str, PySem.F.slot_str_join, PySem.F.type_str_join, typeIs_str _ _ _, (fun _ e => nomatch e), ?_⟩
  rw [he]
  refine Calls.callWith_builtin (by show (false || (backTo cpos (starEach [] X.env)).any (·.1)) = false; rw [hplain] <;> rfl) (Calls.evalArgs_plain ?_)
  show wpAny _ _ (spliced ((false, eval (.GeneratorExp elt [⟨tg, iter, ifs, 0⟩] scope gpos) X.env) :: backTo cpos (starEach [] X.env))) _ _ s1
  refine Calls.spliced_cons (gen_make (gpos := gpos) (elt := elt) (ifs := ifs) hr TB hcode ok hi hs I1 q1 fun it fp tn J H1 H2 s4 code a go gi s5 q hT I4 T st hfp M => ?_)
  obtain ⟨W, ⟨m, w0⟩, turn⟩ := q H2 hT
  refine Calls.spliced_nil ?_
  refine wpAny_call (codeAny_call_builtin F.slot_str_join.plain F.entry_str_join (F.slot_str_join.check _ _ _ _ _ _ _ _ (typeIs_str _ _ _) (F.args_str_join_2 _ _) ?_))
  show wpAny _ X.A.in1 (Builtin.«str.join» ⟨[.str sep tk, .ref a], []⟩) _ _ s5
  rw [join_tree_other]
  have hTI : s5.TypeIs (.ref a) "generator" := Heap.IsGen.typeIs (s := s5) (M.gen _ M.obj)
  refine wpAny_bind (wpAny_typeOf hTI ?_)
  show wpAny _ X.A.in1 ((pyIter (.ref a)).tryCatch _ >>= fun it => collect it >>= fun items => joinTail sep items) _ _ s5
  refine wpAny_bind (wpAny_tryCatch (wpAny_pyIter_gen (M.gen _ M.obj) ?_))
  refine wpAny_bind (collect_gx (B := X.A.in1) G M ok I4 T st hfp (show X.A.in1.frames = some X.stack from I4.ok.frames) hr.in1 turn w0 fun s' ys H acc b q hv hle => ?_)
  obtain ⟨zs, rfl, hz, q⟩ := q
  obtain ⟨l, hl, ht⟩ := strsAre_values (strs_of_vals hv)
  subst ht
  have hok := joinOk_of hz
  unfold JoinOk at hok
  rw [Bool.not_eq_true'] at hok
  have g : Gives (joinTail sep (strValues l)) (joinMade sep l) := by
    have g0 := gives_joinTail sep l hok
    cases l with
    | nil => exact g0
    | cons p r => cases r with
      | nil => exact g0
      | cons q r' => exact g0
  rw [hl]
  have I5 := b.inv I4 fun b hb => (hfp b hb).1
  refine g X.prog X.w X.A (wants _ X.xe) s' (post_join l ⟨joinFit_length hok, fun t' k' => ?_⟩)
  exact ⟨.str _, H, I5.tok k', ⟨t', rfl⟩, q⟩
end
end Gx

set_option Elab.async false
set_option linter.all false
set_option maxRecDepth 100000
set_option maxHeartbeats 4000000
/-! Jt: not in a tuple of data; the texts of numbers. -/
namespace Bx
open PySem PySem.Spec PyProof.Rows L2
section
variable {X : Cx}
theorem op_notInDT (hu : X.A.units + 65 < cLine) : OpR X (compareOp .NotIn) (rInDT X.K true) := by
  intro pins s σ H x y v u Q I rx ry h
  obtain ⟨d, ds, hd, he, sd, se, q⟩ := h
  obtain ⟨as, r1⟩ := Dp.reads I d x v hd rx
  obtain ⟨bs, r2⟩ := Dp.reads I (.tuple ds) y u he ry
  refine SeqAt.notIn_tuple_reads r2 r1 (SeqAt.canLay_of_shaped se) (SeqAt.canLay_of_shaped sd) (PyProof.Rows.room_in_shaped sd hu) ⟨.bl (!ds.any fun y => y.eqv d), H, I, rfl, ?_⟩
  rw [Bool.true_xor] at q
  exact q
theorem op_notInDTK {K : PySem.W.Frag} (h : X.K = K) (hu : X.A.units + 65 < cLine) : OpR X (compareOp .NotIn) (rInDT K true) := h ▸ op_notInDT hu
end
open Gx GenW in
/-- tuple(..) over a source, whatever comes behind -/
theorem g_tupF {J : It} {n : Nat} {it : Nat → V} {te : TE} {vs : List Nat} {σg : L2.St} {H : Hp} {o : Nat} {Fin : List V → Hp → Prop} {Pw : Nat → List V → Hp → Prop} (S : ∀ i ys, Src J n it (Pw i ys)) (hn : n ≤ sizeLine) (hw : ∀ x, wipe (σg.set o (some x)) vs = σg) (h0 : Pw 0 [] H)
    (len : ∀ i ys H, Pw i ys H → ys.length ≤ i)
    (elt : ∀ i ys H (C : V → Hp → Prop), Pw i ys H → i < n → (∀ v H4, Pw (i + 1) (ys ++ [v]) H4 → C v H4) → te (σg.set o (some (it i))) H C)
    (fin : ∀ ys H, Pw n ys H → Fin ys H) :
    ∃ W : Nat → Nat → List V → Hp → Prop, (∃ m, W 0 m [] H) ∧ GTurn J (gName o) tYes te vs σg pTup Fin W := by
  refine ⟨fun i m ys H => Pw i ys H ∧ i ≤ n ∧ m = n - i, ⟨n, h0, Nat.zero_le _, by omega⟩, fun i m ys H ⟨hp, hi, hm⟩ => ?_⟩
  by_cases e : i = n
  · subst e
    exact .inl ⟨(S i ys).stop H hp, fin ys H hp⟩
  · have hlt : i < n := by omega
    refine .inr ⟨(S i ys).go i H hp hlt, fun x H' y => ?_⟩
    obtain ⟨rfl, rfl⟩ := (S i ys).yld i H x H' hp hlt y
    refine ⟨hw _, ?_⟩
    dsimp only [tYes]
    rw [if_pos rfl]
    exact elt i ys H' _ hp hlt fun v H4 h4 => ⟨by have := len i ys H' hp; omega, n - (i + 1), by omega, h4, hlt, rfl⟩
/-- the text of a whole number -/
def nTx (i : Int) : Str := Str.ofString (toString i)
theorem nTx_len {i : Int} {k : Nat} (hk : 0 < k) (h : i.natAbs < 10 ^ k) : (nTx i).length ≤ k + 1 := by
  have := int_text_length_le10 hk h
  rwa [nTx, PySem.ofString_length]
theorem strOk_num (i : Int) : PyData.strOk (nTx i) = true := by
  unfold PyData.strOk nTx
  rw [Str.ofString_eq_toList, Array.all_eq_true']
  intro x hx
  have hx : x ∈ (toString i).toList.map Char.toNat := by simpa using hx
  obtain ⟨c, _, rfl⟩ := List.mem_map.mp hx
  rw [decide_eq_true_eq]
  have := c.valid
  rcases this with z | z
  · have z : c.toNat < 55296 := z
    omega
  · have z : c.toNat < 1114112 := z.2
    omega
theorem strOk_append {x y : Str} (hx : PyData.strOk x = true) (hy : PyData.strOk y = true) : PyData.strOk (x ++ y) = true := by
  unfold PyData.strOk at *
  rw [Array.all_eq_true'] at *
  intro c hc
  have hc : c ∈ (x ++ y).cps.toList := by simpa using hc
  have e : (x ++ y).cps.toList = x.cps.toList ++ y.cps.toList := TL.tl_append x y
  rw [e] at hc
  rcases List.mem_append.mp hc with z | z
  · exact hx c (by simpa using z)
  · exact hy c (by simpa using z)
end Bx
namespace Bx
open PySem PySem.Spec PyProof.Rows L2
theorem pe_joinK {X : Cx} {K : PySem.W.Frag} {o e : Expr} {to te : TE} {apos pos : Pos} (h : X.K = K) (ho : PE X o to) (he : PE X e te) (hs : starEach [e] X.env = [(false, eval e X.env)] := by rfl) (hbase : attributeBase o "join" X.env (eval o X.env) = eval o X.env := by rfl) (hline : (apos.endLine == pos.line) = true := by rfl) :
    PE X (.Call (.Attribute o "join" apos) [e] [] pos) (tM1 (fun x xs H Q => ∃ a p, ∃ ys : List Str, x = .str a ∧ xs = [.ref p] ∧ (SqL K H p (ys.map V.str) ∨ SqT K H p (ys.map V.str)) ∧
      (ys.map (·.length)).sum + ys.length * a.length ≤ 16777216 ∧ Q (.str (Txt.join a ys)) H) to te) := h ▸ pe_join ho he hs hbase hline
theorem strOk_list {l : List Nat} (h : ∀ x ∈ l, x < 1114112) : PyData.strOk ⟨l.toArray⟩ = true := by
  unfold PyData.strOk
  rw [Array.all_eq_true']
  intro x hx
  rw [decide_eq_true_eq]
  exact h x (by simpa using hx)
theorem strOk_mem {s : Str} (h : PyData.strOk s = true) {x : Nat} (hx : x ∈ s.cps.toList) : x < 1114112 := by
  unfold PyData.strOk at h
  rw [Array.all_eq_true'] at h
  exact of_decide_eq_true (h x (by simpa using hx))
end Bx

set_option Elab.async false
set_option linter.all false
set_option maxRecDepth 100000
set_option maxHeartbeats 4000000
namespace Wd
open PySem PySem.Spec PyProof.Rows L2 Bx Gx




















































section
variable {P : Program} {w : World} {K : PySem.W.Frag} {mg : Str → Option Value} {base : Heap}
/-! ### some text, bounded -/
open TL
theorem cut_le (z : Str) (lo hi : Option Int) : (L2.cutS z lo hi).length ≤ z.length := by
  rw [str_len, str_len]
  unfold L2.cutS
  rw [tl_mk, List.length_take]
  refine Nat.le_trans (Nat.min_le_right _ _) ?_
  rw [List.length_drop]
  exact Nat.sub_le _ _
theorem cut_two (z : Str) (n m : Nat) (h : n ≤ m) : (L2.cutS z none (some (n : Int))).length + (L2.cutS z (some (m : Int)) none).length ≤ z.length := by
  have e1 : HT.sIx z.length z.length (some (n : Int)) = min n z.length := by
    show (if (n : Int) < 0 then ((n : Int) + (z.length : Int)).toNat else min (n : Int).toNat z.length) = _
    rw [if_neg (by omega), Int.toNat_natCast]
  have e2 : HT.sIx z.length 0 (some (m : Int)) = min m z.length := by
    show (if (m : Int) < 0 then ((m : Int) + (z.length : Int)).toNat else min (m : Int).toNat z.length) = _
    rw [if_neg (by omega), Int.toNat_natCast]
  have l1 : (L2.cutS z none (some (n : Int))).length ≤ min n z.length := by
    rw [str_len]
    unfold L2.cutS
    rw [tl_mk, List.length_take, e1]
    omega
  have l2 : (L2.cutS z (some (m : Int)) none).length ≤ z.length - min m z.length := by
    rw [str_len]
    unfold L2.cutS
    rw [tl_mk, List.length_take, e2]
    exact Nat.le_trans (Nat.min_le_left _ _) (by show z.length - _ ≤ _; omega)
  omega
theorem len_app (x y : Str) : (x ++ y).length = x.length + y.length := by rw [str_len, tl_append, List.length_append, ← str_len, ← str_len]
def spSpoilt (K : PySem.W.Frag) : Sp := fun vs H Q _ => ∃ (jar : Addr) (z sg : Str), vs = [.ref jar, .str z, .str sg] ∧ JarAt H jar ∧ z.length ≤ 1000 ∧ 0 < sg.length ∧ sg.length ≤ 1000 ∧
  ∀ (z' : Str) H', z'.length ≤ z.length + 3 → ExtS [jar] H H' → JarAt H' jar → Q (.str z') H'
abbrev spoN : List Str := ["jar", "text", "signs", "turn", "kind", "at", "sign"]
theorem sc_spoilt : FnScope spoN ["jar", "text", "signs"] (defScope st__law_spoilt) := ⟨rfl, rfl, rfl, by decide +kernel, rfl, by decide +kernel, by decide +kernel⟩
theorem ok_spoilt {f : Addr} {fd : FuncData} (F : Fun K "_law_spoilt" "_law_spoilt" st__law_spoilt f fd) (B : Bl mg) (c1 : Cal P w K mg base 1 "_law_drawn" ["jar", "many"] (spDrawn K)) : FnOk P w K mg base CX0 2 f fd ["jar", "text", "signs"] (spSpoilt K) := by
  refine F.ok sc_spoilt (fun vs H Q E h => ?_) (fun cdv A outer s H vs Q E hr h => ?_)
  · obtain ⟨jar, z, sg, rfl, _⟩ := h
    rfl
  · obtain ⟨jar, z, sg, rfl, hj, hz, hs0, hs1, k⟩ := h
    have nd := sc_spoilt.nd
    refine ⟨_, pss_cons (ps_for PassesOwn.never rfl (pi_range1 rfl B.range (pa_cons (pe_op op_add pe_int (pe_cal c1 (hr.mono (by decide)) rfl (pa_cons (pv 0) (pa_cons pe_int pa_nil)))) pa_nil)) (pg_name (i := 3) nd rfl (Or.inl rfl))
        (pss_cons (ps_par3 (i := 4) (j := 5) (l := 6) (by rfl) nd rfl rfl rfl (by decide) (by decide) (by decide) rfl rfl rfl (pa_cons (pe_cal c1 (hr.mono (by decide)) rfl (pa_cons (pv 0) (pa_cons pe_int pa_nil))) (pa_cons (pe_cal c1 (hr.mono (by decide)) rfl (pa_cons (pv 0) (pa_cons (pe_op op_add (pe_callB call_len (by rfl) B.len PySem.boot_len (pa_cons (pv 1) pa_nil)) pe_int) pa_nil))) (pa_cons (pe_ix ix_str (pv 2) (pe_cal c1 (hr.mono (by decide)) rfl (pa_cons (pv 0) (pa_cons (pe_callB call_len (by rfl) B.len PySem.boot_len (pa_cons (pv 2) pa_nil)) pa_nil))) (fun _ _ => rfl)) pa_nil))) (by rfl))
        (pss_one (ps_if (PW.pt (pw_and (pt_cmpR op_eq (pv 4) pe_int (nomark _)) (pw_and1 (pt_cmpR op_eq (pv 3) pe_int (nomark _))))) (pss_one (ps_set (i := 1) nd rfl (Or.inl rfl) (pe_slice sl_str (pv 1) po_none (po_some (pv 5))))) (pss_one (ps_if (pt_cmpR op_lt (pv 4) pe_int (nomark _)) (pss_one (ps_set (i := 1) nd rfl (Or.inl rfl) (pe_op op_add_str (pe_op op_add_str (pe_slice sl_str (pv 1) po_none (po_some (pv 5))) (pv 6)) (pe_slice sl_str (pv 1) (po_some (pv 5)) po_none)))) (pss_one (ps_if (pt_cmpR op_eq (pv 4) pe_int (nomark _)) (pss_one (ps_set (i := 1) nd rfl (Or.inl rfl) (pe_op op_add_str (pe_slice sl_str (pv 1) po_none (po_some (pv 5))) (pe_slice sl_str (pv 1) (po_some (pe_op op_add (pv 5) pe_int)) po_none)))) (pss_one (ps_set (i := 1) nd rfl (Or.inl rfl) (pe_op op_add_str (pe_op op_add_str (pe_slice sl_str (pv 1) po_none (po_some (pv 5))) (pv 6)) (pe_slice sl_str (pv 1) (po_some (pe_op op_add (pv 5) pe_int)) po_none))))))))))))
      (pss_one (ps_ret (pv 1))), ?_⟩
    refine ⟨_, rfl, jar, 3, rfl, hj, by decide, by decide, fun n H1 hn x1 hj1 => ?_⟩
    have hsl : 100000 ≤ sizeLine := by decide
    refine ⟨_, _, rfl, rfl, _, rfl, by omega, by omega, for_range (lo := 0) (n := (1 + (n : Int)).toNat) (fun i σ H2 => ∃ (z' : Str) (o3 o4 o5 o6 : Option V), σ = [some (.ref jar), some (.str z'), some (.str sg), o3, o4, o5, o6] ∧ z'.length ≤ z.length + i ∧ ExtS [jar] H H2 ∧ JarAt H2 jar)
      ⟨z, none, none, none, none, rfl, by omega, x1, hj1⟩ (fun i σ H2 hi ⟨z', o3, o4, o5, o6, e, hz', x2, hj2⟩ => ?_) (fun σ H2 ⟨z', o3, o4, o5, o6, e, hz', x2, hj2⟩ => ?_)⟩
    · subst e
      have hi3 : i ≤ 2 := by omega
      have hzl : z'.length ≤ 4100 := by omega
      have hzs : z'.length ≤ sizeLine := by omega
      refine ⟨_, rfl, jar, 6, rfl, hj2, by decide, by decide, fun n4 H4 hn4 x4 hj4 => ?_⟩
      refine ⟨_, rfl, _, rfl, _, _, rfl, ⟨hzs, rfl⟩, _, _, rfl, rfl, jar, z'.length + 1, rfl, hj4, by omega, by omega, fun n5 H5 hn5 x5 hj5 => ?_⟩
      refine ⟨_, rfl, _, rfl, _, rfl, _, sg.length, rfl, ⟨by omega, rfl⟩, jar, sg.length, rfl, hj5, hs0, by omega, fun n6 H6 hn6 x6 hj6 => ?_⟩
      have hc : ∃ c, sg.cps.toList[n6]? = some c := ⟨_, List.getElem?_eq_getElem (by have := str_len sg; show n6 < (tl sg).length; omega)⟩
      obtain ⟨c, hc⟩ := hc
      refine ⟨sg, n6, c, rfl, rfl, by omega, atI_nat hc, ?_⟩
      refine ⟨_, _, _, rfl, ?_⟩
      dsimp only [List.set]
      have x26 := ((x2.trans x4).trans x5).trans x6
      have l1 : (⟨#[c]⟩ : Str).length = 1 := rfl
      have cl := fun lo hi => cut_le z' lo hi
      have fin : ∀ zz : Str, zz.length ≤ z.length + (i + 1) → ∃ (z' : Str) (o3' o4' o5' o6' : Option V), [some (V.ref jar), some (.str zz), some (.str sg), some (.int (0 + (i : Int))), some (.int (n4 : Int)), some (.int (n5 : Int)), some (.str ⟨#[c]⟩)] = [some (.ref jar), some (.str z'), some (.str sg), o3', o4', o5', o6'] ∧ z'.length ≤ z.length + (i + 1) ∧ ExtS [jar] H H6 ∧ JarAt H6 jar := fun zz h => ⟨zz, _, _, _, _, rfl, h, x26, hj6⟩
      have ins : ∀ a b : Str, a.length + b.length ≤ z'.length → (a ++ (⟨#[c]⟩ : Str) ++ b).length ≤ z.length + (i + 1) := fun a b hab => by
        rw [len_app, len_app, l1]
        omega
      have cut : ∀ a b : Str, a.length + b.length ≤ z'.length → (a ++ b).length ≤ z.length + (i + 1) := fun a b hab => by
        rw [len_app]
        omega
      have e1 : ∀ a : Str, a.length ≤ z'.length → a.length + (⟨#[c]⟩ : Str).length ≤ sizeLine := fun a ha => by rw [l1]; omega
      have e2 : ∀ a b : Str, a.length ≤ z'.length → b.length ≤ z'.length → (a ++ (⟨#[c]⟩ : Str)).length + b.length ≤ sizeLine := fun a b ha hb => by rw [len_app, l1]; omega
      have e3 : ∀ a b : Str, a.length ≤ z'.length → b.length ≤ z'.length → a.length + b.length ≤ sizeLine := fun a b ha hb => by omega
      refine ⟨_, rfl, rfl, _, rfl, ?_⟩
      cases decide (V.int (n4 : Int) = V.int 0) with
      | true =>
        refine iteT ⟨_, rfl, rfl, _, rfl, ?_⟩
        cases decide (V.int (0 + (i : Int)) = V.int 0) with
        | true => exact iteT ⟨_, rfl, _, rfl, _, rfl, z', rfl, hzs, fin _ (by have := cl none (some (n5 : Int)); omega)⟩
        | false =>
          refine iteF ?_
          refine ⟨_, rfl, _, _, rfl, rfl, _, rfl, ?_⟩
          cases decide ((n4 : Int) < 3) with
          | true => exact iteT ⟨_, rfl, _, rfl, _, rfl, z', rfl, hzs, _, rfl, _, _, rfl, rfl, e1 _ (cl _ _), _, rfl, _, rfl, _, rfl, z', rfl, hzs, _, _, rfl, rfl, e2 _ _ (cl _ _) (cl _ _), fin _ (ins _ _ (cut_two z' n5 n5 (Nat.le_refl _)))⟩
          | false =>
            refine iteF ⟨_, rfl, rfl, _, rfl, ?_⟩
            cases decide (V.int (n4 : Int) = V.int 3) with
            | true => exact iteT ⟨_, rfl, _, rfl, _, rfl, z', rfl, hzs, _, rfl, _, rfl, _, _, rfl, rfl, _, rfl, z', rfl, hzs, _, _, rfl, rfl, e3 _ _ (cl _ _) (cl _ _), fin _ (cut _ _ (cut_two z' n5 (n5 + 1) (Nat.le_succ _)))⟩
            | false => exact iteF ⟨_, rfl, _, rfl, _, rfl, z', rfl, hzs, _, rfl, _, _, rfl, rfl, e1 _ (cl _ _), _, rfl, _, rfl, _, _, rfl, rfl, _, rfl, z', rfl, hzs, _, _, rfl, rfl, e2 _ _ (cl _ _) (cl _ _), fin _ (ins _ _ (cut_two z' n5 (n5 + 1) (Nat.le_succ _)))⟩
      | false =>
        refine iteF (iteF ?_)
        refine ⟨_, rfl, _, _, rfl, rfl, _, rfl, ?_⟩
        cases decide ((n4 : Int) < 3) with
        | true => exact iteT ⟨_, rfl, _, rfl, _, rfl, z', rfl, hzs, _, rfl, _, _, rfl, rfl, e1 _ (cl _ _), _, rfl, _, rfl, _, rfl, z', rfl, hzs, _, _, rfl, rfl, e2 _ _ (cl _ _) (cl _ _), fin _ (ins _ _ (cut_two z' n5 n5 (Nat.le_refl _)))⟩
        | false =>
          refine iteF ⟨_, rfl, rfl, _, rfl, ?_⟩
          cases decide (V.int (n4 : Int) = V.int 3) with
          | true => exact iteT ⟨_, rfl, _, rfl, _, rfl, z', rfl, hzs, _, rfl, _, rfl, _, _, rfl, rfl, _, rfl, z', rfl, hzs, _, _, rfl, rfl, e3 _ _ (cl _ _) (cl _ _), fin _ (cut _ _ (cut_two z' n5 (n5 + 1) (Nat.le_succ _)))⟩
          | false => exact iteF ⟨_, rfl, _, rfl, _, rfl, z', rfl, hzs, _, rfl, _, _, rfl, rfl, e1 _ (cl _ _), _, rfl, _, rfl, _, _, rfl, rfl, _, rfl, z', rfl, hzs, _, _, rfl, rfl, e2 _ _ (cl _ _) (cl _ _), fin _ (ins _ _ (cut_two z' n5 (n5 + 1) (Nat.le_succ _)))⟩
    · subst e
      refine ⟨_, rfl, k z' H2 ?_ x2 hj2⟩
      omega
end
end Wd

set_option Elab.async false
set_option linter.all false
set_option maxRecDepth 100000
set_option maxHeartbeats 4000000
/-! Rl: xs[:0:-1] of a list. -/
namespace Bx
open PySem PySem.Spec PyProof.Rows L2
theorem back_from (m : Nat) : (List.range m).map (fun k => m - k) = ((List.range m).map (1 + ·)).reverse := by
  rw [← List.map_reverse, ← PySem.W.krv_range m, List.map_map]
  apply List.map_congr_left
  intro k hk
  have := List.mem_range.mp hk
  show m - k = 1 + (m - 1 - k)
  omega
theorem range_back0 (n : Nat) : sliceRange ((n : Int) - 1) (max (-1) (min 0 ((n : Int) - 1))) (-1) = (List.range (n - 1)).map fun k => n - 1 - k := by
  unfold sliceRange
  have h1 : ¬ ((-1 : Int) > 0) := by decide
  by_cases h : n ≤ 1
  · have e : ¬ ((n : Int) - 1 > max (-1) (min 0 ((n : Int) - 1))) := by omega
    have e0 : n - 1 = 0 := by omega
    simp only [h1, if_false, e, e0]
    rfl
  · have e2 : max (-1) (min 0 ((n : Int) - 1)) = 0 := by omega
    have e : (n : Int) - 1 > 0 := by omega
    have e3 : ((n : Int) - 1 - 0 - -1 - 1) / (- -1) = ((n - 1 : Nat) : Int) := by
      rw [show (- -1 : Int) = 1 by decide, Int.ediv_one]
      omega
    rw [e2]
    simp only [h1, if_false, e, if_true, e3, Int.toNat_natCast]
    apply List.map_congr_left
    intro k hk
    have := List.mem_range.mp hk
    omega
theorem rev0_pick (items : Array Value) : slicePick items none (some 0) (some (-1)) = (items.toList.drop 1).reverse.toArray := by
  unfold slicePick
  show ((sliceRange ((items.size : Int) - 1) (max (-1) (min 0 ((items.size : Int) - 1))) (-1)).filterMap (items[·]?)).toArray = _
  rw [range_back0, back_from, List.filterMap_reverse, pick_run]
  rw [List.take_of_length_le (by rw [List.length_drop, Array.length_toList]; exact Nat.le_refl _)]
section
variable {X : Cx}
def tRev0L (K : PySem.W.Frag) (te : TE) : TE := fun σ H Q => te σ H fun x H1 => ∃ a xs, x = .ref a ∧ SqL K H1 a xs ∧ ∀ p, H1 p = none → Q (.ref p) (upd H1 p (.lst (xs.drop 1).reverse))
theorem pe_rev0L {e : Expr} {te : TE} {k k0 : Nat} {p0 p1 p2 p3 pos : Pos} (he : PE X e te) : PE X (.Subscript e (.Slice none (some (.Constant (.int 0) k0 p0)) (some (.UnaryOp .USub (.Constant (.int 1) k p1) p2)) p3) pos) (tRev0L X.K te) := by
  refine ⟨fun pins s σ H Q I h => ?_⟩
  refine Subscript_ (thn (he.run pins s σ H _ I h) fun v s1 ⟨x, H1, I1, r1, q1⟩ => ?_)
  obtain ⟨a, xs, ex, hx, q⟩ := q1
  subst ex
  cases r1
  have hst : PO X (some (.UnaryOp .USub (.Constant (.int 1) k p1) p2)) (tPart (tUn (rU fun i => .int (-i)) (tC (.int 1)))) := po_some (pe_un un_neg pe_int)
  have hz0 : PO X (some (.Constant (.int 0) k0 p0)) (tPart (tC (.int 0))) := po_some pe_int
  refine wpAny_Slice (thn (po_none.run pins s1 σ H1 (fun o H2 => o = none ∧ H2 = H1) I1 ⟨rfl, rfl⟩) fun vl s2 ⟨l, H2, I2, pl, el, e2⟩ => ?_)
  subst el e2
  refine thn (hz0.run pins s2 σ H2 (fun o H3 => o = some 0 ∧ H3 = H2) I2 ⟨0, rfl, rfl, rfl⟩) fun vu s3 ⟨u, H3, I3, pu, eu, e3⟩ => ?_
  subst eu e3
  refine thn (hst.run pins s3 σ H3 (fun o H4 => o = some (-1) ∧ H4 = H3) I3 ⟨1, rfl, -1, rfl, rfl, rfl⟩) fun vs s4 ⟨o, H4, I4, ps, eo, e4⟩ => ?_
  subst eo e4
  have I5 : Inv X pins σ H4 { s4 with heap := s4.heap.push { cls := .type "slice", data := .fields #[vl, vu, vs] } } := I4.kept (t' := s4.toks) fun b ob q => Heap.get?_push_of_some _ q
  obtain ⟨its, r, ht, hz⟩ := I5.list hx
  have hlen := r.length
  show wpAny (model X.prog X.w) X.A (subscriptTail e (.Slice none (some (.Constant (.int 0) k0 p0)) (some (.UnaryOp .USub (.Constant (.int 1) k p1) p2)) p3) (.ref a) (.ref s4.heap.objs.size)) (EP X pins σ Q) X.xe { s4 with heap := s4.heap.push { cls := .type "slice", data := .fields #[vl, vu, vs] } }
  refine tail_any (ops := [.ref a, .ref s4.heap.objs.size]) ht.isList.typeIs (PySem.slot_list_getitem.lookup) ?_ (by with_unfolding_all rfl)
  refine wpAny_getItem_list_slice ht.isList (Heap.IsSliceOf.new _ vl vu vs) pl pu ps (by decide) ?_ (by rw [List.size_toArray]; omega)
  rw [rev0_pick]
  refine ⟨.ref _, _, I5.laid (t' := s4.toks) (o := .lst (xs.drop 1).reverse) (fun b ob q => Heap.get?_push_of_some _ q) (Nat.le_refl _) ?_, rfl, q _ (I5.hok.fresh (Nat.le_refl _))⟩
  have rd : Vals (xs.drop 1) (its.drop 1) := by
    cases r with
    | nil => exact .nil
    | cons _ t => exact t
  exact ⟨by rw [List.length_reverse, List.length_drop]; omega, _, 0, rd.reverse, Heap.get?_push_size _ rfl⟩
end
end Bx

set_option Elab.async false
set_option linter.all false
set_option maxRecDepth 100000
set_option maxHeartbeats 4000000
namespace Wd
open PySem PySem.Spec PyProof.Rows L2 Bx Gx




















































section
/-! ### pairs, as the land of a jar has them -/
open TL
def AscB (bs : List (Nat × Nat)) : Prop := bs.Pairwise fun x y => x.1 < y.1 ∨ (x.1 = y.1 ∧ x.2 < y.2)
def brsD (bs : List (Nat × Nat)) : PyData := .tuple (bs.map fun x => lotD [x.1, x.2])
@[reducible] def prD (x : Nat × Nat) : PyData := lotD [x.1, x.2]
theorem prs_len {K : PySem.W.Frag} {G : Hp} {vs : List V} {prs : List (Nat × Nat)} (h : DpAll K G vs (prs.map prD)) : vs.length = prs.length := by
  have := dpAll_len h
  rw [List.length_map] at this
  exact this
end
section
variable {P : Program} {w : World} {K : PySem.W.Frag} {mg : Str → Option Value} {base : Heap}
/-! ### a drawn land, from a jar -/
open TL
structure PrsAt (K : PySem.W.Frag) (n L : Nat) (G : Hp) (D : Addr) : Prop where
  ex : ∃ (vs : List V) (prs : List (Nat × Nat)), G D = some (.lst vs) ∧ DpAll K G vs (prs.map prD) ∧ (∀ b ∈ prs, b.1 < b.2 ∧ b.2 < n) ∧ prs.length ≤ L
theorem PrsAt.extS {S : List Addr} {n L : Nat} {H H' : Hp} {p : Addr} (h : PrsAt K n L H p) (hp : p ∉ S) (x : ExtS S H H') : PrsAt K n L H' p := by
  obtain ⟨xs, bs, h1, h2, h3, h4⟩ := h.ex
  exact ⟨xs, bs, x.lst hp h1, dpAll_extS x (noLs_map _ (fun _ => rfl) _) h2, h3, h4⟩
theorem PrsAt.up {n L L' : Nat} {H : Hp} {p : Addr} (h : PrsAt K n L H p) (z : L ≤ L') : PrsAt K n L' H p := by
  obtain ⟨xs, bs, h1, h2, h3, h4⟩ := h.ex
  exact ⟨xs, bs, h1, h2, h3, Nat.le_trans h4 z⟩
theorem PrsAt.push {n L : Nat} {H : Hp} {D : Addr} {y : V} {b : Nat × Nat} (h : PrsAt K n L H D) (hy : Dp K H y (prD b)) (hb : b.1 < b.2 ∧ b.2 < n) : ∃ as, H D = some (.lst as) ∧ as.length ≤ L ∧ PrsAt K n (L + 1) (upd H D (.lst (as ++ [y]))) D := by
  obtain ⟨xs, bs, h1, h2, h3, h4⟩ := h.ex
  have hl := prs_len h2
  have xd : ExtS [D] H (upd H D (.lst (xs ++ [y]))) := (ExtS.refl _ _).write (.inr ⟨by simp, _, h1⟩)
  refine ⟨xs, h1, by omega, xs ++ [y], bs ++ [b], upd_same, ?_, fun c hc => ?_, by rw [List.length_append]; exact Nat.add_le_add_right h4 1⟩
  · rw [List.map_append]
    exact dpAll_app (dpAll_extS xd (noLs_map _ (fun _ => rfl) _) h2) (.cons (dp_extS xd rfl hy) .nil)
  · rcases List.mem_append.mp hc with z | z
    · exact h3 c z
    · rw [List.mem_singleton.mp z]; exact hb
def kN (b : Nat × Nat) : List Int := [(b.1 : Int), (b.2 : Int)]
theorem kN_inj {a b : Nat × Nat} (h : kN a = kN b) : a = b := by
  injection h with h1 h2
  injection h2 with h2 _
  exact Prod.ext (by omega) (by omega)
theorem kN_sq {b : Nat × Nat} : (kN b).map V.int = ([b.1, b.2] : List Nat).map fun (p : Nat) => V.int (p : Int) := rfl
theorem pr_addr {H : Hp} : ∀ {vs : List V} {ps : List (Nat × Nat)}, DpAll K H vs (ps.map prD) → ∃ as : List Addr, vs = as.map V.ref ∧ as.length = ps.length ∧ ∀ p ∈ as.zip (ps.map kN), SqT K H p.1 (p.2.map V.int)
  | _, [], .nil => ⟨[], rfl, rfl, fun p hp => nomatch hp⟩
  | _, b :: ps, .cons h hs => by
    obtain ⟨as, e1, e2, e3⟩ := pr_addr hs
    obtain ⟨t, rfl, ht⟩ := dp_lot h
    refine ⟨t :: as, by rw [e1]; rfl, by rw [List.length_cons, List.length_cons, e2], fun p hp => ?_⟩
    rw [List.map_cons, List.zip_cons_cons] at hp
    rcases List.mem_cons.mp hp with rfl | hp
    · exact ht
    · exact e3 p hp
theorem zip_fstJ {α β : Type} {as : List α} {bs : List β} (h : as.length = bs.length) : (as.zip bs).map (·.1) = as := List.map_fst_zip (Nat.le_of_eq h)
theorem dp_prs {H : Hp} : ∀ {N : List (Addr × List Int)} {cs : List (Nat × Nat)}, (∀ p ∈ N, SqT K H p.1 (p.2.map V.int)) → N.map (·.2) = cs.map kN → DpAll K H (N.map fun q => V.ref q.1) (cs.map prD)
  | [], [], _, _ => .nil
  | [], _ :: _, _, e => nomatch e
  | _ :: _, [], _, e => nomatch e
  | p :: N, c :: cs, tn, e => by
    rw [List.map_cons, List.map_cons] at e
    injection e with h1 h2
    have h3 := tn p List.mem_cons_self
    rw [h1] at h3
    exact .cons (.tup h3 (dpAll_lot [c.1, c.2])) (dp_prs (fun q hq => tn q (List.mem_cons_of_mem _ hq)) h2)
theorem prs_of {ps : List (Nat × Nat)} : ∀ l : List (Addr × List Int), (∀ p ∈ l, ∃ b ∈ ps, p.2 = kN b) → ∃ cs : List (Nat × Nat), l.map (·.2) = cs.map kN ∧ ∀ b ∈ cs, b ∈ ps
  | [], _ => ⟨[], rfl, fun b hb => nomatch hb⟩
  | p :: l, h => by
    obtain ⟨cs, e1, e2⟩ := prs_of l fun q hq => h q (List.mem_cons_of_mem _ hq)
    obtain ⟨b, hb, e⟩ := h p List.mem_cons_self
    refine ⟨b :: cs, by rw [List.map_cons, List.map_cons, e, e1], fun c hc => ?_⟩
    rcases List.mem_cons.mp hc with rfl | hc
    · exact hb
    · exact e2 c hc
/-- tuple(sorted(set(xs))) of at most 63 pairs of numbers below 64 -/
theorem set_sortJ {H : Hp} {l : Addr} {vs : List V} {ps : List (Nat × Nat)} (hl : SqL K H l vs) (hP : DpAll K H vs (ps.map prD)) (hb : ∀ p ∈ ps, p.1 < 64 ∧ p.2 < 64) (hn : ps.length < 64) {Q : VK}
    (hQ : ∀ (cs : List (Nat × Nat)) q H', Ext H H' → H q = none → AscB cs → (∀ p, p ∈ cs ↔ p ∈ ps) → cs.length ≤ ps.length → Dp K H' (.ref q) (brsD cs) → Q (.ref q) H') :
    rSetOfT K P w [.ref l] H fun x1 H1 => rSortedT K P w [x1] H1 fun x2 H2 => kTup K x2 H2 Q := by
  obtain ⟨as, rfl, ea, ht⟩ := pr_addr hP
  have el : as.length = (ps.map kN).length := by rw [List.length_map]; exact ea
  have ez : ((as.zip (ps.map kN)).map fun p => V.ref p.1) = as.map V.ref := by
    rw [← zip_fstJ el, List.map_map, zip_fstJ el]
    rfl
  have ek : ∀ p ∈ as.zip (ps.map kN), ∃ b ∈ ps, p.2 = kN b := fun p hp => by
    obtain ⟨b, hb, e⟩ := List.mem_map.mp (List.of_mem_zip hp).2
    exact ⟨b, hb, e.symm⟩
  refine ⟨l, as.zip (ps.map kN), rfl, by rw [ez]; exact hl, fun p hp => ht p hp, by rw [List.length_zip]; omega, fun a L ha hsub hall => ?_⟩
  have x1 : Ext H (upd H a (SetTO P w a L)) := .new ha
  have tu : ∀ p ∈ L, SqT K (upd H a (SetTO P w a L)) p.1 (p.2.map V.int) := fun p hp => x1.sqT (ht p (hsub p hp))
  refine ⟨a, L, 2, 64, rfl, upd_same, fun p hp => tu p hp, by decide, fun p hp => ?_, fun N b pm nd hN pw hbn => ?_⟩
  · obtain ⟨c, hc, e⟩ := ek p (hsub p hp)
    have h1 := hb c hc
    rw [e]
    refine ⟨rfl, fun i hi => ?_⟩
    simp only [kN, List.mem_cons, List.not_mem_nil, or_false] at hi
    rcases hi with rfl | rfl <;> omega
  · obtain ⟨cs, e1, e2⟩ := prs_of (ps := ps) N (fun p hp => ek p (hsub p (pm.mem_iff.mp hp)))
    have nd2 : cs.Nodup := by
      rw [e1] at nd
      exact nodup_of_map kN nd
    have hasc : AscB cs := by
      have p1 : (N.map (·.2)).Pairwise (fun k k' => TS.code 64 k ≤ TS.code 64 k') := List.pairwise_map.mpr pw
      rw [e1, List.pairwise_map] at p1
      refine List.Pairwise.imp_of_mem (fun {x y} hx hy h => ?_) (p1.and nd2)
      have hx1 := hb x (e2 x hx)
      have hy1 := hb y (e2 y hy)
      have := pair_lt (x := (x.1 : Int)) (y := (x.2 : Int)) (x' := (y.1 : Int)) (y' := (y.2 : Int)) h.1 (fun e => h.2 (kN_inj e)) (by omega) (by omega) (by omega) (by omega)
      omega
    have hmem : ∀ p, p ∈ cs ↔ p ∈ ps := fun p => by
      refine ⟨e2 p, fun hp => ?_⟩
      have h1 : kN p ∈ (as.zip (ps.map kN)).map (·.2) := by
        rw [List.map_snd_zip (Nat.le_of_eq el.symm)]
        exact List.mem_map_of_mem hp
      obtain ⟨q, hq, eq⟩ := List.mem_map.mp h1
      have h2 := hall q hq
      rw [← (pm.map (·.2)).mem_iff, e1, eq] at h2
      obtain ⟨c, hc, ec⟩ := List.mem_map.mp h2
      rw [← kN_inj ec]
      exact hc
    refine .inl ⟨b, _, rfl, SqL.of upd_same, fun q hq => ?_⟩
    have x2 : Ext (upd H a (SetTO P w a L)) (upd (upd H a (SetTO P w a L)) b (.lst (N.map fun q => V.ref q.1))) := .new hbn
    refine hQ cs q _ (x1.trans (x2.trans (.new hq))) (x1.free (x2.free hq)) hasc hmem (nd2.length_le_of_subset fun x hx => e2 x hx) (dp_new hq ?_)
    have tn : ∀ p ∈ N, SqT K (upd (upd H a (SetTO P w a L)) b (.lst (N.map fun q => V.ref q.1))) p.1 (p.2.map V.int) := fun p hp => x2.sqT (tu p (pm.mem_iff.mp hp))
    generalize upd (upd H a (SetTO P w a L)) b (.lst (N.map fun q => V.ref q.1)) = H9 at tn
    exact dp_prs tn e1
def spLandJ (K : PySem.W.Frag) : Sp := fun vs H Q _ => ∃ (jar : Addr) (m : Nat), vs = [.ref jar, .int (m : Int)] ∧ JarAt H jar ∧ 2 ≤ m ∧ m ≤ 13 ∧
  ∀ q (l : List Nat) (bs : List (Nat × Nat)) H', ExtS [jar] H H' → JarAt H' jar → H q = none → Dp K H' (.ref q) (.tuple [lotD l, brsD bs]) → 2 ≤ l.length → l.length ≤ m → (∀ f ∈ l, f ≤ 30) → AscB bs → (∀ b ∈ bs, b.1 < b.2 ∧ b.2 < l.length) → bs.length ≤ 17 → Q (.ref q) H'
abbrev lndN : List Str := ["jar", "top_one", "many", "place", "folk", "pairs", "turn", "one", "other"]
theorem sc_landJ : FnScope lndN ["jar", "top_one"] (defScope st__law_land) := ⟨rfl, rfl, rfl, by decide +kernel, rfl, by decide +kernel, by decide +kernel⟩
theorem ok_landJ {f : Addr} {fd : FuncData} (F : Fun K "_law_land" "_law_land" st__law_land f fd) (B : Bl mg) (c1 : Cal P w K mg base 1 "_law_drawn" ["jar", "many"] (spDrawn K)) : FnOk P w K mg base CX0 2 f fd ["jar", "top_one"] (spLandJ K) := by
  refine F.ok sc_landJ (fun vs H Q E h => ?_) (fun cdv A outer s H vs Q E hr h => ?_)
  · obtain ⟨jar, m, rfl, _⟩ := h
    rfl
  · obtain ⟨jar, m, rfl, hj, hm2, hm13, k⟩ := h
    have nd := sc_landJ.nd
    refine ⟨_, pss_cons (ps_set (i := 2) nd rfl (Or.inl rfl) (pe_op op_add pe_int (pe_cal c1 (hr.mono (by decide)) rfl (pa_cons (pv 0) (pa_cons (pe_op op_sub (pv 1) pe_int) pa_nil)))))
      (pss_cons (ps_set (i := 4) nd rfl (Or.inl rfl) (pe_tupleOf rfl B.tuple (pe_lc (own := [("place", 3)]) (g := gName 3) (by rfl) nd (pi_range1 rfl B.range (pa_cons (pv 2) pa_nil)) (blkOk_by (own := [("place", 3)]) (N := lndN) (sc := defScope st__law_land) (by decide +kernel)) (fun _ _ _ _ _ => pg_name (i := 3) nd rfl (Or.inl rfl)) (fun _ _ _ _ _ => pts_nil) (fun _ _ _ _ _ => pe_ix (ix_lstK (K := K) rfl) (pe_lst (pa_cons pe_int (pa_cons pe_int (pa_cons pe_int (pa_cons pe_int (pa_cons (pe_cal c1 (hr.mono (by decide)) rfl (pa_cons (pv 0) (pa_cons pe_int pa_nil))) pa_nil)))))) (pe_cal c1 (hr.mono (by decide)) rfl (pa_cons (pv 0) (pa_cons pe_int pa_nil))) (fun _ _ => rfl)))))
      (pss_cons (ps_setLc (i := 5) (own := [("place", 3)]) (g := gName 3) (by rfl) nd rfl rfl (sw_true rfl rfl rfl (by decide +kernel)) (pi_range2 rfl B.range (pa_cons pe_int (pa_cons (pv 2) pa_nil))) (blkOk_by (own := [("place", 3)]) (N := lndN) (sc := defScope st__law_land) (by decide +kernel)) (fun _ _ _ _ _ => pg_name (i := 3) nd rfl (Or.inl rfl)) (fun _ _ _ _ _ => pts_one (pt_cmpR op_gt (pe_cal c1 (hr.mono (by decide)) rfl (pa_cons (pv 0) (pa_cons pe_int pa_nil))) pe_int (nomark _))) (fun _ _ _ _ _ => pe_tup (pa_cons (pe_cal c1 (hr.mono (by decide)) rfl (pa_cons (pv 0) (pa_cons (pv 3) pa_nil))) (pa_cons (pv 3) pa_nil))))
      (pss_cons (ps_for PassesOwn.never rfl (pi_range1 rfl B.range (pa_cons (pe_cal c1 (hr.mono (by decide)) rfl (pa_cons (pv 0) (pa_cons pe_int pa_nil))) pa_nil)) (pg_name (i := 6) nd rfl (Or.inl rfl))
        (pss_cons (ps_par (i := 7) (j := 8) (by rfl) nd rfl rfl (by decide) rfl rfl (pa_cons (pe_cal c1 (hr.mono (by decide)) rfl (pa_cons (pv 0) (pa_cons (pv 2) pa_nil))) (pa_cons (pe_cal c1 (hr.mono (by decide)) rfl (pa_cons (pv 0) (pa_cons (pv 2) pa_nil))) pa_nil)) (by rfl))
        (pss_one (ps_if (pt_cmpR op_ne (pv 7) (pv 8) (nomark _)) (pss_one (ps_expr (pe_bm PySem.F.plainAttrs_list PySem.F.slot_list_append PySem.F.type_list_append mt_append (pv 5) (pa_cons (pe_tup (pa_cons (pe_callB (call_min2 rfl) (by rfl) B.min (by decide +kernel) (pa_cons (pv 7) (pa_cons (pv 8) pa_nil))) (pa_cons (pe_callB (call_max2 rfl) (by rfl) B.max (by decide +kernel) (pa_cons (pv 7) (pa_cons (pv 8) pa_nil))) pa_nil))) pa_nil)))) pss_nil))))
      (pss_one (ps_ret (pe_tup (pa_cons (pv 4) (pa_cons (pe_tupleOf rfl B.tuple (pe_callB (cr_sortedT (by rfl)) (by rfl) B.sorted (by decide +kernel) (pa_cons (pe_callTy (cr_setOfT (by rfl) hr.units) rfl B.set (by decide +kernel) (pa_cons (pv 5) pa_nil)) pa_nil))) pa_nil)))))))), ?_⟩
    refine ⟨_, rfl, _, rfl, _, _, rfl, rfl, jar, m - 1, by show [V.ref jar, V.int ((m : Int) - 1)] = _; rw [show (m : Int) - 1 = ((m - 1 : Nat) : Int) by omega], hj, by omega, by omega, fun n H1 hn x1 hj1 => ?_⟩
    obtain ⟨M, hM⟩ : ∃ M : Nat, M = 2 + n := ⟨_, rfl⟩
    refine ⟨_, _, rfl, rfl, ?_⟩
    dsimp only [gName, tSeq, List.set, L2.start, List.map, List.replicate, List.append, List.length]
    rw [show (2 + (n : Int)) = (M : Int) by omega]
    have h2M : 2 ≤ M := by omega
    have hMm : M ≤ m := by omega
    clear hM hn
    have hsl : 1000 ≤ sizeLine := by decide
    refine ⟨_, rfl, _, rfl, by omega, by omega, fun D hD => ?_⟩
    have hDj : D ∉ [jar] := hj1.notin hD
    refine lc_range (lo := 0) (n := (M : Int).toNat) (fun i G => ∃ l : List Nat, G D = some (.lst (vsN l)) ∧ l.length = i ∧ (∀ f ∈ l, f ≤ 30) ∧ ExtS [jar] H1 G ∧ JarAt G jar)
      ⟨[], upd_same, rfl, (fun z hz => nomatch hz), .new hD, hj1.upd (fun e => hDj (by rw [e]; exact List.mem_singleton.mpr rfl))⟩ (fun i G hi ⟨l, h1, h2, h3, h4, h5⟩ => ?_) (fun G ⟨l, h1, h2, h3, h4, h5⟩ => ?_)
    · refine ⟨rfl, ?_⟩
      dsimp only [tYes]
      rw [if_pos rfl]
      refine ⟨_, rfl, jar, 30, rfl, h5, by decide, by decide, fun v G2 hv x2 hj2 => ⟨by show 5 ≤ sizeLine; omega, fun r hr => ⟨_, rfl, jar, 5, rfl, hj2.ext (.new hr), by decide, by decide, fun c G3 hc x3 hj3 => ?_⟩⟩⟩
      obtain ⟨b, hb, hb30⟩ : ∃ b : Nat, [V.int 1, V.int 1, V.int 0, V.int 2, V.int (v : Int)][c]? = some (.int (b : Int)) ∧ b ≤ 30 := match c, hc with
        | 0, _ => ⟨1, rfl, by decide⟩
        | 1, _ => ⟨1, rfl, by decide⟩
        | 2, _ => ⟨0, rfl, by decide⟩
        | 3, _ => ⟨2, rfl, by decide⟩
        | 4, _ => ⟨v, rfl, by omega⟩
      have hrj : r ∉ [jar] := hj2.notin hr
      have x13 := (x2.trans (.new (o := .lst [V.int 1, V.int 1, V.int 0, V.int 2, V.int (v : Int)]) hr)).trans x3
      refine ⟨r, _, _, _, rfl, rfl, SqL.of (x3.lst hrj upd_same), atI_nat hb, ?_⟩
      have hup := x13.lst hDj h1
      have hvl : (vsN l).length = l.length := List.length_map _
      refine ⟨_, hup, by rw [hvl, h2]; omega, l ++ [b], ?_, by rw [List.length_append, h2]; rfl, fun z hz => ?_, (h4.trans x13).write (.inl hD), hj3.upd (fun e => hDj (by rw [e]; exact List.mem_singleton.mpr rfl))⟩
      · rw [upd_same]
        show _ = some (HO.lst (List.map _ (l ++ [b])))
        rw [List.map_append]
        rfl
      · rcases List.mem_append.mp hz with hz | hz
        · exact h3 z hz
        · rw [List.mem_singleton.mp hz]
          exact hb30
    rw [Int.toNat_natCast] at h2
    refine .inl ⟨D, _, rfl, SqL.of h1, fun t ht => ?_⟩
    have et : (upd G t (.tup (vsN l))) t = some (.tup (vsN l)) := upd_same
    have xt : ExtS [jar] H (upd G t (.tup (vsN l))) := (x1.trans h4).trans (.new ht)
    have hj2 : JarAt (upd G t (.tup (vsN l))) jar := h5.ext (.new ht)
    generalize upd G t (.tup (vsN l)) = G2 at et xt hj2 ⊢
    clear h1 h4 h5 ht hDj hD x1 hj1
    dsimp only [gName, tSeq, List.set]
    refine ⟨_, rfl, 1, (M : Int), rfl, ⟨by omega, by omega, by omega, by omega⟩, fun D hD => ?_⟩
    have hDj : D ∉ [jar] := hj2.notin hD
    have hDH : H D = none := xt.free hD
    refine lc_range (lo := 1) (n := ((M : Int) - 1).toNat) (fun i G => PrsAt K M i G D ∧ ExtS [jar] G2 G ∧ JarAt G jar)
      ⟨⟨[], [], upd_same, .nil, (fun b hb => nomatch hb), Nat.le_refl _⟩, .new hD, hj2.upd (fun e => hDj (by rw [e]; exact List.mem_singleton.mpr rfl))⟩ (fun i G hi ⟨h1, h4, h5⟩ => ?_) (fun G ⟨h1, h4, h5⟩ => ?_)
    · refine ⟨rfl, _, rfl, jar, 12, rfl, h5, by decide, by decide, fun v G3 hv x3 hj3 => ⟨_, _, rfl, rfl, _, rfl, ?_⟩⟩
      rw [show (1 + (i : Int)) = ((1 + i : Nat) : Int) from rfl]
      cases decide ((0 : Int) < (v : Int)) with
      | true =>
        refine iteT ⟨_, rfl, _, rfl, jar, 1 + i, rfl, hj3, by omega, by omega, fun u G4 hu x4 hj4 => ⟨_, rfl, by show 2 ≤ sizeLine; omega, fun r hr => ?_⟩⟩
        have x34 := x3.trans x4
        have hD4 := ((h1.extS hDj x34).extS (S := []) (by simp) (.new (o := .tup [.int (u : Int), .int ((1 + i : Nat) : Int)]) hr)).push (y := .ref r) (b := (u, 1 + i)) (.tup (SqT.of upd_same) (dpAll_lot [u, 1 + i])) ⟨by show u < 1 + i; omega, by show 1 + i < M; omega⟩
        obtain ⟨as, f1, f2, f3⟩ := hD4
        refine ⟨as, f1, by omega, f3, ((h4.trans x34).trans (.new hr)).write (.inl hD), (hj4.ext (.new hr)).upd (fun e => hDj (by rw [e]; exact List.mem_singleton.mpr rfl))⟩
      | false => exact iteF ⟨(h1.extS hDj x3).up (Nat.le_succ _), h4.trans x3, hj3⟩
    have h1 := h1.up (L' := 12) (by omega)
    dsimp only [gName, tSeq, List.set]
    refine ⟨_, rfl, jar, 6, rfl, h5, by decide, by decide, fun v G3 hv x3 hj3 => ⟨_, rfl, by omega, by omega, ?_⟩⟩
    have x23 := h4.trans x3
    have h13 := h1.extS hDj x3
    refine for_range (lo := 0) (n := (v : Int).toNat) (fun i σ G => ∃ o6 o7 o8 : Option V, σ = [some (.ref jar), some (.int (m : Int)), some (.int (M : Int)), none, some (.ref t), some (.ref D), o6, o7, o8] ∧ PrsAt K M (12 + i) G D ∧ ExtS [jar] G2 G ∧ JarAt G jar)
      ⟨none, none, none, rfl, h13, x23, hj3⟩ (fun i σ G hi ⟨o6, o7, o8, e, h1, h4, h5⟩ => ?_) (fun σ G ⟨o6, o7, o8, e, h1, h4, h5⟩ => ?_)
    · subst e
      refine ⟨_, rfl, _, rfl, jar, M, rfl, h5, by omega, by omega, fun one G4 h1l x4 hj4 => ⟨_, rfl, _, rfl, jar, M, rfl, hj4, by omega, by omega, fun other G5 h2l x5 hj5 => ?_⟩⟩
      have x45 := x4.trans x5
      refine ⟨_, _, rfl, _, rfl, _, rfl, rfl, _, rfl, ?_⟩
      by_cases hne : one = other
      · rw [show (!decide (V.int (one : Int) = V.int (other : Int))) = false by rw [hne, decide_eq_true rfl]; rfl]
        exact iteF ⟨_, _, _, rfl, (h1.extS hDj x45).up (by omega), h4.trans x45, hj5⟩
      · rw [show (!decide (V.int (one : Int) = V.int (other : Int))) = true by rw [decide_eq_false (fun e => hne (by injection e with e; omega))]; rfl]
        have h15 := h1.extS hDj x45
        obtain ⟨vs0, _, e0, _⟩ := h15.ex
        refine iteT ⟨_, rfl, .inl ⟨rfl, _, SqL.of e0⟩, _, rfl, _, rfl, _, _, rfl, _, rfl, _, rfl, _, _, rfl, by show 2 ≤ sizeLine; omega, fun r hr => ?_⟩
        have e1 : (if (other : Int) < (one : Int) then (other : Int) else (one : Int)) = ((min one other : Nat) : Int) := by split <;> omega
        have e2 : (if (other : Int) > (one : Int) then (other : Int) else (one : Int)) = ((max one other : Nat) : Int) := by split <;> omega
        have er : (upd G5 r (.tup [.int (if (other : Int) < (one : Int) then (other : Int) else (one : Int)), .int (if (other : Int) > (one : Int) then (other : Int) else (one : Int))])) r = some (.tup [.int ((min one other : Nat) : Int), .int ((max one other : Nat) : Int)]) := by rw [upd_same, e1, e2]
        obtain ⟨as, f1, f2, f3⟩ := (h15.extS (S := []) (by simp) (.new hr)).push (y := .ref r) (b := (min one other, max one other)) (.tup (SqT.of er) (dpAll_lot [min one other, max one other])) ⟨by show min one other < max one other; omega, by show max one other < M; omega⟩
        refine ⟨D, as, _, rfl, rfl, f1, by omega, _, _, _, rfl, f3, ((h4.trans x45).trans (.new hr)).write (.inl hD), (hj5.ext (.new hr)).upd (fun e => hDj (by rw [e]; exact List.mem_singleton.mpr rfl))⟩
    subst e
    dsimp only [tNext, tSeq]
    obtain ⟨vs, prs, f1, f2, f3, f4⟩ := h1.ex
    refine ⟨_, rfl, _, rfl, set_sortJ (SqL.of f1) f2 (fun b hb => by have := f3 b hb; omega) (by omega) fun cs q G6 x6 hq0 hasc hmem hlen hq => ?_⟩
    refine ⟨by show 2 ≤ sizeLine; omega, fun r hr => ?_⟩
    have x26 := ((xt.trans h4).trans (.of x6)).trans (.new (o := .tup [.ref t, .ref q]) hr)
    have h26 := (h4.trans (.of x6)).trans (.new (o := .tup [.ref t, .ref q]) hr)
    refine k r l cs _ x26 ((h5.ext x6).ext (.new hr)) (((xt.trans h4).trans (.of x6)).free hr) ?_ (by omega) (by omega) h3 hasc (fun b hb => by rw [h2]; exact f3 b ((hmem b).mp hb)) (by omega)
    exact dp_new hr (.cons (.tup (SqT.of ((h4.trans (.of x6)).tup et)) (dpAll_lot l)) (.cons hq .nil))
end
end Wd

set_option Elab.async false
set_option linter.all false
set_option maxRecDepth 100000
set_option maxHeartbeats 4000000
namespace Wd
open PySem PySem.Spec PyProof.Rows L2 Bx Gx




















































section
variable {P : Program} {w : World} {K : PySem.W.Frag} {mg : Str → Option Value} {base : Heap}
/-! ### a drawn plan -/
open TL
structure GoodP (n : Nat) (bs : List (Nat × Nat)) (zs : List (List Nat)) : Prop where
  lots : ∀ u ∈ zs, LotOk n u ∧ Hangs bs u
  perm : zs.flatten.Perm (List.range n)
/-- a lot under way: what is done, the lot, what is left -/
structure Lb (bs : List (Nat × Nat)) (n : Nat) (zs : List (List Nat)) (u rs : List Nat) (h : Nat) : Prop where
  perm : (zs.flatten ++ (u ++ rs)).Perm (List.range n)
  hd : h ∈ u
  conn : ∀ x ∈ u, Mk.Conn bs (· ∈ u) h x
theorem Lb.lt {bs : List (Nat × Nat)} {n h : Nat} {zs : List (List Nat)} {u rs : List Nat} (k : Lb bs n zs u rs h) : ∀ x ∈ u ++ rs, x < n := fun x hx => List.mem_range.mp (k.perm.mem_iff.mp (List.mem_append_right _ hx))
theorem Lb.nd {bs : List (Nat × Nat)} {n h : Nat} {zs : List (List Nat)} {u rs : List Nat} (k : Lb bs n zs u rs h) : (u ++ rs).Nodup := ((List.nodup_append.mp (k.perm.nodup_iff.mpr List.nodup_range)).2.1)
theorem eraseIdx_perm {l : List Nat} {j : Nat} (h : j < l.length) : (l[j] :: l.eraseIdx j).Perm l := by
  rw [List.eraseIdx_eq_take_drop_succ]
  have := List.perm_middle (a := l[j]) (l₁ := l.take j) (l₂ := l.drop (j + 1))
  refine this.symm.trans ?_
  rw [← List.drop_eq_getElem_cons h, List.take_append_drop]
theorem erase_mapN (l : List Nat) (j : Nat) : (l.map fun (p : Nat) => (p : Int)).eraseIdx j = (l.eraseIdx j).map fun (p : Nat) => (p : Int) := by
  rw [List.eraseIdx_eq_take_drop_succ, List.eraseIdx_eq_take_drop_succ, List.map_append, List.map_take, List.map_drop]
theorem GoodP.sort {n : Nat} {bs : List (Nat × Nat)} {zs : List (List Nat)} (h : GoodP n bs zs) : ∃ ws : List (List Nat), zs.Perm ws ∧ ws.Pairwise hdLt ∧ GoodP n bs ws := by
  have pm : (zs.mergeSort fun u v => decide (u.headD 0 ≤ v.headD 0)).Perm zs := List.mergeSort_perm _ _
  refine ⟨_, pm.symm, ?_, ⟨fun u hu => h.lots u (pm.mem_iff.mp hu), (List.Perm.flatten pm).trans h.perm⟩⟩
  have h1 : (zs.mergeSort fun u v => decide (u.headD 0 ≤ v.headD 0)).Pairwise fun u v => decide (u.headD 0 ≤ v.headD 0) = true := List.pairwise_mergeSort (fun a b c h1 h2 => by rw [decide_eq_true_eq] at *; omega) (fun a b => by rw [Bool.or_eq_true, decide_eq_true_eq, decide_eq_true_eq]; omega) _
  have hnd : zs.flatten.Nodup := h.perm.nodup_iff.mpr List.nodup_range
  have h2 : zs.Pairwise fun u v => u.headD 0 ≠ v.headD 0 := by
    refine List.Pairwise.imp_of_mem (fun {u v} hu hv q e => ?_) (nodup_pair hnd)
    have m1 := headD_mem (h.lots u hu).1.ne
    have m2 := headD_mem (h.lots v hv).1.ne
    rw [← e] at m2
    exact q _ m1 m2
  have h3 := pm.symm.pairwise h2 (fun {a b} q e => q e.symm)
  exact (h1.and h3).imp fun {u v} q => by
    have := of_decide_eq_true q.1
    have := q.2
    show u.headD 0 < v.headD 0
    omega
theorem Lb.push {bs : List (Nat × Nat)} {n h e f j : Nat} {zs : List (List Nat)} {u rs : List Nat} (k : Lb bs n zs u rs h) (he : e ∈ u) (hj : rs[j]? = some f) (ha : Mk.adj bs e f = true) : Lb bs n zs (u ++ [f]) (rs.eraseIdx j) h := by
  obtain ⟨hlt, hf⟩ := List.getElem?_eq_some_iff.mp hj
  have p1 := eraseIdx_perm hlt
  rw [hf] at p1
  refine ⟨?_, List.mem_append_left _ k.hd, fun x hx => ?_⟩
  · refine (List.Perm.append_left _ ?_).trans k.perm
    rw [List.append_assoc]
    exact List.Perm.append_left _ p1
  · have mono : ∀ y, Mk.Conn bs (· ∈ u) h y → Mk.Conn bs (· ∈ u ++ [f]) h y := fun y c => c.mono fun z hz => List.mem_append_left _ hz
    rcases List.mem_append.mp hx with hx | hx
    · exact mono x (k.conn x hx)
    · rw [List.mem_singleton.mp hx]
      exact .step (mono e (k.conn e he)) ha (List.mem_append_right _ List.mem_cons_self)
theorem Lb.lot {bs : List (Nat × Nat)} {n h : Nat} {zs : List (List Nat)} {u rs xs : List Nat} (k : Lb bs n zs u rs h) (hp : xs.Perm u) (hs : xs.Pairwise (· ≤ ·)) : LotOk n xs ∧ Hangs bs xs := by
  have hnd : xs.Nodup := hp.nodup_iff.mpr (List.nodup_append.mp k.nd).1
  have hmem : ∀ x, x ∈ xs ↔ x ∈ u := fun x => hp.mem_iff
  refine ⟨⟨fun e => ?_, fun x hx => k.lt x (List.mem_append_left _ ((hmem x).mp hx)), (hs.and hnd).imp fun {a b} q => by have := q.1; have := q.2; omega⟩, fun x hx y hy => ?_⟩
  · have := (hmem h).mpr k.hd
    rw [e] at this
    cases this
  · exact (((k.conn x ((hmem x).mp hx)).symm.trans (k.conn y ((hmem y).mp hy))).mono fun z hz => (hmem z).mpr hz)
def spPlanJ (K : PySem.W.Frag) : Sp := fun vs H Q _ => ∃ (jar : Addr) (l : V) (fs : List Int) (bs : List (Nat × Nat)), vs = [.ref jar, l] ∧ JarAt H jar ∧ Dp K H l (landD fs bs) ∧ LandOk fs bs ∧
  ∀ q (zs : List (List Nat)) H', ExtS [jar] H H' → JarAt H' jar → H q = none → Dp K H' (.ref q) (planD zs) → GoodP fs.length bs zs → zs.Pairwise hdLt → Q (.ref q) H'
abbrev plN : List Str := ["jar", "land", "many", "heads", "owner", "k", "turn", "one", "other", "lots", "rest", "lot", "by_it", "place"]
theorem sc_planJ : FnScope plN ["jar", "land"] (defScope st__law_plan) := ⟨rfl, rfl, rfl, by decide +kernel, rfl, by decide +kernel, by decide +kernel⟩
theorem ok_planJ {f : Addr} {fd : FuncData} (F : Fun K "_law_plan" "_law_plan" st__law_plan f fd) (B : Bl mg) (c1 : Cal P w K mg base 1 "_law_drawn" ["jar", "many"] (spDrawn K)) : FnOk P w K mg base CX0 2 f fd ["jar", "land"] (spPlanJ K) := by
  refine F.ok sc_planJ (fun vs H Q E h => ?_) (fun cdv A outer s H vs Q E hr h => ?_)
  · obtain ⟨jar, l, fs, bs, rfl, _⟩ := h
    rfl
  · obtain ⟨jar, l, fs, bs, rfl, hj, hl, ok, k⟩ := h
    have nd := sc_planJ.nd
    refine ⟨_, pss_cons (ps_set (i := 2) nd rfl (Or.inl rfl) (pe_callB call_len (by rfl) B.len PySem.boot_len (pa_cons (pe_ix ix_tup (pv 1) pe_int (fun _ _ => rfl)) pa_nil)))
      (pss_cons (ps_par (i := 3) (j := 4) (by rfl) nd rfl rfl (by decide) rfl rfl (pa_cons (pe_op op_add pe_int (pe_cal c1 (hr.mono (by decide)) rfl (pa_cons (pv 0) (pa_cons (pe_callB (call_min2 rfl) (by rfl) B.min (by decide +kernel) (pa_cons pe_int (pa_cons (pv 2) pa_nil))) pa_nil)))) (pa_cons (pe_op op_rep (pe_lst (pa_cons (pe_un un_neg pe_int) pa_nil)) (pv 2)) pa_nil)) (by rfl))
      (pss_cons (ps_for PassesOwn.never rfl (pi_range1 rfl B.range (pa_cons (pv 3) pa_nil)) (pg_name (i := 5) nd rfl (Or.inl rfl))
        (pss_one (ps_asg (pv 5) (pg_sub (pv 4) (pe_cal c1 (hr.mono (by decide)) rfl (pa_cons (pv 0) (pa_cons (pv 2) pa_nil))) set_list))))
      (pss_cons (ps_for PassesOwn.never rfl (pi_range1 rfl B.range (pa_cons (pe_op op_mul pe_int (pv 2)) pa_nil)) (pg_name (i := 6) nd rfl (Or.inl rfl))
        (pss_one (ps_for PassesOwn.never rfl (pi_tup (pe_ix ix_tup (pv 1) pe_int (fun _ _ => rfl))) (pg_tup (by rfl) (pgs_cons (pg_name (i := 7) nd rfl (Or.inl rfl)) (pgs_cons (pg_name (i := 8) nd rfl (Or.inl rfl)) pgs_nil)))
          (pss_one (ps_if (PW.pt (pw_and (pt_cmpR op_ne (pe_cmpR op_lt (pe_ix ix_list (pv 4) (pv 7) (fun _ _ => rfl)) pe_int (nomark _)) (pe_cmpR op_lt (pe_ix ix_list (pv 4) (pv 8) (fun _ _ => rfl)) pe_int (nomark _)) (nomark _)) (pw_and1 (pt_cmpR op_gt (pe_cal c1 (hr.mono (by decide)) rfl (pa_cons (pv 0) (pa_cons pe_int pa_nil))) pe_int (nomark _))))) (pss_one (ps_asg (pe_tup (pa_cons (pe_callB (call_max2 rfl) (by rfl) B.max (by decide +kernel) (pa_cons (pe_ix ix_list (pv 4) (pv 7) (fun _ _ => rfl)) (pa_cons (pe_ix ix_list (pv 4) (pv 8) (fun _ _ => rfl)) pa_nil))) (pa_cons (pe_callB (call_max2 rfl) (by rfl) B.max (by decide +kernel) (pa_cons (pe_ix ix_list (pv 4) (pv 7) (fun _ _ => rfl)) (pa_cons (pe_ix ix_list (pv 4) (pv 8) (fun _ _ => rfl)) pa_nil))) pa_nil))) (pg_tup (by rfl) (pgs_cons (pg_sub (pv 4) (pv 7) set_list) (pgs_cons (pg_sub (pv 4) (pv 8) set_list) pgs_nil))))) pss_nil)))))
      (pss_cons (ps_par (i := 9) (j := 10) (by rfl) nd rfl rfl (by decide) rfl rfl (pa_cons (pe_lst pa_nil) (pa_cons (pe_listRg rfl rfl B.list (prg_1 rfl B.range (pv 2))) pa_nil)) (by rfl))
      (pss_cons (ps_while PassesOwn.never (pt_cmpR (op_neDK (K := K) rfl hr.units) (pv 10) (pe_lst pa_nil) (nomark _))
        (pss_cons (ps_set (i := 11) nd rfl (Or.inl rfl) (pe_lst (pa_cons (pe_bm PySem.F.plainAttrs_list PySem.F.slot_list_pop PySem.F.type_list_pop mt_popAt (pv 10) (pa_cons pe_int pa_nil)) pa_nil)))
        (pss_cons (ps_for PassesOwn.never rfl (pi_range1 rfl B.range (pa_cons (pv 2) pa_nil)) (pg_name (i := 6) nd rfl (Or.inl rfl))
          (pss_one (ps_for PassesOwn.never rfl (pi_tup (pe_ix ix_tup (pv 1) pe_int (fun _ _ => rfl))) (pg_tup (by rfl) (pgs_cons (pg_name (i := 7) nd rfl (Or.inl rfl)) (pgs_cons (pg_name (i := 8) nd rfl (Or.inl rfl)) pgs_nil)))
            (pss_one (ps_for PassesOwn.never rfl (pi_tup (pe_tup (pa_cons (pe_tup (pa_cons (pv 7) (pa_cons (pv 8) pa_nil))) (pa_cons (pe_tup (pa_cons (pv 8) (pa_cons (pv 7) pa_nil))) pa_nil)))) (pg_tup (by rfl) (pgs_cons (pg_name (i := 12) nd rfl (Or.inl rfl)) (pgs_cons (pg_name (i := 13) nd rfl (Or.inl rfl)) pgs_nil)))
              (pss_one (ps_if (PW.pt (pw_and (pt_cmpR op_in_seq (pv 12) (pv 11) (by rfl)) (pw_and (pt_cmpR op_in_seq (pv 13) (pv 10) (by rfl)) (pw_and (pt_cmpR op_eq (pe_ix ix_list (pv 4) (pv 13) (fun _ _ => rfl)) (pe_ix ix_list (pv 4) (pv 12) (fun _ _ => rfl)) (nomark _)) (pw_and1 (pt_cmpR op_ge (pe_ix ix_list (pv 4) (pv 12) (fun _ _ => rfl)) pe_int (nomark _))))))) (pss_cons (ps_expr (pe_bm PySem.F.plainAttrs_list PySem.F.slot_list_append PySem.F.type_list_append mt_append (pv 11) (pa_cons (pv 13) pa_nil)))
                (pss_one (ps_expr (pe_bm PySem.F.plainAttrs_list PySem.F.slot_list_remove PySem.F.type_list_remove mt_remove (pv 10) (pa_cons (pv 13) pa_nil))))) pss_nil)))))))
        (pss_one (ps_expr (pe_bm PySem.F.plainAttrs_list PySem.F.slot_list_append PySem.F.type_list_append mt_append (pv 9) (pa_cons (pe_tupleOf rfl B.tuple (pe_callB cr_sorted (by rfl) B.sorted (by decide +kernel) (pa_cons (pv 11) pa_nil))) pa_nil)))))))
      (pss_one (ps_ret (pe_tupleOf rfl B.tuple (pe_callB (cr_sortDt hr.units) (by rfl) B.sorted (by decide +kernel) (pa_cons (pv 9) pa_nil)))))))))), ?_⟩
    have hnL : noL (landD fs bs) = true := by
      show noLs [PyData.tuple (fs.map .int), bordD bs] = true
      have e1 : noL (PyData.tuple (fs.map .int)) = true := noLs_map PyData.int (fun _ => rfl) fs
      have e2 : noL (bordD bs) = true := noLs_map (fun b : Nat × Nat => PyData.tuple [.int (b.1 : Int), .int (b.2 : Int)]) (fun _ => rfl) bs
      simp only [noLs, e1, e2, Bool.and_self]
    obtain ⟨la, lxs, rfl, h1, h2⟩ := dp_tup hl
    cases h2 with
    | @cons v1 _ _ _ d1 h2 =>
    cases h2 with
    | @cons v2 _ _ _ d2 h3 =>
    cases h3
    obtain ⟨fa, rfl, hfa⟩ := dp_ints d1
    obtain ⟨ba, ys, rfl, s2, hys⟩ := dp_tup d2
    have hyl := dpAll_len hys
    rw [List.length_map] at hyl
    have hfl : (fs.map V.int).length = fs.length := List.length_map _
    have h12 := ok.most
    have h2n := ok.few
    have hsl : 1000 ≤ sizeLine := by decide
    refine ⟨_, rfl, la, _, _, _, rfl, rfl, h1, atI_nat (j := 0) rfl, _, fs.length, rfl, .inr ⟨_, hfa, hfl.symm⟩, ?_⟩
    dsimp only [gName, tSeq, List.set, L2.start, List.map, List.replicate, List.append, List.length]
    generalize hM : fs.length = M at k h12 h2n ⊢
    have lset : ∀ (os : List Int) (j : Nat) (m : Int), (os.map V.int).set j (.int m) = (os.set j m).map V.int := fun os j m => by rw [List.map_set]
    refine ⟨_, rfl, _, rfl, _, _, rfl, jar, min 4 M, ?_, hj, by omega, by omega, fun n H1 hn x1 hj1 => ?_⟩
    · have e : (if (M : Int) < 4 then (M : Int) else 4) = ((min 4 M : Nat) : Int) := by split <;> omega
      show [V.ref jar, V.int (if (M : Int) < 4 then (M : Int) else 4)] = _
      rw [e]
    refine ⟨_, _, rfl, rfl, _, rfl, by show 1 ≤ sizeLine; omega, fun p0 hp0 => ?_⟩
    refine ⟨_, rfl, p0, (M : Int), _, rfl, rfl, upd_same, by omega, by omega, ?_, fun ow how => ⟨_, _, rfl, ?_⟩⟩
    · rw [Int.toNat_natCast, List.length_singleton]
      omega
    have how1 : H1 ow = none := (Ext.new hp0).free how
    have howH : H ow = none := x1.free how1
    have eo : (List.replicate (M : Int).toNat [V.int (-1)]).flatten = (List.replicate M (-1 : Int)).map V.int := by
      rw [Int.toNat_natCast, List.map_replicate, List.flatten_replicate_singleton]
    have xb : ExtS [jar] H (upd (upd H1 p0 (.lst [.int (-1)])) ow (.lst (List.replicate (M : Int).toNat [V.int (-1)]).flatten)) := x1.trans (.of ((Ext.new hp0).trans (.new how)))
    have hjb : JarAt (upd (upd H1 p0 (.lst [.int (-1)])) ow (.lst (List.replicate (M : Int).toNat [V.int (-1)]).flatten)) jar := hj1.ext ((Ext.new hp0).trans (.new how))
    have eow : (upd (upd H1 p0 (.lst [.int (-1)])) ow (.lst (List.replicate (M : Int).toNat [V.int (-1)]).flatten)) ow = some (.lst ((List.replicate M (-1 : Int)).map V.int)) := by rw [upd_same, eo]
    have hoj : ow ∉ [jar] := hj1.notin how1
    have hwj : ow ≠ jar := fun e => hoj (by rw [e]; exact List.mem_singleton.mpr rfl)
    dsimp only [tNext, tSeq, gName, List.set]
    generalize upd (upd H1 p0 (.lst [.int (-1)])) ow (.lst (List.replicate (M : Int).toNat [V.int (-1)]).flatten) = H2 at xb hjb eow ⊢
    refine ⟨_, rfl, _, rfl, by omega, by omega, for_range (lo := 0) (n := (1 + (n : Int)).toNat) (fun i σ G => ∃ (o5 : Option V) (os : List Int), σ = [some (.ref jar), some (.ref la), some (.int (M : Int)), some (.int (1 + (n : Int))), some (.ref ow), o5, none, none, none, none, none, none, none, none] ∧ G ow = some (.lst (os.map V.int)) ∧ os.length = M ∧ ExtS [jar] H G ∧ JarAt G jar)
      ⟨none, _, rfl, eow, List.length_replicate, xb, hjb⟩ (fun i σ G hi ⟨o5, os, e, g1, g2, g3, g4⟩ => ?_) (fun σ G ⟨o5, os, e, g1, g2, g3, g4⟩ => ?_)⟩
    · subst e
      refine ⟨_, rfl, _, rfl, _, rfl, _, rfl, jar, M, rfl, g4, by omega, by omega, fun c G2 hc x2 hj2 => ?_⟩
      refine ⟨ow, _, _, c, rfl, rfl, x2.lst hoj g1, ixN_nat (by rw [List.length_map]; omega), _, os.set c (0 + (i : Int)), rfl, by rw [upd_same, lset], by rw [List.length_set]; exact g2, (g3.trans x2).write (.inl howH), hj2.upd hwj⟩
    subst e
    dsimp only [tSeq]
    let I1 : Hp → Prop := fun G => ∃ os : List Int, G ow = some (.lst (os.map V.int)) ∧ os.length = M ∧ ExtS [jar] H G ∧ JarAt G jar
    have hI1 : I1 G := ⟨os, g1, g2, g3, g4⟩
    refine ⟨_, rfl, _, _, rfl, rfl, .inl ⟨by omega, by omega⟩, _, rfl, by omega, by omega, for_range (lo := 0) (n := (3 * (M : Int)).toNat) (fun i σ G => ∃ (o6 o7 o8 : Option V), σ = [some (.ref jar), some (.ref la), some (.int (M : Int)), some (.int (1 + (n : Int))), some (.ref ow), o5, o6, o7, o8, none, none, none, none, none] ∧ I1 G)
      ⟨none, none, none, rfl, hI1⟩ (fun i σ G hi ⟨o6, o7, o8, e, hG⟩ => ?_) (fun σ G ⟨o6, o7, o8, e, hG⟩ => ?_)⟩
    · subst e
      obtain ⟨os, g1, g2, g3, g4⟩ := id hG
      refine ⟨_, rfl, la, _, _, _, rfl, rfl, g3.sqT h1, atI_nat (j := 1) rfl, ba, rfl, ⟨_, g3.sqT s2⟩, for_tup (K := K) (a := ba) (xs := ys) (fun j σ G => ∃ (o7 o8 : Option V), σ = [some (.ref jar), some (.ref la), some (.int (M : Int)), some (.int (1 + (n : Int))), some (.ref ow), o5, some (.int (0 + (i : Int))), o7, o8, none, none, none, none, none] ∧ I1 G)
        ⟨o7, o8, rfl, hG⟩ (fun j σ G _ ⟨_, _, _, os, _, _, x, _⟩ => x.sqT s2) (fun j v σ G hv ⟨o7, o8, e, os, g1, g2, g3, g4⟩ => ?_) (fun σ G ⟨o7, o8, e, hG⟩ => ⟨_, o7, o8, e, hG⟩)⟩
      subst e
      obtain ⟨dy, hdy, hpy⟩ := dpAll_get' hys hv
      have hi2 := (List.getElem?_eq_some_iff.mp hv).1
      have hbi := List.getElem?_eq_getElem (show j < bs.length by omega)
      rw [List.getElem?_map, hbi] at hdy
      obtain rfl := Option.some.inj hdy
      have hbm := List.getElem_mem (show j < bs.length by omega)
      generalize bs[j] = cd at hpy hbm
      obtain ⟨c, d⟩ := cd
      have hcd : c < d ∧ d < M := by have := ok.bord (c, d) hbm; rw [hM] at this; exact this
      obtain ⟨pb, rfl, hb2⟩ := dp_lot (ps := [c, d]) hpy
      have ati : ∀ q, q < M → ∃ z : Int, (os.map V.int)[q]? = some (.int z) := fun q hq => ⟨os[q], by rw [List.getElem?_map, List.getElem?_eq_getElem]; rfl⟩
      obtain ⟨zc, hzc⟩ := ati c (by omega)
      obtain ⟨zd, hzd⟩ := ati d (by omega)
      refine ⟨pb, _, rfl, g3.sqT hb2, rfl, _, _, rfl, _, _, rfl, rfl, ?_⟩
      have hno : ∃ (o7' o8' : Option V), [some (V.ref jar), some (.ref la), some (.int (M : Int)), some (.int (1 + (n : Int))), some (.ref ow), o5, some (.int (0 + (i : Int))), some (.int (c : Int)), some (.int (d : Int)), none, none, none, none, none] = [some (.ref jar), some (.ref la), some (.int (M : Int)), some (.int (1 + (n : Int))), some (.ref ow), o5, some (.int (0 + (i : Int))), o7', o8', none, none, none, none, none] := ⟨_, _, rfl⟩
      refine ⟨_, rfl, _, rfl, ow, _, _, _, rfl, rfl, SqL.of g1, atI_nat hzc, _, _, rfl, rfl, _, rfl, _, rfl, ow, _, _, _, rfl, rfl, SqL.of g1, atI_nat hzd, _, _, rfl, rfl, rfl, _, rfl, ?_⟩
      generalize (!decide (V.bl (decide (zc < 0)) = V.bl (decide (zd < 0)))) = b1
      cases b1 with
      | false => exact iteF (iteF ⟨_, _, rfl, os, g1, g2, g3, g4⟩)
      | true =>
        refine iteT ⟨_, rfl, jar, 3, rfl, g4, by decide, by decide, fun v G2 hv x2 hj2 => ⟨_, _, rfl, rfl, _, rfl, ?_⟩⟩
        generalize decide ((0 : Int) < (v : Int)) = b2
        cases b2 with
        | false => exact iteF ⟨_, _, rfl, os, x2.lst hoj g1, g2, g3.trans x2, hj2⟩
        | true =>
          have g1' := x2.lst hoj g1
          refine iteT ⟨_, rfl, _, rfl, ow, _, _, _, rfl, rfl, SqL.of g1', atI_nat hzc, _, rfl, _, rfl, ow, _, _, _, rfl, rfl, SqL.of g1', atI_nat hzd, _, _, rfl, ?_⟩
          refine ⟨_, rfl, _, rfl, ow, _, _, _, rfl, rfl, SqL.of g1', atI_nat hzc, _, rfl, _, rfl, ow, _, _, _, rfl, rfl, SqL.of g1', atI_nat hzd, _, _, rfl, by show 2 ≤ sizeLine; omega, fun t ht => ?_⟩
          generalize (if zd > zc then zd else zc) = zm
          have g1t := (Ext.new ht (o := .tup [.int zm, .int zm])).lst g1'
          refine ⟨t, _, rfl, SqT.of upd_same, rfl, _, _, rfl, _, rfl, _, rfl, ow, _, _, c, rfl, rfl, g1t, ixN_nat (by rw [List.length_map]; omega), _, _, rfl, _, rfl, _, rfl, ow, _, _, d, rfl, rfl, upd_same, ixN_nat (by rw [List.length_set, List.length_map]; omega), rfl, ?_⟩
          refine ⟨_, _, rfl, (os.set c zm).set d zm, ?_, by rw [List.length_set, List.length_set]; exact g2, (((g3.trans x2).trans (.new ht)).write (.inl howH)).write (.inl howH), ((hj2.ext (.new ht)).upd hwj).upd hwj⟩
          rw [upd_same, lset, lset]
    subst e
    obtain ⟨os, g1, g2, g3, g4⟩ := hG
    dsimp only [tSeq]
    refine ⟨Nat.zero_le _, fun L hL => ⟨_, rfl, (M : Int), rfl, ⟨by omega, by omega, by omega, by omega, by omega⟩, fun Rr hR => ⟨_, _, rfl, ?_⟩⟩⟩
    have hLR : L ≠ Rr := ne_of_none upd_same hR
    have hLG : G L = none := hL
    have hRG : G Rr = none := (Ext.new hL).free hR
    have hLH : H L = none := g3.free hLG
    have hRH : H Rr = none := g3.free hRG
    have xx : Ext G (upd (upd G L (.lst [])) Rr (.lst (rgV 0 (M : Int)))) := (Ext.new hL).trans (.new hR)
    have e1 := xx.lst g1
    have e2 : (upd (upd G L (.lst [])) Rr (.lst (rgV 0 (M : Int)))) L = some (.lst []) := by rw [upd_ne hLR, upd_same]
    have e3 : (upd (upd G L (.lst [])) Rr (.lst (rgV 0 (M : Int)))) Rr = some (.lst (vsN (List.range M))) := by rw [upd_same, rgV_nat]
    have x3 := g3.trans (.of xx)
    have hj3 := g4.ext xx
    have hwL : ow ≠ L := ne_of_none g1 hLG
    have hwR : ow ≠ Rr := ne_of_none g1 hRG
    have hLj : L ≠ jar := fun e => g4.notin hLG (by rw [e]; exact List.mem_singleton.mpr rfl)
    have hRj : Rr ≠ jar := fun e => g4.notin hRG (by rw [e]; exact List.mem_singleton.mpr rfl)
    dsimp only [tNext, tSeq, gName, List.set]
    generalize upd (upd G L (.lst [])) Rr (.lst (rgV 0 (M : Int))) = G3 at e1 e2 e3 x3 hj3 ⊢
    clear xx hL hR hLG hRG g1 g3 g4 hI1
    have hnZ : ∀ us : List (List Nat), noLs (us.map lotD) = true := noLs_map lotD fun u => noLs_map _ (fun _ => rfl) u
    have vl : ∀ l : List Nat, (vsN l).length = l.length := fun l => List.length_map _
    have ato : ∀ q, q < M → ∃ z : Int, (os.map V.int)[q]? = some (.int z) := fun q hq => ⟨os[q], by rw [List.getElem?_map, List.getElem?_eq_getElem]; rfl⟩
    refine via (fun σ G => ∃ (zs : List (List Nat)) (vs : List V) (o6 o7 o8 o11 o12 o13 : Option V), σ = [some (.ref jar), some (.ref la), some (.int (M : Int)), some (.int (1 + (n : Int))), some (.ref ow), o5, o6, o7, o8, some (.ref L), some (.ref Rr), o11, o12, o13] ∧ G L = some (.lst vs) ∧ DpAll K G vs (zs.map lotD) ∧ ExtS [jar] H G ∧ JarAt G jar ∧ GoodP M bs zs) (fun σ4 G4 hJ => ?_) (fun nx hnx => ?_)
    rotate_left
    · refine while_by (fun σ G => ∃ (zs : List (List Nat)) (vs : List V) (rs : List Nat) (o6 o7 o8 o11 o12 o13 : Option V), σ = [some (.ref jar), some (.ref la), some (.int (M : Int)), some (.int (1 + (n : Int))), some (.ref ow), o5, o6, o7, o8, some (.ref L), some (.ref Rr), o11, o12, o13] ∧ G ow = some (.lst (os.map V.int)) ∧ G L = some (.lst vs) ∧ DpAll K G vs (zs.map lotD) ∧ G Rr = some (.lst (vsN rs)) ∧ ExtS [jar] H G ∧ JarAt G jar ∧ (zs.flatten ++ rs).Perm (List.range M) ∧ (∀ u ∈ zs, LotOk M u ∧ Hangs bs u))
        (fun _ G => match G Rr with
          | some (.lst xs) => xs.length
          | _ => 0) ⟨[], [], List.range M, o6, o7, o8, none, none, none, rfl, e1, e2, .nil, e3, x3, hj3, by simp, (fun u hu => nomatch hu)⟩ ?_ ?_
      · rintro σ G ⟨zs, vs, rs, o6, o7, o8, o11, o12, o13, rfl, f1, f2, f3, f4, f5, f6, f7, f8⟩
        have hmu : (match G Rr with | some (.lst xs) => xs.length | _ => 0) = rs.length := by
          rw [f4]
          exact vl rs
        rw [hmu]
        clear hmu
        refine ⟨_, rfl, Nat.zero_le _, fun z hz => ?_⟩
        obtain ⟨d, d', q1, q2, q3, q4, q5⟩ := nil_ne (K := K) (H := upd G z (.lst [])) (D := Rr) (z := z) rs ((Ext.new hz).lst f4) upd_same
        refine ⟨d, d', q1, q2, q3, q4, _, rfl, ?_⟩
        rw [q5]
        have xz : Ext G (upd G z (.lst [])) := .new hz
        have f1 := xz.lst f1
        have f2 := xz.lst f2
        have f3 := dpAll_ext xz f3
        have f4 := xz.lst f4
        have f5 := f5.trans (.of xz)
        have f6 := f6.ext xz
        generalize upd G z (.lst []) = G1 at f1 f2 f3 f4 f5 f6 ⊢
        clear q1 q2 q3 q4 q5 xz hz
        cases rs with
        | nil =>
          rw [List.append_nil] at f7
          exact iteF (hnx _ _ ⟨zs, vs, _, _, _, _, _, _, rfl, f2, f3, f5, f6, ⟨f8, f7⟩⟩)
        | cons h rs =>
          refine iteT ?_
          dsimp only [tSeq]
          refine ⟨_, rfl, .inl ⟨rfl, _, SqL.of f4⟩, Rr, _, 0, 0, _, rfl, rfl, f4, by decide, by decide, by simp [seqIndex?], rfl, by show 1 ≤ sizeLine; omega, fun Al hA => ?_⟩
          have hA0 : (upd G1 Rr (.lst (vsN rs))) Al = none := hA
          have eA : (upd (upd G1 Rr (.lst (vsN rs))) Al (.lst [.int (h : Int)])) Al = some (.lst (vsN [h])) := upd_same
          have hAR : Al ≠ Rr := fun e => by rw [e, upd_same] at hA0; cases hA0
          have hAG1 : G1 Al = none := by rw [upd_ne hAR] at hA0; exact hA0
          have hAw : Al ≠ ow := fun e => by rw [e, f1] at hAG1; cases hAG1
          have hAL : Al ≠ L := fun e => by rw [e, f2] at hAG1; cases hAG1
          have hAH : H Al = none := f5.free hAG1
          have hAj : Al ≠ jar := fun e => f6.notin hAG1 (by rw [e]; exact List.mem_singleton.mpr rfl)
          have g1 : (upd (upd G1 Rr (.lst (vsN rs))) Al (.lst [.int (h : Int)])) ow = some (.lst (os.map V.int)) := by rw [upd_ne (fun e => hAw e.symm), upd_ne hwR]; exact f1
          have g2' : (upd (upd G1 Rr (.lst (vsN rs))) Al (.lst [.int (h : Int)])) L = some (.lst vs) := by rw [upd_ne (fun e => hAL e.symm), upd_ne hLR]; exact f2
          have g4 : (upd (upd G1 Rr (.lst (vsN rs))) Al (.lst [.int (h : Int)])) Rr = some (.lst (vsN rs)) := by rw [upd_ne (fun e => hAR e.symm), upd_same]
          have y1 : ExtS [Rr] G1 (upd G1 Rr (.lst (vsN rs))) := (ExtS.refl _ _).write (.inr ⟨by simp, _, f4⟩)
          have g3 : DpAll K (upd (upd G1 Rr (.lst (vsN rs))) Al (.lst [.int (h : Int)])) vs (zs.map lotD) := dpAll_ext (.new hA0) (dpAll_extS y1 (hnZ zs) f3)
          have g5 : ExtS [jar] H (upd (upd G1 Rr (.lst (vsN rs))) Al (.lst [.int (h : Int)])) := (f5.write (.inl hRH)).trans (.new hA0)
          have g6 : JarAt (upd (upd G1 Rr (.lst (vsN rs))) Al (.lst [.int (h : Int)])) jar := (f6.upd hRj).ext (.new hA0)
          have lb0 : Lb bs M zs [h] rs h := ⟨f7, by simp, fun x hx => by rw [List.mem_singleton.mp hx]; exact .refl (by simp)⟩
          dsimp only [gName, List.set]
          show tSeq _ _ _ _ (upd (upd G1 Rr (.lst (vsN rs))) Al (.lst [.int (h : Int)]))
          generalize upd (upd G1 Rr (.lst (vsN rs))) Al (.lst [.int (h : Int)]) = G2 at eA g1 g2' g3 g4 g5 g6 ⊢
          clear hA hA0 y1 f1 f2 f3 f4 f5 f6
          let J : List Nat → List Nat → Hp → Prop := fun u rs' G => G Al = some (.lst (vsN u)) ∧ G ow = some (.lst (os.map V.int)) ∧ G L = some (.lst vs) ∧ DpAll K G vs (zs.map lotD) ∧ G Rr = some (.lst (vsN rs')) ∧ ExtS [jar] H G ∧ JarAt G jar ∧ Lb bs M zs u rs' h ∧ rs'.length ≤ rs.length
          have J0 : J [h] rs G2 := ⟨eA, g1, g2', g3, g4, g5, g6, lb0, Nat.le_refl _⟩
          let St : Option V → Option V → Option V → Option V → Option V → L2.St := fun o6 o7 o8 o12 o13 => [some (.ref jar), some (.ref la), some (.int (M : Int)), some (.int (1 + (n : Int))), some (.ref ow), o5, o6, o7, o8, some (.ref L), some (.ref Rr), some (.ref Al), o12, o13]
          dsimp only [tSeq]
          refine ⟨_, rfl, _, rfl, by omega, by omega, for_range (lo := 0) (n := (M : Int).toNat) (fun i σ G => ∃ (o6 o7 o8 o12 o13 : Option V) (u rs' : List Nat), σ = St o6 o7 o8 o12 o13 ∧ J u rs' G)
            ⟨o6, o7, o8, o12, o13, [h], rs, rfl, J0⟩ (fun i σ G hi ⟨o6, o7, o8, o12, o13, u, rs', e, hJ⟩ => ?_) (fun σ G ⟨o6, o7, o8, o12, o13, u, rs', e, hJ⟩ => ?_)⟩
          · subst e
            refine ⟨_, rfl, la, _, _, _, rfl, rfl, hJ.2.2.2.2.2.1.sqT h1, atI_nat (j := 1) rfl, ba, rfl, ⟨_, hJ.2.2.2.2.2.1.sqT s2⟩, for_tup (K := K) (a := ba) (xs := ys) (fun j σ G => ∃ (o6 o7 o8 o12 o13 : Option V) (u rs' : List Nat), σ = St o6 o7 o8 o12 o13 ∧ J u rs' G)
              ⟨_, o7, o8, o12, o13, u, rs', rfl, hJ⟩ (fun j σ G _ ⟨_, _, _, _, _, _, _, _, hJ⟩ => hJ.2.2.2.2.2.1.sqT s2) (fun j v σ G hv ⟨o6, o7, o8, o12, o13, u, rs', e, hJ⟩ => ?_) (fun σ G hq => hq)⟩
            subst e
            obtain ⟨dy, hdy, hpy⟩ := dpAll_get' hys hv
            have hi2 := (List.getElem?_eq_some_iff.mp hv).1
            have hbi := List.getElem?_eq_getElem (show j < bs.length by omega)
            rw [List.getElem?_map, hbi] at hdy
            obtain rfl := Option.some.inj hdy
            have hbm := List.getElem_mem (show j < bs.length by omega)
            generalize bs[j] = cd at hpy hbm
            obtain ⟨c, d⟩ := cd
            have hcd : c < d ∧ d < M := by have := ok.bord (c, d) hbm; rw [hM] at this; exact this
            have hadj := adj_pair hbm hcd.1
            obtain ⟨pb, rfl, hb2⟩ := dp_lot (ps := [c, d]) hpy
            obtain ⟨k1, k2, k3, k4, k5, k6, k7, k8, k9⟩ := hJ
            refine ⟨pb, _, rfl, k6.sqT hb2, rfl, _, _, rfl, _, _, rfl, rfl, ?_⟩
            refine ⟨_, rfl, _, rfl, by show 2 ≤ sizeLine; omega, fun t1 ht1 => ⟨_, rfl, _, rfl, by show 2 ≤ sizeLine; omega, fun t2 ht2 => ⟨by show 2 ≤ sizeLine; omega, fun t3 ht3 => ?_⟩⟩⟩
            have xt : Ext G (upd (upd (upd G t1 (.tup [.int (c : Int), .int (d : Int)])) t2 (.tup [.int (d : Int), .int (c : Int)])) t3 (.tup [.ref t1, .ref t2])) := ((Ext.new ht1).trans (.new ht2)).trans (.new ht3)
            have et1 := ((Ext.new ht2).trans (Ext.new ht3 (o := .tup [.ref t1, .ref t2]))).tup (upd_same : (upd G t1 (.tup [.int (c : Int), .int (d : Int)])) t1 = _)
            have et2 := (Ext.new ht3 (o := .tup [.ref t1, .ref t2])).tup (upd_same : (upd (upd G t1 (.tup [.int (c : Int), .int (d : Int)])) t2 (.tup [.int (d : Int), .int (c : Int)])) t2 = _)
            have et3 : (upd (upd (upd G t1 (.tup [.int (c : Int), .int (d : Int)])) t2 (.tup [.int (d : Int), .int (c : Int)])) t3 (.tup [.ref t1, .ref t2])) t3 = some (.tup [.ref t1, .ref t2]) := upd_same
            generalize (upd (upd (upd G t1 (.tup [.int (c : Int), .int (d : Int)])) t2 (.tup [.int (d : Int), .int (c : Int)])) t3 (.tup [.ref t1, .ref t2])) = G5 at xt et1 et2 et3 ⊢
            have J5 : J u rs' G5 := ⟨xt.lst k1, xt.lst k2, xt.lst k3, dpAll_ext xt k4, xt.lst k5, k6.trans (.of xt), k7.ext xt, k8, k9⟩
            refine ⟨t3, rfl, ⟨_, SqT.of et3⟩, for_tup (K := K) (a := t3) (xs := [.ref t1, .ref t2]) (fun m σ G => ∃ (o6 o7 o8 o12 o13 : Option V) (u rs' : List Nat), σ = St o6 o7 o8 o12 o13 ∧ J u rs' G ∧ G t1 = some (.tup [.int (c : Int), .int (d : Int)]) ∧ G t2 = some (.tup [.int (d : Int), .int (c : Int)]) ∧ G t3 = some (.tup [.ref t1, .ref t2]))
              ⟨_, _, _, o12, o13, u, rs', rfl, J5, et1, et2, et3⟩ (fun m σ G _ ⟨_, _, _, _, _, _, _, _, _, _, _, h⟩ => SqT.of h) (fun m v σ G hv ⟨o6, o7, o8, o12, o13, u, rs', e, hJ, b1, b2, b3⟩ => ?_) (fun σ G ⟨o6, o7, o8, o12, o13, u, rs', e, hJ, _⟩ => ⟨_, _, _, _, _, _, _, e, hJ⟩)⟩
            subst e
            obtain ⟨tt, ei, fj, rfl, htt, hef, hei, hfj⟩ : ∃ (tt : Addr) (ei fj : Nat), v = .ref tt ∧ G tt = some (.tup [.int (ei : Int), .int (fj : Int)]) ∧ Mk.adj bs ei fj = true ∧ ei < M ∧ fj < M := by
              have := List.mem_of_getElem? hv
              simp only [List.mem_cons, List.not_mem_nil, or_false] at this
              rcases this with rfl | rfl
              · exact ⟨t1, c, d, rfl, b1, hadj, by omega, hcd.2⟩
              · exact ⟨t2, d, c, rfl, b2, by rw [Mk.adj_comm]; exact hadj, hcd.2, by omega⟩
            obtain ⟨k1, k2, k3, k4, k5, k6, k7, k8, k9⟩ := hJ
            obtain ⟨ze, hze⟩ := ato ei hei
            obtain ⟨zf, hzf⟩ := ato fj hfj
            refine ⟨tt, _, rfl, SqT.of htt, rfl, _, _, rfl, _, _, rfl, rfl, ?_⟩
            have skip : ∃ (o6' o7' o8' o12' o13' : Option V) (u' rs'' : List Nat), St o6 o7 o8 (some (.int (ei : Int))) (some (.int (fj : Int))) = St o6' o7' o8' o12' o13' ∧ J u' rs'' G ∧ G t1 = some (.tup [.int (c : Int), .int (d : Int)]) ∧ G t2 = some (.tup [.int (d : Int), .int (c : Int)]) ∧ G t3 = some (.tup [.ref t1, .ref t2]) := ⟨_, _, _, _, _, u, rs', rfl, ⟨k1, k2, k3, k4, k5, k6, k7, k8, k9⟩, b1, b2, b3⟩
            refine ⟨_, rfl, _, rfl, Al, vsN u, rfl, .inl (SqL.of k1), rfl, flat_vsN u, _, rfl, ?_⟩
            rw [if_neg Bool.false_ne_true, inV_vsN]
            by_cases he : ei ∈ u
            rotate_left
            · rw [decide_eq_false he]
              exact iteF (iteF skip)
            rw [decide_eq_true he]
            refine iteT ⟨_, rfl, _, rfl, Rr, vsN rs', rfl, .inl (SqL.of k5), rfl, flat_vsN rs', _, rfl, ?_⟩
            rw [if_neg Bool.false_ne_true, inV_vsN]
            by_cases hf : fj ∈ rs'
            rotate_left
            · rw [decide_eq_false hf]
              exact iteF (iteF skip)
            rw [decide_eq_true hf]
            refine iteT ⟨_, rfl, _, rfl, ow, _, _, _, rfl, rfl, SqL.of k2, atI_nat hzf, _, rfl, _, rfl, ow, _, _, _, rfl, rfl, SqL.of k2, atI_nat hze, rfl, _, rfl, ?_⟩
            generalize decide (V.int zf = V.int ze) = bb1
            cases bb1 with
            | false => exact iteF (iteF skip)
            | true =>
              refine iteT ⟨_, rfl, _, rfl, ow, _, _, _, rfl, rfl, SqL.of k2, atI_nat hze, _, _, rfl, rfl, _, rfl, ?_⟩
              generalize decide ((0 : Int) ≤ ze) = bb2
              cases bb2 with
              | false => exact iteF skip
              | true =>
                have hul : u.length ≤ 12 ∧ rs'.length ≤ 12 := by
                  have := k8.perm.length_eq
                  rw [List.length_append, List.length_append, List.length_range] at this
                  omega
                refine iteT ⟨_, rfl, .inl ⟨rfl, _, SqL.of k1⟩, _, rfl, Al, _, _, rfl, rfl, k1, by rw [vl]; omega, ?_⟩
                have r5 : (upd G Al (.lst (vsN u ++ [.int (fj : Int)]))) Rr = some (.lst (vsN rs')) := by rw [upd_ne (fun e => hAR e.symm)]; exact k5
                obtain ⟨jj, hjj, ejj⟩ := List.mem_iff_getElem.mp hf
                have hjg : rs'[jj]? = some fj := by rw [List.getElem?_eq_getElem hjj, ejj]
                have hndr : rs'.Nodup := (List.nodup_append.mp k8.nd).2.1
                refine ⟨_, rfl, .inl ⟨rfl, _, SqL.of r5⟩, _, rfl, Rr, rs'.map (fun (p : Nat) => (p : Int)), (fj : Int), jj, rfl, rfl, by rw [vsN_int]; exact r5, by rw [List.getElem?_map, hjg]; rfl, fun m hm e => ?_, ?_⟩
                · rw [List.getElem?_map] at e
                  obtain ⟨x, hx, ex⟩ := Option.map_eq_some_iff.mp e
                  obtain ⟨hmx, hmx2⟩ := List.getElem?_eq_some_iff.mp hx
                  have heq : rs'[m] = rs'[jj] := by rw [hmx2, ejj]; omega
                  exact (List.pairwise_iff_getElem.mp hndr) m jj hmx hjj hm heq
                have er : ((rs'.map (fun (p : Nat) => (p : Int))).eraseIdx jj).map V.int = vsN (rs'.eraseIdx jj) := by rw [erase_mapN, vsN_int]
                rw [er]
                have yA : ExtS [Al] G (upd G Al (.lst (vsN u ++ [.int (fj : Int)]))) := (ExtS.refl _ _).write (.inr ⟨by simp, _, k1⟩)
                have yR : ExtS [Rr] (upd G Al (.lst (vsN u ++ [.int (fj : Int)]))) (upd (upd G Al (.lst (vsN u ++ [.int (fj : Int)]))) Rr (.lst (vsN (rs'.eraseIdx jj)))) := (ExtS.refl _ _).write (.inr ⟨by simp, _, r5⟩)
                refine ⟨_, _, _, _, _, u ++ [fj], rs'.eraseIdx jj, rfl, ⟨?_, ?_, ?_, dpAll_extS yR (hnZ zs) (dpAll_extS yA (hnZ zs) k4), upd_same, (k6.write (.inl hAH)).write (.inl hRH), (k7.upd hAj).upd hRj, k8.push he hjg hef, ?_⟩, yR.tup (yA.tup b1), yR.tup (yA.tup b2), yR.tup (yA.tup b3)⟩
                · rw [upd_ne hAR, upd_same, vsN_app]
                · rw [upd_ne hwR, upd_ne (fun e => hAw e.symm)]; exact k2
                · rw [upd_ne hLR, upd_ne (fun e => hAL e.symm)]; exact k3
                · have := List.length_eraseIdx_le rs' jj
                  omega
          subst e
          obtain ⟨k1, k2, k3, k4, k5, k6, k7, k8, k9⟩ := hJ
          have hzl := rows_len k4
          have hlen : zs.flatten.length + (u.length + rs'.length) = M := by
            have := k8.perm.length_eq
            rw [List.length_append, List.length_append, List.length_range] at this
            exact this
          have hzf := flat_len (rows := zs) fun w hw => (f8 w hw).1.ne
          refine ⟨_, rfl, .inl ⟨rfl, _, SqL.of k3⟩, _, rfl, Al, u.map (fun (p : Nat) => (p : Int)), rfl, SqL.of (by rw [vsN_int]; exact k1), by rw [List.length_map]; omega, fun ns p hp1 hp2 hp => .inl ⟨p, _, rfl, SqL.of upd_same, fun q hq => ?_⟩⟩
          obtain ⟨xs, hx1, rfl⟩ := perm_unmap (fun (p : Nat) => (p : Int)) hp1 rfl
          have hx2 : xs.Pairwise (· ≤ ·) := by
            rw [List.pairwise_map] at hp2
            exact hp2.imp fun h => by omega
          rw [vsN_int] at hq ⊢
          have xq : Ext G (upd (upd G p (.lst (vsN xs))) q (.tup (vsN xs))) := (Ext.new hp).trans (.new hq)
          have eq : (upd (upd G p (.lst (vsN xs))) q (.tup (vsN xs))) q = some (.tup (vsN xs)) := upd_same
          generalize upd (upd G p (.lst (vsN xs))) q (.tup (vsN xs)) = G8 at xq eq ⊢
          have yL : ExtS [L] G8 (upd G8 L (.lst (vs ++ [.ref q]))) := (ExtS.refl _ _).write (.inr ⟨by simp, _, xq.lst k3⟩)
          refine ⟨L, vs, _, rfl, rfl, xq.lst k3, by omega, ⟨zs ++ [xs], vs ++ [.ref q], rs', o6, o7, o8, _, o12, o13, rfl, ?_, upd_same, ?_, ?_, (k6.trans (.of xq)).write (.inl hLH), (k7.ext xq).upd hLj, ?_, fun w hw => ?_⟩, ?_⟩
          · rw [upd_ne hwL]; exact xq.lst k2
          · rw [List.map_append]
            exact dpAll_app (dpAll_extS yL (hnZ zs) (dpAll_ext xq k4)) (.cons (.tup (SqT.of (yL.tup eq)) (dpAll_lot xs)) .nil)
          · rw [upd_ne (fun e => hLR e.symm)]; exact xq.lst k5
          · rw [List.flatten_append, List.flatten_singleton, List.append_assoc]
            exact (List.Perm.append_left _ (hx1.append_right _)).trans k8.perm
          · rcases List.mem_append.mp hw with hw | hw
            · exact f8 w hw
            · rw [List.mem_singleton.mp hw]
              exact k8.lot hx1 hx2
          · have e9 : (upd G8 L (.lst (vs ++ [.ref q]))) Rr = some (.lst (vsN rs')) := by rw [upd_ne (fun e => hLR e.symm)]; exact xq.lst k5
            rw [e9]
            show (vsN rs').length < (h :: rs).length
            rw [vl, List.length_cons]
            omega
      · exact mt_test (me_op m2_neD (me_var 10) me_nil)
    obtain ⟨zs, vs, o6, o7, o8, o11, o12, o13, rfl, f2, f3, f5, f6, f7⟩ := hJ
    obtain ⟨ws, hp1, hp2, hp3⟩ := f7.sort
    have hzl := rows_len f3
    have hzf := flat_len (rows := zs) fun w hw => (f7.lots w hw).1.ne
    have hfl2 := f7.perm.length_eq
    rw [List.length_range] at hfl2
    refine ⟨_, rfl, L, vs, zs.map lotD, rfl, SqL.of f2, f3, allAlike_lots _, sortable_lots fun u hu => (f7.lots u hu).1.ne, by rw [List.length_map]; omega, depth_lots, fun zs' es p hz hpe hpw hp => ?_⟩
    have ee := sorted_lots (fun u hu => (hp3.lots u hu).1.ne) hp2 hp1 hpe hpw
    subst ee
    refine .inl ⟨p, _, rfl, SqL.of upd_same, fun q hq => ?_⟩
    have xq : Ext G4 (upd (upd G4 p (.lst zs')) q (.tup zs')) := (Ext.new hp).trans (.new hq)
    exact k q ws _ (f5.trans (.of xq)) (f6.ext xq) ((f5.trans (.new hp)).free hq) (dp_new hq (dpAll_ext (.new hp) hz)) hp3 hp2
end
end Wd

set_option Elab.async false
set_option linter.all false
set_option maxRecDepth 100000
set_option maxHeartbeats 4000000
namespace Wd
open PySem PySem.Spec PyProof.Rows L2 Bx Gx




















































section
variable {P : Program} {w : World} {K : PySem.W.Frag} {mg : Str → Option Value} {base : Heap}
/-! ### what a value's two answers are -/
open TL
theorem sum_leN {N : Nat} (ws : List Str) (h : ∀ z ∈ ws, z.length ≤ N) : (ws.map (·.length)).sum ≤ N * ws.length := by
  induction ws with
  | nil => exact Nat.zero_le _
  | cons z ws ih =>
    have h1 := h z List.mem_cons_self
    have h2 := ih fun y hy => h y (List.mem_cons_of_mem _ hy)
    rw [List.map_cons, List.sum_cons, List.length_cons, Nat.mul_succ]
    omega
theorem num100 {n : Nat} (h : n < 100) : (Str.ofString (toString (n : Int))).length ≤ 3 := nTx_len (i := (n : Int)) (k := 2) (by decide) (by omega)
theorem log100 {n : Nat} (h : n < 100) : (n : Int).natAbs.log2 < 1920 := log2_lt (m := 100) (k := 1920) (by omega) (by decide +kernel) (by decide)
theorem lgD_lot (r : List Nat) (h : r.length ≤ 100001) : lgD (lotD r) = true := by
  unfold lotD
  rw [lgD, lgDs_of _ _ fun _ _ => rfl, List.length_map, decide_eq_true h]
  rfl
structure FineD (d : PyData) : Prop where
  lay : d.canLay0 = true
  lg : lgD d = true
  dep : d.depth < 6
theorem fine_word {s : String} {d : PyData} (hs : PyData.strOk (Str.ofString s) = true) (h : Sh 4 d) (hl : lgD d = true) : FineD (wordD s d) := by
  have sh : Sh 5 (wordD s d) := .tup fun x hx => by
    simp only [List.mem_cons, List.not_mem_nil, or_false] at hx
    rcases hx with rfl | rfl
    · exact ⟨by simpa [PyData.canLay0] using hs, by simp [PyData.depth]⟩
    · exact h
  refine ⟨sh.lay, ?_, Nat.lt_succ_of_le sh.dep⟩
  simp [wordD, lgD, lgDs, hl]
theorem twiceW_mem : ∀ (seen ws : List Str) (a : Str), twiceW seen ws = some a → a ∈ ws
  | _, [], _, h => nomatch h
  | seen, b :: r, a, h => by
    rw [twiceW] at h
    by_cases c : b ∈ seen
    · rw [if_pos c] at h
      rw [Option.some.inj h]
      exact List.mem_cons_self
    · rw [if_neg c] at h
      exact List.mem_cons_of_mem _ (twiceW_mem _ r a h)
theorem fine_ansP {cs : List Nat} {R : Rs (List (List Nat))} {n : Nat} {bs : List (Nat × Nat)} (hl : cs.length ≤ 100) (hR : PlanR cs 0 [] R) : FineD (ansP n bs R) := by
  cases R with
  | ill i => exact fine_word (by decide +kernel) (.int 3 _) rfl
  | ok rows q =>
    have hlen := hR.len (fun _ => rfl) (Nat.zero_le _) (Nat.zero_le _) (fun l hl => nomatch hl) rows q rfl
    have hcnt : rows.flatten.length ≤ 50 := by
      have := hlen.1
      unfold cntR at this
      omega
    have hfl := flat_len hlen.2.1
    unfold ansP
    dsimp only
    cases h1 : twiceW [] (rows.flatten.map nTN) with
    | some a =>
      obtain ⟨x, _, rfl⟩ := List.mem_map.mp (twiceW_mem _ _ _ h1)
      have hs : PyData.strOk (nTN x) = true := strOk_num _
      exact fine_word (by decide +kernel) ⟨by simpa [PyData.canLay0] using hs, by simp [PyData.depth]⟩ rfl
    | none =>
      dsimp only
      have hok : RowsOk rows := ⟨hlen.2.1, nodup_of_map nTN (twiceW_none _ _ h1).2⟩
      have s2 := hok.sorted.2.1
      cases h2 : planF n bs (planD (planN rows)) with
      | some i => exact fine_word (by decide +kernel) (.int 3 _) rfl
      | none =>
        dsimp only
        have hzl : (planN rows).length ≤ 50 := by rw [← s2.length_eq, List.length_map]; omega
        refine fine_word (by decide +kernel) (.tup (n := 3) fun x hx => ?_) ?_
        · obtain ⟨u, _, rfl⟩ := List.mem_map.mp hx
          exact sh_lot 1 u
        · unfold planD
          rw [lgD, lgDs_of _ _ fun u hu => lgD_lot u (by
            obtain ⟨u0, hu0, hp, _⟩ := hok.mem hu
            rw [hp.length_eq]
            have := flat_mem hu0
            omega), List.length_map, decide_eq_true (by omega)]
          rfl
/-- a value of which both sides tell the same -/
def OddV (K : PySem.W.Frag) (H : Hp) (v : V) : Prop := (∃ z, v = .str z ∧ z.length ≤ 100) ∨ NoStr K H v
theorem OddV.ext {H H' : Hp} {v : V} (h : OddV K H v) (x : Ext H H') : OddV K H' v := by
  rcases h with h | ⟨T, h1, h2, h3⟩
  · exact .inl h
  · exact .inr ⟨T, tyB_ext x h1 h3, h2, h3⟩
theorem odd_ans {T1 T2 T3 T4 : Addr} {H : Hp} {l v : V} {fs : List Int} {bs : List (Nat × Nat)} (hl : Dp K H l (landD fs bs)) (ok : LandOk fs bs) (h : OddV K H v) : ∃ d, FineD d ∧ (∀ (Q : VK), Tabs [T1, T2, T3, T4] H → (∀ u H', Ext H H' → Dp K H' u d → Q u H') → spToldP K T1 T2 T3 T4 [l, v] H Q E0) ∧
    ∀ (H2 : Hp) (Q : VK), Ext H H2 → (∀ u H', Ext H2 H' → Dp K H' u d → Q u H') → spReadP K [l, v] H2 Q E0 := by
  rcases h with ⟨z, rfl, hz⟩ | ⟨T, h1, h2, h3⟩
  · obtain ⟨R, hR⟩ := plan_ex (tl z) _ 0 [] (Nat.zero_le _) (Nat.le_refl _)
    exact ⟨ansP fs.length bs R, fine_ansP (by rw [← str_len]; exact hz) hR, fun Q hT k => ⟨_, _, rfl, .inr ⟨fs, bs, hl, ok, hT, .inl ⟨z, R, rfl, hz, hR, k⟩⟩⟩, fun H2 Q x k => ⟨_, _, fs, bs, rfl, dp_ext x hl, ok, .inl ⟨z, R, rfl, hz, hR, k⟩⟩⟩
  · exact ⟨_, fine_word (s := "text") (by decide +kernel) (.int 3 0) rfl, fun Q hT k => ⟨_, _, rfl, .inr ⟨fs, bs, hl, ok, hT, .inr ⟨⟨T, h1, h2, h3⟩, k⟩⟩⟩, fun H2 Q x k => ⟨_, _, fs, bs, rfl, dp_ext x hl, ok, .inr ⟨⟨T, tyB_ext x h1 h3, h2, h3⟩, k⟩⟩⟩
/-- the land's folk alone is no land -/
theorem odd_bad {T1 T2 T3 T4 : Addr} {H : Hp} {l v : V} {x : PyData} (hl : Dp K H l (.tuple [x])) (Q : VK) (k : ∀ u H', Ext H H' → Dp K H' u (.tuple [.str (Str.ofString "land")]) → Q u H') : spToldP K T1 T2 T3 T4 [l, v] H Q E0 :=
  ⟨_, _, rfl, .inl ⟨_, [], hl, (fun a b e => nomatch e), landF_len (by simp), k⟩⟩
theorem rep_len {u z : Str} {n : Nat} (h : tl u = (List.replicate n (tl z)).flatten) : u.length = n * z.length := by
  rw [str_len, h, str_len]
  clear h
  induction n with
  | zero => rw [Nat.zero_mul]; rfl
  | succ n ih => rw [List.replicate_succ, List.flatten_cons, List.length_append, ih, Nat.succ_mul, Nat.add_comm]
theorem Ext.thenS {H H1 H2 : Hp} {p : Addr} (x : Ext H H1) (y : ExtS [p] H1 H2) (hp : H p = none) : Ext H H2 := ext_goS x y fun b hb => by rw [List.mem_singleton.mp hb]; exact hp
/-- the weight of a text's lines -/
def wt (zs : List Str) : Nat := (zs.map fun z => z.length + 1).sum
theorem wt_app (a b : List Str) : wt (a ++ b) = wt a + wt b := by unfold wt; rw [List.map_append, List.sum_append]
theorem wt_rev (a : List Str) : wt a.reverse = wt a := by unfold wt; rw [List.map_reverse, List.sum_reverse]
theorem wt_split (a : List Str) (k : Nat) : wt (a.take k) + wt (a.drop k) = wt a := by rw [← wt_app, List.take_append_drop]
theorem wt_drop (a : List Str) (k : Nat) : wt (a.drop (k + 1)) ≤ wt (a.drop k) := by
  rw [← List.drop_drop]
  cases a.drop k with
  | nil => exact Nat.le_refl _
  | cons x r =>
    show wt r ≤ _
    unfold wt
    rw [List.map_cons, List.sum_cons]
    omega
theorem wt_one (z : Str) : wt [z] = z.length + 1 := by unfold wt; simp
theorem wt_sum : ∀ zs : List Str, (zs.map (·.length)).sum + zs.length = wt zs
  | [] => rfl
  | z :: zs => by
    have := wt_sum zs
    unfold wt at *
    rw [List.map_cons, List.sum_cons, List.map_cons, List.sum_cons, List.length_cons]
    omega
theorem wt_len (zs : List Str) : zs.length ≤ wt zs := by have := wt_sum zs; omega
theorem join_wt (zs : List Str) : (Txt.join (Str.ofString "\n") zs).length ≤ wt zs ∧ (zs.map (·.length)).sum + zs.length * (Str.ofString "\n").length = wt zs := by
  have h1 := StrLaws.join_length_le (Str.ofString "\n") zs
  have h2 := wt_sum zs
  rw [← join_eq] at h1
  rw [show (Str.ofString "\n").length = 1 by decide] at h1 ⊢
  omega
/-- the length of joined texts, exactly -/
theorem joinL_len (S : List Nat) : ∀ ps : List (List Nat), ps ≠ [] → (joinL S ps).length + S.length = (ps.map (·.length)).sum + ps.length * S.length
  | [], h => absurd rfl h
  | [p], _ => by simp [joinL]
  | p :: q :: r, _ => by
    have := joinL_len S (q :: r) (by simp)
    rw [joinL, List.length_append, List.length_append, List.map_cons, List.sum_cons, List.length_cons, Nat.succ_mul]
    omega
theorem split_sum (z y : Str) : ((Txt.split z y).reverse.map (·.length)).sum + (Txt.split z y).reverse.length * y.length ≤ z.length + y.length := by
  have e := congrArg Str.length (StrLaws.join_split z y)
  rw [str_len, tl_join] at e
  have em : ∀ l : List Str, (l.map tl).map (·.length) = l.map (·.length) := fun l => by
    rw [List.map_map]
    exact List.map_congr_left fun x _ => (str_len x).symm
  rw [List.map_reverse, List.sum_reverse, List.length_reverse]
  cases hs : Txt.split z y with
  | nil => simp
  | cons a r =>
    rw [hs] at e
    have h1 := joinL_len (tl y) ((a :: r).map tl) (by simp)
    rw [em, List.length_map, ← str_len y] at h1
    omega
/-- a reading that gives a new list of texts -/
def Gz (ys : List Str) (t : TE) (σ : L2.St) (G : Hp) : Prop := ∀ Q : VK, (∀ r G', Ext G G' → G' r = some (.lst (ys.map V.str)) → Q (.ref r) G') → t σ G Q
theorem gz_cat {ys zs : List Str} {ta tb : TE} {σ : L2.St} {G : Hp} (h1 : Gz ys ta σ G) (h2 : ∀ G', Ext G G' → Gz zs tb σ G') (hl : ys.length + zs.length ≤ 1000) : Gz (ys ++ zs) (tOp rCat ta tb) σ G := fun Q hq =>
  h1 _ fun r1 G1 x1 e1 => h2 G1 x1 _ fun r2 G2 x2 e2 => ⟨r1, r2, _, _, rfl, rfl, x2.lst e1, e2, by rw [List.length_map, List.length_map]; exact Nat.le_trans hl (by decide), fun q hq0 => hq q _ ((x1.trans x2).trans (.new hq0)) (by rw [upd_same, List.map_append])⟩
theorem cut_take (zs : List Str) (k : Nat) (h : k ≤ zs.length) : cutV (zs.map V.str) none (some (k : Int)) = (zs.take k).map V.str := by
  have e : HT.sIx (zs.map V.str).length (zs.map V.str).length (some (k : Int)) = k := by
    show (if (k : Int) < 0 then ((k : Int) + ((zs.map V.str).length : Int)).toNat else min (k : Int).toNat (zs.map V.str).length) = _
    rw [if_neg (by omega), List.length_map]
    omega
  unfold cutV
  rw [e]
  show ((zs.map V.str).drop 0).take (k - 0) = _
  rw [List.drop_zero, Nat.sub_zero, List.map_take]
theorem cut_drop (zs : List Str) (k : Nat) (h : k ≤ zs.length) : cutV (zs.map V.str) (some (k : Int)) none = (zs.drop k).map V.str := by
  have e : HT.sIx (zs.map V.str).length 0 (some (k : Int)) = k := by
    show (if (k : Int) < 0 then ((k : Int) + ((zs.map V.str).length : Int)).toNat else min (k : Int).toNat (zs.map V.str).length) = _
    rw [if_neg (by omega), List.length_map]
    omega
  unfold cutV
  rw [e]
  show ((zs.map V.str).drop k).take ((zs.map V.str).length - k) = _
  rw [List.take_of_length_le (by rw [List.length_drop]; exact Nat.le_refl _), List.map_drop]
theorem jar_land {l : List Nat} {bs : List (Nat × Nat)} : (.tuple [lotD l, brsD bs] : PyData) = landD (l.map fun (p : Nat) => (p : Int)) bs := by
  unfold landD lotD
  rw [List.map_map]
  rfl
theorem jar_ok {l : List Nat} {bs : List (Nat × Nat)} (h2 : 2 ≤ l.length) (h12 : l.length ≤ 12) (hf : ∀ f ∈ l, f ≤ 30) (ha : AscB bs) (hb : ∀ b ∈ bs, b.1 < b.2 ∧ b.2 < l.length) : LandOk (l.map fun (p : Nat) => (p : Int)) bs := by
  refine ⟨by rw [List.length_map]; exact h2, by rw [List.length_map]; exact h12, fun z hz => ?_, fun b hb' => by rw [List.length_map]; exact hb b hb', ha⟩
  obtain ⟨p, hp, rfl⟩ := List.mem_map.mp hz
  have := hf p hp
  omega
end
end Wd

set_option Elab.async false
set_option linter.all false
set_option maxRecDepth 100000
set_option maxHeartbeats 4000000
namespace Wd
open PySem PySem.Spec PyProof.Rows L2 Bx Gx




















































section
variable {P : Program} {w : World} {K : PySem.W.Frag} {mg : Str → Option Value} {base : Heap}
/-! ### the law -/
open TL
theorem sgn2 {z : Str} {ts : TA} {g : TG} {T : TS} {D : Ends} {σ : L2.St} {H : Hp} (hz : 0 < z.length ∧ z.length ≤ 1000) (h : ∀ SG : Str, 0 < SG.length ∧ SG.length ≤ 1000 → tSeq (tAsg (tTup (tCons (tC (.str SG)) ts)) g) T D σ H) : tSeq (tAsg (tTup (tCons (tC (.str z)) ts)) g) T D σ H := h z hz
/-- a list of values of which both sides tell the same -/
def OddAt (K : PySem.W.Frag) (G : Hp) (o : Addr) (n : Nat) : Prop := ∃ xs, G o = some (.lst xs) ∧ (∀ v ∈ xs, OddV K G v) ∧ xs.length ≤ n
theorem OddAt.ext {G G' : Hp} {o : Addr} {n : Nat} (h : OddAt K G o n) (x : Ext G G') : OddAt K G' o n := by
  obtain ⟨xs, h1, h2, h3⟩ := h
  exact ⟨xs, x.lst h1, fun v hv => (h2 v hv).ext x, h3⟩
theorem lst_odd {t : TA} {σ : L2.St} {H : Hp} {Q : VK} (ht : ∀ R : List V → Hp → Prop, (∀ xs H', Ext H H' → (∀ v ∈ xs, OddV K H' v) → xs.length ≤ 60 → R xs H') → t σ H R) (k : ∀ p H', Ext H H' → OddAt K H' p 60 → Q (.ref p) H') : tLst t σ H Q :=
  ht _ fun xs H' x h hl => ⟨Nat.le_trans hl (by decide), fun p hp => k p _ (x.trans (.new hp)) ⟨xs, upd_same, fun v hv => (h v hv).ext (.new hp), hl⟩⟩
theorem odd_cat {G : Hp} {a b : Addr} {n m : Nat} {Q : VK} (h1 : OddAt K G a n) (h2 : OddAt K G b m) (hl : n + m ≤ 1000) (k : ∀ p G', Ext G G' → OddAt K G' p (n + m) → Q (.ref p) G') : rCat (.ref a) (.ref b) G Q := by
  obtain ⟨xs, a1, a2, a3⟩ := h1
  obtain ⟨ys, b1, b2, b3⟩ := h2
  refine ⟨a, b, xs, ys, rfl, rfl, a1, b1, Nat.le_trans (Nat.add_le_add a3 b3) (Nat.le_trans hl (by decide)), fun p hp => k p _ (.new hp) ⟨_, upd_same, fun v hv => ?_, by rw [List.length_append]; omega⟩⟩
  rcases List.mem_append.mp hv with hv | hv
  · exact (a2 v hv).ext (.new hp)
  · exact (b2 v hv).ext (.new hp)
theorem asg_odd {t : TA} {g : TG} {T : TS} {D : Ends} {σ : L2.St} {H : Hp} (ht : ∀ R : List V → Hp → Prop, (∀ xs H', Ext H H' → (∀ v ∈ xs, OddV K H' v) → xs.length ≤ 60 → R xs H') → t σ H R) (k : ∀ p H', Ext H H' → OddAt K H' p 60 → g (.ref p) σ H' (T D)) : tSeq (tAsg (tLst t) g) T D σ H := lst_odd (Q := fun x H1 => g x σ H1 (T D)) ht k
theorem asg_cat {t : TA} {g : TG} {T : TS} {D : Ends} {σ : L2.St} {H : Hp} {i n : Nat} {o : Addr} (hv : σ[i]? = some (some (.ref o))) (ho : OddAt K H o n) (hn : n ≤ 900) (ht : ∀ R : List V → Hp → Prop, (∀ xs H', Ext H H' → (∀ v ∈ xs, OddV K H' v) → xs.length ≤ 60 → R xs H') → t σ H R) (k : ∀ p H', Ext H H' → OddAt K H' p (n + 60) → g (.ref p) σ H' (T D)) : tSeq (tAsg (tOp rCat (tVar i) (tLst t)) g) T D σ H :=
  ⟨_, hv, lst_odd ht fun p H' x e => odd_cat (ho.ext x) e (by omega) fun q G' y e2 => k q G' (x.trans y) e2⟩
def chkS (xs : List V) : Bool := xs.all fun v => match v with
  | .str z => decide (z.length ≤ 100)
  | _ => false
theorem odd_strs {G : Hp} {xs : List V} (h : chkS xs = true) : ∀ v ∈ xs, OddV K G v := fun v hv => by
  have := List.all_eq_true.mp h v hv
  cases v with
  | str z => exact .inl ⟨z, rfl, of_decide_eq_true this⟩
  | _ => cases this
theorem wt_mem : ∀ {zs : List Str} {z : Str}, z ∈ zs → z.length + 1 ≤ wt zs
  | a :: r, z, h => by
    unfold wt
    rw [List.map_cons, List.sum_cons]
    rcases List.mem_cons.mp h with rfl | h
    · omega
    · have := wt_mem h
      unfold wt at this
      omega
theorem join_sp (ws : List Str) (hne : ws ≠ []) : (Txt.join (Str.ofString " ") ws).length + 1 = wt ws := by
  have h1 := joinL_len (tl (Str.ofString " ")) (ws.map tl) (by simpa using hne)
  have em : (ws.map tl).map (·.length) = ws.map (·.length) := by
    rw [List.map_map]
    exact List.map_congr_left fun x _ => (str_len x).symm
  rw [em, List.length_map, ← str_len, show (Str.ofString " ").length = 1 by decide] at h1
  rw [join_eq, str_len, tl_join, ← wt_sum]
  omega
theorem ok3 : LandOk [5, 2, 0] [(0, 1), (1, 2)] := ⟨by decide, by decide, (by simp), (fun b hb => by
  simp only [List.mem_cons, List.not_mem_nil, or_false] at hb
  rcases hb with rfl | rfl <;> decide), by simp [ltP]⟩
def spLaw (K : PySem.W.Frag) (ts : List Addr) : Sp := fun vs H Q _ => ∃ (a : Addr) (ns : List Int), vs = [.ref a] ∧ SqL K H a (ns.map V.int) ∧ ns.length ≤ 63 ∧ Tabs ts H ∧ ∀ H', Q (.bl true) H'
abbrev lawN : List Str := ["script", "signs", "land", "odd", "text", "cell", "jar", "ward", "place", "lines", "k", "j", "some", "rows", "turn", "one"]
theorem sc_law : FnScope lawN ["script"] (defScope st_law) := ⟨rfl, rfl, rfl, by decide +kernel, rfl, by decide +kernel, by decide +kernel⟩
abbrev scWard : Scope := { kind := .function, names := [(".0", .local), ("ward", .local)], isGenerator := false, isCoroutine := false, more := [] }
theorem ok_law {f T1 T2 T3 T4 : Addr} {tz : List Addr} {fd : FuncData} (F : Fun K "law" "law" st_law f fd) (B : Bl mg) (m1 : T1 ∈ tz) (m2 : T2 ∈ tz) (m3 : T3 ∈ tz) (m4 : T4 ∈ tz) (cj : Cal P w K mg base 1 "_law_jar" ["cell"] (spJar K)) (cd : Cal P w K mg base 1 "_law_drawn" ["jar", "many"] (spDrawn K)) (cp : Cal P w K mg base 2 "_law_spoilt" ["jar", "text", "signs"] (spSpoilt K)) (cl : Cal P w K mg base 2 "_law_land" ["jar", "top_one"] (spLandJ K)) (cpl : Cal P w K mg base 2 "_law_plan" ["jar", "land"] (spPlanJ K))
    (cr : Cal P w K mg base 5 "_law_read" ["land", "text"] (spReadP K)) (ct : Cal P w K mg base 11 "_law_told" ["land", "text"] (spToldP K T1 T2 T3 T4)) (cs : Cal P w K mg base 7 "_law_same" ["found", "due"] (spSameT K 6)) : FnOk P w K mg base CX0 12 f fd ["script"] (spLaw K tz) := by
  refine F.ok sc_law (fun vs H Q E h => ?_) (fun cdv A outer s H vs Q E hr h => ?_)
  · obtain ⟨a, ns, rfl, _⟩ := h
    rfl
  · obtain ⟨a, ns, rfl, hS, hn, hTz, k⟩ := h
    have nd := sc_law.nd
    refine ⟨_, pss_cons (ps_asg (pe_tup (pa_cons pe_str (pa_cons (pe_tup (pa_cons (pe_tup (pa_cons pe_int (pa_cons pe_int (pa_cons pe_int pa_nil)))) (pa_cons (pe_tup (pa_cons (pe_tup (pa_cons pe_int (pa_cons pe_int pa_nil))) (pa_cons (pe_tup (pa_cons pe_int (pa_cons pe_int pa_nil))) pa_nil))) pa_nil))) pa_nil))) (pg_tup (by rfl) (pgs_cons (pg_name (i := 1) nd rfl (Or.inr rfl)) (pgs_cons (pg_name (i := 2) nd rfl (Or.inl rfl)) pgs_nil))))
      (pss_cons (ps_set (i := 3) nd rfl (Or.inl rfl) (pe_lst (pa_cons pe_str (pa_cons pe_str (pa_cons pe_str (pa_cons pe_str (pa_cons pe_str (pa_cons pe_str (pa_cons pe_str (pa_cons pe_str (pa_cons pe_str (pa_cons pe_str (pa_cons pe_str (pa_cons pe_str (pa_cons pe_str (pa_cons pe_str (pa_cons pe_str (pa_cons pe_str (pa_cons pe_str (pa_cons pe_str pa_nil))))))))))))))))))))
      (pss_cons (ps_set (i := 3) nd rfl (Or.inl rfl) (pe_op op_cat (pv 3) (pe_lst (pa_cons pe_str (pa_cons pe_str (pa_cons pe_str (pa_cons pe_str (pa_cons pe_str (pa_cons (pe_op op_add_str pe_str (pe_op op_repS pe_str pe_int)) (pa_cons (pe_op op_add_str pe_str (pe_op op_repS pe_str pe_int)) (pa_cons pe_str (pa_cons pe_str (pa_cons pe_str (pa_cons pe_non (pa_cons pe_int (pa_cons (pe_tup (pa_cons pe_str pa_nil)) (pa_cons pe_bl pa_nil)))))))))))))))))
      (pss_cons (ps_for PassesOwn.never rfl (pi_list (pv 3)) (pg_name (i := 4) nd rfl (Or.inr rfl))
        (pss_cons (ps_if (pt_not (pt_val (pe_cal cs (hr.mono (by decide)) rfl (pa_cons (pe_cal ct (hr.mono (by decide)) rfl (pa_cons (pv 2) (pa_cons (pv 4) pa_nil))) (pa_cons (pe_cal cr (hr.mono (by decide)) rfl (pa_cons (pv 2) (pa_cons (pv 4) pa_nil))) pa_nil))) (by intro _; rfl))) pss_never pss_nil)
        (pss_one (ps_if (pt_cmpR (op_neDK (K := K) rfl hr.units) (pe_cal ct (hr.mono (by decide)) rfl (pa_cons (pe_slice sl_tupA (pv 2) po_none (po_some pe_int)) (pa_cons (pv 4) pa_nil))) (pe_tup (pa_cons pe_str pa_nil)) (nomark _)) pss_never pss_nil))))
      (pss_cons (ps_for PassesOwn.never rfl (pi_list (pe_op op_cat (pe_lst (pa_cons pe_int pa_nil)) (pe_slice sl_list (pv 0) po_none (po_some pe_int)))) (pg_name (i := 5) nd rfl (Or.inl rfl))
        (pss_cons (ps_set (i := 6) nd rfl (Or.inr rfl) (pe_cal cj (hr.mono (by decide)) rfl (pa_cons (pv 5) pa_nil)))
        (pss_cons (ps_set (i := 2) nd rfl (Or.inl rfl) (pe_cal cl (hr.mono (by decide)) rfl (pa_cons (pv 6) (pa_cons pe_int pa_nil))))
        (pss_cons (ps_setLc (i := 9) (own := [("ward", 7)]) (g := gName 7) (by rfl) nd rfl rfl (sw_true rfl rfl rfl (by decide +kernel)) (pi_tup (pe_cal cpl (hr.mono (by decide)) rfl (pa_cons (pv 6) (pa_cons (pv 2) pa_nil)))) (blkOk_by (own := [("ward", 7)]) (N := lawN) (sc := defScope st_law) (by decide +kernel)) (fun _ _ _ _ _ => pg_name (i := 7) nd rfl (Or.inl rfl)) (fun _ _ _ _ _ => pts_nil) (fun _ _ _ _ _ => pe_joinK (K := K) rfl pe_str (pe_lc (own := [("place", 8)]) (g := gName 8) (by rfl) nd (pi_tupK (K := K) rfl (pv 7)) (blkOk_by (own := [("place", 8)]) (N := lawN) (sc := scWard) (by decide +kernel)) (fun _ _ _ _ _ => pg_name (i := 8) nd rfl (Or.inl rfl)) (fun _ _ _ _ _ => pts_nil) (fun _ _ _ _ _ => pe_callTy call_str_int rfl B.str (by decide +kernel) (pa_cons (pv 8) pa_nil)))))
        (pss_cons (ps_asg (pe_tup (pa_cons (pe_joinK (K := K) rfl pe_str (pv 9)) (pa_cons (pe_cal cd (hr.mono (by decide)) rfl (pa_cons (pv 6) (pa_cons (pe_callB call_len (by rfl) B.len PySem.boot_len (pa_cons (pv 9) pa_nil)) pa_nil))) (pa_cons (pe_cal cd (hr.mono (by decide)) rfl (pa_cons (pv 6) (pa_cons (pe_callB call_len (by rfl) B.len PySem.boot_len (pa_cons (pv 9) pa_nil)) pa_nil))) pa_nil)))) (pg_tup (by rfl) (pgs_cons (pg_name (i := 4) nd rfl (Or.inr rfl)) (pgs_cons (pg_name (i := 10) nd rfl (Or.inl rfl)) (pgs_cons (pg_name (i := 11) nd rfl (Or.inl rfl)) pgs_nil)))))
        (pss_cons (ps_set (i := 12) nd rfl (Or.inl rfl) (pe_lst (pa_cons (pe_op op_cat (pe_slice sl_list (pv 9) po_none (po_some (pv 10))) (pe_slice sl_list (pv 9) (po_some (pe_op op_add (pv 10) pe_int)) po_none)) (pa_cons (pe_op op_cat (pe_op op_cat (pe_slice sl_list (pv 9) po_none (po_some (pv 10))) (pe_lst (pa_cons (pe_ix ix_list (pv 9) (pv 11) (fun _ _ => rfl)) pa_nil))) (pe_slice sl_list (pv 9) (po_some (pe_op op_add (pv 10) pe_int)) po_none)) (pa_cons (pe_op op_cat (pe_op op_cat (pe_slice sl_list (pv 9) po_none (po_some (pv 10))) (pe_lst (pa_cons (pe_ix ix_list (pv 9) (pv 11) (fun _ _ => rfl)) pa_nil))) (pe_slice sl_list (pv 9) (po_some (pv 10)) po_none)) (pa_cons (pe_revL (pv 9)) (pa_cons (pe_op op_cat (pe_op op_cat (pe_slice sl_list (pv 9) po_none (po_some (pv 10))) (pe_bm PySem.F.plainAttrs_str PySem.F.slot_str_split PySem.F.type_str_split mt_split (pe_ix ix_list (pv 9) (pv 10) (fun _ _ => rfl)) (pa_cons pe_str pa_nil))) (pe_slice sl_list (pv 9) (po_some (pe_op op_add (pv 10) pe_int)) po_none)) pa_nil)))))))
        (pss_cons (ps_expr (pe_bm PySem.F.plainAttrs_list PySem.F.slot_list_append PySem.F.type_list_append mt_append (pv 12) (pa_cons (pe_lst (pa_cons (pe_joinK (K := K) rfl pe_str (pv 9)) pa_nil)) pa_nil)))
        (pss_one (ps_for PassesOwn.never rfl (pi_list (pe_op op_cat (pe_lc (own := [("rows", 13)]) (g := gName 13) (by rfl) nd (pi_list (pv 12)) (blkOk_by (own := [("rows", 13)]) (N := lawN) (sc := defScope st_law) (by decide +kernel)) (fun _ _ _ _ _ => pg_name (i := 13) nd rfl (Or.inl rfl)) (fun _ _ _ _ _ => pts_nil) (fun _ _ _ _ _ => pe_joinK (K := K) rfl pe_str (pv 13))) (pe_lc (own := [("turn", 14)]) (g := gName 14) (by rfl) nd (pi_range1 rfl B.range (pa_cons pe_int pa_nil)) (blkOk_by (own := [("turn", 14)]) (N := lawN) (sc := defScope st_law) (by decide +kernel)) (fun _ _ _ _ _ => pg_name (i := 14) nd rfl (Or.inl rfl)) (fun _ _ _ _ _ => pts_nil) (fun _ _ _ _ _ => pe_cal cp (hr.mono (by decide)) rfl (pa_cons (pv 6) (pa_cons (pv 4) (pa_cons (pe_ix (ix_lstK (K := K) rfl) (pe_lst (pa_cons pe_str (pa_cons (pv 1) pa_nil))) (pe_cal cd (hr.mono (by decide)) rfl (pa_cons (pv 6) (pa_cons pe_int pa_nil))) (fun _ _ => rfl)) pa_nil))))))) (pg_name (i := 15) nd rfl (Or.inl rfl))
          (pss_one (ps_if (pt_not (pt_val (pe_cal cs (hr.mono (by decide)) rfl (pa_cons (pe_cal ct (hr.mono (by decide)) rfl (pa_cons (pv 2) (pa_cons (pv 15) pa_nil))) (pa_cons (pe_cal cr (hr.mono (by decide)) rfl (pa_cons (pv 2) (pa_cons (pv 15) pa_nil))) pa_nil))) (by intro _; rfl))) pss_never pss_nil)))))))))))
      (pss_one (ps_ret pe_bl)))))), ?_⟩
    have hsl : 200000 ≤ sizeLine := by decide
    have hTab : ∀ G, Ext H G → Tabs [T1, T2, T3, T4] G := fun G x T hT => x.tabs _ (hTz T (by
      simp only [List.mem_cons, List.not_mem_nil, or_false] at hT
      rcases hT with rfl | rfl | rfl | rfl
      · exact m1
      · exact m2
      · exact m3
      · exact m4))
    refine sgn2 (by decide) (fun SG hsg => ?_)
    refine ⟨by show 3 ≤ sizeLine; omega, fun f0 hf0 => ⟨by show 2 ≤ sizeLine; omega, fun p1 hp1 => ⟨by show 2 ≤ sizeLine; omega, fun p2 hp2 => ⟨by show 2 ≤ sizeLine; omega, fun b0 hb0 => ⟨by show 2 ≤ sizeLine; omega, fun l0 hl0 => ⟨by show 2 ≤ sizeLine; omega, fun o0 ho0 => ?_⟩⟩⟩⟩⟩⟩
    have d1 : Dp K (upd H f0 (.tup [.int 5, .int 2, .int 0])) (.ref f0) (.tuple (([5, 2, 0] : List Int).map .int)) := dp_new hf0 (.cons (.int _) (.cons (.int _) (.cons (.int _) .nil)))
    have x1 : Ext H (upd H f0 (.tup [.int 5, .int 2, .int 0])) := .new hf0
    generalize upd H f0 (.tup [.int 5, .int 2, .int 0]) = A1 at d1 x1 hp1 hp2 hb0 hl0 ho0 ⊢
    have d2 : Dp K (upd A1 p1 (.tup [.int 0, .int 1])) (.ref p1) (.tuple [.int ((0 : Nat) : Int), .int ((1 : Nat) : Int)]) := dp_new hp1 (.cons (.int _) (.cons (.int _) .nil))
    have x2 : Ext A1 (upd A1 p1 (.tup [.int 0, .int 1])) := .new hp1
    generalize upd A1 p1 (.tup [.int 0, .int 1]) = A2 at d2 x2 hp2 hb0 hl0 ho0 ⊢
    have d3 : Dp K (upd A2 p2 (.tup [.int 1, .int 2])) (.ref p2) (.tuple [.int ((1 : Nat) : Int), .int ((2 : Nat) : Int)]) := dp_new hp2 (.cons (.int _) (.cons (.int _) .nil))
    have x3 : Ext A2 (upd A2 p2 (.tup [.int 1, .int 2])) := .new hp2
    generalize upd A2 p2 (.tup [.int 1, .int 2]) = A3 at d3 x3 hb0 hl0 ho0 ⊢
    have d4 : Dp K (upd A3 b0 (.tup [.ref p1, .ref p2])) (.ref b0) (bordD [(0, 1), (1, 2)]) := dp_new hb0 (.cons (dp_ext x3 d2) (.cons d3 .nil))
    have x4 : Ext A3 (upd A3 b0 (.tup [.ref p1, .ref p2])) := .new hb0
    generalize upd A3 b0 (.tup [.ref p1, .ref p2]) = A4 at d4 x4 hl0 ho0 ⊢
    have d5 : Dp K (upd A4 l0 (.tup [.ref f0, .ref b0])) (.ref l0) (landD [5, 2, 0] [(0, 1), (1, 2)]) := dp_new hl0 (.cons (dp_ext ((x2.trans x3).trans x4) d1) (.cons d4 .nil))
    have d5f : Dp K (upd A4 l0 (.tup [.ref f0, .ref b0])) (.ref f0) (.tuple (([5, 2, 0] : List Int).map .int)) := dp_ext (((x2.trans x3).trans x4).trans (.new hl0)) d1
    have s5 : (upd A4 l0 (.tup [.ref f0, .ref b0])) l0 = some (.tup [.ref f0, .ref b0]) := upd_same
    have x5 : Ext A4 (upd A4 l0 (.tup [.ref f0, .ref b0])) := .new hl0
    generalize upd A4 l0 (.tup [.ref f0, .ref b0]) = A5 at d5 d5f s5 x5 ho0 ⊢
    have xH0 : Ext H (upd A5 o0 (.tup [.str SG, .ref l0])) := ((((x1.trans x2).trans x3).trans x4).trans x5).trans (.new ho0)
    have x56 : Ext A5 (upd A5 o0 (.tup [.str SG, .ref l0])) := .new ho0
    refine ⟨o0, _, rfl, SqT.of upd_same, rfl, _, _, rfl, _, _, rfl, rfl, ?_⟩
    generalize upd A5 o0 (.tup [.str SG, .ref l0]) = H0 at xH0 x56 ⊢
    have hld := dp_ext x56 d5
    have hfd := dp_ext x56 d5f
    have hls := x56.tup s5
    clear d1 d2 d3 d4 d5 d5f s5 x1 x2 x3 x4 x5 x56 hf0 hp1 hp2 hb0 hl0 ho0
    dsimp only [gName, List.set, L2.start, List.map, List.replicate, List.append, List.length]
    refine asg_odd (K := K) ?_ fun o1 H1 x1 e1 => ?_
    · intro R h
      refine h _ H0 (.refl H0) (odd_strs ?_) ?_
      · decide +kernel
      · decide
    dsimp only [gName, List.set]
    have rep9 : ∀ (u : Str) (n : Nat), tl u = (List.replicate n (tl (Str.ofString "9"))).flatten → u.length = n := fun u n h => by rw [rep_len h, show (Str.ofString "9").length = 1 by decide, Nat.mul_one]
    have lf : (Str.ofString "0 1 ").length = 4 := by decide
    refine asg_cat (i := 3) rfl e1 (by decide) ?_ fun o2 H2 x2 e2 => ?_
    · intro R h
      refine ⟨Str.ofString "9", 12, rfl, rfl, by decide, by decide, fun u1 hu1 => ⟨_, _, rfl, rfl, by rw [rep9 _ _ hu1, lf]; omega, ?_⟩⟩
      refine ⟨Str.ofString "9", 13, rfl, rfl, by decide, by decide, fun u2 hu2 => ⟨_, _, rfl, rfl, by rw [rep9 _ _ hu2, lf]; omega, ?_⟩⟩
      refine ⟨by show 1 ≤ sizeLine; omega, fun t2 ht2 => h _ _ (.new ht2) (fun v hv => ?_) ?_⟩
      · simp only [List.mem_cons, List.not_mem_nil, or_false] at hv
        rcases hv with rfl | rfl | rfl | rfl | rfl | rfl | rfl | rfl | rfl | rfl | rfl | rfl | rfl | rfl
        · exact .inl ⟨_, rfl, by decide⟩
        · exact .inl ⟨_, rfl, by decide⟩
        · exact .inl ⟨_, rfl, by decide⟩
        · exact .inl ⟨_, rfl, by decide⟩
        · exact .inl ⟨_, rfl, by decide⟩
        · exact .inl ⟨_, rfl, by rw [len_app, rep9 _ _ hu1, lf]; decide⟩
        · exact .inl ⟨_, rfl, by rw [len_app, rep9 _ _ hu2, lf]; decide⟩
        · exact .inl ⟨_, rfl, by decide⟩
        · exact .inl ⟨_, rfl, by decide⟩
        · exact .inl ⟨_, rfl, by decide⟩
        · exact .inr ⟨_, .non, by decide, by decide⟩
        · exact .inr ⟨_, .int 7, by decide, by decide⟩
        · exact .inr ⟨_, .tup (SqT.of upd_same), by decide, by decide⟩
        · exact .inr ⟨_, .bl true, by decide, by decide⟩
      · simp
    dsimp only [gName, List.set]
    have x02 := x1.trans x2
    have xH2 := xH0.trans x02
    have hld2 := dp_ext x02 hld
    have hfd2 := dp_ext x02 hfd
    have hls2 := x02.tup hls
    clear x1 x2 e1 hld hfd hls x02
    obtain ⟨vs, eo, hodd, _⟩ := e2
    dsimp only [tSeq]
    refine ⟨_, rfl, o2, rfl, ⟨_, SqL.of eo⟩, for_list (K := K) (a := o2) (xs := vs) (fun i σ G => ∃ q4 : Option V, σ = [some (.ref a), some (.str SG), some (.ref l0), some (.ref o2), q4, none, none, none, none, none, none, none, none, none, none, none] ∧ Ext H2 G)
      ⟨none, rfl, .refl _⟩ (fun i σ G _ ⟨q4, e, x⟩ => SqL.of (x.lst eo)) (fun i v σ G hv ⟨q4, e, x⟩ => ?_) (fun σ G ⟨q4, e, x⟩ => ?_)⟩
    · subst e
      dsimp only [gName, List.set]
      obtain ⟨d, F1, a1, a2⟩ := odd_ans (T1 := T1) (T2 := T2) (T3 := T3) (T4 := T4) (dp_ext x hld2) ok3 ((hodd v (List.mem_of_getElem? hv)).ext x)
      refine ⟨_, rfl, _, rfl, a1 _ (hTab _ (xH2.trans x)) fun u G4 x6 hd => ⟨_, rfl, _, rfl, a2 G4 _ x6 fun u2 G5 x7 hd2 => ⟨u, u2, d, rfl, dp_ext x7 hd, hd2, F1.lay, F1.lg, F1.dep, fun G6 x8 => ⟨_, rfl, iteF ?_⟩⟩⟩⟩
      have xx := ((x.trans x6).trans x7).trans x8
      dsimp only [tNext]
      refine ⟨_, rfl, _, rfl, l0, _, rfl, SqT.of (xx.tup hls2), (fun y => absurd y.2 (show ¬ HT.sIx 2 2 (some 1) = 2 by decide)), fun _ s0 hs0 => ?_⟩
      have xs : Ext G6 (upd G6 s0 (.tup (cutV [.ref f0, .ref b0] none (some 1)))) := .new hs0
      have ds : Dp K (upd G6 s0 (.tup (cutV [.ref f0, .ref b0] none (some 1)))) (.ref s0) (.tuple [.tuple (([5, 2, 0] : List Int).map .int)]) := dp_new hs0 (.cons (dp_ext xx hfd2) .nil)
      generalize upd G6 s0 (.tup (cutV [.ref f0, .ref b0] none (some 1))) = G7 at xs ds ⊢
      refine ⟨_, rfl, odd_bad ds _ fun u3 G8 x9 hd3 => ?_⟩
      refine ⟨by show 1 ≤ sizeLine; omega, fun t3 ht3 => ⟨_, _, dp_ext (.new ht3) hd3, dp_new ht3 (.cons (.str _) .nil), (Sh.tup (n := 2) fun y hy => (by rw [List.mem_singleton.mp hy]; exact ⟨by decide +kernel, by simp [PyData.depth]⟩)).shaped (by decide), (Sh.tup (n := 2) fun y hy => (by rw [List.mem_singleton.mp hy]; exact ⟨by decide +kernel, by simp [PyData.depth]⟩)).shaped (by decide), _, rfl, ?_⟩⟩
      have he : PyData.eqv (.tuple [.str (Str.ofString "land")]) (.tuple [.str (Str.ofString "land")]) = true := by simp [PyData.eqv, PyData.eqvAll]
      rw [he]
      exact iteF ⟨_, rfl, ((xx.trans xs).trans x9).trans (.new ht3)⟩
    subst e
    dsimp only [tSeq]
    refine ⟨by show 1 ≤ sizeLine; omega, fun q1 hq1 => ?_⟩
    have z1 : Ext G (upd G q1 (.lst [.int 487])) := .new hq1
    have f1 : (upd G q1 (.lst [.int 487])) q1 = some (.lst [.int 487]) := upd_same
    generalize upd G q1 (.lst [.int 487]) = G1 at z1 f1 ⊢
    refine ⟨_, rfl, _, rfl, a, _, rfl, z1.sqL (x.sqL (xH2.sqL hS)), fun q2 hq2 => ?_⟩
    have cl := cutV_length (ns.map V.int) none (some 14)
    rw [List.length_map] at cl
    have cm : ∀ v ∈ cutV (ns.map V.int) none (some 14), ∃ c : Int, v = .int c := fun v hv => by
      unfold cutV at hv
      obtain ⟨c, _, e⟩ := List.mem_map.mp (List.mem_of_mem_drop (List.mem_of_mem_take hv))
      exact ⟨c, e.symm⟩
    generalize cutV (ns.map V.int) none (some 14) = cv at cl cm ⊢
    refine ⟨q1, q2, _, _, rfl, rfl, (Ext.new hq2).lst f1, upd_same, by rw [List.length_singleton]; omega, fun q3 hq3 => ?_⟩
    have z2 : Ext G1 (upd (upd G1 q2 (.lst cv)) q3 (.lst ([.int 487] ++ cv))) := (Ext.new hq2).trans (.new hq3)
    have f3 : (upd (upd G1 q2 (.lst cv)) q3 (.lst ([.int 487] ++ cv))) q3 = some (.lst ([.int 487] ++ cv)) := upd_same
    generalize upd (upd G1 q2 (.lst cv)) q3 (.lst ([.int 487] ++ cv)) = G2 at z2 f3 ⊢
    have cm2 : ∀ v ∈ [V.int 487] ++ cv, ∃ c : Int, v = .int c := fun v hv => by
      rcases List.mem_append.mp hv with hv | hv
      · exact ⟨487, List.mem_singleton.mp hv⟩
      · exact cm v hv
    generalize [V.int 487] ++ cv = cells at f3 cm2 ⊢
    have xG : Ext H G2 := (xH2.trans x).trans (z1.trans z2)
    clear z1 z2 f1 cl cm hq1 hq2 hq3 hodd
    refine ⟨q3, rfl, ⟨_, SqL.of f3⟩, for_list (K := K) (a := q3) (xs := cells) (fun i σ G => ∃ p2 p4 p5 p6 p9 p10 p11 p12 p15 : Option V, σ = [some (.ref a), some (.str SG), p2, some (.ref o2), p4, p5, p6, none, none, p9, p10, p11, p12, none, none, p15] ∧ Ext G2 G)
      ⟨_, q4, none, none, none, none, none, none, none, rfl, .refl _⟩ (fun i σ G _ ⟨_, _, _, _, _, _, _, _, _, e, x⟩ => SqL.of (x.lst f3)) (fun i v σ G hv ⟨p2, p4, p5, p6, p9, p10, p11, p12, p15, e, x4⟩ => ?_) (fun σ G ⟨_, _, _, _, _, _, _, _, _, e, x⟩ => k _)⟩
    subst e
    obtain ⟨c, rfl⟩ := cm2 v (List.mem_of_getElem? hv)
    refine ⟨_, rfl, c, rfl, fun jr G3 x5 hj0 hj => ?_⟩
    dsimp only [gName, tSeq, List.set]
    have xJ : Ext H G3 := (xG.trans x4).trans x5
    refine ⟨_, rfl, jr, 12, rfl, hj, by decide, by decide, fun ld l bs G4 x6 hj4 hld0 hld hl2 hl12 hf hasc hbs hbl => ?_⟩
    have hok := jar_ok hl2 hl12 hf hasc hbs
    rw [jar_land] at hld
    generalize l.map (fun (p : Nat) => (p : Int)) = fs at hld hok
    clear hl2 hl12 hf hasc hbs hbl
    dsimp only [gName, tSeq, List.set]
    refine ⟨_, rfl, _, rfl, jr, .ref ld, fs, bs, rfl, hj4, hld, hok, fun pl zz G5 x7 hj5 hpl0 hpl good hhd => ?_⟩
    obtain ⟨pl', ps, epl, hps, hpd⟩ := dp_tup hpl
    obtain rfl : pl = pl' := by injection epl
    have hpl' := rows_len hpd
    have hzf := flat_len (rows := zz) fun w hw => (good.lots w hw).1.ne
    have hfl2 := good.perm.length_eq
    rw [List.length_range] at hfl2
    have hM12 := hok.most
    have hM2 := hok.few
    have hnZ : ∀ us : List (List Nat), noLs (us.map lotD) = true := noLs_map lotD fun u => noLs_map _ (fun _ => rfl) u
    have hvl : ∀ zs : List Str, (zs.map V.str).length = zs.length := fun zs => List.length_map _
    refine ⟨pl, rfl, ⟨_, hps⟩, fun D hD => ?_⟩
    have hDj : D ∉ [jr] := hj5.notin hD
    refine lc_tup (K := K) (a := pl) (xs := ps) (fun i G => ∃ ws : List Str, G D = some (.lst (ws.map V.str)) ∧ ws.length = i ∧ wt ws ≤ 4 * (zz.take i).flatten.length ∧ Ext G5 G) ⟨[], upd_same, rfl, Nat.zero_le _, .new hD⟩ (fun i G _ ⟨ws, g1, g2, g3, g4⟩ => g4.sqT hps) (fun i v G hv ⟨ws, g1, g2, g3, g4⟩ => ?_) (fun G ⟨zs, h1, h2, h3, h4⟩ => ?_)
    · obtain ⟨dy, hdy, hpy⟩ := dpAll_get' hpd hv
      have hi := (List.getElem?_eq_some_iff.mp hv).1
      have hzi := List.getElem?_eq_getElem (show i < zz.length by omega)
      rw [List.getElem?_map, hzi] at hdy
      obtain rfl := Option.some.inj hdy
      have hlo := (good.lots _ (List.getElem_mem (show i < zz.length by omega))).1
      have htk : (zz.take (i + 1)).flatten.length = (zz.take i).flatten.length + zz[i].length := by
        rw [List.take_add_one, hzi, List.flatten_append, List.length_append]
        show _ + (List.flatten [zz[i]]).length = _
        rw [List.flatten_singleton]
      have hul : zz[i].length ≤ zz.flatten.length := flat_mem (List.getElem_mem _)
      generalize zz[i] = u at hpy hlo htk hul
      obtain ⟨ua, rfl, hu⟩ := dp_lot hpy
      refine ⟨rfl, ?_⟩
      dsimp only [tYes]
      rw [if_pos rfl]
      refine ⟨⟨_, rfl⟩, _, rfl, ua, rfl, ⟨_, g4.sqT hu⟩, fun D2 hD2 => ?_⟩
      refine lc_tup (K := K) (a := ua) (xs := vsN u) (fun j G' => ∃ qs : List Str, G' D2 = some (.lst (qs.map V.str)) ∧ qs.length = j ∧ (∀ z ∈ qs, z.length ≤ 3) ∧ Ext G G') ⟨[], upd_same, rfl, (fun z hz => nomatch hz), .new hD2⟩ (fun j G' _ ⟨qs, b1, b2, b3, b4⟩ => (g4.trans b4).sqT hu) (fun j v G' hv ⟨qs, b1, b2, b3, b4⟩ => ?_) (fun G' ⟨qs, b1, b2, b3, b4⟩ => ?_)
      · rw [List.getElem?_map] at hv
        cases ho : u[j]? with
        | none => rw [ho] at hv; cases hv
        | some o =>
          rw [ho] at hv
          obtain rfl := Option.some.inj hv
          have hjl := (List.getElem?_eq_some_iff.mp ho).1
          have ho1 : o < 100 := by have := hlo.lt o (List.mem_of_getElem? ho); omega
          refine ⟨rfl, ?_⟩
          dsimp only [tYes]
          rw [if_pos rfl]
          refine ⟨_, rfl, _, rfl, log100 ho1, _, b1, by rw [hvl]; omega, qs ++ [Str.ofString (toString (o : Int))], by rw [upd_same, List.map_append]; rfl, by rw [List.length_append, b2]; rfl, fun z hz => ?_, b4.write hD2⟩
          rcases List.mem_append.mp hz with hz | hz
          · exact b3 z hz
          · rw [List.mem_singleton.mp hz]; exact num100 ho1
      · have hql : qs.length = u.length := b2.trans (List.length_map _)
        have hqne : qs ≠ [] := fun e => hlo.ne (List.length_eq_zero_iff.mp (by rw [← hql, e]; rfl))
        have hqs := sum_leN qs b3
        have hqw := wt_sum qs
        have hj1 := join_sp qs hqne
        refine ⟨_, D2, qs, rfl, rfl, .inl (SqL.of b1), ?_, ?_⟩
        · rw [show (Str.ofString " ").length = 1 by decide]
          omega
        generalize Txt.join (Str.ofString " ") qs = zq at hj1 ⊢
        refine ⟨_, b4.lst g1, by rw [hvl]; omega, ws ++ [zq], by rw [upd_same, List.map_append]; rfl, by rw [List.length_append, g2]; rfl, ?_, (g4.trans b4).write hD⟩
        rw [wt_app, wt_one, htk]
        omega
    have h2 : zs.length = ps.length := h2
    rw [hpl', List.take_length] at h3
    have hwt : wt zs ≤ 48 := by omega
    have hzn : 0 < zs.length ∧ zs.length ≤ 12 := by
      refine ⟨?_, by omega⟩
      have : zz ≠ [] := fun e => by rw [e] at hfl2; simp at hfl2; omega
      have := List.length_pos_iff.mpr this
      omega
    have x35 : ExtS [jr] G3 G := (x6.trans x7).trans (.of h4)
    have hj5 := hj5.ext h4
    have hnL : noL (landD fs bs) = true := by
      show noLs [PyData.tuple (fs.map .int), bordD bs] = true
      have e1 : noL (PyData.tuple (fs.map .int)) = true := noLs_map PyData.int (fun _ => rfl) fs
      have e2 : noL (bordD bs) = true := noLs_map (fun b : Nat × Nat => PyData.tuple [.int (b.1 : Int), .int (b.2 : Int)]) (fun _ => rfl) bs
      simp only [noLs, e1, e2, Bool.and_self]
    have hld5 : Dp K G (.ref ld) (landD fs bs) := dp_ext h4 (dp_extS x7 hnL hld)
    clear h2 h3 h4 hpl hps hpd hpl' x6 x7 good hhd hzf hfl2
    dsimp only [gName, List.set]
    have hjz := join_wt zs
    dsimp only [tSeq]
    refine ⟨⟨_, rfl⟩, _, rfl, Str.ofString "\n", D, zs, rfl, rfl, .inl (SqL.of h1), by omega, ?_⟩
    have hTX : (Txt.join (Str.ofString "\n") zs).length ≤ 48 := by omega
    generalize Txt.join (Str.ofString "\n") zs = TX at hTX ⊢
    refine ⟨_, rfl, _, rfl, _, zs.length, rfl, .inl ⟨_, SqL.of h1, (hvl zs).symm⟩, jr, zs.length, rfl, hj5, by omega, by omega, fun k1 G6 hk1 x6b hj6 => ?_⟩
    have h16 := x6b.lst hDj h1
    refine ⟨_, rfl, _, rfl, _, zs.length, rfl, .inl ⟨_, SqL.of h16, (hvl zs).symm⟩, jr, zs.length, rfl, hj6, by omega, by omega, fun k2 G7 hk2 x7b hj7 => ⟨by show 3 ≤ sizeLine; omega, fun t ht => ?_⟩⟩
    have h17 := x7b.lst hDj h16
    refine ⟨t, _, rfl, SqT.of upd_same, rfl, _, _, rfl, _, _, rfl, _, _, rfl, rfl, ?_⟩
    have h18 : (upd G7 t (.tup [.str TX, .int (k1 : Int), .int (k2 : Int)])) D = some (.lst (zs.map V.str)) := (Ext.new ht).lst h17
    have hj8 := hj7.ext (.new ht (o := .tup [.str TX, .int (k1 : Int), .int (k2 : Int)]))
    have x8 : ExtS [jr] G (upd G7 t (.tup [.str TX, .int (k1 : Int), .int (k2 : Int)])) := (x6b.trans x7b).trans (.new ht)
    generalize upd G7 t (.tup [.str TX, .int (k1 : Int), .int (k2 : Int)]) = G8 at h18 hj8 x8 ⊢
    have hgk : zs[k2]? = some zs[k2] := List.getElem?_eq_getElem hk2
    have hzk6 := wt_mem (List.getElem_mem hk2)
    have hgk1 : zs[k1]? = some zs[k1] := List.getElem?_eq_getElem hk1
    have hzk1 := wt_mem (List.getElem_mem hk1)
    generalize zs[k2] = zk at hgk hzk6
    generalize zs[k1] = zj at hgk1 hzk1
    have hzk : (zs.map V.str)[k2]? = some (.str zk) := by rw [List.getElem?_map, hgk]; rfl
    have hzj : (zs.map V.str)[k1]? = some (.str zj) := by rw [List.getElem?_map, hgk1]; rfl
    clear h1 h16 h17 hjz
    dsimp only [gName, tSeq, List.set]
    obtain ⟨σ, hσ⟩ : ∃ σ : L2.St, σ = [some (V.ref a), some (V.str SG), some (V.ref ld), some (V.ref o2), some (V.str TX), some (V.int c), some (V.ref jr), none, none, some (V.ref D), some (V.int (k1 : Int)), some (V.int (k2 : Int)), p12, none, none, p15] := ⟨_, rfl⟩
    have s1 : ∀ G, G D = some (.lst (zs.map V.str)) → Gz (zs.take k1) (tSl (rSlL K) (tVar 9) tNoPart (tPart (tVar 10))) σ G := fun G hG Q hq => by
      rw [hσ]
      exact ⟨_, rfl, _, rfl, _, rfl, D, _, rfl, SqL.of hG, fun r hr => hq r _ (.new hr) (by rw [upd_same, cut_take zs k1 (by omega)])⟩
    have s2 : ∀ G, G D = some (.lst (zs.map V.str)) → Gz (zs.drop (k1 + 1)) (tSl (rSlL K) (tVar 9) (tPart (tOp (rI0 fun i j => V.int (i + j)) (tVar 10) (tC (.int 1)))) tNoPart) σ G := fun G hG Q hq => by
      rw [hσ]
      exact ⟨_, rfl, _, rfl, _, _, rfl, rfl, _, rfl, D, _, rfl, SqL.of hG, fun r hr => hq r _ (.new hr) (by rw [upd_same, show ((k1 : Int) + 1) = ((k1 + 1 : Nat) : Int) from rfl, cut_drop zs (k1 + 1) (by omega)])⟩
    have s3 : ∀ G, G D = some (.lst (zs.map V.str)) → Gz (zs.drop k1) (tSl (rSlL K) (tVar 9) (tPart (tVar 10)) tNoPart) σ G := fun G hG Q hq => by
      rw [hσ]
      exact ⟨_, rfl, _, rfl, _, rfl, D, _, rfl, SqL.of hG, fun r hr => hq r _ (.new hr) (by rw [upd_same, cut_drop zs k1 (by omega)])⟩
    have s4 : ∀ G, G D = some (.lst (zs.map V.str)) → Gz [zk] (tLst (tCons (tOp (rIxL K) (tVar 9) (tVar 11)) tNil)) σ G := fun G hG Q hq => by
      rw [hσ]
      exact ⟨_, rfl, _, rfl, D, _, _, _, rfl, rfl, SqL.of hG, atI_nat hzk, by show 1 ≤ sizeLine; omega, fun r hr => hq r _ (.new hr) upd_same⟩
    have s5 : ∀ G, G D = some (.lst (zs.map V.str)) → Gz zs.reverse (tRevL K (tVar 9)) σ G := fun G hG Q hq => by
      rw [hσ]
      exact ⟨_, rfl, D, _, rfl, SqL.of hG, fun r hr => hq r _ (.new hr) (by rw [upd_same, List.map_reverse])⟩
    have s6 : ∀ G, G D = some (.lst (zs.map V.str)) → Gz (Txt.split zj (Str.ofString " ")) (tBM K "str" (fun x xs H Q => ∃ a b, x = V.str a ∧ xs = [V.str b] ∧ (b.length == 0) = false ∧ a.length + 2 ≤ sizeLine ∧ rNewStrs (Txt.split a b) H Q) (tOp (rIxL K) (tVar 9) (tVar 10)) (tCons (tC (V.str (Str.ofString " "))) tNil)) σ G := fun G hG Q hq => by
      rw [hσ]
      exact ⟨_, rfl, _, rfl, D, _, _, _, rfl, rfl, SqL.of hG, atI_nat hzj, rfl, _, _, rfl, rfl, by decide, by omega, fun W hW => hq W _ (.new hW) upd_same⟩
    have hspl := split_sum zj (Str.ofString " ")
    rw [List.map_reverse, List.sum_reverse, List.length_reverse, show (Str.ofString " ").length = 1 by decide] at hspl
    have hspw := wt_sum (Txt.split zj (Str.ofString " "))
    have hspl2 : wt (Txt.split zj (Str.ofString " ")) ≤ 48 := by omega
    have hspn := wt_len (Txt.split zj (Str.ofString " "))
    have lt1 : (zs.take k1).length ≤ 12 := by rw [List.length_take]; omega
    have ld1 : (zs.drop (k1 + 1)).length ≤ 12 := by rw [List.length_drop]; omega
    have ld2 : (zs.drop k1).length ≤ 12 := by rw [List.length_drop]; omega
    have m2 := fun G hG => gz_cat (s1 G hG) (fun G' x => s2 G' (x.lst hG)) (by omega)
    have m3 := fun G hG => gz_cat (gz_cat (s1 G hG) (fun G' x => s4 G' (x.lst hG)) (by rw [List.length_singleton]; omega)) (fun G' x => s2 G' (x.lst hG)) (by rw [List.length_append, List.length_singleton]; omega)
    have m4 := fun G hG => gz_cat (gz_cat (s1 G hG) (fun G' x => s4 G' (x.lst hG)) (by rw [List.length_singleton]; omega)) (fun G' x => s3 G' (x.lst hG)) (by rw [List.length_append, List.length_singleton]; omega)
    have m6 := fun G hG => gz_cat (gz_cat (s1 G hG) (fun G' x => s6 G' (x.lst hG)) (by omega)) (fun G' x => s2 G' (x.lst hG)) (by rw [List.length_append]; omega)
    rw [hσ] at s1 s2 s3 s4 s5 s6 m2 m3 m4 m6
    clear hσ
    refine m2 G8 h18 _ fun r2 H2' w2 e2 => m3 H2' (w2.lst h18) _ fun r3 H3' w3 e3 => m4 H3' ((w2.trans w3).lst h18) _ fun r4 H4' w4 e4 => s5 H4' (((w2.trans w3).trans w4).lst h18) _ fun r5 H5' w5 e5 => m6 H5' ((((w2.trans w3).trans w4).trans w5).lst h18) _ fun r6 H6' w6 e6 => ⟨by show 5 ≤ sizeLine; omega, fun S hS0 => ?_⟩
    dsimp only [gName, tSeq, List.set]
    have b2 : wt (zs.take k1 ++ zs.drop (k1 + 1)) ≤ 100 := by
      have := wt_split zs k1
      have := wt_drop zs k1
      rw [wt_app]; omega
    have b3 : wt (zs.take k1 ++ [zk] ++ zs.drop (k1 + 1)) ≤ 100 := by
      have := wt_split zs k1
      have := wt_drop zs k1
      rw [wt_app, wt_app, wt_one]; omega
    have b4 : wt (zs.take k1 ++ [zk] ++ zs.drop k1) ≤ 100 := by
      have := wt_split zs k1
      rw [wt_app, wt_app, wt_one]; omega
    have b5 : wt zs.reverse ≤ 100 := by rw [wt_rev]; omega
    have b6 : wt (zs.take k1 ++ Txt.split zj (Str.ofString " ") ++ zs.drop (k1 + 1)) ≤ 100 := by
      have := wt_split zs k1
      have := wt_drop zs k1
      rw [wt_app, wt_app]; omega
    generalize zs.take k1 ++ zs.drop (k1 + 1) = ys2 at e2 b2
    generalize zs.take k1 ++ [zk] ++ zs.drop (k1 + 1) = ys3 at e3 b3
    generalize zs.take k1 ++ [zk] ++ zs.drop k1 = ys4 at e4 b4
    generalize zs.reverse = ys5 at e5 b5
    generalize zs.take k1 ++ Txt.split zj (Str.ofString " ") ++ zs.drop (k1 + 1) = ys6 at e6 b6
    clear s1 s2 s3 s4 s5 s6 m2 m3 m4 m6 lt1 ld1 ld2 hspl hspw hspl2 hspn
    have w6b : Ext H6' (upd H6' S (.lst [.ref r2, .ref r3, .ref r4, .ref r5, .ref r6])) := .new hS0
    have hSS : (upd H6' S (.lst [.ref r2, .ref r3, .ref r4, .ref r5, .ref r6])) S = some (.lst [.ref r2, .ref r3, .ref r4, .ref r5, .ref r6]) := upd_same
    have w86 : Ext G8 H6' := (((w2.trans w3).trans w4).trans w5).trans w6
    have hS8 : G8 S = none := w86.free hS0
    generalize upd H6' S (.lst [.ref r2, .ref r3, .ref r4, .ref r5, .ref r6]) = H7' at w6b hSS ⊢
    have x87 := w86.trans w6b
    have hjs := wt_sum zs
    refine ⟨_, rfl, .inl ⟨rfl, _, SqL.of hSS⟩, ⟨_, rfl⟩, _, rfl, Str.ofString " ", D, zs, rfl, rfl, .inl (SqL.of (x87.lst h18)), by rw [show (Str.ofString " ").length = 1 by decide]; omega, by show 1 ≤ sizeLine; omega, fun b hb => ?_⟩
    have hj1 := join_sp zs (by intro e; rw [e] at hzn; exact absurd hzn.1 (by decide))
    generalize Txt.join (Str.ofString " ") zs = zw at hj1 hb ⊢
    have x8' : Ext H7' (upd H7' b (.lst [.str zw])) := .new hb
    have eb : (upd H7' b (.lst [.str zw])) b = some (.lst ([zw].map V.str)) := upd_same
    have b7 : wt [zw] ≤ 100 := by rw [wt_one]; omega
    generalize upd H7' b (.lst [.str zw]) = H9' at x8' eb ⊢
    refine ⟨S, _, _, rfl, rfl, x8'.lst hSS, by show 5 < sizeLine; omega, ?_⟩
    have x89 : Ext G8 (upd H9' S (.lst ([.ref r2, .ref r3, .ref r4, .ref r5, .ref r6] ++ [.ref b]))) := (x87.trans x8').write hS8
    have hSS2 : (upd H9' S (.lst ([.ref r2, .ref r3, .ref r4, .ref r5, .ref r6] ++ [.ref b]))) S = some (.lst [.ref r2, .ref r3, .ref r4, .ref r5, .ref r6, .ref b]) := upd_same
    have keepS : ∀ (r : Addr) (ys : List V), H6' r = some (.lst ys) → (upd H9' S (.lst ([.ref r2, .ref r3, .ref r4, .ref r5, .ref r6] ++ [.ref b]))) r = some (.lst ys) := fun r ys h => by
      rw [upd_ne (ne_of_none h hS0)]
      exact (w6b.trans x8').lst h
    have hrs : ∀ v ∈ [V.ref r2, .ref r3, .ref r4, .ref r5, .ref r6, .ref b], ∃ (r : Addr) (ys : List Str), v = .ref r ∧ (upd H9' S (.lst ([.ref r2, .ref r3, .ref r4, .ref r5, .ref r6] ++ [.ref b]))) r = some (.lst (ys.map V.str)) ∧ wt ys ≤ 100 := fun v hv => by
      simp only [List.mem_cons, List.not_mem_nil, or_false] at hv
      rcases hv with rfl | rfl | rfl | rfl | rfl | rfl
      · exact ⟨_, ys2, rfl, keepS _ _ ((((w3.trans w4).trans w5).trans w6).lst e2), b2⟩
      · exact ⟨_, ys3, rfl, keepS _ _ (((w4.trans w5).trans w6).lst e3), b3⟩
      · exact ⟨_, ys4, rfl, keepS _ _ ((w5.trans w6).lst e4), b4⟩
      · exact ⟨_, ys5, rfl, keepS _ _ (w6.lst e5), b5⟩
      · exact ⟨_, ys6, rfl, keepS _ _ e6, b6⟩
      · refine ⟨_, [zw], rfl, ?_, b7⟩
        have hne : b ≠ S := fun y => by rw [y, hSS] at hb; cases hb
        rw [upd_ne hne]
        exact eb
    have hj5' := hj8.ext x89
    have x35' : ExtS [jr] G (upd H9' S (.lst ([.ref r2, .ref r3, .ref r4, .ref r5, .ref r6] ++ [.ref b]))) := x8.trans (.of x89)
    generalize upd H9' S (.lst ([.ref r2, .ref r3, .ref r4, .ref r5, .ref r6] ++ [.ref b])) = H10 at hSS2 hrs hj5' x35' ⊢
    clear keepS x89 hSS x8' x87 w86 w2 w3 w4 w5 w6 w6b e2 e3 e4 e5 e6 b2 b3 b4 b5 b6 b7 hS8 hS0 eb hb h18 hj8 x8
    have hrl : [V.ref r2, .ref r3, .ref r4, .ref r5, .ref r6, .ref b].length = 6 := rfl
    generalize [V.ref r2, .ref r3, .ref r4, .ref r5, .ref r6, .ref b] = rs at hSS2 hrs hrl
    dsimp only [tNext, tSeq]
    refine ⟨_, rfl, S, rfl, ⟨_, SqL.of hSS2⟩, fun D3 hD3 => ?_⟩
    refine lc_list (K := K) (a := S) (xs := rs) (fun i G => ∃ zs : List Str, G D3 = some (.lst (zs.map V.str)) ∧ zs.length = i ∧ (∀ z ∈ zs, z.length ≤ 100) ∧ Ext H10 G)
      ⟨[], upd_same, rfl, (fun z hz => nomatch hz), .new hD3⟩ (fun i G _ ⟨zs, g1, g2, g3, g4⟩ => SqL.of (g4.lst hSS2)) (fun i v G hv ⟨zs, g1, g2, g3, g4⟩ => ?_) (fun G9 ⟨zs, g1, g2, g3, g4⟩ => ?_)
    · obtain ⟨r, ys, rfl, hr1, hr2⟩ := hrs v (List.mem_of_getElem? hv)
      have hi4 := (List.getElem?_eq_some_iff.mp hv).1
      have hjz := join_wt ys
      refine ⟨rfl, ?_⟩
      dsimp only [tYes]
      rw [if_pos rfl]
      refine ⟨⟨_, rfl⟩, _, rfl, Str.ofString "\n", r, ys, rfl, rfl, .inl (SqL.of (g4.lst hr1)), by omega, ?_⟩
      refine ⟨_, g1, ?_, zs ++ [Txt.join (Str.ofString "\n") ys], ?_, by rw [List.length_append, g2]; rfl, fun z hz => ?_, g4.write hD3⟩
      · rw [hvl, g2]
        omega
      · rw [upd_same, List.map_append]
        rfl
      · rcases List.mem_append.mp hz with hz | hz
        · exact g3 z hz
        · rw [List.mem_singleton.mp hz]
          omega
    · refine ⟨_, rfl, by decide, by decide, fun D4 hD4 => ?_⟩
      have hj9 := hj5'.ext g4
      have hD4j : D4 ∉ [jr] := hj9.notin hD4
      have hD3j : D3 ∉ [jr] := hj5'.notin hD3
      refine lc_range (lo := 0) (n := (6 : Int).toNat) (fun i G => ∃ qs : List Str, G D4 = some (.lst (qs.map V.str)) ∧ qs.length = i ∧ (∀ z ∈ qs, z.length ≤ 100) ∧ ExtS [jr] G9 G ∧ JarAt G jr)
        ⟨[], upd_same, rfl, (fun z hz => nomatch hz), .new hD4, hj9.upd (fun e => hD4j (by rw [e]; exact List.mem_singleton.mpr rfl))⟩ (fun i G10 hi ⟨qs, b1, b2, b3, b4, b5⟩ => ?_) (fun G10 ⟨qs, b1, b2, b3, b4, b5⟩ => ?_)
      · refine ⟨rfl, ?_⟩
        dsimp only [tYes]
        rw [if_pos rfl]
        refine ⟨_, rfl, _, rfl, _, rfl, by show 2 ≤ sizeLine; omega, fun l hl => ⟨_, rfl, jr, 2, rfl, b5.ext (.new hl), by decide, by decide, fun m G11 hm x11 hj11 => ?_⟩⟩
        have hlj : l ∉ [jr] := b5.notin hl
        obtain ⟨sg, hsg1, hsg2, hsg3⟩ : ∃ sg : Str, [V.str (Str.ofString "01 2\n"), V.str SG][m]? = some (.str sg) ∧ 0 < sg.length ∧ sg.length ≤ 1000 := match m, hm with
          | 0, _ => ⟨_, rfl, by decide, by decide⟩
          | 1, _ => ⟨SG, rfl, hsg.1, hsg.2⟩
        refine ⟨l, _, _, _, rfl, rfl, SqL.of (x11.lst hlj upd_same), atI_nat hsg1, jr, TX, sg, rfl, hj11, by omega, hsg2, hsg3, fun z' G12 hz' x12 hj12 => ?_⟩
        have xx := ((ExtS.new (S := [jr]) hl (o := .lst [V.str (Str.ofString "01 2\n"), V.str SG])).trans x11).trans x12
        refine ⟨_, xx.lst hD4j b1, ?_, qs ++ [z'], ?_, by rw [List.length_append, b2]; rfl, fun z hz => ?_, (b4.trans xx).write (.inl hD4), hj12.upd (fun e => hD4j (by rw [e]; exact List.mem_singleton.mpr rfl))⟩
        · rw [hvl, b2]
          have : i < 6 := hi
          omega
        · rw [upd_same, List.map_append]
          rfl
        · rcases List.mem_append.mp hz with hz | hz
          · exact b3 z hz
          · rw [List.mem_singleton.mp hz]
            omega
      · refine ⟨D3, D4, _, _, rfl, rfl, b4.lst hD3j g1, b1, ?_, fun O hO => ?_⟩
        · rw [hvl, hvl, b2, g2]
          rw [hrl]
          show 6 + 6 ≤ sizeLine
          omega
        · have hOj : O ∉ [jr] := b5.notin hO
          have hOO : (upd G10 O (.lst (zs.map V.str ++ qs.map V.str))) O = some (.lst (zs.map V.str ++ qs.map V.str)) := upd_same
          have hjO := b5.ext (.new hO (o := .lst (zs.map V.str ++ qs.map V.str)))
          have xO : ExtS [jr] G (upd G10 O (.lst (zs.map V.str ++ qs.map V.str))) := ((x35'.trans (.of g4)).trans b4).trans (.new hO)
          generalize upd G10 O (.lst (zs.map V.str ++ qs.map V.str)) = G11 at hOO hjO xO ⊢
          have hov : ∀ v ∈ zs.map V.str ++ qs.map V.str, ∃ z, v = .str z ∧ z.length ≤ 100 := fun v hv => by
            rcases List.mem_append.mp hv with hv | hv
            · obtain ⟨z, hz, rfl⟩ := List.mem_map.mp hv
              exact ⟨z, rfl, g3 z hz⟩
            · obtain ⟨z, hz, rfl⟩ := List.mem_map.mp hv
              exact ⟨z, rfl, b3 z hz⟩
          generalize zs.map V.str ++ qs.map V.str = ones at hOO hov
          refine ⟨O, rfl, ⟨_, SqL.of hOO⟩, for_list (K := K) (a := O) (xs := ones) (fun i σ G => ∃ q15 : Option V, σ = [some (V.ref a), some (V.str SG), some (V.ref ld), some (V.ref o2), some (V.str TX), some (V.int c), some (V.ref jr), none, none, some (V.ref D), some (V.int (k1 : Int)), some (V.int (k2 : Int)), some (V.ref S), none, none, q15] ∧ ExtS [jr] G11 G ∧ JarAt G jr)
            ⟨p15, rfl, .refl _ _, hjO⟩ (fun i σ G _ ⟨q15, e, x, y⟩ => SqL.of (x.lst hOj hOO)) (fun i v σ G' hv ⟨q15, e, x, y⟩ => ?_) (fun σ G' ⟨q15, e, x, y⟩ => ⟨_, _, _, _, _, _, _, _, _, e, x4.trans (Ext.thenS x5 ((x35.trans xO).trans x) hj0)⟩)⟩
          subst e
          obtain ⟨z, rfl, hz⟩ := hov v (List.mem_of_getElem? hv)
          have hxx := (x35.trans xO).trans x
          have xT : Ext H G' := (xG.trans x4).trans (Ext.thenS x5 hxx hj0)
          obtain ⟨d, F1, a1, a2⟩ := odd_ans (T1 := T1) (T2 := T2) (T3 := T3) (T4 := T4) (K := K) (H := G') (v := .str z) (dp_extS (xO.trans x) hnL hld5) hok (.inl ⟨z, rfl, hz⟩)
          refine ⟨_, rfl, _, rfl, a1 _ (hTab _ xT) fun u G13 x13 hd => ⟨_, rfl, _, rfl, a2 G13 _ x13 fun u2 G14 x14 hd2 => ⟨u, u2, d, rfl, dp_ext x14 hd, hd2, F1.lay, F1.lg, F1.dep, fun G15 x15 => ⟨_, rfl, iteF ⟨_, rfl, x.trans (.of ((x13.trans x14).trans x15)), ?_⟩⟩⟩⟩⟩
          exact y.ext ((x13.trans x14).trans x15)
end
end Wd

set_option Elab.async false
set_option linter.all false
set_option maxRecDepth 100000
set_option maxHeartbeats 4000000
namespace Wd
open PySem PySem.Spec PyProof.Rows L2 Bx Gx




















































/-! ### the head -/
theorem funC_of {K : PySem.W.Frag} {x qual : Str} {st : Stmt} {p : Str × Option Str} {fd : FuncData} (F : FunD K x qual (defArgs st) (defBody st) (defScope st) [] [] (He.fAd K p) fd) : FunC K x qual st (He.fAd K p) fd (He.codeOf K p) := by
  obtain ⟨oc, od, dV, kV, doc, pm, an, cdv, ct, osl, e, l, c, hd, _⟩ := F.ex
  rcases hd with ⟨_, e2⟩ | ⟨e2, _⟩
  · subst e2
    obtain ⟨c0, rfl⟩ := He.codeIn_ref c
    have ec : He.codeOf K p = c0 := He.codeOf_eq l (by rw [e])
    rw [ec]
    exact ⟨⟨oc, od, kV, doc, pm, an, ct, osl, e, l, c⟩, F.kp⟩
  · exact absurd rfl e2
theorem kb_swp {K : PySem.W.Frag} {x qual : Str} {st : Stmt} {f : Addr} {fd : FuncData} {a b : Str} (F : Fun K x qual st f fd)
    (h : ∀ (kV doc pm : Value) (an : Option Addr) (cdv ct : Value) (u v : Value), bindArgs (PySem.W.fnOf x qual (defArgs st) (defBody st) (defScope st) .none kV doc pm an cdv ct) ⟨[], [(b, v), (a, u)]⟩ = pure [(a, u), (b, v)]) : KBinds K fd [a, b] [b, a] swp swp := by
  obtain ⟨oc, od, kV, doc, pm, an, cdv, ct, osl, rfl, lk, hc⟩ := F.ex
  refine ⟨fun s us ws _ hl => ?_, swp_rel⟩
  match us, ws, hl with
  | [], [v, u], _ => exact .of_eq (h kV doc pm an cdv ct u v)
  | [], [], hl => cases hl
  | [], [_], hl => cases hl
  | [], _ :: _ :: _ :: _, hl => cases hl
  | _ :: _, _, hl => cases hl

def d_is_integer : He.DefD := ⟨("is_integer", none), "is_integer", "is_integer", defArgs st_is_integer, defBody st_is_integer, defScope st_is_integer, [], []⟩
def d_is_place : He.DefD := ⟨("is_place", none), "is_place", "is_place", defArgs st_is_place, defBody st_is_place, defScope st_is_place, [], []⟩
def d_is_ascending : He.DefD := ⟨("is_ascending", none), "is_ascending", "is_ascending", defArgs st_is_ascending, defBody st_is_ascending, defScope st_is_ascending, [], []⟩
def d_is_lot : He.DefD := ⟨("is_lot", none), "is_lot", "is_lot", defArgs st_is_lot, defBody st_is_lot, defScope st_is_lot, [], []⟩
def d_mask_of : He.DefD := ⟨("mask_of", none), "mask_of", "mask_of", defArgs st_mask_of, defBody st_mask_of, defScope st_mask_of, [], []⟩
def d_lot_of : He.DefD := ⟨("lot_of", none), "lot_of", "lot_of", defArgs st_lot_of, defBody st_lot_of, defScope st_lot_of, [], []⟩
def d_whole_mask : He.DefD := ⟨("whole_mask", none), "whole_mask", "whole_mask", defArgs st_whole_mask, defBody st_whole_mask, defScope st_whole_mask, [], []⟩
def d_links_of : He.DefD := ⟨("links_of", none), "links_of", "links_of", defArgs st_links_of, defBody st_links_of, defScope st_links_of, [], []⟩
def d_reached : He.DefD := ⟨("reached", none), "reached", "reached", defArgs st_reached, defBody st_reached, defScope st_reached, [], []⟩
def d_hangs_together : He.DefD := ⟨("hangs_together", none), "hangs_together", "hangs_together", defArgs st_hangs_together, defBody st_hangs_together, defScope st_hangs_together, [], []⟩
def d_is_border : He.DefD := ⟨("is_border", none), "is_border", "is_border", defArgs st_is_border, defBody st_is_border, defScope st_is_border, [], []⟩
def d_fault_of_folk : He.DefD := ⟨("fault_of_folk", none), "fault_of_folk", "fault_of_folk", defArgs st_fault_of_folk, defBody st_fault_of_folk, defScope st_fault_of_folk, [], []⟩
def d_fault_of_borders : He.DefD := ⟨("fault_of_borders", none), "fault_of_borders", "fault_of_borders", defArgs st_fault_of_borders, defBody st_fault_of_borders, defScope st_fault_of_borders, [], []⟩
def d_fault_of_land : He.DefD := ⟨("fault_of_land", none), "fault_of_land", "fault_of_land", defArgs st_fault_of_land, defBody st_fault_of_land, defScope st_fault_of_land, [], []⟩
def d_check_land : He.DefD := ⟨("check_land", none), "check_land", "check_land", defArgs st_check_land, defBody st_check_land, defScope st_check_land, [], []⟩
def d_check_text : He.DefD := ⟨("check_text", none), "check_text", "check_text", defArgs st_check_text, defBody st_check_text, defScope st_check_text, [], []⟩
def d_check_once : He.DefD := ⟨("check_once", none), "check_once", "check_once", defArgs st_check_once, defBody st_check_once, defScope st_check_once, [], []⟩
def d_behind_signs : He.DefD := ⟨("behind_signs", none), "behind_signs", "behind_signs", defArgs st_behind_signs, defBody st_behind_signs, defScope st_behind_signs, [], []⟩
def d_read_number : He.DefD := ⟨("read_number", none), "read_number", "read_number", defArgs st_read_number, defBody st_read_number, defScope st_read_number, [], []⟩
def d_read_numbers : He.DefD := ⟨("read_numbers", none), "read_numbers", "read_numbers", defArgs st_read_numbers, defBody st_read_numbers, defScope st_read_numbers, [], []⟩
def d_read_lines : He.DefD := ⟨("read_lines", none), "read_lines", "read_lines", defArgs st_read_lines, defBody st_read_lines, defScope st_read_lines, [], []⟩
def d_plan_with : He.DefD := ⟨("plan_with", none), "plan_with", "plan_with", defArgs st_plan_with, defBody st_plan_with, defScope st_plan_with, [], []⟩
def d_fault_of_plan : He.DefD := ⟨("fault_of_plan", none), "fault_of_plan", "fault_of_plan", defArgs st_fault_of_plan, defBody st_fault_of_plan, defScope st_fault_of_plan, [], []⟩
def d_plan_told : He.DefD := ⟨("plan_told", none), "plan_told", "plan_told", defArgs st_plan_told, defBody st_plan_told, defScope st_plan_told, [], []⟩
def d__law_jar : He.DefD := ⟨("_law_jar", none), "_law_jar", "_law_jar", defArgs st__law_jar, defBody st__law_jar, defScope st__law_jar, [], []⟩
def d__law_drawn : He.DefD := ⟨("_law_drawn", none), "_law_drawn", "_law_drawn", defArgs st__law_drawn, defBody st__law_drawn, defScope st__law_drawn, [], []⟩
def d__law_ill : He.DefD := ⟨("_law_ill", none), "_law_ill", "_law_ill", defArgs st__law_ill, defBody st__law_ill, defScope st__law_ill, [], []⟩
def d__law_sign : He.DefD := ⟨("_law_sign", none), "_law_sign", "_law_sign", defArgs st__law_sign, defBody st__law_sign, defScope st__law_sign, [], []⟩
def d__law_by : He.DefD := ⟨("_law_by", none), "_law_by", "_law_by", defArgs st__law_by, defBody st__law_by, defScope st__law_by, [], []⟩
def d__law_run : He.DefD := ⟨("_law_run", none), "_law_run", "_law_run", defArgs st__law_run, defBody st__law_run, defScope st__law_run, [], []⟩
def d__law_number : He.DefD := ⟨("_law_number", none), "_law_number", "_law_number", defArgs st__law_number, defBody st__law_number, defScope st__law_number, [], []⟩
def d__law_row : He.DefD := ⟨("_law_row", none), "_law_row", "_law_row", defArgs st__law_row, defBody st__law_row, defScope st__law_row, [], []⟩
def d__law_hangs : He.DefD := ⟨("_law_hangs", none), "_law_hangs", "_law_hangs", defArgs st__law_hangs, defBody st__law_hangs, defScope st__law_hangs, [], []⟩
def d__law_fault : He.DefD := ⟨("_law_fault", none), "_law_fault", "_law_fault", defArgs st__law_fault, defBody st__law_fault, defScope st__law_fault, [], []⟩
def d__law_read : He.DefD := ⟨("_law_read", none), "_law_read", "_law_read", defArgs st__law_read, defBody st__law_read, defScope st__law_read, [], []⟩
def d__law_told : He.DefD := ⟨("_law_told", none), "_law_told", "_law_told", defArgs st__law_told, defBody st__law_told, defScope st__law_told, [], []⟩
def d__law_same : He.DefD := ⟨("_law_same", none), "_law_same", "_law_same", defArgs st__law_same, defBody st__law_same, defScope st__law_same, [], []⟩
def d__law_spoilt : He.DefD := ⟨("_law_spoilt", none), "_law_spoilt", "_law_spoilt", defArgs st__law_spoilt, defBody st__law_spoilt, defScope st__law_spoilt, [], []⟩
def d__law_land : He.DefD := ⟨("_law_land", none), "_law_land", "_law_land", defArgs st__law_land, defBody st__law_land, defScope st__law_land, [], []⟩
def d__law_plan : He.DefD := ⟨("_law_plan", none), "_law_plan", "_law_plan", defArgs st__law_plan, defBody st__law_plan, defScope st__law_plan, [], []⟩
def d_law : He.DefD := ⟨("law", none), "law", "law", defArgs st_law, defBody st_law, defScope st_law, [], []⟩
def d_initText : He.DefD := ⟨("InvalidText", some "__init__"), "__init__", "InvalidText.__init__", defArgs initTextS, defBody initTextS, defScope initTextS, [], []⟩
def d_initTwice : He.DefD := ⟨("Twice", some "__init__"), "__init__", "Twice.__init__", defArgs initTwiceS, defBody initTwiceS, defScope initTwiceS, [], []⟩
def d_initLand : He.DefD := ⟨("InvalidLand", some "__init__"), "__init__", "InvalidLand.__init__", defArgs initLandS, defBody initLandS, defScope initLandS, [], []⟩
def d_initPlan : He.DefD := ⟨("InvalidPlan", some "__init__"), "__init__", "InvalidPlan.__init__", defArgs initPlanS, defBody initPlanS, defScope initPlanS, [], []⟩
def exk (K : PySem.W.Frag) : Bool := ((ycB K "InvalidText" "index" && xfB K (He.ga K "InvalidText")) && (ycB K "Twice" "word" && xfB K (He.ga K "Twice"))) && (ycB K "InvalidLand" "place" && (ycB K "InvalidPlan" "index" && xfB K (He.ga K "InvalidPlan")))
def fnl : List He.DefD := [d_is_integer, d_is_place, d_is_ascending, d_is_lot, d_mask_of, d_lot_of, d_whole_mask, d_links_of, d_reached, d_hangs_together, d_is_border, d_fault_of_folk, d_fault_of_borders, d_fault_of_land, d_check_land, d_check_text, d_check_once, d_behind_signs, d_read_number, d_read_numbers, d_read_lines, d_plan_with, d_fault_of_plan, d_plan_told, d__law_jar, d__law_drawn, d__law_ill, d__law_sign, d__law_by, d__law_run, d__law_number, d__law_row, d__law_hangs, d__law_fault, d__law_read, d__law_told, d__law_same, d__law_spoilt, d__law_land, d__law_plan, d_law, d_initText, d_initTwice, d_initLand, d_initPlan]
def fal : List He.Fa := [.glo "is_integer", .glo "is_place", .glo "is_ascending", .glo "is_lot", .glo "mask_of", .glo "lot_of", .glo "whole_mask", .glo "links_of", .glo "reached", .glo "hangs_together", .glo "is_border", .glo "fault_of_folk", .glo "fault_of_borders", .glo "fault_of_land", .glo "check_land", .glo "check_text", .glo "check_once", .glo "behind_signs", .glo "read_number", .glo "read_numbers", .glo "read_lines", .glo "plan_with", .glo "fault_of_plan", .glo "plan_told", .glo "_law_jar", .glo "_law_drawn", .glo "_law_ill", .glo "_law_sign", .glo "_law_by", .glo "_law_run", .glo "_law_number", .glo "_law_row", .glo "_law_hangs", .glo "_law_fault", .glo "_law_read", .glo "_law_told", .glo "_law_same", .glo "_law_spoilt", .glo "_law_land", .glo "_law_plan", .glo "law", .free "type", .free "len", .free "all", .free "sum", .free "tuple", .free "list", .free "range", .free "int", .free "bool", .free "str", .free "min", .free "max", .free "sorted", .free "isinstance", .free "set", .int "FEWEST_PLACES" 2, .int "MOST_PLACES" 12, .int "MOST_FOLK" 1000000, .int "MOST_DIGITS" 12, .glo "InvalidText", .glo "Twice", .glo "InvalidLand", .glo "InvalidPlan", .glo "WardError", .exm "InvalidLand" "InvalidLand" true, .exm "InvalidText" "InvalidLand" false, .exm "InvalidText" "InvalidText" true, .exm "Twice" "InvalidLand" false, .exm "Twice" "InvalidText" false, .exm "Twice" "Twice" true, .exm "InvalidPlan" "InvalidLand" false, .exm "InvalidPlan" "InvalidText" false, .exm "InvalidPlan" "Twice" false, .exm "InvalidPlan" "InvalidPlan" true, .str "DIGITS" "0123456789"]
def tfl : List He.Defn := [("is_lot", none), ("is_ascending", none), ("mask_of", none), ("lot_of", none)]
theorem facts {l : PySem.W.OpenLaw} {w : World} {K : PySem.W.Frag} {h : Heap} {mg : Str → Option Value} {f : Addr} (X : K.In h) (G : h.Ns mainGlobals mg) (hfa : mg ("law" : Str) = some (.ref f)) (c : He.SaysX fal fnl [] tfl exk w h K) :
    LamX.LawAtS l w K CX0 12 63 "script" mg f h := by
  obtain ⟨e0, D0'⟩ := c.t.d.def_ 0 (d := d_is_integer) rfl
  have D0 : FunD K "is_integer" "is_integer" (defArgs st_is_integer) (defBody st_is_integer) (defScope st_is_integer) [] [] (He.fAd K ("is_integer", none)) e0 := D0'
  have g0 := He.glo_ok X G (c.t.d.fact 0 (f := .glo "is_integer") rfl)
  have b0 := D0.bindsN (ps := ["value", "low", "high"]) fun _ _ _ _ _ _ us hl => match us, hl with | [_, _, _], _ => rfl
  have F0 := He5.fun_of D0
  obtain ⟨e1, D1'⟩ := c.t.d.def_ 1 (d := d_is_place) rfl
  have D1 : FunD K "is_place" "is_place" (defArgs st_is_place) (defBody st_is_place) (defScope st_is_place) [] [] (He.fAd K ("is_place", none)) e1 := D1'
  have g1 := He.glo_ok X G (c.t.d.fact 1 (f := .glo "is_place") rfl)
  have b1 := D1.bindsN (ps := ["land", "value"]) fun _ _ _ _ _ _ us hl => match us, hl with | [_, _], _ => rfl
  have F1 := He5.fun_of D1
  obtain ⟨e2, D2'⟩ := c.t.d.def_ 2 (d := d_is_ascending) rfl
  have D2 : FunD K "is_ascending" "is_ascending" (defArgs st_is_ascending) (defBody st_is_ascending) (defScope st_is_ascending) [] [] (He.fAd K ("is_ascending", none)) e2 := D2'
  have g2 := He.glo_ok X G (c.t.d.fact 2 (f := .glo "is_ascending") rfl)
  have b2 := D2.bindsN (ps := ["row"]) fun _ _ _ _ _ _ us hl => match us, hl with | [_], _ => rfl
  have F2 := He5.fun_of D2
  obtain ⟨e3, D3'⟩ := c.t.d.def_ 3 (d := d_is_lot) rfl
  have D3 : FunD K "is_lot" "is_lot" (defArgs st_is_lot) (defBody st_is_lot) (defScope st_is_lot) [] [] (He.fAd K ("is_lot", none)) e3 := D3'
  have g3 := He.glo_ok X G (c.t.d.fact 3 (f := .glo "is_lot") rfl)
  have b3 := D3.bindsN (ps := ["land", "value"]) fun _ _ _ _ _ _ us hl => match us, hl with | [_, _], _ => rfl
  have F3 := He5.fun_of D3
  obtain ⟨e4, D4'⟩ := c.t.d.def_ 4 (d := d_mask_of) rfl
  have D4 : FunD K "mask_of" "mask_of" (defArgs st_mask_of) (defBody st_mask_of) (defScope st_mask_of) [] [] (He.fAd K ("mask_of", none)) e4 := D4'
  have g4 := He.glo_ok X G (c.t.d.fact 4 (f := .glo "mask_of") rfl)
  have b4 := D4.bindsN (ps := ["lot"]) fun _ _ _ _ _ _ us hl => match us, hl with | [_], _ => rfl
  have F4 := He5.fun_of D4
  obtain ⟨e5, D5'⟩ := c.t.d.def_ 5 (d := d_lot_of) rfl
  have D5 : FunD K "lot_of" "lot_of" (defArgs st_lot_of) (defBody st_lot_of) (defScope st_lot_of) [] [] (He.fAd K ("lot_of", none)) e5 := D5'
  have g5 := He.glo_ok X G (c.t.d.fact 5 (f := .glo "lot_of") rfl)
  have b5 := D5.bindsN (ps := ["mask"]) fun _ _ _ _ _ _ us hl => match us, hl with | [_], _ => rfl
  have F5 := He5.fun_of D5
  obtain ⟨e6, D6'⟩ := c.t.d.def_ 6 (d := d_whole_mask) rfl
  have D6 : FunD K "whole_mask" "whole_mask" (defArgs st_whole_mask) (defBody st_whole_mask) (defScope st_whole_mask) [] [] (He.fAd K ("whole_mask", none)) e6 := D6'
  have g6 := He.glo_ok X G (c.t.d.fact 6 (f := .glo "whole_mask") rfl)
  have b6 := D6.bindsN (ps := ["land"]) fun _ _ _ _ _ _ us hl => match us, hl with | [_], _ => rfl
  have F6 := He5.fun_of D6
  obtain ⟨e7, D7'⟩ := c.t.d.def_ 7 (d := d_links_of) rfl
  have D7 : FunD K "links_of" "links_of" (defArgs st_links_of) (defBody st_links_of) (defScope st_links_of) [] [] (He.fAd K ("links_of", none)) e7 := D7'
  have g7 := He.glo_ok X G (c.t.d.fact 7 (f := .glo "links_of") rfl)
  have b7 := D7.bindsN (ps := ["land"]) fun _ _ _ _ _ _ us hl => match us, hl with | [_], _ => rfl
  have F7 := He5.fun_of D7
  obtain ⟨e8, D8'⟩ := c.t.d.def_ 8 (d := d_reached) rfl
  have D8 : FunD K "reached" "reached" (defArgs st_reached) (defBody st_reached) (defScope st_reached) [] [] (He.fAd K ("reached", none)) e8 := D8'
  have g8 := He.glo_ok X G (c.t.d.fact 8 (f := .glo "reached") rfl)
  have b8 := D8.bindsN (ps := ["links", "start", "mask"]) fun _ _ _ _ _ _ us hl => match us, hl with | [_, _, _], _ => rfl
  have F8 := He5.fun_of D8
  obtain ⟨e9, D9'⟩ := c.t.d.def_ 9 (d := d_hangs_together) rfl
  have D9 : FunD K "hangs_together" "hangs_together" (defArgs st_hangs_together) (defBody st_hangs_together) (defScope st_hangs_together) [] [] (He.fAd K ("hangs_together", none)) e9 := D9'
  have g9 := He.glo_ok X G (c.t.d.fact 9 (f := .glo "hangs_together") rfl)
  have b9 := D9.bindsN (ps := ["links", "mask"]) fun _ _ _ _ _ _ us hl => match us, hl with | [_, _], _ => rfl
  have F9 := He5.fun_of D9
  obtain ⟨e10, D10'⟩ := c.t.d.def_ 10 (d := d_is_border) rfl
  have D10 : FunD K "is_border" "is_border" (defArgs st_is_border) (defBody st_is_border) (defScope st_is_border) [] [] (He.fAd K ("is_border", none)) e10 := D10'
  have g10 := He.glo_ok X G (c.t.d.fact 10 (f := .glo "is_border") rfl)
  have b10 := D10.bindsN (ps := ["value", "many"]) fun _ _ _ _ _ _ us hl => match us, hl with | [_, _], _ => rfl
  have F10 := He5.fun_of D10
  obtain ⟨e11, D11'⟩ := c.t.d.def_ 11 (d := d_fault_of_folk) rfl
  have D11 : FunD K "fault_of_folk" "fault_of_folk" (defArgs st_fault_of_folk) (defBody st_fault_of_folk) (defScope st_fault_of_folk) [] [] (He.fAd K ("fault_of_folk", none)) e11 := D11'
  have g11 := He.glo_ok X G (c.t.d.fact 11 (f := .glo "fault_of_folk") rfl)
  have b11 := D11.bindsN (ps := ["folk"]) fun _ _ _ _ _ _ us hl => match us, hl with | [_], _ => rfl
  have F11 := He5.fun_of D11
  obtain ⟨e12, D12'⟩ := c.t.d.def_ 12 (d := d_fault_of_borders) rfl
  have D12 : FunD K "fault_of_borders" "fault_of_borders" (defArgs st_fault_of_borders) (defBody st_fault_of_borders) (defScope st_fault_of_borders) [] [] (He.fAd K ("fault_of_borders", none)) e12 := D12'
  have g12 := He.glo_ok X G (c.t.d.fact 12 (f := .glo "fault_of_borders") rfl)
  have b12 := D12.bindsN (ps := ["borders", "many"]) fun _ _ _ _ _ _ us hl => match us, hl with | [_, _], _ => rfl
  have F12 := He5.fun_of D12
  obtain ⟨e13, D13'⟩ := c.t.d.def_ 13 (d := d_fault_of_land) rfl
  have D13 : FunD K "fault_of_land" "fault_of_land" (defArgs st_fault_of_land) (defBody st_fault_of_land) (defScope st_fault_of_land) [] [] (He.fAd K ("fault_of_land", none)) e13 := D13'
  have g13 := He.glo_ok X G (c.t.d.fact 13 (f := .glo "fault_of_land") rfl)
  have b13 := D13.bindsN (ps := ["value"]) fun _ _ _ _ _ _ us hl => match us, hl with | [_], _ => rfl
  have F13 := He5.fun_of D13
  obtain ⟨e14, D14'⟩ := c.t.d.def_ 14 (d := d_check_land) rfl
  have D14 : FunD K "check_land" "check_land" (defArgs st_check_land) (defBody st_check_land) (defScope st_check_land) [] [] (He.fAd K ("check_land", none)) e14 := D14'
  have g14 := He.glo_ok X G (c.t.d.fact 14 (f := .glo "check_land") rfl)
  have b14 := D14.bindsN (ps := ["land"]) fun _ _ _ _ _ _ us hl => match us, hl with | [_], _ => rfl
  have F14 := He5.fun_of D14
  obtain ⟨e15, D15'⟩ := c.t.d.def_ 15 (d := d_check_text) rfl
  have D15 : FunD K "check_text" "check_text" (defArgs st_check_text) (defBody st_check_text) (defScope st_check_text) [] [] (He.fAd K ("check_text", none)) e15 := D15'
  have g15 := He.glo_ok X G (c.t.d.fact 15 (f := .glo "check_text") rfl)
  have b15 := D15.bindsN (ps := ["text"]) fun _ _ _ _ _ _ us hl => match us, hl with | [_], _ => rfl
  have F15 := He5.fun_of D15
  obtain ⟨e16, D16'⟩ := c.t.d.def_ 16 (d := d_check_once) rfl
  have D16 : FunD K "check_once" "check_once" (defArgs st_check_once) (defBody st_check_once) (defScope st_check_once) [] [] (He.fAd K ("check_once", none)) e16 := D16'
  have g16 := He.glo_ok X G (c.t.d.fact 16 (f := .glo "check_once") rfl)
  have b16 := D16.bindsN (ps := ["words"]) fun _ _ _ _ _ _ us hl => match us, hl with | [_], _ => rfl
  have F16 := He5.fun_of D16
  obtain ⟨e17, D17'⟩ := c.t.d.def_ 17 (d := d_behind_signs) rfl
  have D17 : FunD K "behind_signs" "behind_signs" (defArgs st_behind_signs) (defBody st_behind_signs) (defScope st_behind_signs) [] [] (He.fAd K ("behind_signs", none)) e17 := D17'
  have g17 := He.glo_ok X G (c.t.d.fact 17 (f := .glo "behind_signs") rfl)
  have b17 := D17.bindsN (ps := ["text", "at", "signs"]) fun _ _ _ _ _ _ us hl => match us, hl with | [_, _, _], _ => rfl
  have F17 := He5.fun_of D17
  obtain ⟨e18, D18'⟩ := c.t.d.def_ 18 (d := d_read_number) rfl
  have D18 : FunD K "read_number" "read_number" (defArgs st_read_number) (defBody st_read_number) (defScope st_read_number) [] [] (He.fAd K ("read_number", none)) e18 := D18'
  have g18 := He.glo_ok X G (c.t.d.fact 18 (f := .glo "read_number") rfl)
  have b18 := D18.bindsN (ps := ["text", "at"]) fun _ _ _ _ _ _ us hl => match us, hl with | [_, _], _ => rfl
  have F18 := He5.fun_of D18
  obtain ⟨e19, D19'⟩ := c.t.d.def_ 19 (d := d_read_numbers) rfl
  have D19 : FunD K "read_numbers" "read_numbers" (defArgs st_read_numbers) (defBody st_read_numbers) (defScope st_read_numbers) [] [] (He.fAd K ("read_numbers", none)) e19 := D19'
  have g19 := He.glo_ok X G (c.t.d.fact 19 (f := .glo "read_numbers") rfl)
  have b19 := D19.bindsN (ps := ["text", "at", "least", "most"]) fun _ _ _ _ _ _ us hl => match us, hl with | [_, _, _, _], _ => rfl
  have F19 := He5.fun_of D19
  obtain ⟨e20, D20'⟩ := c.t.d.def_ 20 (d := d_read_lines) rfl
  have D20 : FunD K "read_lines" "read_lines" (defArgs st_read_lines) (defBody st_read_lines) (defScope st_read_lines) [] [] (He.fAd K ("read_lines", none)) e20 := D20'
  have g20 := He.glo_ok X G (c.t.d.fact 20 (f := .glo "read_lines") rfl)
  have b20 := D20.bindsN (ps := ["text", "at", "least", "most"]) fun _ _ _ _ _ _ us hl => match us, hl with | [_, _, _, _], _ => rfl
  have F20 := He5.fun_of D20
  obtain ⟨e21, D21'⟩ := c.t.d.def_ 21 (d := d_plan_with) rfl
  have D21 : FunD K "plan_with" "plan_with" (defArgs st_plan_with) (defBody st_plan_with) (defScope st_plan_with) [] [] (He.fAd K ("plan_with", none)) e21 := D21'
  have g21 := He.glo_ok X G (c.t.d.fact 21 (f := .glo "plan_with") rfl)
  have b21 := D21.bindsN (ps := ["wards"]) fun _ _ _ _ _ _ us hl => match us, hl with | [_], _ => rfl
  have F21 := He5.fun_of D21
  obtain ⟨e22, D22'⟩ := c.t.d.def_ 22 (d := d_fault_of_plan) rfl
  have D22 : FunD K "fault_of_plan" "fault_of_plan" (defArgs st_fault_of_plan) (defBody st_fault_of_plan) (defScope st_fault_of_plan) [] [] (He.fAd K ("fault_of_plan", none)) e22 := D22'
  have g22 := He.glo_ok X G (c.t.d.fact 22 (f := .glo "fault_of_plan") rfl)
  have b22 := D22.bindsN (ps := ["land", "value"]) fun _ _ _ _ _ _ us hl => match us, hl with | [_, _], _ => rfl
  have F22 := He5.fun_of D22
  obtain ⟨e23, D23'⟩ := c.t.d.def_ 23 (d := d_plan_told) rfl
  have D23 : FunD K "plan_told" "plan_told" (defArgs st_plan_told) (defBody st_plan_told) (defScope st_plan_told) [] [] (He.fAd K ("plan_told", none)) e23 := D23'
  have g23 := He.glo_ok X G (c.t.d.fact 23 (f := .glo "plan_told") rfl)
  have b23 := D23.bindsN (ps := ["land", "text"]) fun _ _ _ _ _ _ us hl => match us, hl with | [_, _], _ => rfl
  have F23 := He5.fun_of D23
  obtain ⟨e24, D24'⟩ := c.t.d.def_ 24 (d := d__law_jar) rfl
  have D24 : FunD K "_law_jar" "_law_jar" (defArgs st__law_jar) (defBody st__law_jar) (defScope st__law_jar) [] [] (He.fAd K ("_law_jar", none)) e24 := D24'
  have g24 := He.glo_ok X G (c.t.d.fact 24 (f := .glo "_law_jar") rfl)
  have b24 := D24.bindsN (ps := ["cell"]) fun _ _ _ _ _ _ us hl => match us, hl with | [_], _ => rfl
  have F24 := He5.fun_of D24
  obtain ⟨e25, D25'⟩ := c.t.d.def_ 25 (d := d__law_drawn) rfl
  have D25 : FunD K "_law_drawn" "_law_drawn" (defArgs st__law_drawn) (defBody st__law_drawn) (defScope st__law_drawn) [] [] (He.fAd K ("_law_drawn", none)) e25 := D25'
  have g25 := He.glo_ok X G (c.t.d.fact 25 (f := .glo "_law_drawn") rfl)
  have b25 := D25.bindsN (ps := ["jar", "many"]) fun _ _ _ _ _ _ us hl => match us, hl with | [_, _], _ => rfl
  have F25 := He5.fun_of D25
  obtain ⟨e26, D26'⟩ := c.t.d.def_ 26 (d := d__law_ill) rfl
  have D26 : FunD K "_law_ill" "_law_ill" (defArgs st__law_ill) (defBody st__law_ill) (defScope st__law_ill) [] [] (He.fAd K ("_law_ill", none)) e26 := D26'
  have g26 := He.glo_ok X G (c.t.d.fact 26 (f := .glo "_law_ill") rfl)
  have b26 := D26.bindsN (ps := ["at"]) fun _ _ _ _ _ _ us hl => match us, hl with | [_], _ => rfl
  have F26 := He5.fun_of D26
  obtain ⟨e27, D27'⟩ := c.t.d.def_ 27 (d := d__law_sign) rfl
  have D27 : FunD K "_law_sign" "_law_sign" (defArgs st__law_sign) (defBody st__law_sign) (defScope st__law_sign) [] [] (He.fAd K ("_law_sign", none)) e27 := D27'
  have g27 := He.glo_ok X G (c.t.d.fact 27 (f := .glo "_law_sign") rfl)
  have b27 := D27.bindsN (ps := ["at"]) fun _ _ _ _ _ _ us hl => match us, hl with | [_], _ => rfl
  have F27 := He5.fun_of D27
  obtain ⟨e28, D28'⟩ := c.t.d.def_ 28 (d := d__law_by) rfl
  have D28 : FunD K "_law_by" "_law_by" (defArgs st__law_by) (defBody st__law_by) (defScope st__law_by) [] [] (He.fAd K ("_law_by", none)) e28 := D28'
  have g28 := He.glo_ok X G (c.t.d.fact 28 (f := .glo "_law_by") rfl)
  have b28 := D28.bindsN (ps := ["at", "signs"]) fun _ _ _ _ _ _ us hl => match us, hl with | [_, _], _ => rfl
  have F28 := He5.fun_of D28
  obtain ⟨e29, D29'⟩ := c.t.d.def_ 29 (d := d__law_run) rfl
  have D29 : FunD K "_law_run" "_law_run" (defArgs st__law_run) (defBody st__law_run) (defScope st__law_run) [] [] (He.fAd K ("_law_run", none)) e29 := D29'
  have g29 := He.glo_ok X G (c.t.d.fact 29 (f := .glo "_law_run") rfl)
  have b29 := D29.bindsN (ps := ["at", "signs", "top_one"]) fun _ _ _ _ _ _ us hl => match us, hl with | [_, _, _], _ => rfl
  have F29 := He5.fun_of D29
  obtain ⟨e30, D30'⟩ := c.t.d.def_ 30 (d := d__law_number) rfl
  have D30 : FunD K "_law_number" "_law_number" (defArgs st__law_number) (defBody st__law_number) (defScope st__law_number) [] [] (He.fAd K ("_law_number", none)) e30 := D30'
  have g30 := He.glo_ok X G (c.t.d.fact 30 (f := .glo "_law_number") rfl)
  have b30 := D30.bindsN (ps := ["at"]) fun _ _ _ _ _ _ us hl => match us, hl with | [_], _ => rfl
  have F30 := He5.fun_of D30
  obtain ⟨e31, D31'⟩ := c.t.d.def_ 31 (d := d__law_row) rfl
  have D31 : FunD K "_law_row" "_law_row" (defArgs st__law_row) (defBody st__law_row) (defScope st__law_row) [] [] (He.fAd K ("_law_row", none)) e31 := D31'
  have g31 := He.glo_ok X G (c.t.d.fact 31 (f := .glo "_law_row") rfl)
  have b31 := D31.bindsN (ps := ["at"]) fun _ _ _ _ _ _ us hl => match us, hl with | [_], _ => rfl
  have F31 := He5.fun_of D31
  obtain ⟨e32, D32'⟩ := c.t.d.def_ 32 (d := d__law_hangs) rfl
  have D32 : FunD K "_law_hangs" "_law_hangs" (defArgs st__law_hangs) (defBody st__law_hangs) (defScope st__law_hangs) [] [] (He.fAd K ("_law_hangs", none)) e32 := D32'
  have g32 := He.glo_ok X G (c.t.d.fact 32 (f := .glo "_law_hangs") rfl)
  have b32 := D32.bindsN (ps := ["land", "lot"]) fun _ _ _ _ _ _ us hl => match us, hl with | [_, _], _ => rfl
  have F32 := He5.fun_of D32
  obtain ⟨e33, D33'⟩ := c.t.d.def_ 33 (d := d__law_fault) rfl
  have D33 : FunD K "_law_fault" "_law_fault" (defArgs st__law_fault) (defBody st__law_fault) (defScope st__law_fault) [] [] (He.fAd K ("_law_fault", none)) e33 := D33'
  have g33 := He.glo_ok X G (c.t.d.fact 33 (f := .glo "_law_fault") rfl)
  have b33 := D33.bindsN (ps := ["land", "plan"]) fun _ _ _ _ _ _ us hl => match us, hl with | [_, _], _ => rfl
  have F33 := He5.fun_of D33
  obtain ⟨e34, D34'⟩ := c.t.d.def_ 34 (d := d__law_read) rfl
  have D34 : FunD K "_law_read" "_law_read" (defArgs st__law_read) (defBody st__law_read) (defScope st__law_read) [] [] (He.fAd K ("_law_read", none)) e34 := D34'
  have g34 := He.glo_ok X G (c.t.d.fact 34 (f := .glo "_law_read") rfl)
  have b34 := D34.bindsN (ps := ["land", "text"]) fun _ _ _ _ _ _ us hl => match us, hl with | [_, _], _ => rfl
  have F34 := He5.fun_of D34
  obtain ⟨e35, D35'⟩ := c.t.d.def_ 35 (d := d__law_told) rfl
  have D35 : FunD K "_law_told" "_law_told" (defArgs st__law_told) (defBody st__law_told) (defScope st__law_told) [] [] (He.fAd K ("_law_told", none)) e35 := D35'
  have g35 := He.glo_ok X G (c.t.d.fact 35 (f := .glo "_law_told") rfl)
  have b35 := D35.bindsN (ps := ["land", "text"]) fun _ _ _ _ _ _ us hl => match us, hl with | [_, _], _ => rfl
  have F35 := He5.fun_of D35
  obtain ⟨e36, D36'⟩ := c.t.d.def_ 36 (d := d__law_same) rfl
  have D36 : FunD K "_law_same" "_law_same" (defArgs st__law_same) (defBody st__law_same) (defScope st__law_same) [] [] (He.fAd K ("_law_same", none)) e36 := D36'
  have g36 := He.glo_ok X G (c.t.d.fact 36 (f := .glo "_law_same") rfl)
  have b36 := D36.bindsN (ps := ["found", "due"]) fun _ _ _ _ _ _ us hl => match us, hl with | [_, _], _ => rfl
  have F36 := He5.fun_of D36
  obtain ⟨e37, D37'⟩ := c.t.d.def_ 37 (d := d__law_spoilt) rfl
  have D37 : FunD K "_law_spoilt" "_law_spoilt" (defArgs st__law_spoilt) (defBody st__law_spoilt) (defScope st__law_spoilt) [] [] (He.fAd K ("_law_spoilt", none)) e37 := D37'
  have g37 := He.glo_ok X G (c.t.d.fact 37 (f := .glo "_law_spoilt") rfl)
  have b37 := D37.bindsN (ps := ["jar", "text", "signs"]) fun _ _ _ _ _ _ us hl => match us, hl with | [_, _, _], _ => rfl
  have F37 := He5.fun_of D37
  obtain ⟨e38, D38'⟩ := c.t.d.def_ 38 (d := d__law_land) rfl
  have D38 : FunD K "_law_land" "_law_land" (defArgs st__law_land) (defBody st__law_land) (defScope st__law_land) [] [] (He.fAd K ("_law_land", none)) e38 := D38'
  have g38 := He.glo_ok X G (c.t.d.fact 38 (f := .glo "_law_land") rfl)
  have b38 := D38.bindsN (ps := ["jar", "top_one"]) fun _ _ _ _ _ _ us hl => match us, hl with | [_, _], _ => rfl
  have F38 := He5.fun_of D38
  obtain ⟨e39, D39'⟩ := c.t.d.def_ 39 (d := d__law_plan) rfl
  have D39 : FunD K "_law_plan" "_law_plan" (defArgs st__law_plan) (defBody st__law_plan) (defScope st__law_plan) [] [] (He.fAd K ("_law_plan", none)) e39 := D39'
  have g39 := He.glo_ok X G (c.t.d.fact 39 (f := .glo "_law_plan") rfl)
  have b39 := D39.bindsN (ps := ["jar", "land"]) fun _ _ _ _ _ _ us hl => match us, hl with | [_, _], _ => rfl
  have F39 := He5.fun_of D39
  obtain ⟨e40, D40'⟩ := c.t.d.def_ 40 (d := d_law) rfl
  have D40 : FunD K "law" "law" (defArgs st_law) (defBody st_law) (defScope st_law) [] [] (He.fAd K ("law", none)) e40 := D40'
  have g40 := He.glo_ok X G (c.t.d.fact 40 (f := .glo "law") rfl)
  have b40 := D40.bindsN (ps := ["script"]) fun _ _ _ _ _ _ us hl => match us, hl with | [_], _ => rfl
  have F40 := He5.fun_of D40
  obtain ⟨eM0, DM0'⟩ := c.t.d.def_ 41 (d := d_initText) rfl
  have DM0 : FunD K "__init__" "InvalidText.__init__" (defArgs initTextS) (defBody initTextS) (defScope initTextS) [] [] (He.fAd K ("InvalidText", some "__init__")) eM0 := DM0'
  have bM0 := DM0.bindsN (ps := ["self", "index"]) fun _ _ _ _ _ _ us hl => match us, hl with | [_, _], _ => rfl
  have FM0 := He5.fun_of DM0
  obtain ⟨eM1, DM1'⟩ := c.t.d.def_ 42 (d := d_initTwice) rfl
  have DM1 : FunD K "__init__" "Twice.__init__" (defArgs initTwiceS) (defBody initTwiceS) (defScope initTwiceS) [] [] (He.fAd K ("Twice", some "__init__")) eM1 := DM1'
  have bM1 := DM1.bindsN (ps := ["self", "word"]) fun _ _ _ _ _ _ us hl => match us, hl with | [_, _], _ => rfl
  have FM1 := He5.fun_of DM1
  obtain ⟨eM2, DM2'⟩ := c.t.d.def_ 43 (d := d_initLand) rfl
  have DM2 : FunD K "__init__" "InvalidLand.__init__" (defArgs initLandS) (defBody initLandS) (defScope initLandS) [] [] (He.fAd K ("InvalidLand", some "__init__")) eM2 := DM2'
  have bM2 := DM2.bindsN (ps := ["self", "place"]) fun _ _ _ _ _ _ us hl => match us, hl with | [_, _], _ => rfl
  have FM2 := He5.fun_of DM2
  obtain ⟨eM3, DM3'⟩ := c.t.d.def_ 44 (d := d_initPlan) rfl
  have DM3 : FunD K "__init__" "InvalidPlan.__init__" (defArgs initPlanS) (defBody initPlanS) (defScope initPlanS) [] [] (He.fAd K ("InvalidPlan", some "__init__")) eM3 := DM3'
  have bM3 := DM3.bindsN (ps := ["self", "index"]) fun _ _ _ _ _ _ us hl => match us, hl with | [_, _], _ => rfl
  have FM3 := He5.fun_of DM3
  have B : Bl mg := ⟨He.free_ok X G (c.t.d.fact 41 (f := .free "type") rfl), He.free_ok X G (c.t.d.fact 42 (f := .free "len") rfl), He.free_ok X G (c.t.d.fact 43 (f := .free "all") rfl), He.free_ok X G (c.t.d.fact 44 (f := .free "sum") rfl), He.free_ok X G (c.t.d.fact 45 (f := .free "tuple") rfl), He.free_ok X G (c.t.d.fact 46 (f := .free "list") rfl), He.free_ok X G (c.t.d.fact 47 (f := .free "range") rfl), He.free_ok X G (c.t.d.fact 48 (f := .free "int") rfl), He.free_ok X G (c.t.d.fact 49 (f := .free "bool") rfl), He.free_ok X G (c.t.d.fact 50 (f := .free "str") rfl), He.free_ok X G (c.t.d.fact 51 (f := .free "min") rfl), He.free_ok X G (c.t.d.fact 52 (f := .free "max") rfl), He.free_ok X G (c.t.d.fact 53 (f := .free "sorted") rfl), He.free_ok X G (c.t.d.fact 54 (f := .free "isinstance") rfl), He.free_ok X G (c.t.d.fact 55 (f := .free "set") rfl)⟩
  have N : Nums mg := ⟨He.int_ok X G (c.t.d.fact 56 (f := .int "FEWEST_PLACES" 2) rfl), He.int_ok X G (c.t.d.fact 57 (f := .int "MOST_PLACES" 12) rfl), He.int_ok X G (c.t.d.fact 58 (f := .int "MOST_FOLK" 1000000) rfl)⟩
  have NX0 := He.int_ok X G (c.t.d.fact 59 (f := .int "MOST_DIGITS" 12) rfl)
  have XO0 := He.glo_ok X G (c.t.d.fact 60 (f := .glo "InvalidText") rfl)
  have XO1 := He.glo_ok X G (c.t.d.fact 61 (f := .glo "Twice") rfl)
  have XO2 := He.glo_ok X G (c.t.d.fact 62 (f := .glo "InvalidLand") rfl)
  have XO3 := He.glo_ok X G (c.t.d.fact 63 (f := .glo "InvalidPlan") rfl)
  have XO4 := He.glo_ok X G (c.t.d.fact 64 (f := .glo "WardError") rfl)
  have XM0 := He.exm_ok (c.t.d.fact 65 (f := .exm "InvalidLand" "InvalidLand" true) rfl)
  have XM1 := He.exm_ok (c.t.d.fact 66 (f := .exm "InvalidText" "InvalidLand" false) rfl)
  have XM2 := He.exm_ok (c.t.d.fact 67 (f := .exm "InvalidText" "InvalidText" true) rfl)
  have XM3 := He.exm_ok (c.t.d.fact 68 (f := .exm "Twice" "InvalidLand" false) rfl)
  have XM4 := He.exm_ok (c.t.d.fact 69 (f := .exm "Twice" "InvalidText" false) rfl)
  have XM5 := He.exm_ok (c.t.d.fact 70 (f := .exm "Twice" "Twice" true) rfl)
  have XM6 := He.exm_ok (c.t.d.fact 71 (f := .exm "InvalidPlan" "InvalidLand" false) rfl)
  have XM7 := He.exm_ok (c.t.d.fact 72 (f := .exm "InvalidPlan" "InvalidText" false) rfl)
  have XM8 := He.exm_ok (c.t.d.fact 73 (f := .exm "InvalidPlan" "Twice" false) rfl)
  have XM9 := He.exm_ok (c.t.d.fact 74 (f := .exm "InvalidPlan" "InvalidPlan" true) rfl)
  have XS0 := He.str_ok X G (c.t.d.fact 75 (f := .str "DIGITS" "0123456789") rfl)
  obtain ⟨hAB, hCD⟩ := Bool.and_eq_true_iff.mp (show exk K = true from c.more)
  obtain ⟨hA, hB⟩ := Bool.and_eq_true_iff.mp hAB
  obtain ⟨hqc, hD⟩ := Bool.and_eq_true_iff.mp hCD
  obtain ⟨hqa, hxa⟩ := Bool.and_eq_true_iff.mp hA
  obtain ⟨hqb, hxb⟩ := Bool.and_eq_true_iff.mp hB
  obtain ⟨hqd, hxd⟩ := Bool.and_eq_true_iff.mp hD
  obtain ⟨hya1, hqa⟩ := Bool.and_eq_true_iff.mp hqa
  obtain ⟨hya2, hqa⟩ := Bool.and_eq_true_iff.mp hqa
  obtain ⟨hya3, hya4⟩ := Bool.and_eq_true_iff.mp hqa
  obtain ⟨hyb1, hqb⟩ := Bool.and_eq_true_iff.mp hqb
  obtain ⟨hyb2, hqb⟩ := Bool.and_eq_true_iff.mp hqb
  obtain ⟨hyb3, hyb4⟩ := Bool.and_eq_true_iff.mp hqb
  obtain ⟨hyc1, hqc⟩ := Bool.and_eq_true_iff.mp hqc
  obtain ⟨hyc2, hqc⟩ := Bool.and_eq_true_iff.mp hqc
  obtain ⟨hyc3, hyc4⟩ := Bool.and_eq_true_iff.mp hqc
  obtain ⟨hyd1, hqd⟩ := Bool.and_eq_true_iff.mp hqd
  obtain ⟨hyd2, hqd⟩ := Bool.and_eq_true_iff.mp hqd
  obtain ⟨hyd3, hyd4⟩ := Bool.and_eq_true_iff.mp hqd
  cases hfa.symm.trans g40
  have CF0 := funC_of D3
  have CF1 := funC_of D2
  have CF2 := funC_of D4
  have CF3 := funC_of D5
  have mem : ∀ i (p : He.Defn), tfl[i]? = some p → p ∈ tfl := fun i p e => List.mem_of_getElem? e
  refine ⟨_, tfl.map (He.cT K), spLaw K [(He.cT K ("is_lot", none)).2, (He.cT K ("is_ascending", none)).2, (He.cT K ("mask_of", none)).2, (He.cT K ("lot_of", none)).2], fun p hp => ?_, fun p hp => ?_, fun p hp => ?_, fun s u => FunD.bindsA D40 (ps := ["script"]) (fun _ _ _ _ _ _ us hl => match us, hl with | [_], _ => rfl) s [u] rfl, fun H a ns hl _ hH hS => ?_, fun base hb hg hTB => ?_⟩
  · obtain ⟨q, hq, rfl⟩ := List.mem_map.mp hp
    exact c.empty q hq
  · obtain ⟨q, hq, rfl⟩ := List.mem_map.mp hp
    exact c.out q hq
  · obtain ⟨q, hq, rfl⟩ := List.mem_map.mp hp
    exact PySem.W.codeHd_of_K X (c.hd q hq)
  · have hz : ∀ q, q ∈ tfl → Gx.TabG H (He.cT K q).2 := fun q hq => ⟨#[], hH _ (List.mem_map.mpr ⟨q, hq, rfl⟩), by first | exact trivial | simp [GxR.TriplesOk] | simp⟩
    refine ⟨a, ns, rfl, hS, hl, fun Pt hPt => ?_, fun _ => rfl⟩
    simp only [List.mem_cons, List.mem_nil_iff, or_false] at hPt
    rcases hPt with e | e | e | e <;> rw [e] <;> exact hz _ (by simp [tfl])
  · have tb : ∀ q, q ∈ tfl → TabB base mg (He.cT K q).1 (He.cT K q).2 := fun q hq => hTB _ (List.mem_map.mpr ⟨q, hq, rfl⟩)
    have TB0 := tb ("is_lot", none) (by simp [tfl])
    have TB1 := tb ("is_ascending", none) (by simp [tfl])
    have TB2 := tb ("mask_of", none) (by simp [tfl])
    have TB3 := tb ("lot_of", none) (by simp [tfl])
    have YT : Yc l.prog w K mg base "InvalidText" (He.ga K "InvalidText") "index" := ⟨XO0, oexB_ok hya1, of_decide_eq_true hya2, _, _, of_decide_eq_true hya3, of_decide_eq_true hya4, bM0, ok_initText FM0 (oexB_ok hya1) (of_decide_eq_true hya2)⟩
    have YW : Yc l.prog w K mg base "Twice" (He.ga K "Twice") "word" := ⟨XO1, oexB_ok hyb1, of_decide_eq_true hyb2, _, _, of_decide_eq_true hyb3, of_decide_eq_true hyb4, bM1, ok_initTwice FM1 (oexB_ok hyb1) (of_decide_eq_true hyb2)⟩
    have YL : Yc l.prog w K mg base "InvalidLand" (He.ga K "InvalidLand") "place" := ⟨XO2, oexB_ok hyc1, of_decide_eq_true hyc2, _, _, of_decide_eq_true hyc3, of_decide_eq_true hyc4, bM2, ok_initLand FM2 (oexB_ok hyc1) (of_decide_eq_true hyc2)⟩
    have YP : Yc l.prog w K mg base "InvalidPlan" (He.ga K "InvalidPlan") "index" := ⟨XO3, oexB_ok hyd1, of_decide_eq_true hyd2, _, _, of_decide_eq_true hyd3, of_decide_eq_true hyd4, bM3, ok_initPlan FM3 (oexB_ok hyd1) (of_decide_eq_true hyd2)⟩
    have ci : Cal l.prog w K mg base 1 "is_integer" _ _ := ⟨_, _, ok_is_integer F0 B, g0, D0.kp, b0⟩
    have cpc : Cal l.prog w K mg base 2 "is_place" _ _ := ⟨_, _, ok_is_place F1 B ci, g1, D1.kp, b1⟩
    have ca : Cal l.prog w K mg base 4 "is_ascending" _ _ := ⟨_, _, ok_is_ascending CF1 TB1 B, g2, D2.kp, b2⟩
    have cilA : Cal l.prog w K mg base 6 "is_lot" _ _ := ⟨_, _, ok_is_lotA CF0 TB0 B cpc ca, g3, D3.kp, b3⟩
    have cm : Cal l.prog w K mg base 4 "mask_of" _ _ := ⟨_, _, ok_mask_of CF2 TB2 B, g4, D4.kp, b4⟩
    have clo : Cal l.prog w K mg base 6 "lot_of" _ _ := ⟨_, _, ok_lot_of CF3 TB3 B, g5, D5.kp, b5⟩
    have cw : Cal l.prog w K mg base 1 "whole_mask" _ _ := ⟨_, _, ok_whole_mask F6 B, g6, D6.kp, b6⟩
    have clk : Cal l.prog w K mg base 1 "links_of" _ _ := ⟨_, _, ok_links_of F7 B, g7, D7.kp, b7⟩
    have cre : Cal l.prog w K mg base 7 "reached" _ _ := ⟨_, _, ok_reached F8 B clo, g8, D8.kp, b8⟩
    have cht : Cal l.prog w K mg base 8 "hangs_together" _ _ := ⟨_, _, ok_hangs_together F9 cre, g9, D9.kp, b9⟩
    have cib : Cal l.prog w K mg base 2 "is_border" _ _ := ⟨_, _, ok_is_border F10 B ci, g10, D10.kp, b10⟩
    have cff : Cal l.prog w K mg base 2 "fault_of_folk" _ _ := ⟨_, _, ok_fault_of_folk F11 B N ci, g11, D11.kp, b11⟩
    have cfb : Cal l.prog w K mg base 3 "fault_of_borders" _ _ := ⟨_, _, ok_fault_of_borders F12 B cib, g12, D12.kp, b12⟩
    have cfl : Cal l.prog w K mg base 4 "fault_of_land" _ _ := ⟨_, _, ok_fault_of_land F13 B cff cfb, g13, D13.kp, b13⟩
    have cibA : Cal l.prog w K mg base 2 "is_border" _ _ := ⟨_, _, ok_is_borderA F10 B ci, g10, D10.kp, b10⟩
    have cffA : Cal l.prog w K mg base 2 "fault_of_folk" _ _ := ⟨_, _, ok_fault_of_folkA F11 B N ci, g11, D11.kp, b11⟩
    have cfbA : Cal l.prog w K mg base 3 "fault_of_borders" _ _ := ⟨_, _, ok_fault_of_bordersA F12 B cibA, g12, D12.kp, b12⟩
    have cflA : Cal l.prog w K mg base 4 "fault_of_land" _ _ := ⟨_, _, ok_fault_of_landA F13 B cffA cfbA, g13, D13.kp, b13⟩
    have ckl : CalX l.prog w K mg base 5 "check_land" _ _ := ⟨⟨_, _, fn_or (fn_lift (ok_check_land F14 cfl)) (ok_cklX F14 YL cflA), g14, D14.kp, b14⟩⟩
    have ckt : CalX l.prog w K mg base 3 "check_text" _ _ := ⟨⟨_, _, ok_ckt F15 B YT, g15, D15.kp, b15⟩⟩
    have cco : CalX l.prog w K mg base 3 "check_once" _ _ := ⟨⟨_, _, ok_once F16 B YW, g16, D16.kp, b16⟩⟩
    have cbh : CalX l.prog w K mg base 3 "behind_signs" _ _ := ⟨⟨_, _, ok_bhd F17 YT, g17, D17.kp, b17⟩⟩
    have crn : CalX l.prog w K mg base 3 "read_number" _ _ := ⟨⟨_, _, ok_num F18 B ⟨XS0, NX0⟩ YT, g18, D18.kp, b18⟩⟩
    have cns : CalX l.prog w K mg base 4 "read_numbers" _ _ := ⟨⟨_, _, ok_nums0 F19 B cbh crn, g19, D19.kp, b19⟩⟩
    have crl : CalX l.prog w K mg base 5 "read_lines" _ _ := ⟨⟨_, _, ok_linesP F20 B cbh crn cns, g20, D20.kp, b20⟩⟩
    have cpw : Cal l.prog w K mg base 1 "plan_with" _ _ := ⟨_, _, ok_plan_with F21 B, g21, D21.kp, b21⟩
    have cfp : Cal l.prog w K mg base 9 "fault_of_plan" _ _ := ⟨_, _, ok_fault_of_planA F22 B cilA cm clk cht cw, g22, D22.kp, b22⟩
    have cpt : CalX l.prog w K mg base 10 "plan_told" _ _ := ⟨⟨_, _, ok_ptold F23 B YP ckl ckt crl cco cpw cfp, g23, D23.kp, b23⟩⟩
    have cj : Cal l.prog w K mg base 1 "_law_jar" _ _ := ⟨_, _, ok_jar F24 B, g24, D24.kp, b24⟩
    have cd : Cal l.prog w K mg base 1 "_law_drawn" _ _ := ⟨_, _, ok_drawn F25 B, g25, D25.kp, b25⟩
    have cil : Cal l.prog w K mg base 1 "_law_ill" _ _ := ⟨_, _, ok_ill F26, g26, D26.kp, b26⟩
    have csg : Cal l.prog w K mg base 1 "_law_sign" _ _ := ⟨_, _, ok_sign F27, g27, D27.kp, b27⟩
    have cby : Cal l.prog w K mg base 2 "_law_by" _ _ := ⟨_, _, ok_by F28 csg cil, g28, D28.kp, b28⟩
    have cru : Cal l.prog w K mg base 2 "_law_run" _ _ := ⟨_, _, ok_run F29 csg cil, g29, D29.kp, b29⟩
    have cnu : Cal l.prog w K mg base 3 "_law_number" _ _ := ⟨_, _, ok_numL F30 B csg cru, g30, D30.kp, b30⟩
    have crw : Cal l.prog w K mg base 4 "_law_row" _ _ := ⟨_, _, ok_rowL F31 csg cby cnu, g31, D31.kp, b31⟩
    have chg : Cal l.prog w K mg base 1 "_law_hangs" _ _ := ⟨_, _, ok_hangsL F32 B, g32, D32.kp, b32⟩
    have cfa : Cal l.prog w K mg base 2 "_law_fault" _ _ := ⟨_, _, ok_faultLP F33 B chg, g33, D33.kp, b33⟩
    have cr : Cal l.prog w K mg base 5 "_law_read" _ _ := ⟨_, _, ok_readP F34 B cby crw cfa, g34, D34.kp, b34⟩
    have ct : Cal l.prog w K mg base 11 "_law_told" _ _ := ⟨_, _, ok_toldP F35 ⟨XO2, XO0, XO1, XO3, XO4, XM0, XM1, XM2, XM3, XM4, XM5, XM6, XM7, XM8, XM9, xfB_ok hxa, xfB_ok hxb, xfB_ok hxd, of_decide_eq_true hya2, of_decide_eq_true hyb2, of_decide_eq_true hyd2⟩ cpt, g35, D35.kp, b35⟩
    have cs : Cal l.prog w K mg base 7 "_law_same" _ _ := ⟨_, _, ok_sameT F36 B g36 b36 6, g36, D36.kp, b36⟩
    have cp : Cal l.prog w K mg base 2 "_law_spoilt" _ _ := ⟨_, _, ok_spoilt F37 B cd, g37, D37.kp, b37⟩
    have cla : Cal l.prog w K mg base 2 "_law_land" _ _ := ⟨_, _, ok_landJ F38 B cd, g38, D38.kp, b38⟩
    have cpl : Cal l.prog w K mg base 2 "_law_plan" _ _ := ⟨_, _, ok_planJ F39 B cd, g39, D39.kp, b39⟩
    exact ok_law F40 B (by simp) (by simp) (by simp) (by simp) cj cd cp cla cpl cr ct cs
end Wd

set_option Elab.async false
set_option linter.all false
set_option maxRecDepth 100000
set_option maxHeartbeats 4000000
namespace Wd
open PySem PySem.Spec PyProof.Rows L2 Bx Gx




















































/-! ### the run of the top -/
abbrev R : PySem.W.OpenRow := PySem.W.OpenLaw.row PySem.Challenge.rw_wardsdrawn_k39_plans_told
abbrev hk : PySem.W.Hook := He.hookX 6 fal fnl [] tfl exk
def ob (s : PySem.W.SharedT) : He.AlX := He.obsX 6 fal fnl [] tfl exk (HandSHeadRun.getT s)
theorem ob_eq (s : PySem.W.SharedT) : ob s = hk.obs s.abs := He.obsX_eq (HandSHeadRun.getT_eq s)
def names : List PySem.Str := ([("WardError" : PySem.Str), ("InvalidLand" : PySem.Str), ("InvalidPlan" : PySem.Str), ("InvalidText" : PySem.Str), ("Twice" : PySem.Str), ("FEWEST_PLACES" : PySem.Str), ("MOST_PLACES" : PySem.Str), ("MOST_FOLK" : PySem.Str)] : List PySem.Str) ++ ([("is_integer" : PySem.Str), ("is_ascending" : PySem.Str), ("is_place" : PySem.Str), ("is_lot" : PySem.Str), ("mask_of" : PySem.Str), ("lot_of" : PySem.Str), ("whole_mask" : PySem.Str), ("links_of" : PySem.Str)] : List PySem.Str) ++ ([("reached" : PySem.Str), ("hangs_together" : PySem.Str), ("fault_of_land" : PySem.Str), ("fault_of_folk" : PySem.Str), ("fault_of_borders" : PySem.Str), ("is_border" : PySem.Str), ("fault_of_plan" : PySem.Str), ("check_land" : PySem.Str)] : List PySem.Str) ++ ([("plan_with" : PySem.Str), ("DIGITS" : PySem.Str), ("MOST_DIGITS" : PySem.Str), ("plan_told" : PySem.Str), ("check_text" : PySem.Str), ("check_once" : PySem.Str), ("read_lines" : PySem.Str), ("read_numbers" : PySem.Str)] : List PySem.Str) ++ ([("read_number" : PySem.Str), ("behind_signs" : PySem.Str), ("_law_jar" : PySem.Str), ("_law_drawn" : PySem.Str), ("_law_same" : PySem.Str), ("_law_low" : PySem.Str), ("_law_plus" : PySem.Str), ("_law_times" : PySem.Str)] : List PySem.Str) ++ ([("_law_land" : PySem.Str), ("_law_hangs" : PySem.Str), ("_law_plan" : PySem.Str), ("_law_folk" : PySem.Str), ("_law_bounds" : PySem.Str), ("_law_ill" : PySem.Str), ("_law_sign" : PySem.Str), ("_law_by" : PySem.Str)] : List PySem.Str) ++ ([("_law_run" : PySem.Str), ("_law_number" : PySem.Str), ("_law_row" : PySem.Str), ("_law_spoilt" : PySem.Str), ("_law_fault" : PySem.Str), ("_law_read" : PySem.Str), ("_law_told" : PySem.Str)] : List PySem.Str)
theorem run (w : World) : HandSHeadRun.RunEq R (PySem.W.view R.prog [60]) hk ob 6000 names w := by
  intro os
  kernel_rfl
end Wd
open PySem PySem.W PySem.Calls PyProof.Rows
set_option maxHeartbeats 0
theorem PySem.Challenge.cw_wardsdrawn_k39_plans_told_holds : PySem.Challenge.rw_wardsdrawn_k39_plans_told.Holds := by
  w_on; o_law
  refine HandSHeadRun.head_any (r := OpenLaw.row PySem.Challenge.rw_wardsdrawn_k39_plans_told) (q := view (OpenLaw.row PySem.Challenge.rw_wardsdrawn_k39_plans_told).prog [60]) (H := Wd.hk) (ob := Wd.ob) (M := 6000) (loose := Wd.names) (d := HandSHeadRun.topDef (OpenLaw.row PySem.Challenge.rw_wardsdrawn_k39_plans_told).prog 60) (kwd := []) Wd.ob_eq
    (by kernel_rfl) (fun s => by kernel_rfl) Wd.run (by kernel_rfl) (by kernel_rfl) (by kernel_rfl) (by rfl) (by first | assumption | decide +kernel) (by decide +kernel) ⟨rfl, rfl, rfl, rfl, rfl, by decide +kernel⟩ ?hw ?hc
  case hw => w_witness2
  case hc =>
    refine LamX.walk_ofTsE (l := PySem.Challenge.rw_wardsdrawn_k39_plans_told) (n := 63) (k := 12) (x := "script") (CX := fun _ => L2.CX0) rfl (by decide) (by kernel_rfl) ⟨rfl, by decide, by decide⟩ ?F (fun _ _ _ _ _ z => z)
    intro w mg fa h Y G hmg0
    obtain ⟨K, KX, c⟩ := Y
    have hmg : mg ("law" : PySem.Str) = some (.ref fa) := by
      have e : (HandSHeadRun.topDef (OpenLaw.row PySem.Challenge.rw_wardsdrawn_k39_plans_told).prog 60).name = ("law" : PySem.Str) := by kernel_rfl
      rw [← e]
      exact hmg0
    exact ⟨K, KX, Wd.facts KX G hmg c⟩
namespace Wd
end Wd
