import PyProof.Rows.All
import Wide.All
import OpenK.AllK
import Wide.FinOn
import HandS.ForMost
import HandS.ForExc
import HandS.GenList
import HandS.AnyAll
import HandS.EndOwn
import PyProof.SumAny
import HandS.IsInst
import HandS.More
import HandS.WideBits
import HandS.Zip
import PyProof.TypeEq
import HandS.Text
import HandS.Comp
import HandS.Deep
import HandS.Sort
import HandS.SortRule
import HandS.Conv
import HandS.Iter
import HandS.Style
import HandS.TupMul
import HandS.TupAny
import HandS.Dict
import HandS.DictSub
import HandS.TupSets
import PyProof.WalksMore
import HandS.SetKeys
import HandS.ListItems
import KE.SortData
import KE.KDictList
import HandS.ExcOwn
import HandS.TryMany
import HandS.TryOnly
import HandS.SetFor
import HandS.DictComp
import HandS.Strs
import HandS.SortInts
import HandS.TupLe
import PyProof.Transfer
import HandS.Codes
import PyProof.StrOps2
import PyProof.JoinWalk
import HandS.JoinGen
import HandS.FStr
import HandS.HeadWalk
import HandS.Head2
import HandS.HeadHook4
import HandS.HeadNt
import PySem.Challenge.RW_wardsdrawn_k07_squares_bars_and_lists
set_option Elab.async false
set_option linter.all false
set_option maxRecDepth 100000
set_option maxHeartbeats 4000000
/-! Gx: a generator expression over anything that PI serves, drained by all, any, sum, tuple; its element may be any expression of the layer. -/
namespace Gx
open PySem PySem.Spec PyProof.Rows L2 GenW

/-! ### the context in which the generator's code runs -/
abbrev genv (X : Cx) (scope : Scope) (code : Value) (C : Addr) : Env := genEnv scope (cloFrom X.env.cells scope.names []) C code builtinsNs X.env
def gcx (X : Cx) (N : List Str) (scope : Scope) (code : Value) (A : Around) (s : Shared) (H : Hp) (fp : List Addr) : Cx :=
  { X with
    A := A.deeper (genv X scope code s.heap.objs.size)
    N := N
    s_0 := s
    H_0 := H
    env := genv X scope code s.heap.objs.size
    outer := X.stack
    stack := genv X scope code s.heap.objs.size :: X.stack
    ex := fp
    fn := fun _ => false
    calm := true
    pn := []
    xe := fun _ _ => False }
/-- the names of the generator expression: N, its own ones and captured ones; src tells where a captured one stands in the def -/
structure GOk (ND : List Str) (sc scope : Scope) (N : List Str) (src : List (Option Nat)) : Prop where
  kind : scope.kind = .function
  co : scope.isCoroutine = false
  cell : ∀ y ∈ scope.names, y.2 ≠ .cell
  dot : scope.names.lookup (".0" : Str) = some NameKind.local
  free : ∀ y ∈ scope.names, y.2 = .free → sc.names.lookup y.1 = some .cell ∨ sc.names.lookup y.1 = some .free
  len : src.length = N.length
  src : ∀ (i j : Nat), src[i]? = some (some j) → ∃ x, N[i]? = some x ∧ ND[j]? = some x ∧ scope.names.lookup x = some .free
def gsl (σ : L2.St) (src : List (Option Nat)) : L2.St := src.map fun o => match o with
  | some j => σ.getD j none
  | none => none
theorem gsl_some {σ : L2.St} {src : List (Option Nat)} {i : Nat} {v : V} (h : (gsl σ src)[i]? = some (some v)) : ∃ j, src[i]? = some (some j) ∧ σ[j]? = some (some v) := by
  unfold gsl at h
  rw [List.getElem?_map] at h
  cases e : src[i]? with
  | none => rw [e] at h; cases h
  | some o =>
    rw [e] at h
    cases o with
    | none => cases h
    | some j =>
      refine ⟨j, rfl, ?_⟩
      have h2 : σ.getD j none = some v := Option.some.inj h
      rw [List.getD_eq_getElem?_getD] at h2
      cases e2 : σ[j]? with
      | none => rw [e2] at h2; cases h2
      | some w => rw [e2] at h2; exact congrArg some h2
theorem over_gl {A : Around} {elt iter tg : Expr} {ifs : List Expr} {scope : Scope} {pos : Pos} {it acc : Value} {env : Env} :
    A.over (.compLoop (.GeneratorExp elt [⟨tg, iter, ifs, 0⟩] scope pos) 0 it acc env) [] = A.deeper env := by
  first
    | rfl
    | (obtain ⟨hd, d, fr, gs, u⟩ := A; simp [Around.over, Around.deeper, marksOver, frameCount, unitsOf, envsOf, guardsOf, pushEnvs, pushGuards, Code.envs, Code.env?, Code.isFrame, Code.guards, Code.isGuard, Code.weight, Code.frames, Code.isCreation, Code.isCaller, Code.cUnits])
theorem over_gs {A : Around} {elt iter tg : Expr} {ifs : List Expr} {scope : Scope} {pos : Pos} {it acc : Value} {env : Env} :
    A.over (.compStart (.GeneratorExp elt [⟨tg, iter, ifs, 0⟩] scope pos) 0 it acc env) [] = A.deeper env := by
  first
    | rfl
    | (obtain ⟨hd, d, fr, gs, u⟩ := A; simp [Around.over, Around.deeper, marksOver, frameCount, unitsOf, envsOf, guardsOf, pushEnvs, pushGuards, Code.envs, Code.env?, Code.isFrame, Code.guards, Code.isGuard, Code.weight, Code.frames, Code.isCreation, Code.isCaller, Code.cUnits])
section
variable {X : Cx} {pins : List (Addr × Obj)} {σ : L2.St} {H : Hp} {s s' : Shared} {scope : Scope} {N : List Str} {src : List (Option Nat)} {fp : List Addr} {code : Value} {A : Around} {m0 : Str → Option Value}
theorem g_start (I : Inv X pins σ H s) (ok : GOk X.N X.env.scope scope N src) (hfp : ∀ b ∈ fp, FpOk X pins H b ∧ b < s.heap.objs.size) (hA : A.frames = some X.stack) (hh : A.handled = none)
    (os : s'.os = s.os) (bare : AllBare s'.gens) (kp : ∀ b o, s.heap.get? b = some o → s'.heap.get? b = some o) (hn : s'.heap.Ns s.heap.objs.size m0) :
    Inv (gcx X N scope code A s H fp) [] (gsl σ src) H s' := by
  have hfree : ∀ y ∈ scope.names, y.2 = .free → ∃ c, X.env.cells.lookup y.1 = some c := fun y hy e => by
    rcases ok.free y hy e with k | k
    · exact I.ok.has _ (.inl k)
    · exact I.ok.has _ (.inr k)
  have cm : ∀ {y c}, (y, c) ∈ cloFrom X.env.cells scope.names [] → X.env.cells.lookup y = some c ∧ c < s.heap.objs.size := fun {y c} hm => by
    rcases cloFrom_mem hm with hm | ⟨h1, rfl⟩
    · cases hm
    · obtain ⟨c, hc⟩ := hfree _ h1 rfl
      rw [hc]
      obtain ⟨w, z⟩ := I.cell _ _ hc
      exact ⟨rfl, z.lt⟩
  have look : ∀ {y}, scope.names.lookup y = some .free → ∃ c, (cloFrom X.env.cells scope.names []).lookup y = some c ∧ X.env.cells.lookup y = some c := fun {y} hl => by
    have hy : (y, NameKind.free) ∈ scope.names := PySem.mem_of_lookup hl
    obtain ⟨c', e'⟩ := mem_lookup (cloFrom_has (cells := X.env.cells) (acc := []) hy)
    exact ⟨c', e', (cm (PySem.mem_of_lookup e')).1⟩
  refine ⟨⟨I.ok.mod, ok.kind, I.ok.glob, rfl, Nat.le_refl _, fun y z c e1 e2 => ?_, fun y hy => ?_, fun y c z _ => ?_, fun _ => hh, Around.frames_deeper hA, .inr ⟨rfl, rfl⟩, fun b hb => ⟨?_, fun y c e z => ?_⟩, I.bs, Nat.le_trans I.ok.bsz I.sz, fun b o e hb => ?_, fun b hb z => ?_, I.stack, I.stkFree⟩,
    os, bare, Un.kept kp, ⟨m0, hn, fun i y v e1 e2 e3 => ?_⟩, fun y c e => ?_, I.hok.fresh (Nat.le_refl _), fun y c e => ?_, fun p hp => absurd (show p ∈ ([] : List (Addr × Obj)) ++ [] from hp) (by simp), I.hok.kept kp, ?_⟩
  · exact I.ok.inj y z c (cm (PySem.mem_of_lookup e1)).1 (cm (PySem.mem_of_lookup e2)).1
  · have hy : scope.names.lookup y = some .cell ∨ scope.names.lookup y = some .free := hy
    rcases hy with hy | hy
    · exact absurd rfl (ok.cell _ (PySem.mem_of_lookup hy))
    · obtain ⟨c, h1, _⟩ := look hy
      exact ⟨c, h1⟩
  · cases z
  · exact Nat.ne_of_lt (hfp b hb).2
  · exact (hfp b hb).1.2.2.2.2.1 y c (cm (PySem.mem_of_lookup e)).1 z
  · rcases (hfp b hb).1.2.2.2.1 with z | z
    · exact I.ok.noex b o e z
    · exact absurd (Nat.lt_of_lt_of_le (Heap.lt_size e) (Nat.le_trans I.ok.bsz z)) (Nat.lt_irrefl _)
  · rcases List.mem_cons.mp (I.stkSub b z) with z | z
    · exact (hfp b hb).1.2.1 z
    · exact (hfp b hb).1.2.2.1 z
  · obtain ⟨j, h1, h2⟩ := gsl_some e2
    obtain ⟨x, hx1, hx2, hx3⟩ := ok.src i j h1
    have e1 : N[i]? = some y := e1
    rw [hx1] at e1
    cases e1
    obtain ⟨m, _, hl⟩ := I.loc
    have hf := ok.free _ (PySem.mem_of_lookup hx3) rfl
    obtain ⟨w, r, q⟩ := hl j y v hx2 h2 (hf.elim (fun k => .inr (.inl k)) fun k => .inr (.inr k))
    refine ⟨w, r, .inr ⟨.inr hx3, ?_⟩⟩
    obtain ⟨c, h1, h2⟩ := look hx3
    rcases q with ⟨k, _⟩ | ⟨_, c', e', z⟩
    · have k : X.env.scope.names.lookup y = some .local := k
      rcases hf with k' | k' <;> rw [show X.env.scope.names.lookup y = _ from k'] at k <;> cases k
    · rw [h2] at e'; cases e'
      exact ⟨c, h1, z.keeps kp⟩
  · obtain ⟨w, z⟩ := I.cell y c (cm (PySem.mem_of_lookup e)).1
    exact ⟨w, z.keeps kp⟩
  · exact I.freeC y c (cm (PySem.mem_of_lookup e)).1
  · show (gsl σ src).length = N.length
    unfold gsl
    rw [List.length_map, ok.len]
end

/-! ### the loop of the generator's code -/
/-- what is pinned while the generator runs: its own object and what its consumer keeps -/
structure PinsOk (G : Cx) (fp : List Addr) (pins : List (Addr × Obj)) : Prop where
  young : ∀ p ∈ pins, G.s_0.heap.objs.size ≤ p.1
  ne : ∀ p ∈ pins, p.1 ≠ G.env.locals
  nfp : ∀ p ∈ pins, p.1 ∉ fp
  ncell : ∀ p ∈ pins, ∀ x c, G.env.cells.lookup x = some c → c ≠ p.1
abbrev TPost := V → List V → Hp → Prop → Prop
/-- the consumer has taken its item: what it keeps may have changed, all else stands -/
structure Woke (pins pins' : List (Addr × Obj)) (s s' : Shared) : Prop where
  os : s'.os = s.os
  bare : AllBare s'.gens
  keep : ∀ b o, b ∉ pins.map (·.1) → s.heap.get? b = some o → s'.heap.get? b = some o
  same : pins'.map (·.1) = pins.map (·.1)
  at_ : ∀ p ∈ pins', s'.heap.get? p.1 = some p.2
  data : ∀ p ∈ pins', ∀ v, p.2.data ≠ .cell v
def GYx (G : Cx) (fp : List Addr) (Pn : List V → List (Addr × Obj) → Prop) (post : TPost) : Protocol := fun n s₀ v s kap =>
  ∃ x ys σ H pins C, RelV x v ∧ Inv G pins σ H s ∧ PinsOk G fp pins ∧ Pn ys pins ∧ (∀ p ∈ pins, s₀.heap.get? p.1 = some p.2) ∧ post x ys H C ∧
    (C → ∀ s' pins', Woke pins pins' s s' → Pn (ys ++ [x]) pins' → kap (.send .none) s')
def GEx (G : Cx) (fp : List Addr) (Pn : List V → List (Addr × Obj) → Prop) (Fin : List V → Hp → Prop) : Shared → Shared → Prop := fun s₀ s =>
  ∃ ys σ H pins, Inv G pins σ H s ∧ PinsOk G fp pins ∧ Pn ys pins ∧ (∀ p ∈ pins, s₀.heap.get? p.1 = some p.2) ∧ Fin ys H
/-- the reading of a turn -/
def GTurn (J : It) (g : TG) (tt : TT) (te : TE) (vs : List Nat) (σg : L2.St) (post : TPost) (Fin : List V → Hp → Prop) (W : Nat → Nat → List V → Hp → Prop) : Prop :=
  ∀ i m ys H, W i m ys H → (J.stop i H ∧ Fin ys H) ∨ (J.go i H ∧ ∀ x H', J.yld i H x H' → g x σg H' fun σ2 H2 => wipe σ2 vs = σg ∧ tt σ2 H2 fun b H3 =>
    if b = true then te σ2 H3 fun v H4 => post v ys H4 (∃ m', m' < m ∧ W (i + 1) m' (ys ++ [v]) H4) else ∃ m', m' < m ∧ W (i + 1) m' ys H3)
theorem Inv.woke {G : Cx} {fp : List Addr} {pins pins' : List (Addr × Obj)} {σ : L2.St} {H : Hp} {s s' : Shared} (I : Inv G pins σ H s) (hpn : G.pn = []) (hp : PinsOk G fp pins) (z : Woke pins pins' s s') : Inv G pins' σ H s' ∧ PinsOk G fp pins' := by
  have hm : ∀ b, b ∈ pins.map (·.1) → ∃ p ∈ pins, p.1 = b := fun b hb => by
    obtain ⟨p, h1, h2⟩ := List.mem_map.mp hb
    exact ⟨p, h1, h2⟩
  have h0 : ∀ b ∈ pins.map (·.1), H b = none ∧ b ∉ G.fs := fun b hb => by
    obtain ⟨p, h1, rfl⟩ := hm b hb
    have q := I.pin p (List.mem_append_right _ h1)
    exact ⟨q.2.1, q.2.2.2.1⟩
  have h1 : ∀ b ∈ pins.map (·.1), G.s_0.heap.objs.size ≤ b ∧ b ≠ G.env.locals ∧ b ∉ fp ∧ ∀ x c, G.env.cells.lookup x = some c → c ≠ b := fun b hb => by
    obtain ⟨p, h1, rfl⟩ := hm b hb
    exact ⟨hp.young p h1, hp.ne p h1, hp.nfp p h1, hp.ncell p h1⟩
  have I0 : Inv G [] σ H s := I.pins_of fun p hp => by simp at hp
  have nt : ∀ b u, H b = some u → b ∉ pins.map (·.1) := fun b u q hb => by rw [(h0 b hb).1] at q; cases q
  obtain ⟨hh, g, d, t, o⟩ := s'
  have ho : o = s.os := z.os
  subst ho
  have J : Inv G [] σ H { s with heap := hh, gens := g, drawn := d, toks := t } := by
    refine I0.step (g' := g) (t' := t) (d' := d) (ch := pins.map (·.1)) (fun b hb => ?_)
      (fun b ob _ _ hc q _ => z.keep b ob hc q) (fun b ob _ _ hc q _ => ⟨ob.slots, z.keep b ob hc q⟩) (fun _ _ _ _ n => n) (fun b ob hc q => ⟨ob, z.keep b ob hc q⟩)
      (fun _ _ q => q) (fun _ _ _ q => q) (fun b ps q => ⟨#[], by rw [q]; simp⟩) (fun m hm => ?_) (fun b u q => ?_) z.bare
    · obtain ⟨q1, q2, _, q4⟩ := h1 b hb
      refine ⟨.inr q1, q2, q4, fun p hp => ?_⟩
      rw [hpn] at hp
      simp at hp
    · obtain ⟨ob, es, ep, ho, r⟩ := hm
      exact ⟨ob, es, ep, z.keep _ ob (fun hb => (h1 _ hb).2.1 rfl) ho, r⟩
    · refine (I0.hok b u q).stay (fun c v hc y => z.keep c v ?_ y) (fun _ y => y) fun _ _ y => y
      rcases hc with y | y
      · rw [y]; exact nt b u q
      · exact nt c _ y
  have hsub : ∀ p ∈ pins', p.1 ∈ pins.map (·.1) := fun p hp => by rw [← z.same]; exact List.mem_map.mpr ⟨p, hp, rfl⟩
  refine ⟨J.pins_of fun p hp => ⟨z.at_ p hp, (h0 _ (hsub p hp)).1, (h1 _ (hsub p hp)).2.1, (h0 _ (hsub p hp)).2, z.data p hp⟩,
    ⟨fun p hp => (h1 _ (hsub p hp)).1, fun p hp => (h1 _ (hsub p hp)).2.1, fun p hp => (h1 _ (hsub p hp)).2.2.1, fun p hp => (h1 _ (hsub p hp)).2.2.2⟩⟩

section
variable {X : Cx} {H4 : Hp} {s4 : Shared} {scope : Scope} {N : List Str} {fp : List Addr} {code : Value} {A : Around}
variable {elt tg iter : Expr} {ifs : List Expr} {pos : Pos} {it : Addr} {J : It} {tn : Nat → Heap → Prop} {g : TG} {tt : TT} {te : TE} {vs : List Nat} {σg : L2.St} {post : TPost} {Fin : List V → Hp → Prop}
  {W : Nat → Nat → List V → Hp → Prop} {Pn : List V → List (Addr × Obj) → Prop}
theorem g_loop (hco : scope.isCoroutine = false) (hh : A.handled = none) (T : Turn X.prog X.w X.K tg J fp it tn)
    (pg : PG (gcx X N scope code A s4 H4 fp) tg g) (pt : PTs (gcx X N scope code A s4 H4 fp) ifs tt) (pe : PE (gcx X N scope code A s4 H4 fp) elt te)
    (turn : GTurn J g tt te vs σg post Fin W) :
    ∀ (m n i : Nat) (ys : List V) (H : Hp) (s₀ s : Shared) (pins : List (Addr × Obj)), m < n → W i m ys H → Inv (gcx X N scope code A s4 H4 fp) pins σg H s → PinsOk (gcx X N scope code A s4 H4 fp) fp pins → Pn ys pins → (∀ p ∈ pins, s₀.heap.get? p.1 = some p.2) →
      tn i s.heap → (∀ b ∈ fp, H b = none) →
      Seg (model X.prog X.w) A (fun n s₀ r s₁ => r = .ok .next ∧ GEx (gcx X N scope code A s4 H4 fp) fp Pn Fin s₀ s₁) (GYx (gcx X N scope code A s4 H4 fp) fp Pn post) n s₀
        (.compLoop (.GeneratorExp elt [⟨tg, iter, ifs, 0⟩] scope pos) 0 (.ref it) .none (genv X scope code s4.heap.objs.size))
        ((model X.prog X.w).den (.compLoop (.GeneratorExp elt [⟨tg, iter, ifs, 0⟩] scope pos) 0 (.ref it) .none (genv X scope code s4.heap.objs.size))) [] s := by
  intro m
  induction m using Nat.strongRecOn with
  | ind m ih =>
  intro n i ys H s₀ s pins hmn w I P hPn hs0 st nf
  have stat : ∀ {pins' : List (Addr × Obj)} {σ' : L2.St} {H' : Hp} {s' : Shared}, Inv (gcx X N scope code A s4 H4 fp) pins' σ' H' s' → PinsOk (gcx X N scope code A s4 H4 fp) fp pins' → (∀ b ∈ fp, H' b = none) → ∀ b ∈ fp, FpOk (gcx X N scope code A s4 H4 fp) pins' H' b := fun {pins' σ' H' s'} I' P' hn b hb =>
    ⟨hn b hb, (I'.ok.exf b hb).1, I'.ok.exfs b hb, .inl hb, fun x c e => (I'.ok.exf b hb).2 x c e, fun p hp => by
      have hp : p ∈ ([] : List (Addr × Obj)) ++ pins' := hp
      rw [List.nil_append] at hp
      intro e
      exact P'.nfp p hp (by rw [e]; exact hb)⟩
  show Seg _ A _ _ _ s₀ _ ((compTurn (.GeneratorExp elt [⟨tg, iter, ifs, 0⟩] scope pos) 0 (.ref it) .none (genv X scope code s4.heap.objs.size)).onRaise (leaving (genv X scope code s4.heap.objs.size))) [] s
  rw [compTurn_gen, Sem.onRaise_eq_wrap]
  refine seg_bind_wrap (wpAny_standAt ?_)
  rcases turn i m ys H w with ⟨stop, fin⟩ | ⟨go, step⟩
  · refine seg_bind_wrap ?_
    rw [over_gl]
    refine thnF (T.done (gcx X N scope code A s4 H4 fp) rfl rfl rfl rfl i pins s _ H (fun _ _ => False) I (stat I P nf) st stop) fun r s6 ⟨hr, I6⟩ => ?_
    subst hr
    exact seg_end (.ok .next) ⟨rfl, ys, _, H, pins, I6, P, hPn, hs0, fin⟩
  · refine seg_bind_wrap ?_
    rw [over_gl]
    refine thnF (T.item (gcx X N scope code A s4 H4 fp) rfl rfl rfl rfl i pins s _ H (fun _ _ => False) I (stat I P nf) st go) fun r s6 ⟨u, hr, h6⟩ => ?_
    subst hr
    refine seg_bind_wrap ?_
    rw [over_gl]
    refine thnF h6 fun _ s7 ⟨x, H7, I7, r7, y7, st7, n7⟩ => ?_
    have I7' := I7.pinned (stat I7 P n7) (T.obj _ _ st7)
    refine seg_bind_wrap ?_
    rw [over_gl]
    refine thnF (pg.run _ s7 _ H7 x u _ I7' r7 (step x H7 y7)) fun _ s8 ⟨σ8, H8, I8, hw8, q8⟩ => ?_
    refine seg_bind_wrap ?_
    rw [over_gl]
    refine thnF (pt.run _ s8 σ8 H8 _ I8 q8) fun b s9 ⟨H9, I9, q9⟩ => ?_
    -- the turn's end
    have fin : ∀ {s' : Shared} {H' : Hp}, Inv (gcx X N scope code A s4 H4 fp) (pins ++ pinsAt fp s7.heap) σ8 H' s' → Inv (gcx X N scope code A s4 H4 fp) pins σg H' s' ∧ tn (i + 1) s'.heap ∧ ∀ b ∈ fp, H' b = none := fun {s' H'} I' => by
      have pin' : ∀ b ∈ fp, ∀ o, s7.heap.get? b = some o → s'.heap.get? b = some o ∧ H' b = none := fun b hb o e =>
        let z := I'.pin (b, o) (List.mem_append_right _ (List.mem_append_right _ (mem_pinsAt hb e)))
        ⟨z.1, z.2.1⟩
      have hl : σg.length = σ8.length := by rw [← hw8, wipe_length]
      refine ⟨(I'.unpinned (pins := pins)).weak hl (fun j v e => ?_), T.keep _ _ _ st7 fun b hb o e => (pin' b hb o e).1, fun b hb => ?_⟩
      · rw [← hw8] at e
        exact (wipe_some e).1
      · obtain ⟨o, e, _⟩ := T.obj _ _ st7 b hb
        exact (pin' b hb o e).2
    cases b with
    | false =>
      simp only [Bool.false_eq_true, if_false] at q9 ⊢
      obtain ⟨m', hm, w'⟩ := q9
      obtain ⟨J1, J2, J3⟩ := fin I9
      exact seg_again rfl (ih m' hm n (i + 1) ys H9 s₀ s9 pins (by omega) w' J1 P hPn hs0 J2 J3)
    | true =>
      simp only [if_true] at q9 ⊢
      obtain ⟨n', rfl⟩ : ∃ n', n = n' + 1 := ⟨n - 1, by omega⟩
      have hy : ∀ v, yieldOut (genv X scope code s4.heap.objs.size) v = yieldValue v := fun v => by
        have hco' : (genv X scope code s4.heap.objs.size).scope.isCoroutine = false := hco
        simp only [yieldOut, hco', Bool.false_eq_true, if_false]
      simp only [hy]
      rw [Sem.bind_eq_wrap', Sem.bind_eq_wrap', Sem.wrap_wrap, Sem.wrap_wrap]
      refine seg_wrap ?_
      rw [over_gl]
      refine thnF (pe.run _ s9 σ8 H9 _ I9 q9) fun v s10 ⟨yv, H10, I10, r10, q10⟩ => ?_
      obtain ⟨J1, J2, J3⟩ := fin I10
      refine seg_at (seg_yield rfl rfl rfl ⟨yv, ys, _, H10, pins, _, r10, J1, P, hPn, hs0, q10, fun hC s' pins' hw hP' => ?_⟩)
      obtain ⟨m', hm, w'⟩ := hC
      obtain ⟨K1, K2⟩ := Gx.Inv.woke J1 rfl P hw
      refine seg_again rfl (ih m' hm n' (i + 1) (ys ++ [yv]) H10 s' s' pins' (by omega) w' K1 K2 hP' hw.at_ (T.keep _ _ _ J2 fun b hb o e => hw.keep b o (fun hm => ?_) e) J3)
      obtain ⟨p, hp, e⟩ := List.mem_map.mp hm
      exact P.nfp p hp (by rw [e]; exact hb)

theorem g_begin (hco : scope.isCoroutine = false) (hh : A.handled = none) (T : Turn X.prog X.w X.K tg J fp it tn)
    (pg : PG (gcx X N scope code A s4 H4 fp) tg g) (pt : PTs (gcx X N scope code A s4 H4 fp) ifs tt) (pe : PE (gcx X N scope code A s4 H4 fp) elt te)
    (turn : GTurn J g tt te vs σg post Fin W) {m n : Nat} {ys : List V} {H : Hp} {s₀ s : Shared} {pins : List (Addr × Obj)} (hmn : m < n) (w : W 0 m ys H) (I : Inv (gcx X N scope code A s4 H4 fp) pins σg H s) (P : PinsOk (gcx X N scope code A s4 H4 fp) fp pins) (hPn : Pn ys pins)
    (hs0 : ∀ p ∈ pins, s₀.heap.get? p.1 = some p.2) (st : tn 0 s.heap) (nf : ∀ b ∈ fp, H b = none) :
      Seg (model X.prog X.w) A (fun n s₀ r s₁ => r = .ok .next ∧ GEx (gcx X N scope code A s4 H4 fp) fp Pn Fin s₀ s₁) (GYx (gcx X N scope code A s4 H4 fp) fp Pn post) n s₀
        (.compStart (.GeneratorExp elt [⟨tg, iter, ifs, 0⟩] scope pos) 0 (.ref it) .none (genv X scope code s4.heap.objs.size))
        ((model X.prog X.w).den (.compStart (.GeneratorExp elt [⟨tg, iter, ifs, 0⟩] scope pos) 0 (.ref it) .none (genv X scope code s4.heap.objs.size))) [] s := by
  have loop := g_loop (elt := elt) (iter := iter) (ifs := ifs) (pos := pos) hco hh T pg pt pe turn m n 0 ys H s₀ s pins hmn w I P hPn hs0 st nf
  show Seg _ A _ _ _ s₀ _ ((compStart (.GeneratorExp elt [⟨tg, iter, ifs, 0⟩] scope pos) 0 (.ref it) .none (genv X scope code s4.heap.objs.size)).onRaise (leaving (genv X scope code s4.heap.objs.size))) [] s
  unfold compStart
  rw [Sem.onRaise_eq_wrap]
  show Seg _ A _ _ _ s₀ _ ((ask >>= _).wrap _ _ _ _) [] s
  refine seg_bind_wrap (wpAny_askSetting ?_)
  split
  · exact seg_again rfl loop
  · first
      | exact seg_bind_wrap (wpAny_rule (seg_bind_wrap (wpAny_standAt (seg_bind_wrap (T.self _ 0 s _ _ st (seg_again rfl loop))))))
      | (refine seg_bind_wrap (wpAny_rule ?_); show Seg _ A _ _ _ s₀ _ ((standAt iter.pos >>= _).wrap _ _ _ _) [] s; exact seg_bind_wrap (wpAny_standAt (seg_bind_wrap (T.self _ 0 s _ _ st (seg_again rfl loop)))))

/-! ### one step of a consumer -/
/-- back with the def: what its frame asks -/
structure Back (X : Cx) (H4 : Hp) (s4 : Shared) (fp : List Addr) (H : Hp) (s' : Shared) : Prop where
  os : s'.os = s4.os
  un : Un (frs X.stack) fp H4 H s4.heap s'.heap
  hok : HOk X.prog X.w H s'.heap
  bare : AllBare s'.gens
theorem Back.of {N : List Str} {scope : Scope} {code : Value} {A : Around} {pins : List (Addr × Obj)} {σ : L2.St} {H : Hp} {s1 : Shared} (I : Inv (gcx X N scope code A s4 H4 fp) pins σ H s1) : Back X H4 s4 fp H s1 := ⟨I.os, I.base, I.hok, I.bare⟩
theorem Back.setGen {H : Hp} {s1 : Shared} (b : Back X H4 s4 fp H s1) {g : Nat} {x : GenState} (hx : x.bare = true) : Back X H4 s4 fp H (s1.setGen g x) := ⟨b.os, b.un, b.hok, allBare_setGen b.bare hx⟩
theorem Back.kept {H : Hp} {s1 : Shared} (b : Back X H4 s4 fp H s1) {h' : Heap} {tk : Nat} (k : ∀ b o, s1.heap.get? b = some o → h'.get? b = some o) : Back X H4 s4 fp H { s1 with heap := h', toks := tk } :=
  ⟨b.os, b.un.trans (Un.kept k), b.hok.kept k, b.bare⟩
theorem Back.inv {pins : List (Addr × Obj)} {σ : L2.St} {H : Hp} {s' : Shared} (b : Back X H4 s4 fp H s') (I : Inv X pins σ H4 s4) (hfp : ∀ b ∈ fp, FpOk X pins H4 b) : Inv X pins σ H s' :=
  I.call' (ch := fp) b.os b.un b.hok b.bare fun b hb => ⟨(hfp b hb).2.2.2.1, (hfp b hb).2.1, (hfp b hb).2.2.2.2.1, (hfp b hb).2.2.2.2.2⟩

abbrev GR (G : Cx) (fp : List Addr) (Pn : List V → List (Addr × Obj) → Prop) (Fin : List V → Hp → Prop) : GenEnd := fun n s₀ r s₁ => r = .ok .next ∧ GEx G fp Pn Fin s₀ s₁
/-- the generator at a, number gi, ready to be asked within A -/
structure Rdy (M : Model) (A : Around) (R : GenEnd) (Y : Protocol) (a : Addr) (go : Obj) (gi n : Nat) (s : Shared) : Prop where
  obj : s.heap.get? a = some go
  lim : s.heap.NoLimit
  go : ∃ gs, s.gens[gi]? = some gs ∧ gs.Goes M A R Y n (.send .none) (s.setGen gi .running)
theorem g_next {B : Around} {G : Cx} {a : Addr} {go : Obj} {gi n : Nat} {s : Shared} {Q : Option Value → Shared → Prop} {E : Value → Shared → Prop} (hh : B.handled = none) (hd : B.depth < recursionLimit)
    (hgen : ∀ h : Heap, h.get? a = some go → h.IsGen a gi)
    (hr : Rdy (model X.prog X.w) B.in1 (GR G fp Pn Fin) (GYx G fp Pn post) a go gi n s)
    (hY : ∀ x v ys σ H pins C s1 gs', gs'.bare = true → RelV x v → Inv G pins σ H s1 → PinsOk G fp pins → Pn ys pins → (∀ p ∈ pins, s.heap.get? p.1 = some p.2) → post x ys H C → gi < s1.gens.size →
      (C → ∀ s' pins', Woke pins pins' s1 s' → Pn (ys ++ [x]) pins' → ∃ n', n = n' + 1 ∧ gs'.Goes (model X.prog X.w) B.in1 (GR G fp Pn Fin) (GYx G fp Pn post) n' (.send .none) s') → Q (some v) (s1.setGen gi gs'))
    (hP : ∀ s1 ys σ H pins h', Inv G pins σ H s1 → PinsOk G fp pins → Pn ys pins → (∀ p ∈ pins, s.heap.get? p.1 = some p.2) → Fin ys H → (∀ b o, s1.heap.get? b = some o → h'.get? b = some o) → Q none { s1.setGen gi .finished with heap := h' }) :
    wpAny (model X.prog X.w) B (pyNext (.ref a)) Q E s := by
  obtain ⟨gs, hgs, hgo⟩ := hr.go
  have hgl : gi < s.gens.size := (Array.getElem?_eq_some_iff.mp hgs).1
  refine wpAny_gsz (n := gi + 1) hgl (wpAny_pyNext_genexpQ (P := fun _ s₀ s₁ => GEx G fp Pn Fin s₀ s₁) hh hr.lim hd (hgen _ hr.obj) hgs hgo (fun v s₁ gs' hb hv => ?_) fun s₁ hp h' hk => ?_)
  · intro hsz
    obtain ⟨x, ys, σ, H, pins, C, r, I, P, hPn, hs0, hpost, hkap⟩ := hv
    have hsz1 : gi < s₁.gens.size := by
      have q : (s₁.setGen gi gs').gens.size = s₁.gens.size := setGen_size _ _ _
      have hsz' : gi + 1 ≤ (s₁.setGen gi gs').gens.size := hsz
      omega
    refine hY x v ys σ H pins C s₁ gs' hb r I P hPn hs0 hpost hsz1 fun hC s' pins' hw hP' => ?_
    have q := hkap hC s' pins' hw hP'
    cases n with
    | zero => exact q.elim
    | succ n' => exact ⟨n', rfl, q⟩
  · intro _
    obtain ⟨ys, σ, H, pins, I, P, hPn, hs0, hfin⟩ := hp
    exact hP s₁ ys σ H pins h' I P hPn hs0 hfin hk
end
end Gx

set_option Elab.async false
set_option linter.all false
set_option maxRecDepth 100000
set_option maxHeartbeats 4000000
/-! Gy: the consumers all, any, sum, tuple. -/
namespace Gx
open PySem PySem.Spec PyProof.Rows L2 GenW

section
variable {X : Cx} {H4 : Hp} {s4 : Shared} {scope : Scope} {N : List Str} {fp : List Addr} {code : Value} {AG A : Around} {a S : Addr} {go : Obj} {gi : Nat} {Fin : List V → Hp → Prop} {Qf : Hp → Prop} {R' : Result → Shared → Prop}

def pAll (Qf : Hp → Prop) : TPost := fun v _ H C => ∃ b, v = .bl b ∧ if b = true then C else Qf H
def pAny (Qt : Hp → Prop) : TPost := fun v _ H C => ∃ b, v = .bl b ∧ if b = true then Qt H else C
def nAll (a : Addr) (go : Obj) : List V → List (Addr × Obj) → Prop := fun _ pins => pins = [(a, go)]

theorem woke_same {G : Cx} {fp : List Addr} {pins : List (Addr × Obj)} {σ : L2.St} {H : Hp} {s1 : Shared} {gs' : GenState} (I : Inv G pins σ H s1) (hb : gs'.bare = true) : Woke pins pins s1 ((s1.setGen gi gs').setGen gi .running) where
  os := rfl
  bare := allBare_setGen (s := s1.setGen gi gs') (allBare_setGen I.bare hb) rfl
  keep := fun _ _ _ e => e
  same := rfl
  at_ := fun p hp => (I.pin p (List.mem_append_right _ hp)).1
  data := fun p hp => (I.pin p (List.mem_append_right _ hp)).2.2.2.2

theorem drain_all (hh : A.handled = none) (hd : A.depth < recursionLimit) (hgen : ∀ h : Heap, h.get? a = some go → h.IsGen a gi)
    (hT : ∀ s' ys H, Back X H4 s4 fp H s' → Fin ys H → R' (.ok (.ret (.bool true))) s') (hF : ∀ s' H, Back X H4 s4 fp H s' → Qf H → R' (.ok (.ret (.bool false))) s') :
    ∀ (n : Nat) (s : Shared), Rdy (model X.prog X.w) A.in1.in1 (GR (gcx X N scope code AG s4 H4 fp) fp (nAll a go) Fin) (GYx (gcx X N scope code AG s4 H4 fp) fp (nAll a go) (pAll Qf)) a go gi n s →
      codeAny (model X.prog X.w) A (.builtin "all.loop" ⟨[.ref a], []⟩) R' s := by
  intro n
  induction n using Nat.strongRecOn with
  | ind n ih =>
  intro s hr
  refine codeAny_builtin F.entry_all_loop ?_
  rw [Around.under_plainId F.plain_all_loop _]
  show wpAny _ A.in1 (pyNext (.ref a) >>= _) _ _ s
  refine wpAny_bind (g_next (B := A.in1) hh hd hgen hr (fun x v ys σ H pins C s1 gs' hb rv I P hPn hs0 hpost hsz hk => ?_) fun s1 ys σ H pins h' I P hPn hs0 hfin hkh => ?_)
  · obtain ⟨b, rfl, hpost⟩ := hpost
    cases rv
    refine wpAny_bind (wpAny_holding (wpAny_truthy_bool ?_))
    refine wpAny_bind (wpAny_letGo ?_)
    have hPn' : pins = [(a, go)] := hPn
    subst hPn'
    cases b with
    | true =>
      simp only [if_true] at hpost ⊢
      obtain ⟨n', rfl, hgo⟩ := hk hpost _ _ (woke_same (fp := fp) (gi := gi) I hb) rfl
      refine wpAny_pure ⟨plainId_quiet F.plain_all_loop _, ih n' (Nat.lt_succ_self _) _ ⟨?_, I.nolimit, gs', setGen_at hsz, hgo⟩⟩
      exact (I.pin (a, go) (List.mem_append_right _ List.mem_cons_self)).1
    | false =>
      simp only [Bool.false_eq_true, if_false] at hpost ⊢
      exact wpAny_bind (wpAny_rule (wpAny_pure (hF _ H ((Back.of I).setGen hb) hpost)))
  · exact wpAny_bind (wpAny_rule (wpAny_pure (hT _ ys H (Back.kept (tk := s1.toks) ((Back.of I).setGen (g := gi) (x := .finished) rfl) hkh) hfin)))
theorem drain_any {Qt : Hp → Prop} (hh : A.handled = none) (hd : A.depth < recursionLimit) (hgen : ∀ h : Heap, h.get? a = some go → h.IsGen a gi)
    (hF : ∀ s' ys H, Back X H4 s4 fp H s' → Fin ys H → R' (.ok (.ret (.bool false))) s') (hT : ∀ s' H, Back X H4 s4 fp H s' → Qt H → R' (.ok (.ret (.bool true))) s') :
    ∀ (n : Nat) (s : Shared), Rdy (model X.prog X.w) A.in1.in1 (GR (gcx X N scope code AG s4 H4 fp) fp (nAll a go) Fin) (GYx (gcx X N scope code AG s4 H4 fp) fp (nAll a go) (pAny Qt)) a go gi n s →
      codeAny (model X.prog X.w) A (.builtin "any.loop" ⟨[.ref a], []⟩) R' s := by
  intro n
  induction n using Nat.strongRecOn with
  | ind n ih =>
  intro s hr
  refine codeAny_builtin F.entry_any_loop ?_
  rw [Around.under_plainId F.plain_any_loop _]
  show wpAny _ A.in1 (pyNext (.ref a) >>= _) _ _ s
  refine wpAny_bind (g_next (B := A.in1) hh hd hgen hr (fun x v ys σ H pins C s1 gs' hb rv I P hPn hs0 hpost hsz hk => ?_) fun s1 ys σ H pins h' I P hPn hs0 hfin hkh => ?_)
  · obtain ⟨b, rfl, hpost⟩ := hpost
    cases rv
    refine wpAny_bind (wpAny_holding (wpAny_truthy_bool ?_))
    refine wpAny_bind (wpAny_letGo ?_)
    have hPn' : pins = [(a, go)] := hPn
    subst hPn'
    cases b with
    | false =>
      simp only [Bool.false_eq_true, if_false] at hpost ⊢
      obtain ⟨n', rfl, hgo⟩ := hk hpost _ _ (woke_same (fp := fp) (gi := gi) I hb) rfl
      refine wpAny_pure ⟨plainId_quiet F.plain_any_loop _, ih n' (Nat.lt_succ_self _) _ ⟨?_, I.nolimit, gs', setGen_at hsz, hgo⟩⟩
      exact (I.pin (a, go) (List.mem_append_right _ List.mem_cons_self)).1
    | true =>
      simp only [if_true] at hpost ⊢
      exact wpAny_bind (wpAny_rule (wpAny_pure (hT _ H ((Back.of I).setGen hb) hpost)))
  · exact wpAny_bind (wpAny_rule (wpAny_pure (hF _ ys H (Back.kept (tk := s1.toks) ((Back.of I).setGen (g := gi) (x := .finished) rfl) hkh) hfin)))

/-! ### tuple -/
def pTup : TPost := fun _ ys _ C => ys.length < sizeLine ∧ C
def nTup (a : Addr) (go : Obj) (S : Addr) : List V → List (Addr × Obj) → Prop := fun ys pins => ∃ acc c, Vals ys acc.toList ∧ ys.length ≤ sizeLine ∧ pins = [(a, go), (S, lstObj acc c)]
theorem drain_tup {res : Value} (hh : A.handled = none) (hd : A.depth < recursionLimit) (hgen : ∀ h : Heap, h.get? a = some go → h.IsGen a gi) (hSa : S ≠ a) (hSc : S ≠ cStatics)
    (hEnd : ∀ s' ys H acc c, Back X H4 s4 fp H s' → Fin ys H → Vals ys acc.toList → ys.length ≤ sizeLine → s'.heap.get? S = some (lstObj acc c) → R' (.ok (.ret res)) s') :
    ∀ (n : Nat) (s : Shared), Rdy (model X.prog X.w) A.in1.in1 (GR (gcx X N scope code AG s4 H4 fp) fp (nTup a go S) Fin) (GYx (gcx X N scope code AG s4 H4 fp) fp (nTup a go S) pTup) a go gi n s →
      codeAny (model X.prog X.w) A (.builtin "list.extend.loop" ⟨[.ref S, .ref a, res], []⟩) R' s := by
  intro n
  induction n using Nat.strongRecOn with
  | ind n ih =>
  intro s hr
  refine codeAny_builtin F.entry_extend_loop ?_
  rw [Around.under_plainId F.plain_extend_loop _]
  show wpAny _ A.in1 (pyNext (.ref a) >>= _) _ _ s
  refine wpAny_bind (g_next (B := A.in1) hh hd hgen hr (fun x v ys σ H pins C s1 gs' hb rv I P hPn hs0 hpost hsz hk => ?_) fun s1 ys σ H pins h' I P hPn hs0 hfin hkh => ?_)
  · obtain ⟨hlt, hC⟩ := hpost
    obtain ⟨acc, c, hv, hle, rfl⟩ := hPn
    have pa := I.pin (a, go) (List.mem_append_right _ List.mem_cons_self)
    have pS := I.pin (S, lstObj acc c) (List.mem_append_right _ (List.mem_cons_of_mem _ List.mem_cons_self))
    have hS1 : s1.heap.get? S = some (lstObj acc c) := pS.1
    have hasz : acc.size = ys.length := by
      have e1 := hv.length
      have e2 : acc.toList.length = acc.size := by simp
      omega
    show wpAny _ A.in1 (updateSeq S (·.push v) >>= _) _ _ _
    refine wpAny_bind ?_
    refine wpAny_updateSeq (s := s1.setGen gi gs') hS1 rfl (wpAny_pure ⟨plainId_quiet F.plain_extend_loop _, ?_⟩) (by omega) (by show (acc.push v).size ≤ sizeLine + 1; rw [Array.size_push]; omega)
    have keep3 : ∀ b o, b ≠ S → s1.heap.get? b = some o → (s1.heap.update S (Obj.mapSeq (·.push v))).get? b = some o := fun b o hbS e => (Heap.get?_update_other _ _ (Ne.symm hbS)).trans e
    have at3 : (s1.heap.update S (Obj.mapSeq (·.push v))).get? S = some (lstObj (acc.push v) (c + 1)) ∨ ∃ c', (s1.heap.update S (Obj.mapSeq (·.push v))).get? S = some (lstObj (acc.push v) c') := .inr ⟨_, Heap.get?_update_self _ hS1 rfl⟩
    obtain ⟨c', at4⟩ : ∃ c', (s1.heap.update S (Obj.mapSeq (·.push v))).get? S = some (lstObj (acc.push v) c') := by
      rcases at3 with z | z
      · exact ⟨_, z⟩
      · exact z
    have hk2 := hk hC ({ (s1.setGen gi gs').setGen gi .running with heap := s1.heap.update S (Obj.mapSeq (·.push v)) }) [(a, go), (S, lstObj (acc.push v) c')]
      { os := rfl
        bare := allBare_setGen (s := s1.setGen gi gs') (allBare_setGen I.bare hb) rfl
        keep := fun b o hb e => keep3 b o (fun z => hb (by rw [z]; simp)) e
        same := rfl
        at_ := fun p hp => by
          rcases List.mem_cons.mp hp with z | z
          · rw [z]
            exact keep3 a go (Ne.symm hSa) pa.1
          · rw [List.mem_singleton.mp z]
            exact at4
        data := fun p hp => by
          rcases List.mem_cons.mp hp with z | z
          · rw [z]
            exact pa.2.2.2.2
          · rw [List.mem_singleton.mp z]
            intro v q
            cases q }
      ⟨acc.push v, c', by rw [Array.toList_push]; exact hv.append (.cons rv .nil), by rw [List.length_append]; exact hlt, rfl⟩
    obtain ⟨n', rfl, hgo⟩ := hk2
    refine ih n' (Nat.lt_succ_self _) { s1.setGen gi gs' with heap := s1.heap.update S (Obj.mapSeq (·.push v)) } ⟨keep3 a go (Ne.symm hSa) pa.1, ?_, gs', setGen_at hsz, hgo⟩
    obtain ⟨mc, hns, hnn⟩ := I.nolimit
    exact ⟨mc, hns.at' fun o e => keep3 _ o (Ne.symm hSc) e, hnn⟩
  · obtain ⟨acc, c, hv, hle, rfl⟩ := hPn
    have hS1 : s1.heap.get? S = some (lstObj acc c) := (I.pin (S, lstObj acc c) (List.mem_append_right _ (List.mem_cons_of_mem _ List.mem_cons_self))).1
    exact wpAny_pure (hEnd _ ys H acc c (Back.kept (tk := s1.toks) ((Back.of I).setGen (g := gi) (x := .finished) rfl) hkh) hfin hv hle (hkh _ _ hS1))

/-! ### sum -/
def pSum : TPost := fun v _ _ C => (∃ j, v = .int j) ∧ C
abbrev sumObj (z : Int) (t : Tok) (c : Nat) : Obj := { cls := .type "list", dict := none, data := .seq #[.int z t] c, slots := #[] }
def nSum (a : Addr) (go : Obj) (S : Addr) : List V → List (Addr × Obj) → Prop := fun ys pins => ∃ (ns : List Int) (t : Tok) (c : Nat), ys = ns.map V.int ∧ pins = [(a, go), (S, sumObj ns.sum t c)]
theorem drain_sum (hh : A.handled = none) (hd : A.depth < recursionLimit) (hgen : ∀ h : Heap, h.get? a = some go → h.IsGen a gi) (hSa : S ≠ a) (hSc : S ≠ cStatics)
    (hEnd : ∀ s' (ns : List Int) H t, Back X H4 s4 fp H s' → Fin (ns.map V.int) H → R' (.ok (.ret (.int ns.sum t))) s') :
    ∀ (n : Nat) (s : Shared) (st z : Int) (tA : Tok) (c : Nat), (st = 0 ∨ st = 2) → s.heap.get? S = some (sumObj z tA c) →
      Rdy (model X.prog X.w) A.in1.in1 (GR (gcx X N scope code AG s4 H4 fp) fp (nSum a go S) Fin) (GYx (gcx X N scope code AG s4 H4 fp) fp (nSum a go S) pSum) a go gi n s →
      codeAny (model X.prog X.w) A (.builtin "sum.loop" ⟨[.ref a, .ref S, rawInt st, rawInt 0], []⟩) R' s := by
  intro n
  induction n using Nat.strongRecOn with
  | ind n ih =>
  intro s st z tA c hst hS hr
  refine codeAny_builtin F.entry_sum_loop ?_
  rw [Around.under_plainId F.plain_sum_loop _]
  show wpAny _ A.in1 (seqItems? (.ref S) >>= _) _ _ s
  refine wpAny_bind (wpAny_seqItems hS rfl ?_)
  show wpAny _ A.in1 (tryCatch (pyNext (.ref a)) _ >>= _) _ _ s
  refine wpAny_bind (wpAny_tryCatch (g_next (B := A.in1) hh hd hgen hr (fun x v ys σ H pins C s1 gs' hb rv I P hPn hs0 hpost hsz hk => ?_) fun s1 ys σ H pins h' I P hPn hs0 hfin hkh => ?_))
  · obtain ⟨⟨j, rfl⟩, hC⟩ := hpost
    obtain ⟨t, rfl⟩ := rv
    obtain ⟨ns, tB, cB, rfl, rfl⟩ := hPn
    have pa := I.pin (a, go) (List.mem_append_right _ List.mem_cons_self)
    have pS := I.pin (S, sumObj ns.sum tB cB) (List.mem_append_right _ (List.mem_cons_of_mem _ List.mem_cons_self))
    have e0 := hs0 (S, sumObj ns.sum tB cB) (List.mem_cons_of_mem _ List.mem_cons_self)
    have e1 : s.heap.get? S = some (sumObj ns.sum tB cB) := e0
    rw [hS] at e1
    have ez : z = ns.sum ∧ tA = tB := by
      have e2 := congrArg Obj.data (Option.some.inj e1)
      have e3 : Data.seq #[Value.int z tA] c = Data.seq #[Value.int ns.sum tB] cB := e2
      injection e3 with e4 _
      have e5 := congrArg Array.toList e4
      simp at e5
      exact e5
    obtain ⟨rfl, rfl⟩ := ez
    have hS1 : s1.heap.get? S = some (sumObj ns.sum tA cB) := pS.1
    -- what follows the write
    have next : ∀ (h2 : Heap) (tk c' : Nat) (t' : Tok) (st' : Int), (st' = 0 ∨ st' = 2) → (∀ b o, b ≠ S → s1.heap.get? b = some o → h2.get? b = some o) → h2.get? S = some (sumObj (ns.sum + j) t' c') →
        codeAny (model X.prog X.w) A (.builtin "sum.loop" ⟨[.ref a, .ref S, rawInt st', rawInt 0], []⟩) R' { s1.setGen gi gs' with heap := h2, toks := tk } := fun h2 tk c' t' st' hst' keep3 at3 => by
      have es : (ns ++ [j]).sum = ns.sum + j := by simp
      have hk2 := hk hC ({ (s1.setGen gi gs').setGen gi .running with heap := h2, toks := tk }) [(a, go), (S, sumObj (ns ++ [j]).sum t' c')]
        { os := rfl
          bare := allBare_setGen (s := s1.setGen gi gs') (allBare_setGen I.bare hb) rfl
          keep := fun b o hb e => keep3 b o (fun z => hb (by rw [z]; simp)) e
          same := rfl
          at_ := fun p hp => by
            rcases List.mem_cons.mp hp with z | z
            · rw [z]
              exact keep3 a go (Ne.symm hSa) pa.1
            · rw [List.mem_singleton.mp z, es]
              exact at3
          data := fun p hp => by
            rcases List.mem_cons.mp hp with z | z
            · rw [z]
              exact pa.2.2.2.2
            · rw [List.mem_singleton.mp z]
              intro v q
              cases q }
        ⟨ns ++ [j], t', c', by simp, rfl⟩
      obtain ⟨n', rfl, hgo⟩ := hk2
      refine ih n' (Nat.lt_succ_self _) _ st' _ t' c' hst' at3 ⟨keep3 a go (Ne.symm hSa) pa.1, ?_, gs', setGen_at hsz, hgo⟩
      obtain ⟨mc, hns, hnn⟩ := I.nolimit
      exact ⟨mc, hns.at' fun o e => keep3 _ o (Ne.symm hSc) e, hnn⟩
    have up : ∀ (h : Heap) (f : Obj → Obj) b o, b ≠ S → h.get? b = some o → (h.update S f).get? b = some o := fun h f b o hbS e => (Heap.get?_update_other _ _ (Ne.symm hbS)).trans e
    rcases hst with rfl | rfl
    · show wpAny _ A.in1 (if (_ : Bool) = true then (mkInt (ns.sum + j) >>= _) else _) _ _ _
      split
      · refine wpAny_bind (wpAny_mkInt ?_)
        show wpAny _ A.in1 (updateSeq S (fun _ => #[.int (ns.sum + j) (s1.setGen gi gs').toks]) >>= _) _ _ _
        refine wpAny_bind ?_
        refine wpAny_updateSeq (s := { s1.setGen gi gs' with toks := (s1.setGen gi gs').toks + 1 }) hS1 rfl (wpAny_pure ⟨plainId_quiet F.plain_sum_loop _, ?_⟩)
        exact next _ _ _ _ 0 (.inl rfl) (up _ _) (Heap.get?_update_self _ hS1 rfl)
      · refine wpAny_bind (wpAny_rule ?_)
        refine wpAny_bind (wpAny_attempt (wpAny_holding (wpAny_add_int ?_)))
        show wpAny _ A.in1 (updateSeq S (fun _ => #[.int (ns.sum + j) (s1.setGen gi gs').toks]) >>= _) _ _ _
        refine wpAny_bind (wpAny_updateSeq (s := { s1.setGen gi gs' with toks := (s1.setGen gi gs').toks + 1 }) hS1 rfl ?_)
        have hS2 := Heap.get?_update_self (Obj.mapSeq fun _ => #[Value.int (ns.sum + j) (s1.setGen gi gs').toks]) hS1 rfl
        refine wpAny_bind (wpAny_letGo ?_)
        refine wpAny_bind (wpAny_updateSeq hS2 rfl (wpAny_pure ⟨plainId_quiet F.plain_sum_loop _, ?_⟩))
        exact next _ _ _ _ 2 (.inr rfl) (fun b o hb e => up _ _ b o hb (up _ _ b o hb e)) (Heap.get?_update_self _ hS2 rfl)
    · show wpAny _ A.in1 ((holding [Value.int j t] (binaryOp .Add (.int ns.sum tA) (.int j t))).attempt >>= _) _ _ _
      refine wpAny_bind (wpAny_attempt (wpAny_holding (wpAny_add_int ?_)))
      show wpAny _ A.in1 (updateSeq S (fun _ => #[.int (ns.sum + j) (s1.setGen gi gs').toks]) >>= _) _ _ _
      refine wpAny_bind (wpAny_updateSeq (s := { s1.setGen gi gs' with toks := (s1.setGen gi gs').toks + 1 }) hS1 rfl ?_)
      have hS2 := Heap.get?_update_self (Obj.mapSeq fun _ => #[Value.int (ns.sum + j) (s1.setGen gi gs').toks]) hS1 rfl
      refine wpAny_bind (wpAny_letGo ?_)
      refine wpAny_bind (wpAny_updateSeq hS2 rfl (wpAny_pure ⟨plainId_quiet F.plain_sum_loop _, ?_⟩))
      exact next _ _ _ _ 2 (.inr rfl) (fun b o hb e => up _ _ b o hb (up _ _ b o hb e)) (Heap.get?_update_self _ hS2 rfl)
  · obtain ⟨ns, tB, cB, rfl, rfl⟩ := hPn
    have e1 : s.heap.get? S = some (sumObj ns.sum tB cB) := hs0 (S, sumObj ns.sum tB cB) (List.mem_cons_of_mem _ List.mem_cons_self)
    rw [hS] at e1
    have ez : z = ns.sum ∧ tA = tB := by
      have e2 := congrArg Obj.data (Option.some.inj e1)
      have e3 : Data.seq #[Value.int z tA] c = Data.seq #[Value.int ns.sum tB] cB := e2
      injection e3 with e4 _
      have e5 := congrArg Array.toList e4
      simp at e5
      exact e5
    obtain ⟨rfl, rfl⟩ := ez
    exact wpAny_pure (hEnd _ ns H tA (Back.kept (tk := s1.toks) ((Back.of I).setGen (g := gi) (x := .finished) rfl) hkh) hfin)
end
end Gx

set_option Elab.async false
set_option linter.all false
set_option maxRecDepth 100000
set_option maxHeartbeats 4000000
/-! Gz: a generator expression is made; the rules. -/
namespace Gx
open PySem PySem.Spec PyProof.Rows L2 GenW
abbrev TabG := GxR.TabG
abbrev Tabbed := GxR.Tabbed
abbrev TabB := LamX.TabB
section
variable {X : Cx} {pins : List (Addr × Obj)} {σ : L2.St} {H : Hp} {s : Shared} {scope : Scope} {N : List Str} {src : List (Option Nat)} {c P : Addr}
variable {elt tg iter : Expr} {ifs : List Expr} {gpos : Pos} {wi : TI} {R : It → Hp → Prop}
/-- the generator at a, just made in the state s4, number gi; s5: now -/
structure Made (X : Cx) (scope : Scope) (elt tg iter : Expr) (ifs : List Expr) (gpos : Pos) (s4 : Shared) (code : Value) (it a : Addr) (go : Obj) (gi : Nat) (s5 : Shared) : Prop where
  os : s5.os = s4.os
  bare : AllBare s5.gens
  keep : ∀ b o, s4.heap.get? b = some o → s5.heap.get? b = some o
  ns : s5.heap.Ns s4.heap.objs.size (fun y => if y = ".0" then some (.ref it) else none)
  obj : s5.heap.get? a = some go
  gen : ∀ h : Heap, h.get? a = some go → h.IsGen a gi
  dat : ∀ v, go.data ≠ .cell v
  lt : s4.heap.objs.size < a
  top : a < s5.heap.objs.size
  fresh : s5.gens[gi]? = some (.fresh (.compStart (.GeneratorExp elt [⟨tg, iter, ifs, 0⟩] scope gpos) 0 (.ref it) .none (genv X scope code s4.heap.objs.size)))

theorem gen_make {k : Nat} {Q' : Value → Shared → Prop} (hr : Room k X.A) (TB : TabB X.base X.mg c P) (hcode : X.env.code = .ref c) (ok : GOk X.N X.env.scope scope N src) (hi : PI X tg iter wi)
    (hs : ∀ v, genFold iter X.env v = pure v) (I : Inv X pins σ H s) (h : wi σ H fun J H1 => TabG H1 P ∧ R J H1)
    (hQ : ∀ it fp tn J H1 H2 s4 code a go gi s5, R J H1 → Tabbed P H1 H2 → Inv X pins σ H2 s4 → Turn X.prog X.w X.K tg J fp it tn → tn 0 s5.heap → (∀ b ∈ fp, FpOk X pins H2 b ∧ b < s4.heap.objs.size) →
      Made X scope elt tg iter ifs gpos s4 code it a go gi s5 → Q' (.ref a) s5) :
    wpAny (model X.prog X.w) X.A (eval (.GeneratorExp elt [⟨tg, iter, ifs, 0⟩] scope gpos) X.env) Q' X.xe s := by
  have hfree : ∀ y ∈ scope.names, y.2 = .free → ∃ c, X.env.cells.lookup y.1 = some c := fun y hy e => by
    rcases ok.free y hy e with k | k
    · exact I.ok.has _ (.inl k)
    · exact I.ok.has _ (.inr k)
  refine wpAny_GeneratorExp_make ok.co (closure_ok hfree) ok.cell ok.dot ok.kind (by have := hr.dp; omega) ?_ hs
  refine thn (hi.run pins s σ H _ I h) fun xv s1 hx => thn hx fun itv s2 h2 => ?_
  obtain ⟨it, fp, tn, J, H1, rfl, I1, T, st2, f2, ⟨ps, hP, ht⟩, q⟩ := h2
  refine ⟨I1.nolimit, ?_⟩
  have hPs : s2.heap.get? P = some { cls := .none, data := .fields ps } := I1.hok P _ hP
  have cd : PySem.W.CodeHd s2.heap c P := TB.code.keeps fun b u e => I1.bk b u e
  have fpP : ∀ b ∈ fp, b ≠ P := fun b hb z => by
    have q := (f2 b hb).1
    rw [z, hP] at q
    cases q
  have fpl : ∀ b ∈ fp, b < s2.heap.objs.size := fun b hb => by
    obtain ⟨o, e, _⟩ := T.obj _ _ st2 b hb
    exact Heap.lt_size e
  have cont : ∀ (code : Value) (h3 : Heap) (tk : Nat) (ps' : Array Value), Heap.ExtBut P s2.heap h3 → s2.heap.objs.size ≤ h3.objs.size → h3.get? P = some { cls := .none, data := .fields ps' } → (∃ more, ps' = ps ++ more) → TriplesOk ps'.toList →
      wpAny (model X.prog X.w) X.A (builtinsFor X.env.globals X.env.builtins) (fun bi s₄ =>
        ∀ h', h'.Ns s₄.heap.objs.size (fun y => if y = ".0" then some (.ref it) else none) → Heap.SameBut s₄.heap.objs.size (s₄.heap.push { cls := .type "frame", data := .dict #[] }) h' →
          Q' (.ref h'.objs.size) { s₄ with
            gens := s₄.gens.push (.fresh (.compStart (.GeneratorExp elt [⟨tg, iter, ifs, 0⟩] scope gpos) 0 (.ref it) .none (genEnv scope (cloFrom X.env.cells scope.names []) s₄.heap.objs.size code bi X.env))),
            toks := s₄.toks + 1 + 1 + 1,
            heap := h'.push { cls := .type "generator", data := .fields #[.int s₄.gens.size 0, .str "<genexpr>" (s₄.toks + 1), .str (X.env.qual ++ "<genexpr>") (s₄.toks + 1 + 1)] } }) X.xe { s2 with heap := h3, toks := tk } := by
    intro code h3 tk ps' hx hsz hP3 hmore ht3
    obtain ⟨bm, ob, e1, e2, e3, e4, e5, e6, e7, e8⟩ := TB.bm
    have keep3 : ∀ b u, b ≠ P → s2.heap.get? b = some u → h3.get? b = some u := fun b u hb e => hx b u hb e
    refine wpAny_builtinsFor (m := X.mg) (by rw [I1.ok.glob]; exact (I1.mod.glob.keeps I1.bk).extBut hx TB.gP) e1 e2 (keep3 _ _ e4 (I1.bk _ _ e5)) e6 e7 e8 ?_
    intro h' hn' hs'
    obtain ⟨more, em⟩ := hmore
    have J2 := GxR.inv_tab (more := more) (h' := h3) (g' := s2.gens) (d' := s2.drawn) (t' := tk) I1 hP keep3 (by rw [← em]; exact hP3) I1.bare
    have keep4 : ∀ b o, h3.get? b = some o → h'.get? b = some o := fun b o e => hs'.extBut b o (Nat.ne_of_lt (Heap.lt_size e)) (Heap.get?_push_of_some _ e)
    have sz' : h'.objs.size = h3.objs.size + 1 := by rw [hs'.1, Heap.size_push]
    refine hQ it fp tn J H1 (upd H1 P (.tbl (ps ++ more))) { s2 with heap := h3, toks := tk } code h'.objs.size { cls := .type "generator", data := .fields #[.int s2.gens.size 0, .str "<genexpr>" (tk + 1), .str (X.env.qual ++ "<genexpr>") (tk + 1 + 1)] } s2.gens.size _ q
      ⟨⟨ps ++ more, upd_same, by rw [← em]; exact ht3⟩, fun b hb => upd_ne hb⟩ J2 T ?_ (fun b hb => ?_) ⟨rfl, ?_, fun b o e => Heap.get?_push_of_some _ (keep4 b o e), hn'.push _, Heap.get?_push_size _ rfl, fun h e => ⟨_, _, _, e, rfl, rfl, rfl⟩, fun v q => (by cases q), ?_, ?_, Array.getElem?_push_size ..⟩
    · refine T.keep _ _ _ st2 fun b hb o e => ?_
      exact Heap.get?_push_of_some _ (keep4 b o (keep3 b o (fpP b hb) e))
    · obtain ⟨f0, f1⟩ := f2 b hb
      exact ⟨⟨by rw [upd_ne (fpP b hb)]; exact f0, f1⟩, Nat.lt_of_lt_of_le (fpl b hb) hsz⟩
    · exact AllBare.push I1.bare rfl
    · show h3.objs.size < h'.objs.size
      omega
    · show h'.objs.size < (h'.push _).objs.size
      rw [Heap.size_push]
      exact Nat.lt_succ_self _
  cases hf : codeAmong gpos ps.toList with
  | none =>
    refine wpAny_genexprCodeX hcode (cd.code hPs ht) (cd.tab hPs) hf fun c' h' tk hx hge hlt hco' _ htab' _ => ?_
    obtain ⟨o1, vs, f1, tf, fl, tg, inF, tx, tt, op, _, _, _, _, _, _, _, _, _, htr, _⟩ := hco'
    exact cont _ h' tk _ hx (Nat.le_trans hge (Nat.le_of_lt hlt)) htab'.2 ⟨_, rfl⟩ htr
  | some cv =>
    refine wpAny_genexprCode_hit hcode (cd.code hPs ht) hf ?_
    exact cont cv s2.heap s2.toks ps (Heap.ExtBut.refl _ _) (Nat.le_refl _) hPs ⟨#[], by simp⟩ ht

/-- the generator, ready for a consumer that runs within B and keeps pins -/
theorem Made.ready {s4 s5 s6 : Shared} {H2 : Hp} {code : Value} {it a : Addr} {go : Obj} {gi : Nat} {fp : List Addr} {tn : Nat → Heap → Prop} {J : It} {B : Around} {g : TG} {tt : TT} {te : TE} {vs : List Nat} {post : TPost} {Fin : List V → Hp → Prop}
    {W : Nat → Nat → List V → Hp → Prop} {Pn : List V → List (Addr × Obj) → Prop} {m n : Nat} {pl : List (Addr × Obj)}
    (M : Made X scope elt tg iter ifs gpos s4 code it a go gi s5) (ok : GOk X.N X.env.scope scope N src) (I : Inv X pins σ H2 s4) (T : Turn X.prog X.w X.K tg J fp it tn) (st : tn 0 s5.heap) (hfp : ∀ b ∈ fp, FpOk X pins H2 b ∧ b < s4.heap.objs.size)
    (hB : B.frames = some X.stack) (hh : B.handled = none)
    (pg : PG (gcx X N scope code B s4 H2 fp) tg g) (pt : PTs (gcx X N scope code B s4 H2 fp) ifs tt) (pe : PE (gcx X N scope code B s4 H2 fp) elt te)
    (turn : GTurn J g tt te vs (gsl σ src) post Fin W) (hmn : m < n) (w : W 0 m [] H2)
    (os : s6.os = s5.os) (bare : AllBare s6.gens) (keep : ∀ b o, s5.heap.get? b = some o → s6.heap.get? b = some o) (hg : s6.gens[gi]? = s5.gens[gi]?)
    (hpl : ∀ p ∈ pl, s5.heap.objs.size ≤ p.1 ∧ s6.heap.get? p.1 = some p.2 ∧ ∀ v, p.2.data ≠ .cell v) (hPn : Pn [] ((a, go) :: pl)) :
    Rdy (model X.prog X.w) B (GR (gcx X N scope code B s4 H2 fp) fp Pn Fin) (GYx (gcx X N scope code B s4 H2 fp) fp Pn post) a go gi n s6 := by
  have kp : ∀ b o, s4.heap.get? b = some o → s6.heap.get? b = some o := fun b o e => keep b o (M.keep b o e)
  have I5 : ∀ (s' : Shared), s'.os = s4.os → AllBare s'.gens → s'.heap = s6.heap → Inv (gcx X N scope code B s4 H2 fp) [] (gsl σ src) H2 s' := fun s' h1 h2 h3 =>
    g_start (m0 := fun y => if y = ".0" then some (.ref it) else none) I ok hfp hB hh h1 h2 (by rw [h3]; exact kp) (by rw [h3]; exact M.ns.keeps keep)
  have lt4 : ∀ b, s4.heap.objs.size < b → H2 b = none ∧ b ∉ frs X.stack ∧ b ≠ s4.heap.objs.size ∧ b ∉ fp ∧ ∀ x c, (cloFrom X.env.cells scope.names []).lookup x = some c → c ≠ b := fun b hb => by
    refine ⟨I.hok.fresh (Nat.le_of_lt hb), fun z => ?_, Nat.ne_of_gt hb, fun z => ?_, fun x c e z => ?_⟩
    · rcases List.mem_cons.mp (I.stkSub b z) with y | y
      · have := I.lt
        rw [← y] at this
        exact absurd (Nat.lt_trans hb this) (Nat.lt_irrefl _)
      · exact I.nofs (Nat.le_of_lt hb) y
    · exact absurd (Nat.lt_trans hb (hfp b z).2) (Nat.lt_irrefl _)
    · rcases cloFrom_mem (PySem.mem_of_lookup e) with hm | ⟨h1, h2⟩
      · cases hm
      · rcases ok.free _ h1 rfl with k | k
        all_goals
          obtain ⟨c', hc'⟩ := I.ok.has x (by first | exact .inl k | exact .inr k)
          rw [hc'] at h2
          have h2' : c = c' := h2
          obtain ⟨w', z'⟩ := I.cell x c' hc'
          have := z'.lt
          rw [← h2', z] at this
          exact absurd (Nat.lt_trans hb this) (Nat.lt_irrefl _)
  have each : ∀ p ∈ (a, go) :: pl, s4.heap.objs.size < p.1 ∧ s6.heap.get? p.1 = some p.2 ∧ ∀ v, p.2.data ≠ .cell v := fun p hp => by
    rcases List.mem_cons.mp hp with z | z
    · rw [z]
      exact ⟨M.lt, keep _ _ M.obj, M.dat⟩
    · obtain ⟨h1, h2, h3⟩ := hpl p z
      exact ⟨Nat.lt_of_lt_of_le (Nat.lt_trans M.lt M.top) h1, h2, h3⟩
  have PO : PinsOk (gcx X N scope code B s4 H2 fp) fp ((a, go) :: pl) := ⟨fun p hp => Nat.le_of_lt (each p hp).1, fun p hp => (lt4 _ (each p hp).1).2.2.1, fun p hp => (lt4 _ (each p hp).1).2.2.2.1, fun p hp => (lt4 _ (each p hp).1).2.2.2.2⟩
  have I6 : ∀ (s' : Shared), s'.os = s4.os → AllBare s'.gens → s'.heap = s6.heap → Inv (gcx X N scope code B s4 H2 fp) ((a, go) :: pl) (gsl σ src) H2 s' := fun s' h1 h2 h3 =>
    (I5 s' h1 h2 h3).pins_of fun p hp => ⟨by rw [h3]; exact (each p hp).2.1, (lt4 _ (each p hp).1).1, (lt4 _ (each p hp).1).2.2.1, (lt4 _ (each p hp).1).2.1, (each p hp).2.2⟩
  have e6 := hg.trans M.fresh
  refine ⟨keep _ _ M.obj, I.nolimit.keeps kp, _, e6, rfl, ?_⟩
  exact g_begin (elt := elt) (iter := iter) (ifs := ifs) (pos := gpos) ok.co hh T pg pt pe turn hmn w (I6 _ (os.trans M.os) (allBare_setGen (s := s6) bare rfl) rfl) PO hPn (fun p hp => (each p hp).2.1) (T.keep _ _ _ st fun b _ o e => keep b o e) fun b hb => (hfp b hb).1.1
end
end Gx

set_option Elab.async false
set_option linter.all false
set_option maxRecDepth 100000
set_option maxHeartbeats 4000000
/-! Gr: the rules: all(..), any(..), sum(..), tuple(..) of a generator expression. -/
namespace Gx
open PySem PySem.Spec PyProof.Rows L2 GenW
section
variable {X : Cx} {scope : Scope} {N : List Str} {src : List (Option Nat)} {c P : Addr}
variable {elt tg iter : Expr} {ifs : List Expr} {p pos gpos : Pos} {wi : TI} {g : TG} {tt : TT} {te : TE} {vs : List Nat} {k : Nat}
/-- the reading: the walked thing, then the turns -/
def tGen (P : Addr) (wi : TI) (g : TG) (tt : TT) (te : TE) (vs : List Nat) (src : List (Option Nat)) (post : VK → TPost) (fin : VK → List V → Hp → Prop) : TE := fun σ H Q => wi σ H fun J H1 => TabG H1 P ∧ ∀ H2, Tabbed P H1 H2 →
  ∃ W : Nat → Nat → List V → Hp → Prop, (∃ m, W 0 m [] H2) ∧ GTurn J g tt te vs (gsl σ src) (post Q) (fin Q) W
abbrev tGAll (P : Addr) (wi : TI) (g : TG) (tt : TT) (te : TE) (vs : List Nat) (src : List (Option Nat)) : TE := tGen P wi g tt te vs src (fun Q => pAll fun H => Q (.bl false) H) fun Q _ H => Q (.bl true) H
abbrev tGAny (P : Addr) (wi : TI) (g : TG) (tt : TT) (te : TE) (vs : List Nat) (src : List (Option Nat)) : TE := tGen P wi g tt te vs src (fun Q => pAny fun H => Q (.bl true) H) fun Q _ H => Q (.bl false) H
abbrev tGSum (P : Addr) (wi : TI) (g : TG) (tt : TT) (te : TE) (vs : List Nat) (src : List (Option Nat)) : TE := tGen P wi g tt te vs src (fun _ => pSum) fun Q ys H => ∀ ns : List Int, ys = ns.map V.int → Q (.int ns.sum) H
abbrev tGTup (P : Addr) (wi : TI) (g : TG) (tt : TT) (te : TE) (vs : List Nat) (src : List (Option Nat)) : TE := tGen P wi g tt te vs src (fun _ => pTup) fun Q ys H => ∀ p, H p = none → Q (.ref p) (upd H p (.tup ys))

/-- all that a rule asks of the generator expression's parts -/
structure GParts (X : Cx) (k : Nat) (scope : Scope) (N : List Str) (tg : Expr) (ifs : List Expr) (elt : Expr) (g : TG) (tt : TT) (te : TE) : Prop where
  tg : ∀ (B : Around) (s : Shared) (H : Hp) (fp : List Addr) (code : Value), Room k B → PG (gcx X N scope code B s H fp) tg g
  ifs : ∀ (B : Around) (s : Shared) (H : Hp) (fp : List Addr) (code : Value), Room k B → PTs (gcx X N scope code B s H fp) ifs tt
  elt : ∀ (B : Around) (s : Shared) (H : Hp) (fp : List Addr) (code : Value), Room k B → PE (gcx X N scope code B s H fp) elt te

theorem pe_gall (G : GParts X k scope N tg ifs elt g tt te) (hr : Room (k + 2) X.A) (hg : Gl X "all") (hm : X.mg "all" = none) (TB : TabB X.base X.mg c P) (hcode : X.env.code = .ref c) (ok : GOk X.N X.env.scope scope N src) (hi : PI X tg iter wi)
    (hs : ∀ v, genFold iter X.env v = pure v := by intro _; rfl) (hb : bootBuiltins "all" = some (.builtin "all") := by decide +kernel)
    (he : starEach [.GeneratorExp elt [⟨tg, iter, ifs, 0⟩] scope gpos] X.env = (false, eval (.GeneratorExp elt [⟨tg, iter, ifs, 0⟩] scope gpos) X.env) :: starEach [] X.env := by rfl) :
    PE X (.Call (.Name "all" p) [.GeneratorExp elt [⟨tg, iter, ifs, 0⟩] scope gpos] [] pos) (tGAll P wi g tt te vs src) := by
  refine ⟨fun pins s σ H Q I h => ?_⟩
  refine wpAny_Call_Name_kw (ld_blt I hg hm hb ?_)
  refine PyProof.Rows.callWith_builtin1 ?_ he (by rfl)
  rw [he]
  show wpAny _ _ (spliced ((false, eval (.GeneratorExp elt [⟨tg, iter, ifs, 0⟩] scope gpos) X.env) :: backTo pos (starEach [] X.env))) _ _ s
  refine Calls.spliced_cons (gen_make (gpos := gpos) (elt := elt) (ifs := ifs) hr TB hcode ok hi hs I h fun it fp tn J H1 H2 s4 code a go gi s5 q hT I4 T st hfp M => ?_)
  obtain ⟨W, ⟨m, w0⟩, turn⟩ := q H2 hT
  refine Calls.spliced_nil ?_
  have hB : Room k X.A.in1.in1 := hr.in1.in1
  refine call_function_tree F.kind_all F.plain_all F.entry_all (F.args_all1 _) ?_
  unfold Builtin.«all»
  refine wpAny_bind (m := oneArg "all" _) (wpAny_pure ?_)
  refine wpAny_bind (wpAny_pyIter_gen (M.gen _ M.obj) ?_)
  refine wpAny_pure ⟨plainId_quiet F.plain_all_loop _, drain_all (Fin := fun _ H => Q (.bl true) H) (Qf := fun H => Q (.bl false) H) hr.hd hr.depth M.gen (fun s' ys H b q => ?_) (fun s' H b q => ?_) (m + 1) s5
    (M.ready ok I4 T st hfp (show X.A.in1.in1.frames = some X.stack from I4.ok.frames) hB.hd (G.tg _ _ _ _ _ hB) (G.ifs _ _ _ _ _ hB) (G.elt _ _ _ _ _ hB) turn (Nat.lt_succ_self _) w0 rfl M.bare (fun _ _ e => e) rfl (pl := []) (fun p hp => by simp at hp) rfl)⟩
  · exact ⟨.bl true, H, b.inv I4 fun b hb => (hfp b hb).1, rfl, q⟩
  · exact ⟨.bl false, H, b.inv I4 fun b hb => (hfp b hb).1, rfl, q⟩

theorem pe_gany (G : GParts X k scope N tg ifs elt g tt te) (hr : Room (k + 2) X.A) (hg : Gl X "any") (hm : X.mg "any" = none) (TB : TabB X.base X.mg c P) (hcode : X.env.code = .ref c) (ok : GOk X.N X.env.scope scope N src) (hi : PI X tg iter wi)
    (hs : ∀ v, genFold iter X.env v = pure v := by intro _; rfl) (hb : bootBuiltins "any" = some (.builtin "any") := by decide +kernel)
    (he : starEach [.GeneratorExp elt [⟨tg, iter, ifs, 0⟩] scope gpos] X.env = (false, eval (.GeneratorExp elt [⟨tg, iter, ifs, 0⟩] scope gpos) X.env) :: starEach [] X.env := by rfl) :
    PE X (.Call (.Name "any" p) [.GeneratorExp elt [⟨tg, iter, ifs, 0⟩] scope gpos] [] pos) (tGAny P wi g tt te vs src) := by
  refine ⟨fun pins s σ H Q I h => ?_⟩
  refine wpAny_Call_Name_kw (ld_blt I hg hm hb ?_)
  refine PyProof.Rows.callWith_builtin1 ?_ he (by rfl)
  rw [he]
  show wpAny _ _ (spliced ((false, eval (.GeneratorExp elt [⟨tg, iter, ifs, 0⟩] scope gpos) X.env) :: backTo pos (starEach [] X.env))) _ _ s
  refine Calls.spliced_cons (gen_make (gpos := gpos) (elt := elt) (ifs := ifs) hr TB hcode ok hi hs I h fun it fp tn J H1 H2 s4 code a go gi s5 q hT I4 T st hfp M => ?_)
  obtain ⟨W, ⟨m, w0⟩, turn⟩ := q H2 hT
  refine Calls.spliced_nil ?_
  have hB : Room k X.A.in1.in1 := hr.in1.in1
  refine call_function_tree F.kind_any F.plain_any F.entry_any (F.args_any1 _) ?_
  unfold Builtin.«any»
  refine wpAny_bind (m := oneArg "any" _) (wpAny_pure ?_)
  refine wpAny_bind (wpAny_pyIter_gen (M.gen _ M.obj) ?_)
  refine wpAny_pure ⟨plainId_quiet F.plain_any_loop _, drain_any (Fin := fun _ H => Q (.bl false) H) (Qt := fun H => Q (.bl true) H) hr.hd hr.depth M.gen (fun s' ys H b q => ?_) (fun s' H b q => ?_) (m + 1) s5
    (M.ready ok I4 T st hfp (show X.A.in1.in1.frames = some X.stack from I4.ok.frames) hB.hd (G.tg _ _ _ _ _ hB) (G.ifs _ _ _ _ _ hB) (G.elt _ _ _ _ _ hB) turn (Nat.lt_succ_self _) w0 rfl M.bare (fun _ _ e => e) rfl (pl := []) (fun p hp => by simp at hp) rfl)⟩
  · exact ⟨.bl false, H, b.inv I4 fun b hb => (hfp b hb).1, rfl, q⟩
  · exact ⟨.bl true, H, b.inv I4 fun b hb => (hfp b hb).1, rfl, q⟩

theorem pe_gsum (G : GParts X k scope N tg ifs elt g tt te) (hr : Room (k + 2) X.A) (hg : Gl X "sum") (hm : X.mg "sum" = none) (TB : TabB X.base X.mg c P) (hcode : X.env.code = .ref c) (ok : GOk X.N X.env.scope scope N src) (hi : PI X tg iter wi)
    (hs : ∀ v, genFold iter X.env v = pure v := by intro _; rfl) (hb : bootBuiltins "sum" = some (.builtin "sum") := by decide +kernel)
    (he : starEach [.GeneratorExp elt [⟨tg, iter, ifs, 0⟩] scope gpos] X.env = (false, eval (.GeneratorExp elt [⟨tg, iter, ifs, 0⟩] scope gpos) X.env) :: starEach [] X.env := by rfl) :
    PE X (.Call (.Name "sum" p) [.GeneratorExp elt [⟨tg, iter, ifs, 0⟩] scope gpos] [] pos) (tGSum P wi g tt te vs src) := by
  refine ⟨fun pins s σ H Q I h => ?_⟩
  refine wpAny_Call_Name_kw (ld_blt I hg hm hb ?_)
  refine PyProof.Rows.callWith_builtin1 ?_ he (by rfl)
  rw [he]
  show wpAny _ _ (spliced ((false, eval (.GeneratorExp elt [⟨tg, iter, ifs, 0⟩] scope gpos) X.env) :: backTo pos (starEach [] X.env))) _ _ s
  refine Calls.spliced_cons (gen_make (gpos := gpos) (elt := elt) (ifs := ifs) hr TB hcode ok hi hs I h fun it fp tn J H1 H2 s4 code a go gi s5 q hT I4 T st hfp M => ?_)
  obtain ⟨W, ⟨m, w0⟩, turn⟩ := q H2 hT
  refine Calls.spliced_nil ?_
  have hB : Room k X.A.in1.in1 := hr.in1.in1
  refine call_function_tree F.kind_sum F.plain_sum F.entry_sum (F.args_sum1 _) ?_
  unfold Builtin.«sum»
  simp only [List.length_cons, List.length_nil]
  rw [if_neg (by decide)]
  refine wpAny_bind (wpAny_of_eq (show Builtin.Builtins.bindParams "sum" ["start"] 0 { } = pure [none] from rfl) ?_)
  refine wpAny_bind (wpAny_pyIter_gen (M.gen _ M.obj) ?_)
  refine wpAny_bind (wpAny_mkInt ?_)
  refine wpAny_bind (wpAny_pure ?_)
  simp only [List.forIn_cons, List.forIn_nil]
  refine wpAny_bind (wpAny_bind (wpAny_bind (wpAny_isInstance (T := "int") (b := false) (typeIs_int _ _ _) PySem.sub_int_str ?_)))
  simp only [Bool.false_eq_true, if_false]
  refine wpAny_pure (wpAny_bind (wpAny_bind (wpAny_isInstance (T := "int") (b := false) (typeIs_int _ _ _) PySem.sub_int_bytes ?_)))
  simp only [Bool.false_eq_true, if_false]
  refine wpAny_pure (wpAny_bind (wpAny_bind (wpAny_isInstance (T := "int") (b := false) (typeIs_int _ _ _) PySem.sub_int_bytearray ?_)))
  simp only [Bool.false_eq_true, if_false]
  refine wpAny_pure (wpAny_pure ?_)
  refine wpAny_bind (wpAny_newObj_type ?_)
  have hcl : cStatics < s5.heap.objs.size := by
    obtain ⟨_, hn, _⟩ := I4.nolimit.keeps M.keep
    exact hn.lt
  have hSobj : (s5.heap.push { cls := .type "list", data := .seq [Value.int 0 s5.toks].toArray }).get? s5.heap.objs.size = some (sumObj 0 s5.toks 0) := Heap.get?_push_size _ rfl
  refine wpAny_pure ⟨plainId_quiet F.plain_sum_loop _, drain_sum (S := s5.heap.objs.size) (Fin := fun ys H => ∀ ns : List Int, ys = ns.map V.int → Q (.int ns.sum) H) hr.hd hr.depth M.gen (Nat.ne_of_gt M.top) (Nat.ne_of_gt hcl) (fun s' ns H t b q => ?_) (m + 1) _ 0 0 s5.toks 0 (.inl rfl) hSobj
    (M.ready ok I4 T st hfp (show X.A.in1.in1.frames = some X.stack from I4.ok.frames) hB.hd (G.tg _ _ _ _ _ hB) (G.ifs _ _ _ _ _ hB) (G.elt _ _ _ _ _ hB) turn (Nat.lt_succ_self _) w0 rfl M.bare (fun _ _ e => Heap.get?_push_of_some _ e) rfl (pl := [(s5.heap.objs.size, sumObj 0 s5.toks 0)]) (fun p hp => ?_) ⟨[], s5.toks, 0, rfl, rfl⟩)⟩
  · exact ⟨.int ns.sum, H, b.inv I4 fun b hb => (hfp b hb).1, ⟨t, rfl⟩, q ns rfl⟩
  · rw [List.mem_singleton.mp hp]
    exact ⟨Nat.le_refl _, hSobj, fun v q => by cases q⟩

theorem collect_gx {B : Around} {pins : List (Addr × Obj)} {σ : L2.St} {H2 : Hp} {s4 s5 : Shared} {code : Value} {it a : Addr} {go : Obj} {gi m : Nat} {fp : List Addr} {tn : Nat → Heap → Prop} {J : It} {Fin : List V → Hp → Prop} {W : Nat → Nat → List V → Hp → Prop}
    {Q : List Value → Shared → Prop} {E : Value → Shared → Prop}
    (G : GParts X k scope N tg ifs elt g tt te) (M : Made X scope elt tg iter ifs gpos s4 code it a go gi s5) (ok : GOk X.N X.env.scope scope N src) (I4 : Inv X pins σ H2 s4) (T : Turn X.prog X.w X.K tg J fp it tn) (st : tn 0 s5.heap)
    (hfp : ∀ b ∈ fp, FpOk X pins H2 b ∧ b < s4.heap.objs.size) (hB : B.frames = some X.stack) (hr : Room (k + 2) B) (turn : GTurn J g tt te vs (gsl σ src) pTup Fin W) (w0 : W 0 m [] H2)
    (hQ : ∀ s' ys H acc, Back X H2 s4 fp H s' → Fin ys H → Vals ys acc → ys.length ≤ sizeLine → Q acc s') : wpAny (model X.prog X.w) B (collect (.ref a)) Q E s5 := by
  have hBr : Room k B.in1.in1 := hr.in1.in1
  have hSI : s5.heap.objs.size ≠ a := Nat.ne_of_gt M.top
  unfold collect
  refine wpAny_bind (wpAny_runValue (codeAny_builtin F.entry_proto_collect ?_))
  rw [Around.under_plainId F.plain_proto_collect _]
  show wpAny _ B.in1 (newList [] >>= fun l => again (.builtin "list.__iadd__" ⟨[l, .ref a], []⟩)) _ _ s5
  refine wpAny_bind (wpAny_newObj_type ?_)
  refine wpAny_pure ⟨plainId_quiet F.plain_list_iadd _, codeAny_builtin F.entry_list_iadd ?_⟩
  rw [Around.under_plainId F.plain_list_iadd _]
  have k1 : ∀ b o, s5.heap.get? b = some o → (s5.heap.push { cls := .type "list", data := .seq ([] : List Value).toArray }).get? b = some o := fun b o e => Heap.get?_push_of_some _ e
  have gty : ∀ {h : Heap}, (∀ b o, s5.heap.get? b = some o → h.get? b = some o) → h.IsGen a gi := fun {h} q => M.gen _ (q _ _ M.obj)
  show wpAny _ B.in1 (Builtin.List.listExtendWith (.ref s5.heap.objs.size) (.ref a) (.ref s5.heap.objs.size)) _ _ _
  unfold Builtin.List.listExtendWith
  refine wpAny_bind (wpAny_typeOf (Heap.IsGen.typeIs (s := { s5 with heap := _ }) (gty k1)) ?_)
  have h1 : Builtin.List.listSameRef (.ref s5.heap.objs.size) (.ref a) = false := by simp [Builtin.List.listSameRef, hSI]
  have h2 : (Value.type "generator" == Value.type "list") = false := by decide
  have h3 : (Value.type "generator" == Value.type "tuple") = false := by decide
  simp only [h1, h2, h3, Bool.or_false, Bool.false_eq_true, if_false]
  refine wpAny_bind (wpAny_pyIter_gen (s := { s5 with heap := _ }) (gty k1) ?_)
  refine wpAny_bind (wpAny_holding ?_)
  unfold Builtin.List.listLengthHint
  refine wpAny_bind (wpAny_specialOf (Heap.IsGen.typeIs (s := { s5 with heap := _ }) (gty k1)) F.gen_no_len ?_)
  show wpAny _ B.in1 (specialOf (Value.ref a) (Str.ofString "__length_hint__") >>= _) _ _ _
  refine wpAny_bind (wpAny_specialOf (Heap.IsGen.typeIs (s := { s5 with heap := _ }) (gty k1)) F.gen_no_hint ?_)
  refine wpAny_pure ?_
  show wpAny _ B.in1 (rule "list.extend.makes-room" >>= fun _ => Builtin.List.listTouch (.ref s5.heap.objs.size) >>= fun _ =>
    again (.builtin "list.extend.loop" ⟨[.ref s5.heap.objs.size, .ref a, .ref s5.heap.objs.size], []⟩)) _ _ _
  refine wpAny_bind (wpAny_rule ?_)
  have hS₁ : (s5.heap.push { cls := .type "list", data := .seq ([] : List Value).toArray }).get? s5.heap.objs.size = some { cls := .type "list", data := .seq ([] : List Value).toArray } := Heap.get?_push_size _ rfl
  refine wpAny_bind ?_
  show wpAny _ B.in1 (updateSeq s5.heap.objs.size (·.push .none) >>= fun _ => updateSeq s5.heap.objs.size (·.pop)) _ _ _
  refine wpAny_bind (wpAny_updateSeq hS₁ rfl ?_)
  have hS₂ := Heap.get?_update_self (Obj.mapSeq (·.push Value.none)) hS₁ rfl
  refine wpAny_updateSeq hS₂ rfl ?_
  have hS₃ := Heap.get?_update_self (Obj.mapSeq (·.pop)) hS₂ rfl
  obtain ⟨c0, hS4⟩ : ∃ c0, (((s5.heap.push { cls := .type "list", data := .seq ([] : List Value).toArray }).update s5.heap.objs.size (Obj.mapSeq (·.push Value.none))).update s5.heap.objs.size (Obj.mapSeq (·.pop))).get? s5.heap.objs.size = some (lstObj #[] c0) := ⟨_, hS₃⟩
  have oth : ∀ b o, s5.heap.get? b = some o →
      (((s5.heap.push { cls := .type "list", data := .seq ([] : List Value).toArray }).update s5.heap.objs.size (Obj.mapSeq (·.push Value.none))).update s5.heap.objs.size (Obj.mapSeq (·.pop))).get? b = some o :=
    fun b o e => (Heap.get?_update_other _ _ (Ne.symm (Nat.ne_of_lt (Heap.lt_size e)))).trans ((Heap.get?_update_other _ _ (Ne.symm (Nat.ne_of_lt (Heap.lt_size e)))).trans (k1 b o e))
  have hcl : cStatics < s5.heap.objs.size := by
    obtain ⟨_, hn, _⟩ := I4.nolimit.keeps M.keep
    exact hn.lt
  refine wpAny_pure ⟨plainId_quiet F.plain_extend_loop _, drain_tup (S := s5.heap.objs.size) (Fin := Fin) hr.hd hr.depth M.gen hSI (Nat.ne_of_gt hcl) (fun s' ys H acc c b q hv hle hS' => ?_) (m + 1) _
    (M.ready ok I4 T st hfp hB hBr.hd (G.tg _ _ _ _ _ hBr) (G.ifs _ _ _ _ _ hBr) (G.elt _ _ _ _ _ hBr) turn (Nat.lt_succ_self _) w0 rfl M.bare oth rfl (pl := [(s5.heap.objs.size, lstObj #[] c0)]) (fun p hp => ?_) ⟨#[], c0, .nil, Nat.zero_le _, rfl⟩)⟩
  · show wpAny _ B (load s5.heap.objs.size >>= _) _ _ s'
    refine wpAny_bind (wpAny_load hS' ?_)
    exact wpAny_pure (hQ s' ys H acc.toList b q hv hle)
  · rw [List.mem_singleton.mp hp]
    exact ⟨Nat.le_refl _, hS4, fun v q => by cases q⟩

theorem code_tuple_gx {B : Around} {pins : List (Addr × Obj)} {σ : L2.St} {H2 : Hp} {s4 s5 : Shared} {code : Value} {it a : Addr} {go : Obj} {gi m : Nat} {fp : List Addr} {tn : Nat → Heap → Prop} {J : It} {Fin : List V → Hp → Prop} {W : Nat → Nat → List V → Hp → Prop}
    {Q₁ : Value → Shared → Prop} {E : Value → Shared → Prop}
    (G : GParts X k scope N tg ifs elt g tt te) (M : Made X scope elt tg iter ifs gpos s4 code it a go gi s5) (ok : GOk X.N X.env.scope scope N src) (I4 : Inv X pins σ H2 s4) (T : Turn X.prog X.w X.K tg J fp it tn) (st : tn 0 s5.heap)
    (hfp : ∀ b ∈ fp, FpOk X pins H2 b ∧ b < s4.heap.objs.size) (hB : B.frames = some X.stack) (hr : Room (k + 3) B) (turn : GTurn J g tt te vs (gsl σ src) pTup Fin W) (w0 : W 0 m [] H2)
    (hQ : ∀ s' ys H (acc : List Value), Back X H2 s4 fp H s' → Fin ys H → Vals ys acc → ys.length ≤ sizeLine → Q₁ (.ref s'.heap.objs.size) { s' with heap := s'.heap.push { cls := .type "tuple", data := .seq acc.toArray } }) :
    codeAny (model X.prog X.w) B (.call (.builtin "tuple.__new__") ⟨[.type "tuple", .ref a], []⟩) (wants Q₁ E) s5 := by
  refine codeAny_of_tree ?_
  show wpAny _ B.in1 (do checkBuiltinCall "tuple.__new__" ⟨[.type "tuple", .ref a], []⟩; again (.builtin "tuple.__new__" ⟨[.type "tuple", .ref a], []⟩)) _ _ s5
  refine wpAny_bind (wpAny_of_eq (F.newCall_tuple_1 _) (wpAny_pure ⟨plainId_quiet F.plain_tuple_new _, codeAny_builtin F.entry_tuple_new ?_⟩))
  rw [Around.under_plainId F.plain_tuple_new _]
  have hsub := sub_tuple_self
  have hinit := init_tuple_lookup
  have hmh := madeHere_tuple
  have hTI : s5.TypeIs (.ref a) "generator" := Heap.IsGen.typeIs (s := s5) (M.gen _ M.obj)
  wp_walk using wpAny_typeOf hTI, collect_gx (B := B.in1) (Fin := Fin) G M ok I4 T st hfp hB hr.in1 turn w0
  intro s' ys H acc hb hf hv hle
  show wpAny _ _ (Builtin.Tuple.tupleExact acc.toArray >>= fun v => ret v) _ _ _
  unfold Builtin.Tuple.tupleExact
  have hl := hv.length
  refine wpAny_bind (wpAny_newObj_type ?_ (by show acc.toArray.size ≤ sizeLine; simp only [List.size_toArray]; omega))
  exact wpAny_pure (hQ s' ys H acc hb hf hv hle)

theorem pe_gtup (G : GParts X k scope N tg ifs elt g tt te) (hr : Room (k + 4) X.A) (hg : Gl X "tuple") (hm : X.mg "tuple" = none) (TB : TabB X.base X.mg c P) (hcode : X.env.code = .ref c) (ok : GOk X.N X.env.scope scope N src) (hi : PI X tg iter wi)
    (hs : ∀ v, genFold iter X.env v = pure v := by intro _; rfl) (hb : bootBuiltins "tuple" = some (.type "tuple") := by decide +kernel)
    (he : starEach [.GeneratorExp elt [⟨tg, iter, ifs, 0⟩] scope gpos] X.env = (false, eval (.GeneratorExp elt [⟨tg, iter, ifs, 0⟩] scope gpos) X.env) :: starEach [] X.env := by rfl) :
    PE X (.Call (.Name "tuple" p) [.GeneratorExp elt [⟨tg, iter, ifs, 0⟩] scope gpos] [] pos) (tGTup P wi g tt te vs src) := by
  refine ⟨fun pins s σ H Q I h => ?_⟩
  refine wpAny_Call_Name_kw (ld_blt I hg hm hb ?_)
  refine PyProof.Rows.callWith_type1 ?_ he (by rfl)
  rw [he]
  show wpAny _ _ (spliced ((false, eval (.GeneratorExp elt [⟨tg, iter, ifs, 0⟩] scope gpos) X.env) :: backTo pos (starEach [] X.env))) _ _ s
  refine Calls.spliced_cons (gen_make (gpos := gpos) (elt := elt) (ifs := ifs) hr TB hcode ok hi hs I h fun it fp tn J H1 H2 s4 code a go gi s5 q hT I4 T st hfp M => ?_)
  obtain ⟨W, ⟨m, w0⟩, turn⟩ := q H2 hT
  refine Calls.spliced_nil ?_
  refine callType_codes (Q₁ := fun obj s₁ => s₁.TypeIs obj "tuple" ∧ EP X pins σ Q obj s₁) F.called_tuple (F.typeCall_tuple_1 _) F.entry_object_init
    (code_tuple_gx (Fin := fun ys H => ∀ p, H p = none → Q (.ref p) (upd H p (.tup ys))) G M ok I4 T st hfp (show X.A.in1.frames = some X.stack from I4.ok.frames) hr.in1 turn w0 fun s' ys H acc b q hv hle => ⟨⟨_, Heap.get?_push_size _ rfl, rfl⟩, ?_⟩) fun obj s₁ h₁ => ?_
  · have I5 := b.inv I4 fun b hb => (hfp b hb).1
    exact ⟨.ref s'.heap.objs.size, _, I5.laid (t' := s'.toks) (fun b o e => Heap.get?_push_of_some _ e) (Nat.le_refl _) (show ObjOk X.prog X.w _ _ _ (.tup ys) from ⟨hle, acc, hv, IsTup.new _ _⟩), rfl, q _ (I5.hok.fresh (Nat.le_refl _))⟩
  · exact ⟨h₁.1, F.args_object_init_2 obj _, object_init_meets F.called_tuple.init.lookup F.called_tuple.made (by decide) X.prog X.w X.A.in1 _ s₁ ⟨h₁.1, rfl, h₁.2⟩⟩
end
end Gx

set_option Elab.async false
set_option linter.all false
set_option maxRecDepth 100000
set_option maxHeartbeats 4000000
/-! Bx: further small rules over the layer: == and != of types, xs[i] op= e, the heap up to tables. -/
namespace Bx
open PySem PySem.Spec PyProof.Rows L2

/-! ### == and != of two built-in types -/
theorem slot_type_ne : Slot "type" (cmpInfo .NotEq).2.1 "object.__ne__" :=
  .of (owner := "object") (n := "__ne__") (by rw [typeLookup_type, builtinLookup_eq_fast]; kernel_rfl) (by decide +kernel) (by decide +kernel) (by decide +kernel)
    (by first | exact .inl (by decide +kernel) | exact .inr (by decide +kernel)) (by rw [isSubtype_type]; kernel_rfl)
theorem slot_type_ne_refl : Slot "type" (cmpInfo .NotEq).2.2 "object.__ne__" :=
  .of (owner := "object") (n := "__ne__") (by rw [typeLookup_type, builtinLookup_eq_fast]; kernel_rfl) (by decide +kernel) (by decide +kernel) (by decide +kernel)
    (by first | exact .inl (by decide +kernel) | exact .inr (by decide +kernel)) (by rw [isSubtype_type]; kernel_rfl)
theorem slot_type_eq' : Slot "type" (Str.ofString "__eq__") "object.__eq__" := TypeEq.slot_type_eq
section
variable {prog : Program} {w : World} {A : Around} {E : Value → Shared → Prop} {s : Shared}
theorem call_ne_types {Y Z : String} {Q : Value → Shared → Prop} (hX : ∀ s' : Shared, s'.TypeIs (.type Y) "type")
    (hc : wpAny (model prog w) A.in1 (call (.builtin "object.__eq__") [.type Y, .type Z]) (fun v s' => (v = .notImplemented ∧ Q .notImplemented s') ∨ ∃ b, v = .bool b ∧ Q (.bool (!b)) s') E s) :
    wpAny (model prog w) A (call (.builtin "object.__ne__") [.type Y, .type Z]) Q E s := by
  refine wpAny_call (codeAny_call_builtin slot_type_ne.plain F.cmpEntry_ne (slot_type_ne.check _ _ _ _ _ _ _ _ (hX s) (F.cmpArgs_ne _ _) ?_))
  unfold Builtin.«object.__ne__»
  refine wpAny_bind (wpAny_pure ?_)
  show wpAny _ _ (cRoomFor "comparison" [.type Y, .type Z] >>= _) _ _ _
  refine wpAny_bind (wpAny_cRoomFor_byValue rfl ?_)
  refine wpAny_bind (wpAny_callSpecialIfBound?_slot (name := Str.ofString "__eq__") (hX s) slot_type_eq' (wpAny_mono hc (fun v s' h => ?_) fun _ _ e => e))
  rcases h with ⟨rfl, q⟩ | ⟨b, rfl, q⟩
  · exact wpAny_pure q
  · show wpAny _ _ (truthy (.bool b) >>= _) _ _ _
    exact wpAny_bind (wpAny_truthy_bool (wpAny_pure q))
theorem ne_type_same {Y : String} {Q : Value → Shared → Prop} (hX : ∀ s' : Shared, s'.TypeIs (.type Y) "type") (h : Q (.bool false) s) : wpAny (model prog w) A (compareOp .NotEq (.type Y) (.type Y)) Q E s := by
  show wpAny _ A (richCompare .NotEq _ _) Q E s
  refine wpAny_richCompare_same (T := "type") (hX s) (hX s) slot_type_ne (call_ne_types hX ?_)
  exact call_gives TypeEq.slot_type_eq (hX s) F.entry_object_eq (F.args_object_eq_2 _ _) (TypeEq.object_eq_same rfl (by simp)) (.inr ⟨true, rfl, (by intro e; cases e), h⟩)
theorem richCompare_ne_decline {a b : Value} {T id : String} {k : Bool} {Q : Value → Shared → Prop} (ha : ∀ s' : Shared, s'.TypeIs a T) (hb : ∀ s' : Shared, s'.TypeIs b T)
    (h1 : Slot T (cmpInfo .NotEq).2.1 id) (h2 : Slot T (cmpInfo .NotEq).2.2 id) (hv : [a, b].any Value.onHeap = false) (hk : isSame a b = pure k)
    (hc : wpAny (model prog w) A (call (.builtin id) [a, b]) (fun v s1 => v = .notImplemented ∧ wpAny (model prog w) A (call (.builtin id) [b, a]) (fun v s2 => v = .notImplemented ∧ Q (.bool (!k)) s2) E s1) E s) :
    wpAny (model prog w) A (richCompare .NotEq a b) Q E s := by
  rcases hi : cmpInfo CmpOp.NotEq with ⟨sym, f, r⟩
  rw [hi] at h1 h2
  simp only [richCompare, hi, (ha s).oneThing_none]
  try with_reducible refine wpAny_holding ?_
  refine wpAny_bind (wpAny_cRoomFor_or (.inl hv) ?_)
  refine wpAny_bind (wpAny_typeOf (ha s) (wpAny_bind (wpAny_typeOf (hb s) ?_)))
  simp only [bne_self_eq_false, Bool.false_eq_true, if_false, pure_bind, Bool.not_false, if_true]
  refine wpAny_bind (m := tryCompare a _ b) (wpAny_tryCompare_declines (ha s) h1 (wpAny_mono hc (fun v s1 h1 => ⟨h1.1, ?_⟩) fun _ _ x => x))
  refine wpAny_bind (m := tryCompare b _ a) (wpAny_tryCompare_declines (hb s1) h2 (wpAny_mono h1.2 (fun v s2 h2 => ⟨h2.1, ?_⟩) fun _ _ x => x))
  refine wpAny_bind (wpAny_rule (wpAny_bind (wpAny_of_eq hk (wpAny_pure h2.2))))
theorem ne_type_other {Y Z : String} {Q : Value → Shared → Prop} (hX : ∀ s' : Shared, s'.TypeIs (.type Y) "type") (hY : ∀ s' : Shared, s'.TypeIs (.type Z) "type") (hne : (Value.type Y == Value.type Z) = false) (h : Q (.bool true) s) :
    wpAny (model prog w) A (compareOp .NotEq (.type Y) (.type Z)) Q E s := by
  have hne' : (Value.type Z == Value.type Y) = false := by
    rw [Bool.eq_false_iff] at hne ⊢
    intro e
    exact hne (by rw [beq_iff_eq] at e ⊢; exact e.symm)
  show wpAny _ A (richCompare .NotEq _ _) Q E s
  refine richCompare_ne_decline (T := "type") (k := false) hX hY slot_type_ne slot_type_ne_refl rfl (by rw [isSame_plain rfl, hne]) (call_ne_types hX ?_)
  refine call_gives TypeEq.slot_type_eq (hX s) F.entry_object_eq (F.args_object_eq_2 _ _) (TypeEq.object_eq_other rfl hne) (.inl ⟨rfl, rfl, call_ne_types hY ?_⟩)
  exact call_gives TypeEq.slot_type_eq (hY s) F.entry_object_eq (F.args_object_eq_2 _ _) (TypeEq.object_eq_other rfl hne') (.inl ⟨rfl, rfl, h⟩)
end
/-- the kinds of plain values -/
def tyNames : List String := ["NoneType", "bool", "int", "str", "tuple", "list"]
theorem meta_of {n : String} (h : n ∈ tyNames) (s : Shared) : s.TypeIs (.type n) "type" := by
  simp only [tyNames, List.mem_cons, List.not_mem_nil, or_false] at h
  rcases h with rfl | rfl | rfl | rfl | rfl | rfl
  · exact TypeEq.meta_NoneType s
  · exact TypeEq.meta_bool s
  · exact TypeEq.meta_int s
  · exact TypeEq.meta_str s
  · exact TypeEq.meta_tuple s
  · exact TypeEq.meta_list s
def rTyC (f : Bool → Bool) : R2 := fun x y H Q => ∃ m n, x = .ty m ∧ y = .ty n ∧ m ∈ tyNames ∧ n ∈ tyNames ∧ Q (.bl (f (decide (m = n)))) H
section
variable {X : Cx}
theorem op_eqTy : OpR X (compareOp .Eq) (rTyC id) := by
  intro pins s σ H x y v u Q I rx ry h
  obtain ⟨m, n, rfl, rfl, hm, hn, q⟩ := h
  cases (show v = Value.type m from rx)
  cases (show u = Value.type n from ry)
  by_cases e : m = n
  · subst e
    rw [decide_eq_true rfl] at q
    exact TypeEq.eq_type_same (meta_of hm) ⟨.bl true, H, I, rfl, q⟩
  · rw [decide_eq_false e] at q
    exact TypeEq.eq_type_other (meta_of hm) (meta_of hn) (by simp [e]) ⟨.bl false, H, I, rfl, q⟩
theorem op_neTy : OpR X (compareOp .NotEq) (rTyC not) := by
  intro pins s σ H x y v u Q I rx ry h
  obtain ⟨m, n, rfl, rfl, hm, hn, q⟩ := h
  cases (show v = Value.type m from rx)
  cases (show u = Value.type n from ry)
  by_cases e : m = n
  · subst e
    rw [decide_eq_true rfl] at q
    exact ne_type_same (meta_of hm) ⟨.bl false, H, I, rfl, q⟩
  · rw [decide_eq_false e] at q
    exact ne_type_other (meta_of hm) (meta_of hn) (by simp [e]) ⟨.bl true, H, I, rfl, q⟩

/-! ### the read of xs[i] op= e -/
def gtList : V → V → Hp → VK → Prop := fun o i H Q => ∃ (l : Addr) (xs : List V) (j : Nat) (x : V), o = .ref l ∧ i = .int j ∧ H l = some (.lst xs) ∧ xs[j]? = some x ∧ Q x H
theorem get_list : PGet X gtList := by
  intro pins s σ H o i ov iv Q I ro ri h
  obtain ⟨l, xs, j, x, rfl, rfl, hl, hx, q⟩ := h
  cases (show ov = Value.ref l from ro)
  obtain ⟨t, rfl⟩ := (show ∃ t, iv = Value.int (j : Int) t from ri)
  obtain ⟨its, rv, p, hz⟩ := I.list (SqL.of hl)
  obtain ⟨u, hu, ru⟩ := rv.get hx
  have hlt : j < xs.length := (List.getElem?_eq_some_iff.mp hx).1
  have hls := rv.length
  refine wpAny_getItem_list p.isList (by omega) (by have : sizeLine < 2 ^ 62 := by decide
                                                    omega) ?_ ⟨x, H, I, ru, q⟩
  simpa using hu
def ipB (f : Int → Int → Int) : TIp := fun x y H Q => ∃ i j, x = .int i ∧ y = .int j ∧ Q (.int (f i j)) H
end

/-! ### heaps: what was tracked stands, tables may have grown -/
def isTbl : HO → Prop
  | .tbl _ => True
  | _ => False
structure Ext (H H' : Hp) : Prop where
  keep : ∀ b o, H b = some o → ¬ isTbl o → H' b = some o
  tabs : ∀ P, Gx.TabG H P → Gx.TabG H' P
  live : ∀ b o, H b = some o → ∃ o', H' b = some o'
theorem Ext.refl (H : Hp) : Ext H H := ⟨fun _ _ e _ => e, fun _ t => t, fun _ o e => ⟨o, e⟩⟩
theorem Ext.trans {H H1 H2 : Hp} (a : Ext H H1) (b : Ext H1 H2) : Ext H H2 := ⟨fun c o e n => b.keep c o (a.keep c o e n) n, fun P t => b.tabs P (a.tabs P t), fun c o e => let ⟨o1, e1⟩ := a.live c o e; b.live c o1 e1⟩
theorem Ext.tabbed {P : Addr} {H H' : Hp} (h : Gx.TabG H P) (t : Gx.Tabbed P H H') : Ext H H' := by
  obtain ⟨t1, t2⟩ := t
  refine ⟨fun b o e n => ?_, fun Q hQ => ?_, fun b o e => ?_⟩
  · by_cases hb : b = P
    · obtain ⟨ps, e2, _⟩ := h
      rw [hb, e2] at e
      cases e
      exact (n trivial).elim
    · rw [t2 b hb]
      exact e
  · by_cases hb : Q = P
    · rw [hb]
      exact t1
    · obtain ⟨ps, e, k⟩ := hQ
      exact ⟨ps, by rw [t2 Q hb]; exact e, k⟩
  · by_cases hb : b = P
    · obtain ⟨ps, e, _⟩ := t1
      exact ⟨_, by rw [hb]; exact e⟩
    · exact ⟨o, by rw [t2 b hb]; exact e⟩
theorem Ext.new {H : Hp} {p : Addr} {o : HO} (h : H p = none) : Ext H (upd H p o) :=
  ⟨fun b u e _ => by rw [upd_ne (ne_of_none e h)]; exact e, fun Q ⟨ps, e, k⟩ => ⟨ps, by rw [upd_ne (ne_of_none e h)]; exact e, k⟩, fun b u e => ⟨u, by rw [upd_ne (ne_of_none e h)]; exact e⟩⟩
/-- a list of ours is written: from the state ahead of its making nothing is seen -/
theorem Ext.write {H H' : Hp} {p : Addr} {o : HO} (x : Ext H H') (h : H p = none) : Ext H (upd H' p o) :=
  ⟨fun b u e n => by rw [upd_ne (ne_of_none e h)]; exact x.keep b u e n, fun Q hQ => by
    obtain ⟨ps, e, k⟩ := x.tabs Q hQ
    obtain ⟨ps0, e0, _⟩ := hQ
    exact ⟨ps, by rw [upd_ne (ne_of_none e0 h)]; exact e, k⟩, fun b u e => by
    obtain ⟨u', e'⟩ := x.live b u e
    exact ⟨u', by rw [upd_ne (ne_of_none e h)]; exact e'⟩⟩
theorem Ext.free {H H' : Hp} (x : Ext H H') {p : Addr} (h : H' p = none) : H p = none := by
  cases e : H p with
  | none => rfl
  | some o =>
    obtain ⟨o', e'⟩ := x.live p o e
    rw [h] at e'
    cases e'
theorem Ext.rd {H H' : Hp} (x : Ext H H') {a : Addr} {u : HO} (n : ¬ isTbl u) (h : Rd H a u) : Rd H' a u := by
  rcases h with h | ⟨o, h⟩
  · exact .inl (x.keep a u h n)
  · exact .inr ⟨o, x.keep a _ h fun z => z⟩
theorem Ext.sqT {K : PySem.W.Frag} {H H' : Hp} (x : Ext H H') {a : Addr} {xs : List V} (h : SqT K H a xs) : SqT K H' a xs := h.elim (fun z => .inl (x.rd (fun z => z) z)) .inr
theorem Ext.sqL {K : PySem.W.Frag} {H H' : Hp} (x : Ext H H') {a : Addr} {xs : List V} (h : SqL K H a xs) : SqL K H' a xs := h.elim (fun z => .inl (x.rd (fun z => z) z)) .inr
theorem Ext.lst {H H' : Hp} (x : Ext H H') {a : Addr} {xs : List V} (h : H a = some (.lst xs)) : H' a = some (.lst xs) := x.keep a _ h fun z => z
theorem Ext.tup {H H' : Hp} (x : Ext H H') {a : Addr} {xs : List V} (h : H a = some (.tup xs)) : H' a = some (.tup xs) := x.keep a _ h fun z => z
mutual
theorem dp_ext {K : PySem.W.Frag} {H H' : Hp} (x : Ext H H') : ∀ {v : V} {d : PyData}, Dp K H v d → Dp K H' v d
  | _, _, .non => .non
  | _, _, .bl b => .bl b
  | _, _, .int i => .int i
  | _, _, .str z => .str z
  | _, _, .lst h hs => .lst (x.sqL h) (dpAll_ext x hs)
  | _, _, .tup h hs => .tup (x.sqT h) (dpAll_ext x hs)
theorem dpAll_ext {K : PySem.W.Frag} {H H' : Hp} (x : Ext H H') : ∀ {vs : List V} {ds : List PyData}, DpAll K H vs ds → DpAll K H' vs ds
  | _, _, .nil => .nil
  | _, _, .cons h hs => .cons (dp_ext x h) (dpAll_ext x hs)
end
theorem dp_tup {K : PySem.W.Frag} {H : Hp} {v : V} {ds : List PyData} (h : Dp K H v (.tuple ds)) : ∃ a xs, v = .ref a ∧ SqT K H a xs ∧ DpAll K H xs ds := by
  cases h with
  | tup h hs => exact ⟨_, _, rfl, h, hs⟩
theorem dp_lst {K : PySem.W.Frag} {H : Hp} {v : V} {ds : List PyData} (h : Dp K H v (.list ds)) : ∃ a xs, v = .ref a ∧ SqL K H a xs ∧ DpAll K H xs ds := by
  cases h with
  | lst h hs => exact ⟨_, _, rfl, h, hs⟩
theorem dp_int {K : PySem.W.Frag} {H : Hp} {v : V} {i : Int} (h : Dp K H v (.int i)) : v = .int i := by cases h; rfl
theorem dpAll_len {K : PySem.W.Frag} {H : Hp} : ∀ {vs : List V} {ds : List PyData}, DpAll K H vs ds → vs.length = ds.length
  | _, _, .nil => rfl
  | _, _, .cons _ hs => congrArg (· + 1) (dpAll_len hs)
theorem dpAll_get {K : PySem.W.Frag} {H : Hp} : ∀ {vs : List V} {ds : List PyData} {i : Nat} {d : PyData}, DpAll K H vs ds → ds[i]? = some d → ∃ v, vs[i]? = some v ∧ Dp K H v d
  | _, _, _, _, .nil, e => by simp at e
  | _, _, 0, _, .cons h _, e => by simp at e; subst e; exact ⟨_, rfl, h⟩
  | _, _, i + 1, d, .cons _ hs, e => by
    obtain ⟨v, h1, h2⟩ := dpAll_get (i := i) (d := d) hs (by simpa using e)
    exact ⟨v, by simpa using h1, h2⟩
theorem dpAll_get' {K : PySem.W.Frag} {H : Hp} : ∀ {vs : List V} {ds : List PyData} {i : Nat} {v : V}, DpAll K H vs ds → vs[i]? = some v → ∃ d, ds[i]? = some d ∧ Dp K H v d
  | _, _, _, _, .nil, e => by simp at e
  | _, _, 0, _, .cons h _, e => by simp at e; subst e; exact ⟨_, rfl, h⟩
  | _, _, i + 1, v, .cons _ hs, e => by
    obtain ⟨d, h1, h2⟩ := dpAll_get' (i := i) (v := v) hs (by simpa using e)
    exact ⟨d, by simpa using h1, h2⟩
theorem dpAll_app {K : PySem.W.Frag} {H : Hp} : ∀ {vs us : List V} {ds es : List PyData}, DpAll K H vs ds → DpAll K H us es → DpAll K H (vs ++ us) (ds ++ es)
  | _, _, _, _, .nil, h => h
  | _, _, _, _, .cons a hs, h => .cons a (dpAll_app hs h)
theorem dpAll_ints {K : PySem.W.Frag} {H : Hp} : ∀ {vs : List V} {ns : List Int}, DpAll K H vs (ns.map .int) → vs = ns.map V.int
  | [], [], _ => rfl
  | _, _ :: _, .cons h hs => by rw [List.map_cons, dp_int h, dpAll_ints hs]
theorem dpAll_of_ints {K : PySem.W.Frag} {H : Hp} : ∀ (ns : List Int), DpAll K H (ns.map V.int) (ns.map .int)
  | [] => .nil
  | n :: ns => .cons (.int n) (dpAll_of_ints ns)
theorem dp_ints {K : PySem.W.Frag} {H : Hp} {v : V} {ns : List Int} (h : Dp K H v (.tuple (ns.map .int))) : ∃ a, v = .ref a ∧ SqT K H a (ns.map V.int) := by
  obtain ⟨a, xs, rfl, h1, h2⟩ := dp_tup h
  exact ⟨a, rfl, by rw [← dpAll_ints h2]; exact h1⟩
/-- a tuple just laid -/
theorem dp_new {K : PySem.W.Frag} {H : Hp} {p : Addr} {vs : List V} {ds : List PyData} (hp : H p = none) (h : DpAll K H vs ds) : Dp K (upd H p (.tup vs)) (.ref p) (.tuple ds) := .tup (SqT.of upd_same) (dpAll_ext (Ext.new hp) h)

/-! ### a def whose code object is known; a callee -/
structure FunC (K : PySem.W.Frag) (x qual : Str) (st : Stmt) (f : Addr) (fd : FuncData) (c : Addr) : Prop where
  ex : ∃ (oc : Value) (od : Option Addr) (kV doc pm : Value) (an : Option Addr) (ct : Value) (osl : Array (Option Value)),
    fd = PySem.W.fnOf x qual (defArgs st) (defBody st) (defScope st) .none kV doc pm an (.ref c) ct ∧ K.lookup f = some ⟨oc, od, .func fd, osl⟩ ∧ PySem.W.codeIn K (.ref c) qual = true
  kp : PySem.W.keepIn K (.ref f) = true
theorem FunC.fun {K : PySem.W.Frag} {x qual : Str} {st : Stmt} {f : Addr} {fd : FuncData} {c : Addr} (F : FunC K x qual st f fd c) : Fun K x qual st f fd :=
  ⟨let ⟨oc, od, kV, doc, pm, an, ct, osl, h⟩ := F.ex; ⟨oc, od, kV, doc, pm, an, .ref c, ct, osl, h⟩, F.kp⟩
section
variable {P : Program} {w : World} {K : PySem.W.Frag} {mg : Str → Option Value} {base : Heap}
theorem FunC.ok {x qual : Str} {st : Stmt} {f : Addr} {fd : FuncData} {c : Addr} {N ps : List Str} {k : Nat} {sp : Sp} (F : FunC K x qual st f fd c) (S : FnScope N ps (defScope st)) (len : ∀ vs H Q E, sp vs H Q E → vs.length = ps.length)
    (hbody : ∀ (A : Around) (outer : List Env) (s : Shared) (H : Hp) (vs : List V) (Q : VK) (E : XK), Room k (A.deeper (envOfC qual (defScope st) s.heap.objs.size f (.ref c))) → sp vs H Q E →
      ∃ t, PSs (cxOf CX0 P w K mg base N qual (defScope st) f (.ref c) A outer s H E).nox (defBody st) t ∧ t { nx := fun _ H' => Q .non H', rt := Q } (start N vs) H) : FnOk P w K mg base CX0 (k + 1) f fd ps sp := by
  obtain ⟨oc, od, kV, doc, pm, an, ct, osl, rfl, lk, hcd⟩ := F.ex
  refine fn_of lk hcd S len fun A outer s H vs Q E hr hsp => ?_
  obtain ⟨t, h, q⟩ := hbody A outer s H vs Q E hr hsp
  exact ⟨t, h.nox, q⟩
/-- a callee by its name: its promise, how its arguments bind -/
structure Cal (P : Program) (w : World) (K : PySem.W.Frag) (mg : Str → Option Value) (base : Heap) (k : Nat) (x : Str) (ps : List Str) (sp : Sp) : Prop where
  ex : ∃ (f : Addr) (fd : FuncData), FnOk P w K mg base CX0 k f fd ps sp ∧ mg x = some (.ref f) ∧ PySem.W.keepIn K (.ref f) = true ∧ Binds K fd ps []
theorem Cal.mono {j k : Nat} {x : Str} {ps : List Str} {sp : Sp} (C : Cal P w K mg base j x ps sp) (h : j ≤ k) : Cal P w K mg base k x ps sp :=
  ⟨let ⟨f, fd, h1, h2⟩ := C.ex; ⟨f, fd, h1.mono h, h2⟩⟩
end
section
variable {X : Cx} {k : Nat} {x : Str} {ps : List Str} {sp : Sp} {p pos : Pos} {e : Expr} {es : List Expr} {t : TA}
theorem pe_cal (C : Cal X.prog X.w X.K X.mg X.base k x ps sp) (hr : Room k X.A) (hg : Gl X x) (ha : PA X (e :: es) t) (hdb : (x == ("__debug__" : Str)) = false := by decide)
    (he : starEach (e :: es) X.env = (false, eval e X.env) :: starEach es X.env := by rfl) (hpl : (backTo pos (starEach es X.env)).any (·.1) = false := by rfl) :
    PE X (.Call (.Name x p) (e :: es) [] pos) (tCall sp [] E0 t) := by
  obtain ⟨f, fd, h1, h2, h3, h4⟩ := C.ex
  exact pe_call h1 hr hg h2 h3 h4 .nil pass0 ha hdb he hpl
end
/-- the built-in names that the text leaves as they are -/
structure Bl (mg : Str → Option Value) : Prop where
  type : mg "type" = none
  len : mg "len" = none
  all : mg "all" = none
  sum : mg "sum" = none
  tuple : mg "tuple" = none
  list : mg "list" = none
  range : mg "range" = none
  int : mg "int" = none
  bool : mg "bool" = none
  str : mg "str" = none
  min : mg "min" = none
  max : mg "max" = none
  sorted : mg "sorted" = none
  isinstance : mg "isinstance" = none
  set : mg "set" = none
abbrev Tabs (ts : List Addr) (H : Hp) : Prop := ∀ P ∈ ts, Gx.TabG H P
theorem Tabs.ext {ts : List Addr} {H H' : Hp} (t : Tabs ts H) (x : Ext H H') : Tabs ts H' := fun P hP => x.tabs P (t P hP)
end Bx

set_option Elab.async false
set_option linter.all false
set_option maxRecDepth 100000
set_option maxHeartbeats 1000000
/-! Mx: masks, lots, and what hangs together: plain mathematics. -/
namespace Mk
/-! ### masks -/
def bits (n m : Nat) : List Nat := (List.range n).filter fun i => m.testBit i
def mask (ps : List Nat) : Nat := (ps.map fun p => 2 ^ p).sum
theorem mem_bits {n m q : Nat} : q ∈ bits n m ↔ q < n ∧ m.testBit q = true := by
  unfold bits
  rw [List.mem_filter, List.mem_range]
theorem lt_of_bit {m n q : Nat} (h : m < 2 ^ n) (hq : m.testBit q = true) : q < n := by
  apply Classical.byContradiction
  intro z
  have := Nat.testBit_lt_two_pow (x := m) (i := q) (Nat.lt_of_lt_of_le h (Nat.pow_le_pow_right (by decide) (by omega)))
  rw [this] at hq
  cases hq
theorem range_pair (n : Nat) : (List.range n).Pairwise (· < ·) := List.pairwise_lt_range
theorem bits_pair (n m : Nat) : (bits n m).Pairwise (· < ·) := (range_pair n).filter _
theorem bits_len (n m : Nat) : (bits n m).length ≤ n := by
  have := List.length_filter_le (fun i => m.testBit i) (List.range n)
  rw [List.length_range] at this
  exact this
/-- ascending lists with the same members are the same -/
theorem asc_ext : ∀ {a b : List Nat}, a.Pairwise (· < ·) → b.Pairwise (· < ·) → (∀ q, q ∈ a ↔ q ∈ b) → a = b
  | [], [], _, _, _ => rfl
  | [], y :: b, _, _, h => absurd ((h y).mpr List.mem_cons_self) (by simp)
  | x :: a, [], _, _, h => absurd ((h x).mp List.mem_cons_self) (by simp)
  | x :: a, y :: b, ha, hb, h => by
    rw [List.pairwise_cons] at ha hb
    have e : x = y := by
      have h1 := (h x).mp List.mem_cons_self
      have h2 := (h y).mpr List.mem_cons_self
      rcases List.mem_cons.mp h1 with z | z
      · exact z
      · rcases List.mem_cons.mp h2 with u | u
        · exact u.symm
        · have := hb.1 x z
          have := ha.1 y u
          omega
    subst e
    congr 1
    refine asc_ext ha.2 hb.2 fun q => ⟨fun hq => ?_, fun hq => ?_⟩
    · rcases List.mem_cons.mp ((h q).mp (List.mem_cons_of_mem _ hq)) with z | z
      · have := ha.1 q hq
        omega
      · exact z
    · rcases List.mem_cons.mp ((h q).mpr (List.mem_cons_of_mem _ hq)) with z | z
      · have := hb.1 q hq
        omega
      · exact z
theorem mask_lt : ∀ {ps : List Nat} {n : Nat}, ps.Pairwise (· < ·) → (∀ p ∈ ps, p < n) → mask ps < 2 ^ n := by
  intro ps
  -- from the greatest on
  have key : ∀ (ps : List Nat) (n : Nat), ps.Pairwise (fun a b => b < a) → (∀ p ∈ ps, p < n) → mask ps < 2 ^ n := by
    intro ps
    induction ps with
    | nil => intro n _ _; exact Nat.two_pow_pos n
    | cons p r ih =>
      intro n hp hn
      rw [List.pairwise_cons] at hp
      have h1 := ih p hp.2 hp.1
      have h2 : p < n := hn p List.mem_cons_self
      have h3 : 2 ^ (p + 1) ≤ 2 ^ n := Nat.pow_le_pow_right (by decide) h2
      have h4 : mask (p :: r) = 2 ^ p + mask r := rfl
      rw [h4]
      rw [Nat.pow_succ] at h3
      omega
  intro n hp hn
  have e : mask ps = mask ps.reverse := by
    unfold mask
    rw [← List.sum_reverse, List.map_reverse]
  rw [e]
  refine key _ n ?_ fun p hq => hn p (List.mem_reverse.mp hq)
  rw [List.pairwise_reverse]
  exact hp
theorem bit_mask : ∀ {ps : List Nat}, ps.Pairwise (· < ·) → ∀ q, (mask ps).testBit q = decide (q ∈ ps) := by
  -- from the greatest on: 2 ^ p + (less)
  have key : ∀ (ps : List Nat), ps.Pairwise (fun a b => b < a) → ∀ q, (mask ps).testBit q = decide (q ∈ ps) := by
    intro ps
    induction ps with
    | nil => intro _ q; simp [mask]
    | cons p r ih =>
      intro hp q
      rw [List.pairwise_cons] at hp
      have hlt : mask r < 2 ^ p := by
        have e : mask r = mask r.reverse := by
          unfold mask
          rw [← List.sum_reverse, List.map_reverse]
        rw [e]
        exact mask_lt (by rw [List.pairwise_reverse]; exact hp.2) fun x hx => hp.1 x (List.mem_reverse.mp hx)
      have h4 : mask (p :: r) = 2 ^ p + mask r := rfl
      rw [h4]
      rcases Nat.lt_trichotomy q p with h | h | h
      · rw [Nat.testBit_two_pow_add_gt h, ih hp.2]
        have : q ≠ p := by omega
        simp [this]
      · subst h
        rw [Nat.testBit_two_pow_add_eq, Nat.testBit_lt_two_pow hlt]
        simp
      · have hlt2 : 2 ^ p + mask r < 2 ^ q := by
          have h3 : 2 ^ (p + 1) ≤ 2 ^ q := Nat.pow_le_pow_right (by decide) h
          rw [Nat.pow_succ] at h3
          omega
        rw [Nat.testBit_lt_two_pow hlt2]
        have h1 : q ≠ p := by omega
        have h2 : q ∉ r := fun z => by
          have := hp.1 q z
          omega
        simp [h1, h2]
  intro ps hp q
  have e : mask ps = mask ps.reverse := by
    unfold mask
    rw [← List.sum_reverse, List.map_reverse]
  rw [e, key _ (by rw [List.pairwise_reverse]; exact hp)]
  simp
theorem bits_mask {n : Nat} {ps : List Nat} (hp : ps.Pairwise (· < ·)) (hn : ∀ p ∈ ps, p < n) : bits n (mask ps) = ps := by
  refine asc_ext (bits_pair _ _) hp fun q => ?_
  rw [mem_bits, bit_mask hp]
  simp only [decide_eq_true_eq]
  exact ⟨fun h => h.2, fun h => ⟨hn q h, h⟩⟩
theorem eq_of_bits {a b : Nat} (h : ∀ q, a.testBit q = true ↔ b.testBit q = true) : a = b := Nat.eq_of_testBit_eq fun q => by
  have := h q
  cases e1 : a.testBit q <;> cases e2 : b.testBit q <;> simp_all
theorem mask_bits {n m : Nat} (h : m < 2 ^ n) : mask (bits n m) = m := eq_of_bits fun q => by
  rw [bit_mask (bits_pair _ _)]
  simp only [decide_eq_true_eq]
  rw [mem_bits]
  exact ⟨fun z => z.2, fun z => ⟨lt_of_bit h z, z⟩⟩
theorem bits_any {n k m : Nat} (h1 : m < 2 ^ n) (h2 : m < 2 ^ k) : bits n m = bits k m := asc_ext (bits_pair _ _) (bits_pair _ _) fun q => by
  rw [mem_bits, mem_bits]
  exact ⟨fun z => ⟨lt_of_bit h2 z.2, z.2⟩, fun z => ⟨lt_of_bit h1 z.2, z.2⟩⟩
theorem lt_of_sub {n r m : Nat} (h : m < 2 ^ n) (s : ∀ q, r.testBit q = true → m.testBit q = true) : r < 2 ^ n := by
  apply Nat.lt_pow_two_of_testBit
  intro i hi
  cases e : r.testBit i with
  | false => rfl
  | true => exact absurd (lt_of_bit h (s i e)) (by omega)
/-! ### the lowest bit -/
theorem and_neg (m : Nat) (h : 0 < m) : ∃ q, m.testBit q = true ∧ (∀ p, p < q → m.testBit p = false) ∧ PySem.Builtin.bitAnd (m : Int) (-(m : Int)) = ((2 ^ q : Nat) : Int) := by
  have key : ∀ (m : Nat), 0 < m → ∃ q, m.testBit q = true ∧ (∀ p, p < q → m.testBit p = false) ∧ m - (m &&& (m - 1)) = 2 ^ q ∧ (m &&& (m - 1)) ≤ m := by
    intro m
    induction m using Nat.strongRecOn with
    | ind m ih =>
    intro h
    rcases Nat.mod_two_eq_zero_or_one m with e | e
    · obtain ⟨k, rfl⟩ : ∃ k, m = 2 * k := ⟨m / 2, by omega⟩
      obtain ⟨q, h1, h2, h3, h4⟩ := ih k (by omega) (by omega)
      have ea : (2 * k &&& (2 * k - 1)) = 2 * (k &&& (k - 1)) := by
        apply Nat.eq_of_testBit_eq
        intro i
        cases i with
        | zero => simp [Nat.testBit_and]
        | succ i =>
          rw [Nat.testBit_and, Nat.testBit_succ, Nat.testBit_succ, Nat.testBit_succ]
          have e1 : 2 * k / 2 = k := by omega
          have e2 : (2 * k - 1) / 2 = k - 1 := by omega
          have e3 : 2 * (k &&& (k - 1)) / 2 = (k &&& (k - 1)) := by omega
          rw [e1, e2, e3, Nat.testBit_and]
      refine ⟨q + 1, ?_, fun p hp => ?_, ?_, ?_⟩
      · rw [Nat.testBit_succ]
        have e1 : 2 * k / 2 = k := by omega
        rw [e1]
        exact h1
      · cases p with
        | zero => simp
        | succ p =>
          rw [Nat.testBit_succ]
          have e1 : 2 * k / 2 = k := by omega
          rw [e1]
          exact h2 p (by omega)
      · rw [ea, Nat.pow_succ]
        omega
      · rw [ea]
        omega
    · refine ⟨0, by simp [Nat.testBit_zero, e], fun p hp => by omega, ?_, ?_⟩
      · have ea : (m &&& (m - 1)) = m - 1 := by
          apply Nat.eq_of_testBit_eq
          intro i
          rw [Nat.testBit_and]
          cases i with
          | zero =>
            have : (m - 1) % 2 = 0 := by omega
            simp [Nat.testBit_zero, this]
          | succ i =>
            rw [Nat.testBit_succ, Nat.testBit_succ]
            have e1 : (m - 1) / 2 = m / 2 := by omega
            rw [e1, Bool.and_self]
        rw [ea]
        omega
      · exact Nat.and_le_left
  obtain ⟨q, h1, h2, h3, h4⟩ := key m h
  refine ⟨q, h1, h2, ?_⟩
  unfold PySem.Builtin.bitAnd PySem.Builtin.bitNot
  have e1 : decide ((0 : Int) ≤ (m : Int)) = true := by simp
  have e2 : decide ((0 : Int) ≤ -(m : Int)) = false := by
    apply decide_eq_false
    omega
  rw [e1, e2]
  show (m : Int) - (((m : Int).toNat &&& (-(-(m : Int)) - 1).toNat : Nat) : Int) = _
  have e3 : (m : Int).toNat = m := Int.toNat_natCast m
  have e4 : (-(-(m : Int)) - 1).toNat = m - 1 := by omega
  rw [e3, e4, ← h3]
  omega

/-! ### graphs -/
def adj (bs : List (Nat × Nat)) (i j : Nat) : Bool := bs.contains (min i j, max i j)
theorem adj_comm (bs : List (Nat × Nat)) (i j : Nat) : adj bs i j = adj bs j i := by
  unfold adj
  rw [Nat.min_comm, Nat.max_comm]
/-- from p to q by borders, within S -/
inductive Conn (bs : List (Nat × Nat)) (S : Nat → Prop) : Nat → Nat → Prop
  | refl {p : Nat} : S p → Conn bs S p p
  | step {p q r : Nat} : Conn bs S p q → adj bs q r = true → S r → Conn bs S p r
section
variable {bs : List (Nat × Nat)} {S T : Nat → Prop} {p q r : Nat}
theorem Conn.fst (h : Conn bs S p q) : S p := by
  induction h with
  | refl h => exact h
  | step _ _ _ ih => exact ih
theorem Conn.snd (h : Conn bs S p q) : S q := by
  cases h with
  | refl h => exact h
  | step _ _ h => exact h
theorem Conn.trans (h1 : Conn bs S p q) (h2 : Conn bs S q r) : Conn bs S p r := by
  induction h2 with
  | refl _ => exact h1
  | step _ a s ih => exact .step ih a s
theorem Conn.one (h1 : S p) (h2 : S q) (a : adj bs p q = true) : Conn bs S p q := .step (.refl h1) a h2
theorem Conn.symm (h : Conn bs S p q) : Conn bs S q p := by
  induction h with
  | refl h => exact .refl h
  | step c a s ih => exact (Conn.one s c.snd (by rw [adj_comm]; exact a)).trans ih
theorem Conn.mono (h : Conn bs S p q) (k : ∀ x, S x → T x) : Conn bs T p q := by
  induction h with
  | refl h => exact .refl (k _ h)
  | step _ a s ih => exact .step ih a (k _ s)
/-- within a part that is closed nothing else is come to -/
theorem Conn.closed (h : Conn bs S p q) (hp : T p) (k : ∀ x y, T x → S y → adj bs x y = true → T y) : Conn bs T p q ∧ T q := by
  induction h with
  | refl _ => exact ⟨.refl hp, hp⟩
  | step _ a s ih =>
    have t := k _ _ ih.2 s a
    exact ⟨.step ih.1 a t, t⟩
end
abbrev In (m : Nat) : Nat → Prop := fun x => m.testBit x = true
/-- r: what is come to from start within m -/
def Rch (bs : List (Nat × Nat)) (m start r : Nat) : Prop := ∀ q, r.testBit q = true ↔ ∃ p, start.testBit p = true ∧ Conn bs (In m) p q
theorem Rch.uniq {bs : List (Nat × Nat)} {m start r r' : Nat} (h : Rch bs m start r) (h' : Rch bs m start r') : r = r' := eq_of_bits fun q => (h q).trans (h' q).symm
/-- the loop of reached: what holds between two turns -/
structure Walk (bs : List (Nat × Nat)) (m start seen fresh : Nat) : Prop where
  st : ∀ q, start.testBit q = true → seen.testBit q = true
  sub : ∀ q, fresh.testBit q = true → seen.testBit q = true
  sound : ∀ q, seen.testBit q = true → ∃ p, start.testBit p = true ∧ Conn bs (In m) p q
  done : ∀ q r, seen.testBit q = true → fresh.testBit q = false → adj bs q r = true → m.testBit r = true → seen.testBit r = true
theorem Walk.begin {bs : List (Nat × Nat)} {m start : Nat} (h : ∀ q, start.testBit q = true → m.testBit q = true) : Walk bs m start start start :=
  ⟨fun _ h => h, fun _ h => h, fun q hq => ⟨q, hq, .refl (h q hq)⟩, fun q r h1 h2 => by rw [h1] at h2; cases h2⟩
theorem Walk.fin {bs : List (Nat × Nat)} {m start seen : Nat} (w : Walk bs m start seen 0) : Rch bs m start seen := fun q => by
  refine ⟨w.sound q, fun h => ?_⟩
  obtain ⟨p, hp, c⟩ := h
  induction c with
  | refl _ => exact w.st _ hp
  | step c a s ih => exact w.done _ _ ih (Nat.zero_testBit _) a s
theorem Walk.turn {bs : List (Nat × Nat)} {m start seen fresh around : Nat} (w : Walk bs m start seen fresh) (ha : ∀ r, around.testBit r = true ↔ ∃ q, fresh.testBit q = true ∧ adj bs q r = true) :
    Walk bs m start (seen ||| (around &&& (m ^^^ seen))) (around &&& (m ^^^ seen)) := by
  have sm : ∀ q, seen.testBit q = true → m.testBit q = true := fun q hq => by
    obtain ⟨p, _, c⟩ := w.sound q hq
    exact c.snd
  have hn : ∀ r, (around &&& (m ^^^ seen)).testBit r = true ↔ around.testBit r = true ∧ m.testBit r = true ∧ seen.testBit r = false := fun r => by
    rw [Nat.testBit_and, Nat.testBit_xor]
    have := sm r
    cases h1 : around.testBit r <;> cases h2 : m.testBit r <;> cases h3 : seen.testBit r <;> simp_all
  refine ⟨fun q hq => ?_, fun q hq => ?_, fun q hq => ?_, fun q r h1 h2 a hr => ?_⟩
  · rw [Nat.testBit_or, w.st q hq]; rfl
  · rw [Nat.testBit_or, hq, Bool.or_true]
  · rw [Nat.testBit_or, Bool.or_eq_true] at hq
    rcases hq with hq | hq
    · exact w.sound q hq
    · obtain ⟨h1, h2, _⟩ := (hn q).mp hq
      obtain ⟨x, h3, h4⟩ := (ha q).mp h1
      obtain ⟨p, hp, c⟩ := w.sound x (w.sub x h3)
      exact ⟨p, hp, .step c h4 h2⟩
  · rw [Nat.testBit_or, h2, Bool.or_false] at h1
    rw [Nat.testBit_or, Bool.or_eq_true]
    cases e : seen.testBit r with
    | true => exact .inl rfl
    | false =>
      right
      rw [hn]
      refine ⟨(ha r).mpr ⟨q, ?_, a⟩, hr, e⟩
      cases ef : fresh.testBit q with
      | true => rfl
      | false =>
        have := w.done q r h1 ef a hr
        rw [this] at e
        cases e
theorem Walk.le {bs : List (Nat × Nat)} {m start seen fresh : Nat} (w : Walk bs m start seen fresh) : seen ≤ m := by
  apply Nat.le_of_testBit
  intro i hi
  obtain ⟨p, _, c⟩ := w.sound i hi
  exact c.snd
theorem or_gt {a b : Nat} (h : a &&& b = 0) (hb : b ≠ 0) : a < a ||| b := by
  have h1 : a ≤ a ||| b := Nat.left_le_or
  rcases Nat.lt_or_eq_of_le h1 with z | z
  · exact z
  · exfalso
    apply hb
    apply eq_of_bits
    intro q
    rw [Nat.zero_testBit]
    refine ⟨fun hq => ?_, fun z => by cases z⟩
    have e1 : (a ||| b).testBit q = true := by rw [Nat.testBit_or, hq, Bool.or_true]
    rw [← z] at e1
    have e2 : (a &&& b).testBit q = true := by rw [Nat.testBit_and, e1, hq]; rfl
    rw [h, Nat.zero_testBit] at e2
    exact e2

/-! ### links -/
theorem bit_or_pow (x b j : Nat) : (x ||| 2 ^ b).testBit j = (x.testBit j || decide (b = j)) := by
  rw [Nat.testBit_or, Nat.testBit_two_pow]
/-- lk: for each of n places the mask of its neighbours -/
structure Lk (n : Nat) (bs : List (Nat × Nat)) (lk : List Nat) : Prop where
  len : lk.length = n
  bit : ∀ i j, i < n → (lk.getD i 0).testBit j = adj bs i j
theorem Lk.nil (n : Nat) : Lk n [] (List.replicate n 0) := ⟨by simp, fun i j hi => by
  rw [List.getD_eq_getElem?_getD, List.getElem?_replicate, if_pos hi]
  simp [adj]⟩
theorem getD_set {l : List Nat} {a i x : Nat} (ha : a < l.length) : (l.set a x).getD i 0 = if i = a then x else l.getD i 0 := by
  rw [List.getD_eq_getElem?_getD, List.getD_eq_getElem?_getD, List.getElem?_set]
  by_cases h : a = i
  · subst h
    rw [if_pos rfl, if_pos rfl, if_pos ha]
    rfl
  · rw [if_neg h, if_neg (fun z => h z.symm)]
theorem Lk.add {n : Nat} {bs : List (Nat × Nat)} {lk : List Nat} (h : Lk n bs lk) {a b : Nat} (hab : a < b) (hb : b < n) :
    Lk n (bs ++ [(a, b)]) ((lk.set a (lk.getD a 0 ||| 2 ^ b)).set b (lk.getD b 0 ||| 2 ^ a)) := by
  have hl := h.len
  refine ⟨by simp [h.len], fun i j hi => ?_⟩
  have e : adj (bs ++ [(a, b)]) i j = (adj bs i j || decide (min i j = a ∧ max i j = b)) := by
    unfold adj
    rw [List.contains_eq_mem, List.contains_eq_mem]
    simp only [List.mem_append, List.mem_singleton, Prod.mk.injEq]
    by_cases h1 : (min i j, max i j) ∈ bs <;> simp [h1]
  rw [e, getD_set (by simp; omega)]
  by_cases h1 : i = b
  · subst h1
    rw [if_pos rfl, bit_or_pow, h.bit _ _ hi]
    congr 1
    apply decide_eq_decide.mpr
    omega
  · rw [if_neg h1, getD_set (by omega)]
    by_cases h2 : i = a
    · subst h2
      rw [if_pos rfl, bit_or_pow, h.bit _ _ hi]
      congr 1
      apply decide_eq_decide.mpr
      omega
    · rw [if_neg h2, h.bit _ _ hi]
      have : decide (min i j = a ∧ max i j = b) = false := by
        apply decide_eq_false
        omega
      rw [this, Bool.or_false]
/-- the borders of a land of n places -/
def Bs (n : Nat) (bs : List (Nat × Nat)) : Prop := ∀ b ∈ bs, b.1 < b.2 ∧ b.2 < n
theorem adj_lt {n : Nat} {bs : List (Nat × Nat)} (h : Bs n bs) {i j : Nat} (a : adj bs i j = true) : i < n ∧ j < n ∧ i ≠ j := by
  unfold adj at a
  rw [List.contains_eq_mem, decide_eq_true_eq] at a
  have := h _ a
  simp only at this
  omega
/-- all that a mask has as neighbours, gathered by its bits -/
theorem around_bits {n : Nat} {bs : List (Nat × Nat)} {lk : List Nat} (h : Lk n bs lk) {m : Nat} (hm : m < 2 ^ n) (r : Nat) :
    ((bits n m).foldl (fun a p => a ||| lk.getD p 0) 0).testBit r = true ↔ ∃ q, m.testBit q = true ∧ adj bs q r = true := by
  have key : ∀ (l : List Nat) (a : Nat), (l.foldl (fun a p => a ||| lk.getD p 0) a).testBit r = true ↔ a.testBit r = true ∨ ∃ q ∈ l, (lk.getD q 0).testBit r = true := by
    intro l
    induction l with
    | nil => intro a; simp
    | cons p l ih =>
      intro a
      rw [List.foldl_cons, ih, Nat.testBit_or, Bool.or_eq_true]
      constructor
      · rintro ((z | z) | ⟨q, hq, z⟩)
        · exact .inl z
        · exact .inr ⟨p, List.mem_cons_self, z⟩
        · exact .inr ⟨q, List.mem_cons_of_mem _ hq, z⟩
      · rintro (z | ⟨q, hq, z⟩)
        · exact .inl (.inl z)
        · rcases List.mem_cons.mp hq with e | hq
          · rw [e] at z
            exact .inl (.inr z)
          · exact .inr ⟨q, hq, z⟩
  rw [key]
  constructor
  · rintro (z | ⟨q, hq, z⟩)
    · simp at z
    · obtain ⟨h1, h2⟩ := mem_bits.mp hq
      exact ⟨q, h2, by rw [← h.bit q r h1]; exact z⟩
  · rintro ⟨q, hq, a⟩
    have hqn := lt_of_bit hm hq
    exact .inr ⟨q, mem_bits.mpr ⟨hqn, hq⟩, by rw [h.bit q r hqn]; exact a⟩
theorem fold_lt {n : Nat} {bs : List (Nat × Nat)} {lk : List Nat} (h : Lk n bs lk) (hb : Bs n bs) {m : Nat} (hm : m < 2 ^ n) : (bits n m).foldl (fun a p => a ||| lk.getD p 0) 0 < 2 ^ n := by
  apply Nat.lt_pow_two_of_testBit
  intro i hi
  cases e : ((bits n m).foldl (fun a p => a ||| lk.getD p 0) 0).testBit i with
  | false => rfl
  | true =>
    obtain ⟨q, _, a⟩ := (around_bits h hm i).mp e
    have := (adj_lt hb a).2.1
    omega
/-- the pieces of a mask, from the lowest bit on -/
inductive Pcs (bs : List (Nat × Nat)) : Nat → List Nat → Prop
  | nil : Pcs bs 0 []
  | cons {m q p : Nat} {l : List Nat} : m.testBit q = true → (∀ x, x < q → m.testBit x = false) → Rch bs m (2 ^ q) p → Pcs bs (m ^^^ p) l → Pcs bs m (p :: l)
theorem Rch.sub {bs : List (Nat × Nat)} {m start p : Nat} (h : Rch bs m start p) : ∀ q, p.testBit q = true → m.testBit q = true := fun q hq => by
  obtain ⟨x, _, c⟩ := (h q).mp hq
  exact c.snd
theorem xor_sub {m p : Nat} (h : ∀ q, p.testBit q = true → m.testBit q = true) (q : Nat) : (m ^^^ p).testBit q = true ↔ m.testBit q = true ∧ p.testBit q = false := by
  rw [Nat.testBit_xor]
  have := h q
  cases h1 : m.testBit q <;> cases h2 : p.testBit q <;> simp_all
theorem xor_lt {m p q : Nat} (h : ∀ q, p.testBit q = true → m.testBit q = true) (hq : p.testBit q = true) : m ^^^ p < m := by
  have e : (m ^^^ p) ||| p = m := eq_of_bits fun x => by
    rw [Nat.testBit_or, Bool.or_eq_true, xor_sub h]
    have := h x
    cases h1 : m.testBit x <;> cases h2 : p.testBit x <;> simp_all
  have a : (m ^^^ p) &&& p = 0 := eq_of_bits fun x => by
    rw [Nat.testBit_and, Bool.and_eq_true, xor_sub h, Nat.zero_testBit]
    simp_all
  have hp : p ≠ 0 := fun z => by rw [z, Nat.zero_testBit] at hq; cases hq
  have := or_gt a hp
  rw [e] at this
  exact this

theorem low_uniq {m q q' : Nat} (h : m.testBit q = true) (l : ∀ x, x < q → m.testBit x = false) (h' : m.testBit q' = true) (l' : ∀ x, x < q' → m.testBit x = false) : q = q' := by
  rcases Nat.lt_trichotomy q q' with z | z | z
  · rw [l' q z] at h; cases h
  · exact z
  · rw [l q' z] at h'; cases h'
theorem Pcs.uniq {bs : List (Nat × Nat)} {m : Nat} {l : List Nat} (h : Pcs bs m l) : ∀ {l' : List Nat}, Pcs bs m l' → l = l' := by
  induction h with
  | nil =>
    intro l' h'
    cases h' with
    | nil => rfl
    | cons hq _ _ _ => simp at hq
  | @cons m q p l hq hl hR _ ih =>
    intro l' h'
    cases h' with
    | nil => simp at hq
    | @cons _ q' p' l2 hq' hl' hR' hP' =>
      have e := low_uniq hq hl hq' hl'
      subst e
      have e2 := hR.uniq hR'
      subst e2
      rw [ih hP']
open Classical in
/-- the pieces -/
noncomputable def pcs (bs : List (Nat × Nat)) (m : Nat) : List Nat := if h : ∃ l, Pcs bs m l then h.choose else []
theorem Pcs.eq {bs : List (Nat × Nat)} {m : Nat} {l : List Nat} (h : Pcs bs m l) : pcs bs m = l := by
  unfold pcs
  rw [dif_pos ⟨l, h⟩]
  exact (Exists.choose_spec (⟨l, h⟩ : ∃ l, Pcs bs m l)).uniq h
end Mk

set_option Elab.async false
set_option linter.all false
set_option maxRecDepth 100000
set_option maxHeartbeats 4000000
/-! Bs: the turns of a generator expression over a source of known length; scopes by a look. -/
namespace Gx
open PySem PySem.Spec PyProof.Rows L2 Bx

/-- the scopes of the names, by a look -/
def gChk (ND : List Str) (sc scope : Scope) (N : List Str) (src : List (Option Nat)) : Bool :=
  decide (scope.kind = .function) && !scope.isCoroutine && (scope.names.all fun y => decide (y.2 ≠ .cell)) && decide (scope.names.lookup (".0" : Str) = some NameKind.local) &&
  (scope.names.all fun y => decide (y.2 = .free → sc.names.lookup y.1 = some .cell ∨ sc.names.lookup y.1 = some .free)) && decide (src.length = N.length) &&
  (List.range src.length).all fun i => match src[i]? with
    | some (some j) => match N[i]?, ND[j]? with
      | some x, some z => decide (x = z) && decide (scope.names.lookup x = some .free)
      | _, _ => false
    | _ => true
theorem gOk {ND : List Str} {sc scope : Scope} {N : List Str} {src : List (Option Nat)} (h : gChk ND sc scope N src = true) : GOk ND sc scope N src := by
  unfold gChk at h
  simp only [Bool.and_eq_true, decide_eq_true_eq, Bool.not_eq_true', List.all_eq_true] at h
  obtain ⟨⟨⟨⟨⟨⟨h1, h2⟩, h3⟩, h4⟩, h5⟩, h6⟩, h7⟩ := h
  refine ⟨h1, h2, h3, h4, h5, h6, fun i j e => ?_⟩
  have hi : i < src.length := (List.getElem?_eq_some_iff.mp e).1
  have q := h7 i (List.mem_range.mpr hi)
  rw [e] at q
  cases e1 : N[i]? with
  | none => simp [e1] at q
  | some x =>
    cases e2 : ND[j]? with
    | none => simp [e1, e2] at q
    | some z =>
      simp only [e1, e2, Bool.and_eq_true, decide_eq_true_eq] at q
      exact ⟨x, rfl, by rw [q.1], q.2⟩

/-- a source: n items, it i the i-th one, while Ph stands -/
structure Src (J : It) (n : Nat) (it : Nat → V) (Ph : Hp → Prop) : Prop where
  go : ∀ i H, Ph H → i < n → J.go i H
  stop : ∀ H, Ph H → J.stop n H
  yld : ∀ i H x H', Ph H → i < n → J.yld i H x H' → H' = H ∧ x = it i
theorem src_range {lo : Int} {n : Nat} {Ph : Hp → Prop} : Src (Itr lo n) n (fun i => .int (lo + i)) Ph := ⟨fun _ _ _ h => h, fun _ _ => Nat.le_refl _, fun _ _ _ _ _ _ h => h⟩
theorem src_tup {K : PySem.W.Frag} {a : Addr} {xs : List V} {Ph : Hp → Prop} (h : ∀ H, Ph H → SqT K H a xs) : Src (Itt K a) xs.length (fun i => xs.getD i .non) Ph where
  go := fun i H p hi => ⟨xs, xs[i], h H p, List.getElem?_eq_getElem hi⟩
  stop := fun H p => ⟨xs, h H p, Nat.le_refl _⟩
  yld := fun i H x H' p hi y => ⟨y.1, by rw [List.getD_eq_getElem?_getD, y.2 xs (h H p)]; rfl⟩
theorem src_lst {K : PySem.W.Frag} {a : Addr} {xs : List V} {Ph : Hp → Prop} (h : ∀ H, Ph H → SqL K H a xs) : Src (Itl K a) xs.length (fun i => xs.getD i .non) Ph where
  go := fun i H p hi => ⟨xs, xs[i], h H p, List.getElem?_eq_getElem hi⟩
  stop := fun H p => ⟨xs, h H p, Nat.le_refl _⟩
  yld := fun i H x H' p hi y => ⟨y.1, by rw [List.getD_eq_getElem?_getD, y.2 xs (h H p)]; rfl⟩

section
variable {J : It} {n : Nat} {it : Nat → V} {Ph : Hp → Prop} {g : TG} {tt : TT} {te : TE} {vs : List Nat} {σg : L2.St} {H : Hp} {Q : VK}
theorem g_all {Qt Qf : Hp → Prop} (S : Src J n it Ph) (p : Nat → Bool) (h0 : Ph H)
    (step : ∀ i H (C : V → Hp → Prop), Ph H → i < n → (∀ H4, Ph H4 → C (.bl (p i)) H4) → g (it i) σg H fun σ2 H2 => wipe σ2 vs = σg ∧ te σ2 H2 C)
    (fin : ∀ H, Ph H → (List.range n).all p = true → Qt H) (finF : ∀ H, Ph H → (List.range n).all p = false → Qf H) :
    ∃ W : Nat → Nat → List V → Hp → Prop, (∃ m, W 0 m [] H) ∧ GTurn J g tYes te vs σg (pAll Qf) (fun _ H => Qt H) W := by
  refine ⟨fun i m _ H => Ph H ∧ i ≤ n ∧ m = n - i ∧ ∀ j, j < i → p j = true, ⟨n, h0, Nat.zero_le _, by omega, fun j hj => by omega⟩, fun i m ys H ⟨hp, hi, hm, ha⟩ => ?_⟩
  by_cases hn : i = n
  · subst hn
    exact .inl ⟨S.stop H hp, fin H hp (List.all_eq_true.mpr fun j hj => ha j (List.mem_range.mp hj))⟩
  · have hlt : i < n := by omega
    refine .inr ⟨S.go i H hp hlt, fun x H' y => ?_⟩
    obtain ⟨rfl, rfl⟩ := S.yld i H x H' hp hlt y
    refine step i H' _ hp hlt fun H4 hp4 => ⟨p i, rfl, ?_⟩
    cases e : p i with
    | true => exact iteT ⟨n - (i + 1), by omega, hp4, hlt, rfl, fun j hj => by
        by_cases z : j = i
        · rw [z]; exact e
        · exact ha j (by omega)⟩
    | false =>
      refine iteF (finF H4 hp4 ?_)
      rw [Bool.eq_false_iff]
      intro z
      rw [List.all_eq_true.mp z i (List.mem_range.mpr hlt)] at e
      cases e
theorem g_sum (S : Src J n it Ph) (f : Nat → Int) (h0 : Ph H)
    (step : ∀ i H (C : V → Hp → Prop), Ph H → i < n → (∀ H4, Ph H4 → C (.int (f i)) H4) → g (it i) σg H fun σ2 H2 => wipe σ2 vs = σg ∧ te σ2 H2 C)
    (fin : ∀ H, Ph H → Q (.int ((List.range n).map f).sum) H) :
    ∃ W : Nat → Nat → List V → Hp → Prop, (∃ m, W 0 m [] H) ∧ GTurn J g tYes te vs σg pSum (fun ys H => ∀ ns : List Int, ys = ns.map V.int → Q (.int ns.sum) H) W := by
  refine ⟨fun i m ys H => Ph H ∧ i ≤ n ∧ m = n - i ∧ ys = ((List.range i).map f).map V.int, ⟨n, h0, Nat.zero_le _, by omega, rfl⟩, fun i m ys H ⟨hp, hi, hm, hy⟩ => ?_⟩
  by_cases hn : i = n
  · subst hn
    refine .inl ⟨S.stop H hp, fun ns e => ?_⟩
    rw [hy] at e
    have e2 : (List.range i).map f = ns := by
      have inj : ∀ (a b : List Int), a.map V.int = b.map V.int → a = b := fun a => by
        induction a with
        | nil => intro b h; cases b with
          | nil => rfl
          | cons y b => cases h
        | cons x a ih => intro b h; cases b with
          | nil => cases h
          | cons y b =>
            injection h with h1 h2
            injection h1 with h1
            rw [h1, ih b h2]
      exact inj _ _ e
    rw [← e2]
    exact fin H hp
  · have hlt : i < n := by omega
    refine .inr ⟨S.go i H hp hlt, fun x H' y => ?_⟩
    obtain ⟨rfl, rfl⟩ := S.yld i H x H' hp hlt y
    refine step i H' _ hp hlt fun H4 hp4 => ⟨⟨f i, rfl⟩, n - (i + 1), by omega, hp4, hlt, rfl, ?_⟩
    rw [hy, List.range_succ, List.map_append, List.map_append]
    rfl
/-- tuple(.. if ..), the target a name; kp i: whether the i-th item is kept; Pw: by the turn and what is out -/
theorem g_tup {o : Nat} {Pw : Nat → List V → Hp → Prop} (S : ∀ i ys, Src J n it (Pw i ys)) (hn : n ≤ sizeLine) (kp : Nat → Bool) (hw : ∀ x, wipe (σg.set o (some x)) vs = σg) (h0 : Pw 0 [] H)
    (len : ∀ i ys H, Pw i ys H → ys.length ≤ i)
    (test : ∀ i ys H (C : Bool → Hp → Prop), Pw i ys H → i < n → (∀ H2, Pw i ys H2 → C (kp i) H2) → tt (σg.set o (some (it i))) H C)
    (skip : ∀ i ys H, Pw i ys H → i < n → kp i = false → Pw (i + 1) ys H)
    (elt : ∀ i ys H (C : V → Hp → Prop), Pw i ys H → i < n → kp i = true → (∀ v H4, Pw (i + 1) (ys ++ [v]) H4 → C v H4) → te (σg.set o (some (it i))) H C)
    (fin : ∀ ys H, Pw n ys H → ∀ p, H p = none → Q (.ref p) (upd H p (.tup ys))) :
    ∃ W : Nat → Nat → List V → Hp → Prop, (∃ m, W 0 m [] H) ∧ GTurn J (gName o) tt te vs σg pTup (fun ys H => ∀ p, H p = none → Q (.ref p) (upd H p (.tup ys))) W := by
  refine ⟨fun i m ys H => Pw i ys H ∧ i ≤ n ∧ m = n - i, ⟨n, h0, Nat.zero_le _, by omega⟩, fun i m ys H ⟨hp, hi, hm⟩ => ?_⟩
  by_cases e : i = n
  · subst e
    exact .inl ⟨(S i ys).stop H hp, fin ys H hp⟩
  · have hlt : i < n := by omega
    refine .inr ⟨(S i ys).go i H hp hlt, fun x H' y => ?_⟩
    obtain ⟨rfl, rfl⟩ := (S i ys).yld i H x H' hp hlt y
    refine ⟨hw _, test i ys H' _ hp hlt fun H2 h2 => ?_⟩
    cases hk : kp i with
    | true => exact iteT (elt i ys H2 _ h2 hlt hk fun v H4 h4 => ⟨by have := len i ys H2 h2; omega, n - (i + 1), by omega, h4, hlt, rfl⟩)
    | false => exact iteF ⟨n - (i + 1), by omega, skip i ys H2 h2 hlt hk, hlt, rfl⟩
end
end Gx
namespace Bx
open PySem PySem.Spec PyProof.Rows L2
theorem ix_tupK {X : Cx} {K : PySem.W.Frag} (h : X.K = K) : IxR X (rIxT K) := h ▸ ix_tup
theorem pt_truthK {X : Cx} {K : PySem.W.Frag} {a : Expr} {ta : TE} (h : X.K = K) (ha : PE X a ta) (he : ∀ whole, isTrue a X.env whole = (do let v ← whole; standAt a.pos; holding [v] (truthy v))) :
    PT X a (fun σ H Q => ta σ H fun x H' => ∃ k, TruV K x H' k ∧ Q k H') := h ▸ pt_truth ha he
theorem call_lenK {X : Cx} {K : PySem.W.Frag} (h : X.K = K) : CallR X (.builtin "len") (fun xs H Q => ∃ x n, xs = [x] ∧ LenV K x H n ∧ Q (.int n) H) := h ▸ call_len
theorem ix_lstK {X : Cx} {K : PySem.W.Frag} (h : X.K = K) : IxR X (rIxL K) := h ▸ ix_list
end Bx

set_option Elab.async false
set_option linter.all false
set_option maxRecDepth 100000
set_option maxHeartbeats 4000000
/-! My: places reached one by one. -/
namespace Mk
theorem nodup_le : ∀ (n : Nat) (l : List Nat), l.Nodup → (∀ x ∈ l, x < n) → l.length ≤ n
  | 0, [], _, _ => Nat.le_refl _
  | 0, x :: _, _, h => by have := h x List.mem_cons_self; omega
  | n + 1, l, nd, h => by
    by_cases e : n ∈ l
    · have ih := nodup_le n (l.erase n) (nd.erase n) fun x hx => by
        have h1 := (List.Nodup.mem_erase_iff nd).mp hx
        have h2 := h x h1.2
        have := h1.1
        omega
      rw [List.length_erase_of_mem e] at ih
      omega
    · have ih := nodup_le n l nd fun x hx => by
        have h2 := h x hx
        have : x ≠ n := fun z => e (z ▸ hx)
        omega
      omega
/-- places reached from p within ps, the first at_ of them gone through -/
structure Rw (bs : List (Nat × Nat)) (ps : List Nat) (p : Nat) (fnd : List Nat) (at_ : Nat) : Prop where
  nd : fnd.Nodup
  sound : ∀ x, x ∈ fnd → Conn bs (· ∈ ps) p x
  here : p ∈ fnd
  done : ∀ j x, j < at_ → fnd[j]? = some x → ∀ y, y ∈ ps → adj bs x y = true → y ∈ fnd
  le : at_ ≤ fnd.length
theorem Rw.begin {bs : List (Nat × Nat)} {ps : List Nat} {p : Nat} (h : p ∈ ps) : Rw bs ps p [p] 0 :=
  ⟨by simp, fun x hx => by rw [List.mem_singleton.mp hx]; exact .refl h, by simp, fun j x hj => by omega, by simp⟩
theorem Rw.turn {bs : List (Nat × Nat)} {n : Nat} {ps fnd : List Nat} {p at_ x : Nat} (w : Rw bs ps p fnd at_) (hx : fnd[at_]? = some x) (hb : Bs n bs) :
    Rw bs ps p (fnd ++ ((List.range n).filter fun k => adj bs k x).filter fun k => decide (k ∈ ps) && decide (k ∉ fnd)) (at_ + 1) := by
  have hlt : at_ < fnd.length := (List.getElem?_eq_some_iff.mp hx).1
  have hmem : ∀ y, y ∈ (((List.range n).filter fun k => adj bs k x).filter fun k => decide (k ∈ ps) && decide (k ∉ fnd)) ↔ y < n ∧ adj bs y x = true ∧ y ∈ ps ∧ y ∉ fnd := fun y => by
    rw [List.mem_filter, List.mem_filter, List.mem_range, Bool.and_eq_true, decide_eq_true_eq, decide_eq_true_eq]
    constructor
    · rintro ⟨⟨a, b⟩, c, d⟩; exact ⟨a, b, c, d⟩
    · rintro ⟨a, b, c, d⟩; exact ⟨⟨a, b⟩, c, d⟩
  refine ⟨?_, fun y hy => ?_, List.mem_append_left _ w.here, fun j z hj hz y hy ha => ?_, by rw [List.length_append]; omega⟩
  · refine List.nodup_append.mpr ⟨w.nd, (List.nodup_range.filter _).filter _, fun a ha b hb2 e => ?_⟩
    subst e
    exact ((hmem a).mp hb2).2.2.2 ha
  · rcases List.mem_append.mp hy with h | h
    · exact w.sound y h
    · obtain ⟨_, a, b, _⟩ := (hmem y).mp h
      exact .step (w.sound x (List.mem_of_getElem? hx)) (by rw [adj_comm]; exact a) b
  · by_cases hin : y ∈ fnd
    · exact List.mem_append_left _ hin
    · rw [List.getElem?_append_left (by omega)] at hz
      by_cases e : j = at_
      · subst e
        rw [hx] at hz
        cases hz
        exact List.mem_append_right _ ((hmem y).mpr ⟨(adj_lt hb ha).2.1, by rw [adj_comm]; exact ha, hy, hin⟩)
      · exact absurd (w.done j z (by omega) hz y hy ha) hin
theorem Rw.fin {bs : List (Nat × Nat)} {ps fnd : List Nat} {p at_ : Nat} (w : Rw bs ps p fnd at_) (h : fnd.length ≤ at_) (x : Nat) : x ∈ fnd ↔ Conn bs (· ∈ ps) p x := by
  refine ⟨w.sound x, fun c => ?_⟩
  refine (c.closed (T := (· ∈ fnd)) w.here fun y z hy hz a => ?_).2
  obtain ⟨j, hj, e⟩ := List.getElem_of_mem hy
  exact w.done j y (by omega) (by rw [List.getElem?_eq_getElem hj, e]) z hz a
/-- the pieces gone through so far, and what is left -/
structure Pw (bs : List (Nat × Nat)) (ps left : List Nat) (rs : List (List Nat)) : Prop where
  asc : left.Pairwise (· < ·)
  sub : ∀ x, x ∈ left → x ∈ ps
  clo : ∀ x, x ∈ left → ∀ y, Conn bs (· ∈ ps) x y → y ∈ left
  pcs : ∀ qs, Pcs bs (mask left) qs → Pcs bs (mask ps) (rs.map mask ++ qs)
  good : ∀ r, r ∈ rs → r.Pairwise (· < ·) ∧ ∀ x, x ∈ r → x ∈ ps
  len : rs.length + left.length ≤ ps.length
theorem Pw.begin {bs : List (Nat × Nat)} {ps : List Nat} (h : ps.Pairwise (· < ·)) : Pw bs ps ps [] :=
  ⟨h, fun _ h => h, fun x _ y c => c.snd, fun qs h => h, fun r hr => (nomatch hr), by simp⟩
theorem Pw.fin {bs : List (Nat × Nat)} {ps : List Nat} {rs : List (List Nat)} (w : Pw bs ps [] rs) : Pcs bs (mask ps) (rs.map mask) := by
  have := w.pcs [] .nil
  rwa [List.append_nil] at this
theorem Pw.turn {bs : List (Nat × Nat)} {ps tl r : List Nat} {rs : List (List Nat)} {x0 : Nat} (w : Pw bs ps (x0 :: tl) rs) (ha : r.Pairwise (· < ·)) (hr : ∀ x, x ∈ r ↔ Conn bs (· ∈ ps) x0 x) :
    Pw bs ps ((x0 :: tl).filter fun x => decide (x ∉ r)) (rs ++ [r]) ∧ ((x0 :: tl).filter fun x => decide (x ∉ r)).length < (x0 :: tl).length := by
  have h0 : x0 ∈ x0 :: tl := List.mem_cons_self
  have h0r : x0 ∈ r := (hr x0).mpr (.refl (w.sub _ h0))
  have hsub : ∀ x, x ∈ r → x ∈ x0 :: tl := fun x hx => w.clo x0 h0 x ((hr x).mp hx)
  have hasc := w.asc
  have hrch : Rch bs (mask (x0 :: tl)) (2 ^ x0) (mask r) := fun q => by
    rw [bit_mask ha, decide_eq_true_eq, hr]
    constructor
    · intro c
      refine ⟨x0, by simp [Nat.testBit_two_pow], ?_⟩
      have c2 := (c.closed (T := (· ∈ x0 :: tl)) h0 fun x y hx hy a => w.clo x hx y (.one (w.sub x hx) hy a)).1
      exact c2.mono fun x hx => by
        show (mask (x0 :: tl)).testBit x = true
        rw [bit_mask hasc]
        exact decide_eq_true hx
    · rintro ⟨p, hp, c⟩
      rw [Nat.testBit_two_pow, decide_eq_true_eq] at hp
      subst hp
      exact c.mono fun x hx => by
        have hx : (mask (x0 :: tl)).testBit x = true := hx
        rw [bit_mask hasc, decide_eq_true_eq] at hx
        exact w.sub x hx
  have hfa : ((x0 :: tl).filter fun x => decide (x ∉ r)).Pairwise (· < ·) := hasc.filter _
  have hmem : ∀ x, x ∈ ((x0 :: tl).filter fun x => decide (x ∉ r)) ↔ x ∈ x0 :: tl ∧ x ∉ r := fun x => by
    rw [List.mem_filter, decide_eq_true_eq]
  have hmask : mask ((x0 :: tl).filter fun x => decide (x ∉ r)) = mask (x0 :: tl) ^^^ mask r := eq_of_bits fun q => by
    rw [xor_sub (fun q hq => by
      rw [bit_mask ha, decide_eq_true_eq] at hq
      rw [bit_mask hasc]
      exact decide_eq_true (hsub q hq)), bit_mask hfa, bit_mask hasc, bit_mask ha, decide_eq_true_eq, decide_eq_true_eq, decide_eq_false_iff_not]
    exact hmem q
  have hlt : ((x0 :: tl).filter fun x => decide (x ∉ r)).length < (x0 :: tl).length := by
    rw [List.filter_cons_of_neg (by simp [h0r])]
    have := List.length_filter_le (fun x => decide (x ∉ r)) tl
    rw [List.length_cons]
    omega
  refine ⟨⟨hfa, fun x hx => w.sub x ((hmem x).mp hx).1, fun x hx y c => ?_, fun qs hq => ?_, fun s hs => ?_, ?_⟩, hlt⟩
  · obtain ⟨h1, h2⟩ := (hmem x).mp hx
    refine (hmem y).mpr ⟨w.clo x h1 y c, fun hy => h2 ?_⟩
    exact (hr x).mpr (((hr y).mp hy).trans c.symm)
  · rw [hmask] at hq
    rw [List.map_append, List.append_assoc]
    refine w.pcs _ (.cons ?_ (fun x hx => ?_) hrch hq)
    · rw [bit_mask hasc]
      exact decide_eq_true h0
    · rw [bit_mask hasc]
      refine decide_eq_false fun hm => ?_
      rcases List.mem_cons.mp hm with e | e
      · omega
      · have := List.rel_of_pairwise_cons hasc e
        omega
  · rcases List.mem_append.mp hs with e | e
    · exact w.good s e
    · rw [List.mem_singleton.mp e]
      exact ⟨ha, fun x hx => w.sub x (hsub x hx)⟩
  · have := w.len
    rw [List.length_append, List.length_singleton]
    omega
end Mk

set_option Elab.async false
set_option linter.all false
set_option maxRecDepth 100000
set_option maxHeartbeats 4000000
namespace Mk
theorem sub_le : ∀ {l m : List Nat}, l.Nodup → (∀ x, x ∈ l → x ∈ m) → l.length ≤ m.length
  | [], m, _, _ => Nat.zero_le _
  | x :: l, m, nd, h => by
    rw [List.nodup_cons] at nd
    have hx := h x List.mem_cons_self
    have ih := sub_le (l := l) (m := m.erase x) nd.2 fun y hy => by
      have hne : y ≠ x := fun e => nd.1 (e ▸ hy)
      exact (List.mem_erase_of_ne hne).mpr (h y (List.mem_cons_of_mem _ hy))
    rw [List.length_erase_of_mem hx] at ih
    have := List.length_pos_of_mem hx
    rw [List.length_cons]
    omega
theorem filt_sum (f : Nat → Bool) : ∀ l : List Nat, l.length = (l.filter f).length + (l.filter fun x => !f x).length
  | [] => rfl
  | x :: l => by
    have ih := filt_sum f l
    by_cases h : f x = true
    · rw [List.filter_cons_of_pos h, List.filter_cons_of_neg (by simp [h]), List.length_cons, List.length_cons]
      omega
    · rw [List.filter_cons_of_neg h, List.filter_cons_of_pos (by simp [h]), List.length_cons, List.length_cons]
      omega
/-- what hangs together is one piece, and back -/
theorem pcs_one {bs : List (Nat × Nat)} {ps : List Nat} {p : Nat} (ha : ps.Pairwise (· < ·)) (hp : p ∈ ps) (hc : ∀ x, x ∈ ps → Conn bs (· ∈ ps) p x) : Pcs bs (mask ps) [mask ps] := by
  cases ps with
  | nil => cases hp
  | cons q r =>
    have hb := bit_mask ha
    refine .cons (q := q) (by rw [hb]; simp) (fun x hx => ?_) (fun x => ?_) (by rw [Nat.xor_self]; exact .nil)
    · rw [hb]
      refine decide_eq_false fun hm => ?_
      rcases List.mem_cons.mp hm with e | e
      · omega
      · have := List.rel_of_pairwise_cons ha e
        omega
    · rw [hb, decide_eq_true_eq]
      have mono : ∀ {a b : Nat}, Conn bs (· ∈ q :: r) a b → Conn bs (In (mask (q :: r))) a b := fun c => c.mono fun y hy => by
        show (mask (q :: r)).testBit y = true
        rw [hb]
        exact decide_eq_true hy
      constructor
      · intro hx
        refine ⟨q, by simp [Nat.testBit_two_pow], mono ?_⟩
        exact (hc q List.mem_cons_self).symm.trans (hc x hx)
      · rintro ⟨_, _, c⟩
        have := c.snd
        have h2 : (mask (q :: r)).testBit x = true := this
        rwa [hb, decide_eq_true_eq] at h2
theorem Pcs.none {bs : List (Nat × Nat)} {m : Nat} {l : List Nat} (h : Pcs bs m l) (e : l = []) : m = 0 := by
  cases h with
  | nil => rfl
  | cons _ _ _ _ => cases e
theorem Pcs.len1 {bs : List (Nat × Nat)} {m : Nat} {l : List Nat} (h : Pcs bs m l) (e : l.length = 1) : ∃ q, Rch bs m (2 ^ q) m := by
  cases h with
  | nil => cases e
  | @cons _ q p l2 hq hlow hR hP =>
    have e2 : l2 = [] := List.length_eq_zero_iff.mp (by rw [List.length_cons] at e; omega)
    have h0 := hP.none e2
    have : m = p := by
      have h1 : (m ^^^ p) ^^^ p = m := by rw [Nat.xor_assoc, Nat.xor_self, Nat.xor_zero]
      rw [h0, Nat.zero_xor] at h1
      exact h1.symm
    subst this
    exact ⟨q, hR⟩
theorem one_pcs {bs : List (Nat × Nat)} {ps : List Nat} (ha : ps.Pairwise (· < ·)) {l : List Nat} (hl : Pcs bs (mask ps) l) (h : l.length = 1) {p x : Nat} (hp : p ∈ ps) (hx : x ∈ ps) : Conn bs (· ∈ ps) p x := by
  obtain ⟨q, hR⟩ := hl.len1 h
  have hb := bit_mask ha
  have key : ∀ y, y ∈ ps → Conn bs (· ∈ ps) q y := fun y hy => by
    obtain ⟨z, hz, c⟩ := (hR y).mp (by rw [hb]; exact decide_eq_true hy)
    rw [Nat.testBit_two_pow, decide_eq_true_eq] at hz
    subst hz
    exact c.mono fun w hw => by
      have hw : (mask ps).testBit w = true := hw
      rwa [hb, decide_eq_true_eq] at hw
  exact (key p hp).symm.trans (key x hx)
/-- every part that hangs together can be grown place by place -/
theorem grown {bs : List (Nat × Nat)} {ps : List Nat} {p : Nat} (hp : p ∈ ps) (nd : ps.Nodup) (hc : ∀ x, x ∈ ps → Conn bs (· ∈ ps) p x) : ∀ k, k < ps.length → ∃ l : List Nat, l.length = k + 1 ∧ l.Nodup ∧ (∀ x, x ∈ l → x ∈ ps) ∧ p ∈ l ∧ ∀ x, x ∈ l → Conn bs (· ∈ l) p x
  | 0, _ => ⟨[p], rfl, by simp, fun x hx => by rw [List.mem_singleton.mp hx]; exact hp, by simp, fun x hx => by rw [List.mem_singleton.mp hx]; exact .refl (by simp)⟩
  | k + 1, hk => by
    obtain ⟨l, h1, h2, h3, h4, h5⟩ := grown hp nd hc k (by omega)
    -- a place beside it
    have hex : ∃ y z, y ∈ l ∧ z ∈ ps ∧ z ∉ l ∧ adj bs y z = true := by
      refine Classical.byContradiction fun hno => ?_
      have hall : ∀ x, x ∈ ps → x ∈ l := fun x hx => ((hc x hx).closed (T := (· ∈ l)) h4 fun y z hy hz a => Classical.byContradiction fun hz2 => hno ⟨y, z, hy, hz, hz2, a⟩).2
      have := sub_le nd hall
      omega
    obtain ⟨y, z, hy, hz, hzl, a⟩ := hex
    have hm : ∀ x, x ∈ l → x ∈ z :: l := fun x hx => List.mem_cons_of_mem _ hx
    refine ⟨z :: l, by rw [List.length_cons, h1], List.nodup_cons.mpr ⟨hzl, h2⟩, fun x hx => ?_, hm p h4, fun x hx => ?_⟩
    · rcases List.mem_cons.mp hx with e | e
      · rw [e]; exact hz
      · exact h3 x e
    · rcases List.mem_cons.mp hx with e | e
      · rw [e]
        exact .step ((h5 y hy).mono hm) a List.mem_cons_self
      · exact (h5 x e).mono hm
theorem mask_less {ps : List Nat} (ha : ps.Pairwise (· < ·)) {p : Nat} (hp : p ∈ ps) : mask (ps.filter fun x => decide (x ≠ p)) = mask ps ^^^ 2 ^ p := eq_of_bits fun q => by
  rw [bit_mask (ha.filter _), Nat.testBit_xor, bit_mask ha, Nat.testBit_two_pow, decide_eq_true_eq, List.mem_filter, decide_eq_true_eq]
  by_cases h1 : q ∈ ps <;> by_cases h2 : p = q
  · simp [h1, h2]
  · simp [h1, h2]; exact fun z => h2 z.symm
  · exact absurd (h2 ▸ hp) h1
  · simp [h1, h2]
/-- a lot that hangs together has a place, another than p, without which it hangs together -/
theorem other {bs : List (Nat × Nat)} {ps : List Nat} {p : Nat} (ha : ps.Pairwise (· < ·)) (hp : p ∈ ps) (hc : ∀ x, x ∈ ps → Conn bs (· ∈ ps) p x) (h2 : 2 ≤ ps.length) : ∃ v, v ∈ ps ∧ v ≠ p ∧ ∃ l, Pcs bs (mask ps ^^^ 2 ^ v) l ∧ l.length = 1 := by
  have nd : ps.Nodup := ha.imp fun h e => by omega
  obtain ⟨l, h1, hnd, h3, h4, h5⟩ := grown hp nd hc (ps.length - 2) (by omega)
  have hex : ∃ v, v ∈ ps ∧ v ∉ l := Classical.byContradiction fun hno => by
    have hall : ∀ x, x ∈ ps → x ∈ l := fun x hx => Classical.byContradiction fun h => hno ⟨x, hx, h⟩
    have := sub_le nd hall
    omega
  obtain ⟨v, hv, hvl⟩ := hex
  have hvp : v ≠ p := fun e => hvl (e ▸ h4)
  -- the others are l
  have hmem : ∀ x, x ∈ ps.filter (fun x => decide (x ≠ v)) → x ∈ l := fun x hx => Classical.byContradiction fun hxl => by
    rw [List.mem_filter, decide_eq_true_eq] at hx
    have nd3 : (x :: v :: l).Nodup := List.nodup_cons.mpr ⟨fun h => by
      rcases List.mem_cons.mp h with e | e
      · exact hx.2 e
      · exact hxl e, List.nodup_cons.mpr ⟨hvl, hnd⟩⟩
    have hall : ∀ y, y ∈ x :: v :: l → y ∈ ps := fun y hy => by
      rcases List.mem_cons.mp hy with e | e
      · rw [e]; exact hx.1
      · rcases List.mem_cons.mp e with e | e
        · rw [e]; exact hv
        · exact h3 y e
    have := sub_le nd3 hall
    simp only [List.length_cons] at this
    omega
  have hm2 : ∀ x, x ∈ l → x ∈ ps.filter (fun x => decide (x ≠ v)) := fun x hx => by
    rw [List.mem_filter, decide_eq_true_eq]
    exact ⟨h3 x hx, fun e => hvl (e ▸ hx)⟩
  refine ⟨v, hv, hvp, [mask (ps.filter fun x => decide (x ≠ v))], ?_, rfl⟩
  rw [← mask_less ha hv]
  exact pcs_one (ha.filter _) (hm2 p h4) fun x hx => (h5 x (hmem x hx)).mono hm2
theorem two_le {l : List Nat} {u v : Nat} (hu : u ∈ l) (hv : v ∈ l) (h : u ≠ v) : 2 ≤ l.length := by
  match l, hu, hv with
  | [], hu, _ => cases hu
  | [x], hu, hv => exact absurd ((List.mem_singleton.mp hu).trans (List.mem_singleton.mp hv).symm) h
  | _ :: _ :: _, _, _ => simp
/-- of a lot of two places at least that hangs together, two places at least are no cut places -/
theorem two_free {bs : List (Nat × Nat)} {ps l : List Nat} (ha : ps.Pairwise (· < ·)) (hl : Pcs bs (mask ps) l) (h1 : l.length = 1) (h2 : 2 ≤ ps.length) :
    2 ≤ ps.length - (ps.filter fun p => decide ((pcs bs (mask ps)).length < (pcs bs (mask ps ^^^ 2 ^ p)).length)).length := by
  have hn : ∃ p, p ∈ ps := by
    cases ps with
    | nil => cases h2
    | cons p r => exact ⟨p, List.mem_cons_self⟩
  obtain ⟨p, hp⟩ := hn
  obtain ⟨u, hu, _, lu, hlu, hlu1⟩ := other ha hp (fun x hx => one_pcs ha hl h1 hp hx) h2
  obtain ⟨v, hv, hvu, lv, hlv, hlv1⟩ := other ha hu (fun x hx => one_pcs ha hl h1 hu hx) h2
  have hsum := filt_sum (fun p => decide ((pcs bs (mask ps)).length < (pcs bs (mask ps ^^^ 2 ^ p)).length)) ps
  have m1 : ∀ w lw, w ∈ ps → Pcs bs (mask ps ^^^ 2 ^ w) lw → lw.length = 1 → w ∈ ps.filter (fun p => !decide ((pcs bs (mask ps)).length < (pcs bs (mask ps ^^^ 2 ^ p)).length)) := fun w lw hw hlw e => by
    rw [List.mem_filter]
    refine ⟨hw, ?_⟩
    rw [hl.eq, hlw.eq, h1, e]
    rfl
  have := two_le (m1 u lu hu hlu hlu1) (m1 v lv hv hlv hlv1) (fun e => hvu e.symm)
  omega
end Mk

set_option Elab.async false
set_option linter.all false
set_option maxRecDepth 100000
set_option maxHeartbeats 4000000
/-! My3: what pieces are: apart, all, each of them hanging together, by their least places. -/
namespace Mk
structure Parted (bs : List (Nat × Nat)) (m : Nat) (qs : List Nat) : Prop where
  all : ∀ x, m.testBit x = true ↔ ∃ q, q ∈ qs ∧ q.testBit x = true
  apart : qs.Pairwise fun a b => ∀ x, a.testBit x = true → b.testBit x = true → False
  asc : qs.Pairwise fun a b => ∃ x, a.testBit x = true ∧ ∀ y, b.testBit y = true → x < y
  one : ∀ q, q ∈ qs → ∃ x, q.testBit x = true ∧ ∀ y, q.testBit y = true → Conn bs (In q) x y
theorem Pcs.parted {bs : List (Nat × Nat)} {m : Nat} {qs : List Nat} (h : Pcs bs m qs) : Parted bs m qs := by
  induction h with
  | nil => exact ⟨fun x => by simp, .nil, .nil, fun q hq => nomatch hq⟩
  | @cons m q p l hq hlow hR hP ih =>
    have hsub := hR.sub
    have hqp : p.testBit q = true := (hR q).mpr ⟨q, by simp [Nat.testBit_two_pow], .refl hq⟩
    have hx := fun z => xor_sub hsub z
    have hin : ∀ r, r ∈ l → ∀ z, r.testBit z = true → m.testBit z = true ∧ p.testBit z = false := fun r hr z hz => (hx z).mp ((ih.all z).mpr ⟨r, hr, hz⟩)
    refine ⟨fun x => ?_, ?_, ?_, fun r hr => ?_⟩
    · constructor
      · intro hm
        cases hp : p.testBit x with
        | true => exact ⟨p, List.mem_cons_self, hp⟩
        | false =>
          obtain ⟨r, hr, hrx⟩ := (ih.all x).mp ((hx x).mpr ⟨hm, hp⟩)
          exact ⟨r, List.mem_cons_of_mem _ hr, hrx⟩
      · rintro ⟨r, hr, hrx⟩
        rcases List.mem_cons.mp hr with e | e
        · rw [e] at hrx; exact hsub x hrx
        · exact (hin r e x hrx).1
    · rw [List.pairwise_cons]
      refine ⟨fun r hr z h1 h2 => ?_, ih.apart⟩
      have := (hin r hr z h2).2
      rw [h1] at this
      cases this
    · rw [List.pairwise_cons]
      refine ⟨fun r hr => ⟨q, hqp, fun y hy => ?_⟩, ih.asc⟩
      obtain ⟨h1, h2⟩ := hin r hr y hy
      rcases Nat.lt_trichotomy q y with e | e | e
      · exact e
      · rw [← e, hqp] at h2; cases h2
      · rw [hlow y e] at h1; cases h1
    · rcases List.mem_cons.mp hr with e | e
      · subst e
        refine ⟨q, hqp, fun y hy => ?_⟩
        obtain ⟨z, hz, c⟩ := (hR y).mp hy
        rw [Nat.testBit_two_pow, decide_eq_true_eq] at hz
        subst hz
        refine (c.closed (T := In r) hqp fun a b ha hb2 ad => ?_).1
        obtain ⟨z, hz, c2⟩ := (hR a).mp ha
        exact (hR b).mpr ⟨z, hz, .step c2 ad hb2⟩
      · exact ih.one r e
/-- more borders, what hangs together still does -/
theorem Conn.more {bs bs' : List (Nat × Nat)} {S : Nat → Prop} {p q : Nat} (k : ∀ b, b ∈ bs → b ∈ bs') (h : Conn bs S p q) : Conn bs' S p q := by
  induction h with
  | refl h => exact .refl h
  | step _ a h2 ih =>
    refine .step ih ?_ h2
    unfold adj at a ⊢
    rw [List.contains_iff_mem] at a ⊢
    exact k _ a
end Mk

set_option Elab.async false
set_option linter.all false
set_option maxRecDepth 100000
set_option maxHeartbeats 4000000
/-! Ly: what the laws' own steps want: heaps that change at some lists alone; membership in tuples of data. -/
namespace Bx
open PySem PySem.Spec PyProof.Rows L2
section
variable {X : Cx}
def rInDT (K : PySem.W.Frag) (neg : Bool) : R2 := fun x y H Q => ∃ d ds, Dp K H x d ∧ Dp K H y (.tuple ds) ∧ SeqAt.shaped d = true ∧ SeqAt.shaped (.tuple ds) = true ∧ Q (.bl (neg ^^ (ds.any fun z => PyData.eqv z d))) H
theorem op_inDT (hu : X.A.units + 65 < cLine) : OpR X (compareOp .In) (rInDT X.K false) := by
  intro pins s σ H x y v u Q I rx ry h
  obtain ⟨d, ds, hd, he, sd, se, q⟩ := h
  obtain ⟨as, r1⟩ := Dp.reads I d x v hd rx
  obtain ⟨bs, r2⟩ := Dp.reads I (.tuple ds) y u he ry
  refine SeqAt.in_tuple_reads r2 r1 (SeqAt.canLay_of_shaped se) (SeqAt.canLay_of_shaped sd) (PyProof.Rows.room_in_shaped sd hu) ⟨.bl (ds.any fun y => y.eqv d), H, I, rfl, ?_⟩
  rw [Bool.false_xor] at q
  exact q
end
def isLs : HO → Prop
  | .lst _ => True
  | _ => False
/-- the heap has grown, tables and the lists at S may hold other things -/
structure ExtS (S : List Addr) (H H' : Hp) : Prop where
  keep : ∀ b o, H b = some o → ¬ isTbl o → (isLs o → b ∉ S) → H' b = some o
  tabs : ∀ P, Gx.TabG H P → Gx.TabG H' P
  live : ∀ b o, H b = some o → ∃ o', H' b = some o'
theorem ExtS.of {S : List Addr} {H H' : Hp} (x : Ext H H') : ExtS S H H' := ⟨fun b o e n _ => x.keep b o e n, x.tabs, x.live⟩
theorem ExtS.refl (S : List Addr) (H : Hp) : ExtS S H H := .of (.refl H)
theorem ExtS.trans {S : List Addr} {H H1 H2 : Hp} (a : ExtS S H H1) (b : ExtS S H1 H2) : ExtS S H H2 :=
  ⟨fun c o e n m => b.keep c o (a.keep c o e n m) n m, fun P t => b.tabs P (a.tabs P t), fun c o e => let ⟨o1, e1⟩ := a.live c o e; b.live c o1 e1⟩
theorem ExtS.new {S : List Addr} {H : Hp} {p : Addr} {o : HO} (h : H p = none) : ExtS S H (upd H p o) := .of (.new h)
theorem ExtS.free {S : List Addr} {H H' : Hp} (x : ExtS S H H') {p : Addr} (h : H' p = none) : H p = none := by
  cases e : H p with
  | none => rfl
  | some o =>
    obtain ⟨o', e'⟩ := x.live p o e
    rw [h] at e'
    cases e'
/-- a list of S, or one that was not there ahead, is written -/
theorem ExtS.write {S : List Addr} {H H' : Hp} {p : Addr} {o : HO} (x : ExtS S H H') (h : H p = none ∨ (p ∈ S ∧ ∃ xs, H p = some (.lst xs))) : ExtS S H (upd H' p o) := by
  refine ⟨fun b u e n m => ?_, fun Q hQ => ?_, fun b u e => ?_⟩
  · by_cases hb : b = p
    · subst hb
      rcases h with h | ⟨h1, xs, h2⟩
      · rw [h] at e; cases e
      · rw [h2] at e
        cases e
        exact absurd h1 (m trivial)
    · rw [upd_ne hb]
      exact x.keep b u e n m
  · obtain ⟨ps, e, k⟩ := x.tabs Q hQ
    obtain ⟨ps0, e0, _⟩ := hQ
    have hb : Q ≠ p := by
      intro e1
      subst e1
      rcases h with h | ⟨_, xs, h2⟩
      · rw [h] at e0; cases e0
      · rw [h2] at e0; cases e0
    exact ⟨ps, by rw [upd_ne hb]; exact e, k⟩
  · by_cases hb : b = p
    · exact ⟨o, by rw [hb, upd_same]⟩
    · rw [upd_ne hb]
      exact x.live b u e
theorem ExtS.rd {S : List Addr} {H H' : Hp} (x : ExtS S H H') {a : Addr} {u : HO} (n : ¬ isTbl u) (l : ¬ isLs u) (h : Rd H a u) : Rd H' a u := by
  rcases h with h | ⟨o, h⟩
  · exact .inl (x.keep a u h n fun z => absurd z l)
  · exact .inr ⟨o, x.keep a _ h (fun z => z) fun z => z.elim⟩
theorem ExtS.sqT {S : List Addr} {K : PySem.W.Frag} {H H' : Hp} (x : ExtS S H H') {a : Addr} {xs : List V} (h : SqT K H a xs) : SqT K H' a xs := h.elim (fun z => .inl (x.rd (fun z => z) (fun z => z) z)) .inr
theorem ExtS.lst {S : List Addr} {H H' : Hp} (x : ExtS S H H') {a : Addr} {xs : List V} (n : a ∉ S) (h : H a = some (.lst xs)) : H' a = some (.lst xs) := x.keep a _ h (fun z => z) fun _ => n
theorem ExtS.tup {S : List Addr} {H H' : Hp} (x : ExtS S H H') {a : Addr} {xs : List V} (h : H a = some (.tup xs)) : H' a = some (.tup xs) := x.keep a _ h (fun z => z) fun z => z.elim
theorem ExtS.dT {S : List Addr} {H H' : Hp} (x : ExtS S H H') {a : Addr} {xs : List (List L2.Key × V)} (h : H a = some (.dT xs)) : H' a = some (.dT xs) := x.keep a _ h (fun z => z) fun z => z.elim
mutual
/-- data without a list in it -/
def noL : PyData → Bool
  | .list _ => false
  | .tuple ds => noLs ds
  | _ => true
def noLs : List PyData → Bool
  | [] => true
  | d :: ds => noL d && noLs ds
end
theorem noLs_map {α : Type} (f : α → PyData) (h : ∀ x, noL (f x) = true) : ∀ xs : List α, noLs (xs.map f) = true
  | [] => rfl
  | x :: xs => by rw [List.map_cons, noLs, h, noLs_map f h xs]; rfl
mutual
theorem dp_extS {S : List Addr} {K : PySem.W.Frag} {H H' : Hp} (x : ExtS S H H') : ∀ {v : V} {d : PyData}, noL d = true → Dp K H v d → Dp K H' v d
  | _, _, _, .non => .non
  | _, _, _, .bl b => .bl b
  | _, _, _, .int i => .int i
  | _, _, _, .str z => .str z
  | _, _, n, .lst h hs => absurd n (by simp [noL])
  | _, _, n, .tup h hs => .tup (x.sqT h) (dpAll_extS x (by simpa [noL] using n) hs)
theorem dpAll_extS {S : List Addr} {K : PySem.W.Frag} {H H' : Hp} (x : ExtS S H H') : ∀ {vs : List V} {ds : List PyData}, noLs ds = true → DpAll K H vs ds → DpAll K H' vs ds
  | _, _, _, .nil => .nil
  | _, _, n, .cons h hs => .cons (dp_extS x (Bool.and_eq_true_iff.mp (by simpa [noLs] using n)).1 h) (dpAll_extS x (Bool.and_eq_true_iff.mp (by simpa [noLs] using n)).2 hs)
end
theorem depthAll_le {n : Nat} : ∀ {ds : List PyData}, (∀ d ∈ ds, d.depth ≤ n) → PyData.depthAll ds ≤ n
  | [], _ => by simp [PyData.depthAll]
  | d :: ds, h => by
    have ih := depthAll_le (n := n) (ds := ds) fun x hx => h x (List.mem_cons_of_mem _ hx)
    have h1 := h d List.mem_cons_self
    simp [PyData.depthAll]
    omega
theorem canLayAll_of : ∀ {ds : List PyData}, (∀ d ∈ ds, d.canLay0 = true) → PyData.canLayAll0 ds = true
  | [], _ => by simp [PyData.canLayAll0]
  | d :: ds, h => by
    have ih := canLayAll_of (ds := ds) fun x hx => h x (List.mem_cons_of_mem _ hx)
    have h1 := h d List.mem_cons_self
    simp [PyData.canLayAll0, ih, h1]
structure Sh (n : Nat) (d : PyData) : Prop where
  lay : d.canLay0 = true
  dep : d.depth ≤ n
theorem Sh.int (n : Nat) (i : Int) : Sh (n + 1) (.int i) := ⟨by simp [PyData.canLay0], by simp [PyData.depth]⟩
theorem Sh.tup {n : Nat} {ds : List PyData} (h : ∀ d ∈ ds, Sh n d) : Sh (n + 1) (.tuple ds) := ⟨by
  have := canLayAll_of fun d hd => (h d hd).lay
  simp [PyData.canLay0, this], by
  have := depthAll_le fun d hd => (h d hd).dep
  simp [PyData.depth]; omega⟩
theorem Sh.lst {n : Nat} {ds : List PyData} (h : ∀ d ∈ ds, Sh n d) : Sh (n + 1) (.list ds) := ⟨by
  have := canLayAll_of fun d hd => (h d hd).lay
  simp [PyData.canLay0, this], by
  have := depthAll_le fun d hd => (h d hd).dep
  simp [PyData.depth]; omega⟩
theorem Sh.shaped {n : Nat} {d : PyData} (h : Sh n d) (hn : n ≤ 64) : SeqAt.shaped d = true := by
  unfold SeqAt.shaped
  rw [h.lay, decide_eq_true (by have := h.dep; omega)]
  rfl
theorem Sh.ints {n : Nat} (xs : List Int) : Sh (n + 2) (.list (xs.map .int)) := .lst fun d hd => by
  obtain ⟨i, _, rfl⟩ := List.mem_map.mp hd
  exact .int _ i
theorem Sh.intsT {n : Nat} (xs : List Int) : Sh (n + 2) (.tuple (xs.map .int)) := .tup fun d hd => by
  obtain ⟨i, _, rfl⟩ := List.mem_map.mp hd
  exact .int _ i
theorem eqv_nil (xs : List PyData) : PyData.eqv (.list xs) (.list []) = xs.isEmpty := by
  cases xs <;> simp [PyData.eqv, PyData.eqvAll]
theorem eqv_nilT (xs : List PyData) : PyData.eqv (.tuple xs) (.tuple []) = xs.isEmpty := by
  cases xs <;> simp [PyData.eqv, PyData.eqvAll]
theorem via {T : TS} {D : L2.Ends} {σ : L2.St} {H : Hp} (Pz : L2.St → Hp → Prop) (h1 : ∀ σ H, Pz σ H → D.nx σ H) (h2 : ∀ nx : L2.St → Hp → Prop, (∀ σ H, Pz σ H → nx σ H) → T { D with nx := nx } σ H) : T D σ H := h2 D.nx h1
theorem u65 {k : Nat} {A : Around} (h : Room k A) : A.units + 65 < cLine := by
  have := h.un
  omega
theorem op_inDTK {X : Cx} {K : PySem.W.Frag} (h : X.K = K) (hu : X.A.units + 65 < cLine) : OpR X (compareOp .In) (rInDT K false) := h ▸ op_inDT hu
theorem op_inK {X : Cx} {K : PySem.W.Frag} (h : X.K = K) : OpR X (compareOp .In) (rIn K false) := h ▸ op_in_seq
theorem op_notInK {X : Cx} {K : PySem.W.Frag} (h : X.K = K) : OpR X (compareOp .NotIn) (rIn K true) := h ▸ op_notIn_seq
theorem op_neDK {X : Cx} {K : PySem.W.Frag} (h : X.K = K) (hu : X.A.units + 64 < cLine) : OpR X (compareOp .NotEq) (rNeD K) := h ▸ op_neD hu
theorem op_eqDK {X : Cx} {K : PySem.W.Frag} (h : X.K = K) (hu : X.A.units + 64 < cLine) : OpR X (compareOp .Eq) (rEqD K) := h ▸ op_eqD hu
theorem cr_sortedK {X : Cx} {K : PySem.W.Frag} (h : X.K = K) : CallR X (.builtin "sorted") (rSorted K) := h ▸ cr_sorted
theorem pe_tupleOfK {X : Cx} {K : PySem.W.Frag} {a : Expr} {ta : TE} {p pos : Pos} (h : X.K = K) (hg : Gl X "tuple") (hm : X.mg "tuple" = none) (ha : PE X a ta) (na : starEach [a] X.env = (false, eval a X.env) :: starEach [] X.env := by rfl) : PE X (.Call (.Name "tuple" p) [a] [] pos) (tThen ta (kTup K)) := h ▸ pe_tupleOf hg hm ha na
theorem pg_tupK {X : Cx} {K : PySem.W.Frag} {pos : Pos} {es : List Expr} {k : Nat} {t : TGs} {n : Nat} (h : X.K = K) (hc : X.calm = true) (ht : PGs X es t) (h1 : (assignEach es X.env).length = n := by rfl) (h2 : List.findIdx? (fun x => x.fst) (assignEach es X.env) = none := by rfl) : PG X (.Tuple es k pos) (L2.gTup K n t) := h ▸ pg_tup hc ht h1 h2
end Bx

set_option Elab.async false
set_option linter.all false
set_option maxRecDepth 100000
set_option maxHeartbeats 4000000
/-! Lz: a call with all arguments by name. -/
namespace Bx
open PySem PySem.Spec PyProof.Rows L2
section
variable {X : Cx} {CX : CXT} {k : Nat} {f : Addr} {fd : FuncData} {ps ks : List Str} {sp : Sp} {E : XK} {x : Str} {p pos : Pos} {kws : List Keyword} {tk : TA} {g : List Value → List Value → List Value} {gV : List V → List V → List V}
/-- f(k = v, ..) -/
theorem pe_callKO (F : FnOk X.prog X.w X.K X.mg X.base CX k f fd ps sp) (hr : Room k X.A) (hg : Gl X x) (hm : X.mg x = some (.ref f)) (hk : PySem.W.keepIn X.K (.ref f) = true) (hb : KBinds X.K fd ps ks g gV) (hx : Passes CX X E)
    (hkw : PK X kws tk) (hall : (backToKw pos (keywordEach kws X.env)).all (·.1.isSome) = true := by rfl) (hks : (backToKw pos (keywordEach kws X.env)).filterMap (·.1) = ks := by rfl)
    (hdb : (x == ("__debug__" : Str)) = false := by decide)
    (hpl : ((backTo pos (starEach [] X.env)).any (·.1) || (backToKw pos (keywordEach kws X.env)).any (·.1.isNone)) = false := by rfl) :
    PE X (.Call (.Name x p) [] kws pos) (tCallK sp gV E tNil tk) := by
  refine ⟨fun pins s σ H Q I h => ?_⟩
  refine wpAny_Call_Name_kw (ld_glob I hg hm ?_ hdb)
  refine PySem.W.callWith_KW0 (h₀ := X.base) I.ok.mod.kin hk hall ?_ hpl
  refine thn (hkw.run pos pins s σ H _ I h) fun ws s2 ⟨zs, H2, I2, rz, q2⟩ => ⟨I2.kIn, ?_⟩
  rw [hks]
  exact run_fnk F hr hb hx I2 .nil rz q2
end
structure CalK (P : Program) (w : World) (K : PySem.W.Frag) (mg : Str → Option Value) (base : Heap) (k : Nat) (x : Str) (ps ks : List Str) (g : {α : Type} → List α → List α → List α) (sp : Sp) : Prop where
  ex : ∃ (f : Addr) (fd : FuncData), FnOk P w K mg base CX0 k f fd ps sp ∧ mg x = some (.ref f) ∧ PySem.W.keepIn K (.ref f) = true ∧ KBinds K fd ps ks g g
section
variable {X : Cx} {k : Nat} {x : Str} {ps ks : List Str} {sp : Sp} {p pos : Pos} {kws : List Keyword} {tk : TA} {g : {α : Type} → List α → List α → List α}
theorem pe_calK (C : CalK X.prog X.w X.K X.mg X.base k x ps ks g sp) (hr : Room k X.A) (hg : Gl X x) (hkw : PK X kws tk) (hall : (backToKw pos (keywordEach kws X.env)).all (·.1.isSome) = true := by rfl) (hks : (backToKw pos (keywordEach kws X.env)).filterMap (·.1) = ks := by rfl)
    (hdb : (x == ("__debug__" : Str)) = false := by decide)
    (hpl : ((backTo pos (starEach [] X.env)).any (·.1) || (backToKw pos (keywordEach kws X.env)).any (·.1.isNone)) = false := by rfl) : PE X (.Call (.Name x p) [] kws pos) (tCallK sp g E0 tNil tk) := by
  obtain ⟨f, fd, h1, h2, h3, h4⟩ := C.ex
  exact pe_callKO h1 hr hg h2 h3 h4 pass0 hkw hall hks hdb hpl
end
/-- two arguments, named the other way about -/
def swp {α : Type} : List α → List α → List α
  | [], [b, a] => [a, b]
  | _, _ => []
theorem swp_rel {vs zs : List V} {us ws : List Value} (h1 : Vals vs us) (h2 : Vals zs ws) : Vals (swp vs zs) (swp us ws) := by
  cases h1 with
  | cons _ _ => exact .nil
  | nil =>
    cases h2 with
    | nil => exact .nil
    | cons a h3 =>
      cases h3 with
      | nil => exact .nil
      | cons b h4 =>
        cases h4 with
        | nil => exact .cons b (.cons a .nil)
        | cons _ _ => exact .nil
theorem pi_tupK {X : Cx} {K : PySem.W.Frag} {tg e : Expr} {td : TE} (h : X.K = K) (hd : PE X e td) : PI X tg e (iTup K td) := h ▸ pi_tup hd
theorem pi_listK {X : Cx} {K : PySem.W.Frag} {tg e : Expr} {td : TE} (h : X.K = K) (hd : PE X e td) : PI X tg e (iList K td) := h ▸ pi_list hd
end Bx

set_option Elab.async false
set_option linter.all false
set_option maxRecDepth 100000
set_option maxHeartbeats 4000000
/-! Tm: a tuple times nought or one. -/
namespace Bx
open PySem PySem.Spec PyProof.Rows L2
theorem tuple_mul1 (l : Addr) (items : Array Value) (n : Nat) (dd : Option Addr) (sl : Array (Option Value)) (x : Int) (u : Tok) (c0 : (decide (x < -(2 ^ 63)) || decide (x ≥ 2 ^ 63)) = false) (c1 : (items.isEmpty || x == 1) = true) :
    Meets (Builtin.«tuple.__mul__» ⟨[.ref l, .int x u], []⟩) (fun _ R s => s.heap.get? l = some { cls := .type "tuple", dict := dd, data := .seq items n, slots := sl } ∧ R (.ok (.ret (Value.ref l))) s) :=
  .of_wp fun prog w A R s h => by
    obtain ⟨hp, g, d, tk, os⟩ := s
    obtain ⟨hl, h⟩ := h
    have f1 := AutoSeq1.idx_int
    wp_walk using wpAny_loadPart' hl
    repeat (first
      | (refine wpAny_ite_false (decide_eq_false (by rw [c0]; exact Bool.false_ne_true)) ?_; wp_walk using wpAny_loadPart' hl)
      | (refine wpAny_ite_true (decide_eq_true c1) ?_; wp_walk using wpAny_loadPart' hl))
    exact ⟨_, rfl, h⟩
theorem tuple_mul0 (l : Addr) (items : Array Value) (n : Nat) (dd : Option Addr) (sl : Array (Option Value)) (x : Int) (u : Tok) (c0 : (decide (x < -(2 ^ 63)) || decide (x ≥ 2 ^ 63)) = false) (c1 : (items.isEmpty || x == 1) = false) (c2 : (decide (x ≤ 0) || items.isEmpty) = true) :
    Meets (Builtin.«tuple.__mul__» ⟨[.ref l, .int x u], []⟩) (fun _ R s => s.heap.get? l = some { cls := .type "tuple", dict := dd, data := .seq items n, slots := sl } ∧
      R (.ok (.ret (Value.ref s.heap.objs.size))) { s with heap := s.heap.push { cls := Value.type "tuple", data := Data.seq #[] }, toks := s.toks }) :=
  .of_wp fun prog w A R s h => by
    obtain ⟨hp, g, d, tk, os⟩ := s
    obtain ⟨hl, h⟩ := h
    have f1 := AutoSeq1.idx_int
    wp_walk using wpAny_loadPart' hl
    repeat (first
      | (refine wpAny_ite_false (decide_eq_false (by rw [c0]; exact Bool.false_ne_true)) ?_; wp_walk using wpAny_loadPart' hl)
      | (refine wpAny_ite_false (decide_eq_false (by rw [c1]; exact Bool.false_ne_true)) ?_; wp_walk using wpAny_loadPart' hl)
      | (refine wpAny_ite_true (decide_eq_true c2) ?_; wp_walk using wpAny_loadPart' hl))
    exact ⟨_, rfl, h⟩
def rRep01 (K : PySem.W.Frag) : R2 := fun x y H Q => ∃ l k xs, x = .ref l ∧ y = .int k ∧ SqT K H l xs ∧ xs ≠ [] ∧ ((k = 1 ∧ Q (.ref l) H) ∨ (k = 0 ∧ ∀ p, H p = none → Q (.ref p) (upd H p (.tup []))))
theorem op_rep01 {X : Cx} : OpR X (binaryOp .Mult) (rRep01 X.K) := by
  intro pins s σ H x y v u Q I rx ry h
  obtain ⟨l, k, xs, rfl, rfl, hT, hne, hk⟩ := h
  cases rx
  obtain ⟨t, rfl⟩ := ry
  obtain ⟨its, r, ⟨⟨cls, dd, data, sl⟩, ho, hc, n, hd⟩, hs⟩ := I.tuple hT
  simp only at hc hd
  subst hc hd
  have hle : its.length = xs.length := r.length.symm
  have hn : its ≠ [] := fun e => hne (by
    rw [e] at hle
    exact List.eq_nil_of_length_eq_zero hle.symm)
  have hi : its.toArray.isEmpty = false := by
    cases its with
    | nil => exact absurd rfl hn
    | cons a b => rfl
  rcases hk with ⟨rfl, q⟩ | ⟨rfl, q⟩
  · have c1 : (its.toArray.isEmpty || (1 : Int) == 1) = true := by rw [hi]; rfl
    refine wpAny_binaryOp_repeat_ref (T := "tuple") (U := "int") (by decide) ⟨_, ho, rfl⟩ (fun s' => typeIs_int s' 1 t) noFill_tuple_mul F.fills_int_mul F.slot_int_rmul repeat_tuple F.slot_int_index.lookup
      (call_meets F.slot_int_rmul (typeIs_int s 1 t) F.entry_int_rmul (F.args_int_rmul_2 _ _) (int_rmul_tuple 1 t l its.toArray n dd sl)
        ⟨ho, rfl, ⟨_, ho, rfl⟩, call_meets F.slot_tuple_mul ⟨_, ho, rfl⟩ F.entry_tuple_mul (F.args_tuple_mul_2 _ _) (tuple_mul1 l its.toArray n dd sl 1 t (by decide) c1) ⟨ho, ?_⟩⟩)
    exact ⟨.ref l, H, I, rfl, q⟩
  · have c1 : (its.toArray.isEmpty || (0 : Int) == 1) = false := by rw [hi]; rfl
    have c2 : (decide ((0 : Int) ≤ 0) || its.toArray.isEmpty) = true := by rw [hi]; rfl
    refine wpAny_binaryOp_repeat_ref (T := "tuple") (U := "int") (by decide) ⟨_, ho, rfl⟩ (fun s' => typeIs_int s' 0 t) noFill_tuple_mul F.fills_int_mul F.slot_int_rmul repeat_tuple F.slot_int_index.lookup
      (call_meets F.slot_int_rmul (typeIs_int s 0 t) F.entry_int_rmul (F.args_int_rmul_2 _ _) (int_rmul_tuple 0 t l its.toArray n dd sl)
        ⟨ho, rfl, ⟨_, ho, rfl⟩, call_meets F.slot_tuple_mul ⟨_, ho, rfl⟩ F.entry_tuple_mul (F.args_tuple_mul_2 _ _) (tuple_mul0 l its.toArray n dd sl 0 t (by decide) c1 c2) ⟨ho, ?_⟩⟩)
    refine ⟨.ref s.heap.objs.size, _, I.laid (t' := s.toks) (o := .tup []) (fun b ob q => Heap.get?_push_of_some _ q) (Nat.le_refl _) ?_, rfl, q _ (I.hok.fresh (Nat.le_refl _))⟩
    exact ⟨by show 0 ≤ sizeLine; exact Nat.zero_le _, _, .nil, IsTup.new _ _⟩
end Bx
namespace Gx
open PySem PySem.Spec PyProof.Rows L2 Bx
section
variable {J : It} {n : Nat} {it : Nat → V} {g : TG} {tt : TT} {te : TE} {vs : List Nat} {σg : L2.St} {H : Hp} {Q : VK}
/-- tuple(.. if ..), any target -/
theorem g_tupG {Pw : Nat → List V → Hp → Prop} (S : ∀ i ys, Src J n it (Pw i ys)) (hn : n ≤ sizeLine) (h0 : Pw 0 [] H) (len : ∀ i ys H, Pw i ys H → ys.length ≤ i)
    (step : ∀ i ys H, Pw i ys H → i < n → g (it i) σg H fun σ2 H2 => wipe σ2 vs = σg ∧ tt σ2 H2 fun b H3 => if b = true then te σ2 H3 fun v H4 => ys.length < sizeLine ∧ ∃ m', m' < n - i ∧ Pw (i + 1) (ys ++ [v]) H4 ∧ i + 1 ≤ n ∧ m' = n - (i + 1) else ∃ m', m' < n - i ∧ Pw (i + 1) ys H3 ∧ i + 1 ≤ n ∧ m' = n - (i + 1))
    (fin : ∀ ys H, Pw n ys H → ∀ p, H p = none → Q (.ref p) (upd H p (.tup ys))) :
    ∃ W : Nat → Nat → List V → Hp → Prop, (∃ m, W 0 m [] H) ∧ GTurn J g tt te vs σg pTup (fun ys H => ∀ p, H p = none → Q (.ref p) (upd H p (.tup ys))) W := by
  refine ⟨fun i m ys H => Pw i ys H ∧ i ≤ n ∧ m = n - i, ⟨n, h0, Nat.zero_le _, by omega⟩, fun i m ys H ⟨hp, hi, hm⟩ => ?_⟩
  by_cases e : i = n
  · subst e
    exact .inl ⟨(S i ys).stop H hp, fin ys H hp⟩
  · have hlt : i < n := by omega
    refine .inr ⟨(S i ys).go i H hp hlt, fun x H' y => ?_⟩
    obtain ⟨rfl, rfl⟩ := (S i ys).yld i H x H' hp hlt y
    subst hm
    exact step i ys H' hp hlt
end
end Gx

set_option Elab.async false
set_option linter.all false
set_option maxRecDepth 100000
set_option maxHeartbeats 4000000
/-! Tu: sets of tuples of ints as large as a table of 128 slots holds them (76): the library's own rule ends below 64. Hashes of the keys are unlike: a search asks one entry. -/
namespace Tu
open PySem PySem.Spec PyProof.Rows L2
section
variable {P : Program} {w : World} {A : Around} {E : Value → Shared → Prop} {s : Shared}
/-- a set of tuples on a heap, the tuples' objects aside -/
structure Lies (P : Program) (w : World) (h : Heap) (a : Addr) (L : List (Addr × List Int)) (es : Array (Int × Value)) (ep : Nat) (t : SetTable) : Prop where
  obj : ∃ o, h.get? a = some o ∧ o.ExactSet ∧ o.data = .set es ep t
  row : es.toList = rowsOf P w L
  tbl : TabOk t (L.map fun p => thash P w p.2)
  one : (L.map (·.2)).Nodup
  pln : t.plain = true
  ord : w.params.followText "set-order" = true ∨ t.led = true
  gap : L.length * 5 < t.mask * 3
theorem rows_num {L : List (Addr × List Int)} {es : Array (Int × Value)} (e : es.toList = rowsOf P w L) : es.size = L.length := by
  rw [← Array.length_toList, e, rowsOf, List.length_map]
theorem rows_ent {L : List (Addr × List Int)} {es : Array (Int × Value)} (e : es.toList = rowsOf P w L) {i : Nat} {p : Addr × List Int} (h : L[i]? = some p) : es[i]? = some (thash P w p.2, Value.ref p.1) := by
  rw [← Array.getElem?_toList, e, rowsOf, List.getElem?_map, h]
  rfl
variable {a : Addr} {L : List (Addr × List Int)} {es : Array (Int × Value)} {ep : Nat} {t : SetTable}
theorem fits_of (hz : t.place.size = es.size) (hd : t.dummies = #[]) (hm : es.size ≤ t.mask) : t.fits es.size = true := by
  unfold SetTable.fits SetTable.fill
  rw [hd, hz]
  simp [hm]
theorem Lies.plc (Z : Lies P w s.heap a L es ep t) : t.place.size = es.size := by
  rw [Z.tbl.sz, List.length_map, rows_num Z.row]
theorem Lies.num (Z : Lies P w s.heap a L es ep t) : L.length ≤ 76 := by
  have g := Z.gap
  rcases Z.tbl.mok with e | e | e <;> rw [e] at g <;> omega
theorem Lies.fit (Z : Lies P w s.heap a L es ep t) : t.fits es.size = true :=
  fits_of Z.plc Z.tbl.dm (by have := Z.gap; have := rows_num Z.row; omega)

/-! ### a search -/
theorem seek (Z : Lies P w s.heap a L es ep t) (tt : ∀ p ∈ L, IsT P w s.heap p.2 p.1) {x : Addr} {k : List Int} (hx : IsT P w s.heap k x) (hu : A.units < cLine)
    (inj : ∀ p ∈ L, thash P w p.2 = thash P w k → p.2 = k) {Q : SetFound → Shared → Prop} (yes : k ∈ L.map (·.2) → Q (.there none) s)
    (no : ∀ K, k ∉ L.map (·.2) → way t.mask (thash P w k) K ∉ t.place.toList → (∀ c, c < K → way t.mask (thash P w k) c ∈ t.place.toList) → Q (.free (way t.mask (thash P w k) K) false) s) :
    wpAny (model P w) A (setSearch a (.ref x) (thash P w k) true) Q E s := by
  obtain ⟨o, ho, hex, hd⟩ := Z.obj
  obtain ⟨K, f1, f2, f3⟩ := Z.tbl.first (by have := Z.gap; rw [List.length_map]; omega) (thash P w k)
  unfold setSearch
  show wpAny (model P w) A (setSearchFrom a (.ref x) (thash P w k) true (99999 + 1) none) Q E s
  rw [setSearchFrom_succ]
  refine wpAny_bind (wpAny_setState_of ho hd Z.fit ?_)
  dsimp only
  refine wp_if_neg (by unfold SetTable.gaveWay; rw [mask_odd Z.tbl.mok]; decide) ?_
  try refine wpAny_bind (wpAny_pure ?_)
  have word := go_spec t Z.tbl.ris Z.tbl.dm (fun i => (es[i]?.map (·.1)).getD 0) (thash P w k) (10 * SetTable.turns t.mask) K (t.probeStart (thash P w k)) rfl f1 f3 f2
  rcases word with ⟨q, i, hq, hi, hh, -, pr⟩ | ⟨hn, pr⟩
  · have pr2 : t.probe (fun i => (es[i]?.map (·.1)).getD 0) (thash P w k) ((none : Option SetTable.Probe).getD (t.probeStart (thash P w k))) = _ := pr
    rw [pr2]
    dsimp only
    have hil : i < L.length := by
      have z := (List.getElem?_eq_some_iff.mp hi).1
      rw [Array.length_toList, Z.plc, rows_num Z.row] at z
      exact z
    have hL := List.getElem?_eq_getElem hil
    have hmem := List.getElem_mem hil
    generalize L[i] = p at hL hmem
    have hent := rows_ent Z.row hL
    have hkey : p.2 = k := inj p hmem (by
      simp only [hent] at hh
      exact hh)
    have last : wpAny (model P w) A (searchRest a (.ref x) (thash P w k) true 99999 es t (nth t.mask (t.probeStart (thash P w k)) q).j i (nth t.mask (t.probeStart (thash P w k)) (q + 1))) Q E s := by
      unfold searchRest
      rw [hent]
      refine wpAny_bind (wpAny_holding (wpAny_eqBool_tuple hu (tt p hmem) hx ?_))
      refine wpAny_bind (wpAny_setState_of ho hd Z.fit ?_)
      exact wp_if_pos (by simp [hkey]) (wpAny_pure (yes (List.mem_map.mpr ⟨p, hmem, hkey⟩)))
    cases hl : t.led with
    | true =>
      refine wp_if_neg (by simp) ?_
      try refine wpAny_bind (wpAny_pure ?_)
      exact last
    | false =>
      refine wp_if_pos (by simp) (wpAny_bind (seen_tup hx (fun y hy => ?_) ?_))
      · obtain ⟨e, he, rfl⟩ := List.mem_map.mp hy
        have h1 : e ∈ es.toList := by
          have z : e ∈ es ∧ e.1 = thash P w k := by simpa using he
          simpa using z.1
        rw [Z.row] at h1
        obtain ⟨p2, hp2, rfl⟩ := List.mem_map.mp h1
        exact ⟨p2.2, p2.1, rfl, tt p2 hp2⟩
      · refine wp_if_neg Bool.false_ne_true ?_
        try refine wpAny_bind (wpAny_pure ?_)
        exact last
  · have pr2 : t.probe (fun i => (es[i]?.map (·.1)).getD 0) (thash P w k) ((none : Option SetTable.Probe).getD (t.probeStart (thash P w k))) = _ := pr
    rw [pr2]
    refine wpAny_pure (no K (fun hm => ?_) f2 f3)
    obtain ⟨p, hp, hk⟩ := List.mem_map.mp hm
    obtain ⟨i, hi, rfl⟩ := List.getElem_of_mem hp
    have hL := List.getElem?_eq_getElem hi
    have hil : i < t.place.toList.length := by
      rw [Array.length_toList, Z.plc, rows_num Z.row]
      exact hi
    have hj := List.getElem?_eq_getElem hil
    obtain ⟨c, hc, e⟩ := Z.tbl.before f2 (h := thash P w k) (by rw [List.getElem?_map, hL, ← hk]; rfl) hj
    refine hn c i hc (by rw [hj, ← e]; rfl) ?_
    simp only [rows_ent Z.row hL]
    exact congrArg (thash P w) hk

/-! ### a larger table -/
theorem regrow {o : Obj} (ho : s.heap.get? a = some o) (hex : o.ExactSet) (hd : o.data = .set es ep t) (hr : es.toList = rowsOf P w L) (hz : t.place.size = es.size) (hdm : t.dummies = #[]) (hm : es.size ≤ t.mask)
    (nd : (L.map (·.2)).Nodup) (hp : t.plain = true) (hl : w.params.followText "set-order" = true ∨ t.led = true) {want M : Nat} (hw : SetTable.sizeAbove want = M + 1) (hM : MaskOk M) (hg : L.length * 5 < M * 3) {Q : Unit → Shared → Prop}
    (hQ : ∀ h' L' es' ep' t', Heap.SameBut a s.heap h' → Lies P w h' a L' es' ep' t' → L'.Perm L → Q () { s with heap := h' }) : wpAny (model P w) A (setRelay a want) Q E s := by
  have hn := rows_num hr
  have hM2 : M ≤ 127 := by rcases hM with e | e | e <;> omega
  obtain ⟨t', order, e1, e2, e3, e4, e5, e6, -⟩ := relaid_ok t (hs := es.map (·.1)) (wanted := want) (by rw [hw]; rfl) hM (by rw [Array.size_map, hn]; omega)
  rw [Array.size_map, hn] at e2
  obtain ⟨N, r1, r2, r3⟩ := order_rows L es order hr e2
  rw [← r3] at e3
  have hs2 : (order.filterMap (es[·]?)).size = es.size := by rw [rows_num r1, r2.length_eq, hn]
  rw [setRelay_eq]
  refine wpAny_bind (wpAny_setState_of ho hd (fits_of hz hdm hm) ?_)
  dsimp only
  refine wp_if_neg (by rw [hw, sizeLine_eq]; omega) ?_
  try refine wpAny_bind (wpAny_pure ?_)
  rw [e1]
  dsimp only
  refine wpAny_bind (wp_if_neg (by rw [hs2]; simp) ?_)
  try refine wpAny_bind (wpAny_pure ?_)
  refine wpAny_pure (wpAny_storeSet_of ho hd ?_ (by rw [hs2, hn, sizeLine_eq]; omega))
  refine hQ _ N (order.filterMap (es[·]?)) (ep + 1) t' (Heap.SameBut.update ..) ⟨⟨_, store_at ho hd, ⟨hex.1, hex.2.1, hex.2.2⟩, rfl⟩, r1, e3, (r2.map (·.2)).nodup_iff.mpr nd, by rw [e6]; exact hp, by rw [e5]; exact hl, ?_⟩ r2
  rw [r2.length_eq, e4]
  exact hg

/-! ### one more -/
theorem put_in (Z : Lies P w s.heap a L es ep t) (tt : ∀ p ∈ L, IsT P w s.heap p.2 p.1) {x : Addr} {k : List Int} (hx : IsT P w s.heap k x) (hu : A.units < cLine)
    (inj : ∀ p ∈ L, thash P w p.2 = thash P w k → p.2 = k) (few : k ∉ L.map (·.2) → L.length < 76) {Q : Bool → Shared → Prop}
    (old : k ∈ L.map (·.2) → Q false s) (new : k ∉ L.map (·.2) → ∀ h' N es' ep' t', Heap.SameBut a s.heap h' → Lies P w h' a N es' ep' t' → N.Perm ((x, k) :: L) → Q true { s with heap := h' }) :
    wpAny (model P w) A (setAddHashed a (.ref x) (thash P w k)) Q E s := by
  obtain ⟨o, ho, hex, hd⟩ := Z.obj
  have hn := rows_num Z.row
  unfold setAddHashed
  refine wpAny_holding ?_
  show wpAny (model P w) A (setAddHashedIn a (.ref x) (thash P w k) (99999 + 1)) Q E s
  rw [setAddHashedIn_succ]
  refine wpAny_bind (wpAny_setState_of ho hd Z.fit ?_)
  dsimp only
  refine wp_if_neg (by simp [byScan, Value.scannable]) ?_
  try refine wpAny_bind (wpAny_pure ?_)
  refine wpAny_bind (seek Z tt hx hu inj (fun h => wpAny_pure (old h)) fun K hk n1 n2 => ?_)
  have few := few hk
  have put := Z.tbl.put n1 n2
  generalize way t.mask (thash P w k) K = at_ at put ⊢
  dsimp only
  refine wpAny_bind (wpAny_setState_of ho hd Z.fit ?_)
  dsimp only
  obtain ⟨u1, u2, u3, u4, u5, u6, -, -, u9⟩ := put
  have pl : (t.put at_).1.plain = true := by rw [u6]; exact Z.pln
  have od : w.params.followText "set-order" = true ∨ (t.put at_).1.led = true := by rw [u5]; exact Z.ord
  have h1 : (SetTable.insertAt es (SetTable.below t.place at_) (thash P w k, Value.ref x)).toList = rowsOf P w (L.take (SetTable.below t.place at_) ++ (x, k) :: L.drop (SetTable.below t.place at_)) := by
    rw [SetTable.toList_insertAt, rows_put, Z.row]
  have h2 := put_perm L (SetTable.below t.place at_) (x, k)
  have h3 : (L.map fun p => thash P w p.2).take (SetTable.below t.place at_) ++ thash P w k :: (L.map fun p => thash P w p.2).drop (SetTable.below t.place at_) = (L.take (SetTable.below t.place at_) ++ (x, k) :: L.drop (SetTable.below t.place at_)).map fun p => thash P w p.2 := by
    simp [List.map_take, List.map_drop]
  rw [h3] at u3
  clear h3
  rw [List.length_map] at u9
  generalize t.put at_ = pt at u1 u3 u4 u5 u6 u9 pl od ⊢
  obtain ⟨t1, b⟩ := pt
  dsimp only at u1 u3 u4 u5 u6 u9 pl od ⊢
  subst u1
  generalize SetTable.insertAt es (SetTable.below t.place at_) (thash P w k, Value.ref x) = es1 at h1 ⊢
  generalize L.take (SetTable.below t.place at_) ++ (x, k) :: L.drop (SetTable.below t.place at_) = N at h1 h2 u3
  have hN : N.length = L.length + 1 := h2.length_eq
  have he1 : es1.size = L.length + 1 := by rw [rows_num h1, hN]
  have nd : (N.map (·.2)).Nodup := by
    rw [(h2.map (·.2)).nodup_iff]
    exact List.nodup_cons.mpr ⟨hk, Z.one⟩
  first
    | (refine wpAny_bind ?_; refine wp_if_pos pl ?_; refine hashBy_tup hx ?_)
    | refine wp_if_pos pl (wpAny_bind (hashBy_tup hx ?_))
  simp only [if_true]
  refine wpAny_bind (wpAny_storeSet_of ho hd ?_ (by rw [he1, sizeLine_eq]; omega))
  have sb : Heap.SameBut a s.heap (s.heap.update a (Obj.putSet es1 t1)) := Heap.SameBut.update ..
  have ho1 := store_at (es' := es1) (t' := t1) ho hd
  generalize s.heap.update a (Obj.putSet es1 t1) = g1 at sb ho1 ⊢
  have gap := Z.gap
  cases hf : t1.tooFull with
  | false =>
    first
      | refine wp_if_neg (by simp) ?_
      | (refine wpAny_bind ?_; refine wp_if_neg (by simp) ?_; refine wpAny_pure ?_)
    refine wpAny_pure (new hk g1 N es1 (ep + 1) t1 sb ⟨⟨_, ho1, ⟨hex.1, hex.2.1, hex.2.2⟩, rfl⟩, h1, u3, nd, pl, od, ?_⟩ h2)
    unfold SetTable.tooFull at hf
    rw [decide_eq_false_iff_not, u9] at hf
    omega
  | true =>
    unfold SetTable.tooFull at hf
    rw [decide_eq_true_eq, u9, u4] at hf
    have two : (t.mask = 7 ∧ L.length = 4) ∨ (t.mask = 31 ∧ L.length = 18) := by
      rcases Z.tbl.mok with e | e | e
      · exact .inl ⟨e, by omega⟩
      · exact .inr ⟨e, by omega⟩
      · omega
    have hz1 : t1.place.size = es1.size := by rw [u3.sz, List.length_map, hN, he1]
    have grow : ∃ M, SetTable.sizeAbove (SetTable.grown (es.size + 1)) = M + 1 ∧ MaskOk M ∧ N.length * 5 < M * 3 := by
      rw [hn, hN]
      rcases two with ⟨_, e⟩ | ⟨_, e⟩ <;> rw [e]
      · exact ⟨31, size_20, .inr (.inl rfl), by decide⟩
      · exact ⟨127, size_76, .inr (.inr rfl), by decide⟩
    obtain ⟨M, g2, g3, g4⟩ := grow
    have go : wpAny (model P w) A (setRelay a (SetTable.grown (es.size + 1))) (fun _ s' => wpAny (model P w) A (pure true) Q E s') E { s with heap := g1 } :=
      regrow (s := { s with heap := g1 }) ho1 ⟨hex.1, hex.2.1, hex.2.2⟩ rfl h1 hz1 u3.dm (by rw [he1, u4]; rcases two with ⟨e, e2⟩ | ⟨e, e2⟩ <;> omega) nd pl od g2 g3 g4 fun h' N' es' ep' t' sb2 Z2 pm =>
        wpAny_pure (new hk h' N' es' ep' t' (sb.trans sb2) Z2 (pm.trans h2))
    first
      | (refine wpAny_bind ?_; refine wp_if_pos (by simp) ?_; exact go)
      | (refine wp_if_pos (by simp) ?_; refine wpAny_bind ?_; exact go)
end
end Tu

set_option Elab.async false
set_option linter.all false
set_option maxRecDepth 100000
set_option maxHeartbeats 4000000
/-! Tu2: set(xs) of a list of tuples, sorted of it. -/
namespace Tu
open PySem PySem.Spec PyProof.Rows L2
/-- the keys that may come: not too many, of unlike hashes -/
structure Dom (P : Program) (w : World) (D : List (List Int)) : Prop where
  few : D.length ≤ 76
  inj : ∀ k, k ∈ D → ∀ m, m ∈ D → thash P w k = thash P w m → k = m
theorem len_sub {α : Type} [DecidableEq α] : ∀ {l D : List α}, l.Nodup → (∀ x, x ∈ l → x ∈ D) → l.length ≤ D.length
  | [], _, _, _ => Nat.zero_le _
  | x :: l, D, n, h => by
    have n' := List.nodup_cons.mp n
    have hx := h x List.mem_cons_self
    have q := len_sub (D := D.erase x) n'.2 fun y hy => (List.mem_erase_of_ne (fun e => n'.1 (by rw [← e]; exact hy))).mpr (h y (List.mem_cons_of_mem _ hy))
    rw [List.length_erase_of_mem hx] at q
    have := List.length_pos_of_mem hx
    rw [List.length_cons]
    omega
section
variable {P : Program} {w : World} {A : Around} {E : Value → Shared → Prop} {s : Shared}
theorem Lies.on {h h' : Heap} {a : Addr} {L : List (Addr × List Int)} {es : Array (Int × Value)} {ep : Nat} {t : SetTable} (Z : Lies P w h a L es ep t) (k : ∀ o, h.get? a = some o → h'.get? a = some o) : Lies P w h' a L es ep t :=
  ⟨let ⟨o, h1, h2⟩ := Z.obj; ⟨o, k o h1, h2⟩, Z.row, Z.tbl, Z.one, Z.pln, Z.ord, Z.gap⟩
/-- the set at S has what the first i items of ks are; what stood at h0 stands -/
structure Stage (P : Program) (w : World) (D : List (List Int)) (ks : List (Addr × List Int)) (S : Addr) (h0 : Heap) (i : Nat) (h : Heap) : Prop where
  old : ∀ b o, h0.get? b = some o → h.get? b = some o
  set_ : ∃ L es ep t, Lies P w h S L es ep t ∧ Got ks i L
/-- what stays over all steps -/
structure Base (P : Program) (w : World) (D : List (List Int)) (ks : List (Addr × List Int)) (S : Addr) (h0 : Heap) : Prop where
  dom : Dom P w D
  tup : ∀ p ∈ ks, IsT P w h0 p.2 p.1
  sub : ∀ p ∈ ks, p.2 ∈ D
  new : h0.get? S = none
variable {D : List (List Int)} {ks : List (Addr × List Int)} {S : Addr} {h0 : Heap} {i : Nat}
theorem Stage.moved {h h' : Heap} (B : Base P w D ks S h0) (Z : Stage P w D ks S h0 i h) (k1 : ∀ o, h.get? S = some o → h'.get? S = some o) (k2 : ∀ b o, h0.get? b = some o → h.get? b = some o → h'.get? b = some o) : Stage P w D ks S h0 i h' :=
  ⟨fun b o e => k2 b o e (Z.old b o e), let ⟨L, es, ep, t, z, g⟩ := Z.set_; ⟨L, es, ep, t, z.on k1, g⟩⟩
theorem stage_add (B : Base P w D ks S h0) (Z : Stage P w D ks S h0 i s.heap) {p : Addr × List Int} (hp : ks[i]? = some p) (hu : A.units < cLine) {Q : Bool → Shared → Prop}
    (hQ : ∀ b h' tk, Heap.SameBut S s.heap h' → Stage P w D ks S h0 (i + 1) h' → s.toks ≤ tk → Q b { s with heap := h', toks := tk }) : wpAny (model P w) A (setAdd S (.ref p.1)) Q E s := by
  obtain ⟨L, es, ep, t, z, g⟩ := Z.set_
  have hin := List.mem_of_getElem? hp
  have up : ∀ {k b}, IsT P w h0 k b → IsT P w s.heap k b := fun x => isT_keep x Z.old
  have inL : ∀ q ∈ L, q ∈ ks := fun q hq => List.mem_of_mem_take (g.sub q hq)
  have hx := up (B.tup p hin)
  have keep : ∀ h', Heap.SameBut S s.heap h' → ∀ b o, h0.get? b = some o → h'.get? b = some o := fun h' sb b o e => by
    refine (sb.2 b fun q => ?_).trans (Z.old b o e)
    rw [q, B.new] at e
    cases e
  unfold setAdd
  refine wpAny_holding (wpAny_bind (wpAny_pyHash_tuple hu hx ?_))
  refine put_in (s := { s with toks := s.toks + (p.2.length + 1) }) z (fun q hq => up (B.tup q (inL q hq))) hx hu (fun q hq e => B.dom.inj _ (B.sub q (inL q hq)) _ (B.sub p hin) e) (fun hm => ?_) (fun hm => ?_) fun hm h' N es' ep' t' sb z' pm => ?_
  · have q := len_sub (l := p.2 :: L.map (·.2)) (D := D) (List.nodup_cons.mpr ⟨hm, z.one⟩) fun k hk => by
      rcases List.mem_cons.mp hk with e | e
      · exact e ▸ B.sub p hin
      · obtain ⟨r, hr, e2⟩ := List.mem_map.mp e
        exact e2 ▸ B.sub r (inL r hr)
    have := B.dom.few
    rw [List.length_cons, List.length_map] at q
    omega
  · exact hQ false s.heap _ (.refl S s.heap) ⟨Z.old, L, es, ep, t, z, g.same hp hm⟩ (Nat.le_add_right _ _)
  · exact hQ true h' _ sb ⟨keep h' sb, N, es', ep', t', z', g.more hp pm⟩ (Nat.le_add_right _ _)

/-! ### the loop of set.update -/
theorem fill {I : Addr} {fp wr : List Addr} {G : Array GenState → Array GenState → Prop} {Pv : Nat → Value → Prop} {St : Nat → Shared → Prop} {R : Result → Shared → Prop}
    (W : WalksS P w A.in1 I fp wr G ks.length Pv St) (B : Base P w D ks S h0) (hS : S ∉ fp) (val : ∀ i v, Pv i v → ∃ p, ks[i]? = some p ∧ v = .ref p.1) (hw : ∀ b ∈ wr, h0.get? b = none) (hu : A.in1.units < cLine) (m : Nat) :
    ∀ (i : Nat) (s : Shared), i + m = ks.length → St i s → Stage P w D ks S h0 i s.heap → (∀ s', Moved (S :: wr) G s s' → Stage P w D ks S h0 ks.length s'.heap → R (.ok (.ret .none)) s') →
      codeAny (model P w) A (.builtin "set.update.loop" ⟨[.ref S, .ref I], []⟩) R s := by
  have nS : S ∉ wr := fun h => hS (W.sub _ h)
  have wide : ∀ b ∈ wr, b ∈ S :: wr := fun b => List.mem_cons_of_mem S
  have over : ∀ {s s' : Shared} {i : Nat}, Moved wr G s s' → Stage P w D ks S h0 i s.heap → Stage P w D ks S h0 i s'.heap := fun mv z =>
    z.moved B (fun o e => mv.heap S o nS e) fun b o e1 e2 => mv.heap b o (fun hb => by rw [hw b hb] at e1; cases e1) e2
  induction m with
  | zero =>
    intro i s hm hst z hR
    obtain rfl : i = ks.length := by omega
    refine codeAny_builtin F.entry_set_update_loop (by
      rw [Around.under_plainId F.plain_set_update_loop _]
      exact (show wpAny _ A.in1 (pyNext (.ref I) >>= _) _ _ s from wpAny_bind (W.done s _ _ hst fun s' mv => wpAny_pure (hR s' (mv.mono wide) (over mv z)))))
  | succ m ih =>
    intro i s hm hst z hR
    refine codeAny_builtin F.entry_set_update_loop ?_
    rw [Around.under_plainId F.plain_set_update_loop _]
    refine (show wpAny _ A.in1 (pyNext (.ref I) >>= _) _ _ s from wpAny_bind (W.item i s _ _ (by omega) hst fun v s' hv hst' mv => ?_))
    obtain ⟨p, hp, rfl⟩ := val i v hv
    refine (show wpAny _ A.in1 (holding [Value.ref p.1] (setAdd S (.ref p.1)) >>= _) _ _ s' from wpAny_bind (wpAny_holding (stage_add B (over mv z) hp hu fun b h' tk sb z' ht => ?_)))
    have other : ∀ c, c ≠ S → h'.get? c = s'.heap.get? c := fun c hc => sb.2 c hc
    refine wpAny_pure ⟨plainId_quiet F.plain_set_update_loop _, ih (i + 1) _ (by omega) (W.frame _ s' _ _ hst' ht fun c hc o e => ?_) z' fun s'' mv2 z2 => hR s'' (Moved.trans W.gtrans ((mv.mono wide).then_heap ht fun c o hc e => ?_) mv2) z2⟩
    · exact (other c fun q => hS (q ▸ hc)).trans e
    · exact (other c fun q => hc (q ▸ List.mem_cons_self)).trans e
end
end Tu

set_option Elab.async false
set_option linter.all false
set_option maxRecDepth 100000
set_option maxHeartbeats 4000000
/-! Tu3: the call set(xs) and sorted of that set, as rules of the layer. -/
namespace Tu
open PySem PySem.Spec PyProof.Rows L2
section
variable {P : Program} {w : World} {A : Around} {E : Value → Shared → Prop} {s : Shared} {D : List (List Int)} {ks : List (Addr × List Int)}
/-- a set as it is made -/
abbrev bare (w : World) : Obj := { cls := .type "set", dict := none, data := .set #[] 0 (.fresh 0 0 (!w.params.followText "set-order")) }
theorem bare_lies {h : Heap} {a : Addr} (e : h.get? a = some (bare w)) : Lies P w h a [] #[] 0 (.fresh 0 0 (!w.params.followText "set-order")) := by
  refine ⟨⟨_, e, ⟨rfl, rfl, rfl⟩, rfl⟩, rfl, ⟨.nil, rfl, rfl, .inl rfl, (fun x hx => nomatch hx), (fun i h j hi => nomatch hi)⟩, .nil, rfl, ?_, by show 0 * 5 < 7 * 3; decide⟩
  show _ ∨ (!w.params.followText "set-order") = true
  cases w.params.followText "set-order"
  · exact .inr rfl
  · exact .inl rfl
theorem val_at {items : Array Value} (e : items.toList = ks.map fun p => Value.ref p.1) (i : Nat) (v : Value) (h : items[i]? = some v) : ∃ p, ks[i]? = some p ∧ v = .ref p.1 := by
  rw [← Array.getElem?_toList, e, List.getElem?_map, Option.map_eq_some_iff] at h
  obtain ⟨p, h1, h2⟩ := h
  exact ⟨p, h1, h2.symm⟩
theorem beyond {h : Heap} {b : Addr} (hb : h.objs.size ≤ b) : h.get? b = none := by
  cases q : h.get? b with
  | none => rfl
  | some o => exact absurd (Heap.lt_size q) (Nat.not_lt.mpr hb)
/-- set.__init__ of the list, the bare set at the heap's end -/
theorem init_list {l : Addr} {items : Array Value} (hh : A.handled = none) (hl : s.heap.IsList l items) (hit : items.toList = ks.map fun p => Value.ref p.1) (hk : ∀ p ∈ ks, IsT P w s.heap p.2 p.1) (dm : Dom P w D) (hD : ∀ p ∈ ks, p.2 ∈ D) (hu : A.units + 1 < cLine)
    {R : PySem.Fin → Shared → Prop} (h : ∀ h' tk, Stage P w D ks s.heap.objs.size s.heap ks.length h' → R (.done (.ret .none)) { s with heap := h', toks := tk }) :
    wpAny (model P w) A (Builtin.«set.__init__» ⟨[.ref s.heap.objs.size, .ref l], []⟩) R E { s with heap := s.heap.push (bare w) } := by
  have fresh : s.heap.get? s.heap.objs.size = none := beyond (Nat.le_refl _)
  have at0 : (s.heap.push (bare w)).get? s.heap.objs.size = some (bare w) := Heap.get?_push_size _ rfl
  have size : (s.heap.push (bare w)).objs.size = s.heap.objs.size + 1 := Heap.size_push ..
  have kind : Shared.TypeIs { s with heap := s.heap.push (bare w) } (.ref s.heap.objs.size) "set" := ⟨_, at0, rfl⟩
  obtain ⟨⟨cl, dc, dt, sl⟩, lo, rfl, n, rfl⟩ := hl
  have llt := Heap.lt_size lo
  have lo1 := Heap.get?_push_of_some (bare w) lo
  have list1 : (s.heap.push (bare w)).IsList l items := ⟨_, lo1, rfl, n, rfl⟩
  have no1 := F.sub_list_set
  have no2 := F.sub_list_frozenset
  have no3 : (Value.type "list" == Value.type "dict") = false := by decide
  unfold Builtin.«set.__init__» noKeywords Builtin.Frozenset.updateFrom
  generalize eI : pyIter = it
  wp_walk
  subst eI
  refine wpAny_pyIter_list list1 (wpAny_bind (wpAny_runValue ?_))
  have ne1 : l ≠ (s.heap.push (bare w)).objs.size := by rw [size]; exact Nat.ne_of_lt (Nat.lt_succ_of_lt llt)
  have num : items.size = ks.length := by rw [← Array.length_toList, hit, List.length_map]
  have W := (Walks.list (prog := P) (w := w) (A := A.in1) (by simp [hh]) (s.heap.push (bare w)).objs.size l ne1 items).toS
  rw [num] at W
  have B : Base P w D ks s.heap.objs.size s.heap := ⟨dm, hk, hD, fresh⟩
  refine fill W B (fun q => by rw [size] at q; rcases List.mem_cons.mp q with q | q; exact absurd q (Nat.ne_of_lt (Nat.lt_succ_self _)); exact absurd (List.mem_singleton.mp q) (Nat.ne_of_gt llt)) (val_at hit) (fun b hb => beyond (by rw [List.mem_singleton.mp hb, size]; exact Nat.le_succ _)) hu ks.length 0 _ (Nat.zero_add _) ⟨⟨_, Heap.get?_push_size _ rfl, rfl, rfl⟩, list1.push _⟩
    ⟨fun b o e => Heap.get?_push_of_some _ (Heap.get?_push_of_some _ e), _, _, _, _, bare_lies (Heap.get?_push_of_some _ at0), .zero ks⟩ fun s' mv z => ?_
  obtain ⟨h', g', d', tk', os'⟩ := s'
  obtain rfl : g' = s.gens := mv.gens
  obtain rfl : d' = s.drawn := mv.drawn
  obtain rfl : os' = s.os := mv.os
  exact wpAny_pure (wpAny_pure (h h' tk' z))
/-- set(xs) -/
theorem made {l : Addr} {items : Array Value} {Q : Value → Shared → Prop} (hh : A.handled = none) (hl : s.heap.IsList l items) (hit : items.toList = ks.map fun p => Value.ref p.1) (hk : ∀ p ∈ ks, IsT P w s.heap p.2 p.1) (dm : Dom P w D) (hD : ∀ p ∈ ks, p.2 ∈ D) (hu : A.units + 4 < cLine)
    (h : ∀ h' tk, Stage P w D ks s.heap.objs.size s.heap ks.length h' → Q (.ref s.heap.objs.size) { s with heap := h', toks := tk }) : wpAny (model P w) A (call (.type "set") [.ref l]) Q E s := by
  have ⟨cl, tl, mro⟩ := F.called_set.mro
  have f1 := F.called_set.made
  have f2 := F.called_set.sub
  have f3 := F.called_set.notType
  have f4 := F.called_set.canCreate
  have f5 := F.typeCall_set_1 (.ref l)
  refine wpAny_call (codeAny_of_tree (show wpAny _ _ (callAny (.type "set") _) _ _ _ from wpAny_pure ⟨Code.quiet_builtin _ (by decide +kernel), codeAny_builtin F.entry_type_call ?_⟩))
  rw [Around.under_plain (weight_type_call_type "set" [.ref l] []) rfl]
  repeat' first
    | assumption
    | wp_step
  refine codeAny_mono (code_set_led1 (.ref l) (E := E) (Q₁ := fun v s1 => v = .ref s.heap.objs.size ∧ s1 = { s with heap := s.heap.push (bare w) }) ⟨rfl, rfl⟩) fun r s1 hr => ?_
  rcases r with e | fl
  · exact hr
  · cases fl with
    | ret v =>
      obtain ⟨rfl, rfl⟩ := hr
      have at0 : (s.heap.push (bare w)).get? s.heap.objs.size = some (bare w) := Heap.get?_push_size _ rfl
      have kind : Shared.TypeIs { s with heap := s.heap.push (bare w) } (.ref s.heap.objs.size) "set" := ⟨_, at0, rfl⟩
      have g1 := F.called_set.init.lookup
      have g2 := F.called_set.init.bind (.ref s.heap.objs.size)
      repeat' first
        | assumption
        | wp_step
      refine codeAny_mono (codeAny_call_builtin (R := wants (fun r s2 => r = .none ∧ ∃ h' tk, s2 = { s with heap := h', toks := tk } ∧ Stage P w D ks s.heap.objs.size s.heap ks.length h') E) F.called_set.init.plain F.entry_set_init (check_set_init_1 kind
        (init_list (by simp [hh]) hl hit hk dm hD (by simp; omega) fun h' tk z => ⟨rfl, h', tk, rfl, z⟩))) fun r s2 hr => ?_
      rcases r with e | fl
      · exact hr
      · cases fl with
        | ret v =>
          obtain ⟨rfl, h', tk, rfl, z⟩ := hr
          repeat' first
            | assumption
            | wp_step
          exact h h' tk z
        | _ => exact hr.elim
    | _ => exact hr.elim
end
end Tu

set_option Elab.async false
set_option linter.all false
set_option maxRecDepth 100000
set_option maxHeartbeats 4000000
/-! Tu4: sorted of a set of pairs; both calls as rules of the layer. -/
namespace Tu
open PySem PySem.Spec PyProof.Rows L2
/-- one pair of ints ahead of another -/
def ahead (x y : List Int) : Prop := x.getD 0 0 < y.getD 0 0 ∨ (x.getD 0 0 = y.getD 0 0 ∧ x.getD 1 0 < y.getD 1 0)
section
variable {P : Program} {w : World} {A : Around} {E : Value → Shared → Prop} {s : Shared}
/-- the two ints that stand at an address, by a list that tells -/
def told (L : List (Addr × List Int)) (v : Value) : Int × Int := match v with
  | .ref b => match L.find? (fun p => decide (p.1 = b)) with
    | some p => (p.2.getD 0 0, p.2.getD 1 0)
    | none => (0, 0)
  | _ => (0, 0)
theorem told_at {h : Heap} {L : List (Addr × List Int)} (tt : ∀ p ∈ L, IsT P w h p.2 p.1) {p : Addr × List Int} (hp : p ∈ L) : told L (.ref p.1) = (p.2.getD 0 0, p.2.getD 1 0) := by
  show (match L.find? (fun q => decide (q.1 = p.1)) with | some q => (q.2.getD 0 0, q.2.getD 1 0) | none => (0, 0)) = _
  cases e : L.find? (fun q => decide (q.1 = p.1)) with
  | none => exact absurd (List.find?_eq_none.mp e p hp) (by simp)
  | some q =>
    have h1 : q.1 = p.1 := by simpa using List.find?_some e
    have h2 := tt q (List.mem_of_find?_eq_some e)
    rw [h1] at h2
    show (q.2.getD 0 0, q.2.getD 1 0) = _
    rw [h2.inj (tt p hp)]
theorem isPair_of {h : Heap} {k : List Int} {b : Addr} (x : IsT P w h k b) (h2 : k.length = 2) : Srt.IsPair h (.ref b) (k.getD 0 0) (k.getD 1 0) := by
  obtain ⟨o, items, n, ho, hc, hd, hi⟩ := x
  match k, h2 with
  | [i, j], _ =>
    cases hi' : items.toList with
    | nil => rw [hi'] at hi; cases hi
    | cons u us =>
      rw [hi'] at hi
      cases hi with
      | cons a1 r1 =>
        cases r1 with
        | cons a2 r2 =>
          cases r2
          obtain ⟨t1, rfl⟩ := Value.isInt_shape a1
          obtain ⟨t2, rfl⟩ := Value.isInt_shape a2
          have e : items = #[Value.int i t1, Value.int j t2] := by
            apply Array.toList_inj.mp
            rw [hi']
          exact ⟨b, o, t1, t2, n, rfl, ho, hc, by rw [hd, e]; rfl⟩
/-- lists of addresses out of others -/
theorem back {L : List (Addr × List Int)} : ∀ {vs : List Value}, (∀ v ∈ vs, ∃ p ∈ L, v = Value.ref p.1) → ∃ N : List (Addr × List Int), vs = N.map (fun p => Value.ref p.1) ∧ ∀ p ∈ N, p ∈ L
  | [], _ => ⟨[], rfl, fun _ h => nomatch h⟩
  | v :: vs, h => by
    obtain ⟨p, hp, rfl⟩ := h v List.mem_cons_self
    obtain ⟨N, rfl, hN⟩ := back (vs := vs) fun u hu => h u (List.mem_cons_of_mem _ hu)
    exact ⟨p :: N, rfl, fun q hq => by
      rcases List.mem_cons.mp hq with e | e
      · exact e ▸ hp
      · exact hN q e⟩
theorem addr_one {h : Heap} {L : List (Addr × List Int)} (tt : ∀ p ∈ L, IsT P w h p.2 p.1) {p q : Addr × List Int} (hp : p ∈ L) (hq : q ∈ L) (e : p.1 = q.1) : p = q := by
  have h1 := tt p hp
  rw [e] at h1
  exact Prod.ext e (h1.inj (tt q hq))
theorem perm_back {h : Heap} {L N : List (Addr × List Int)} (tt : ∀ p ∈ L, IsT P w h p.2 p.1) (one : (L.map (·.2)).Nodup) (hN : ∀ p ∈ N, p ∈ L) (pm : (N.map fun p => Value.ref p.1).Perm (L.map fun p => Value.ref p.1)) : N.Perm L := by
  have nL : L.Nodup := List.Pairwise.of_map (·.2) (fun _ _ hne e => hne (congrArg _ e)) one
  have nA : (L.map fun p => Value.ref p.1).Nodup := List.pairwise_map.mpr (nL.imp_of_mem fun hp hq hne e => hne (addr_one tt hp hq (Value.ref.inj e)))
  have nN : N.Nodup := List.Pairwise.of_map (fun p : Addr × List Int => Value.ref p.1) (fun a b hne e => hne (by rw [e])) (pm.nodup_iff.mpr nA)
  refine (List.perm_ext_iff_of_nodup nN nL).mpr fun p => ⟨hN p, fun hp => ?_⟩
  obtain ⟨q, hq, e⟩ := List.mem_map.mp (pm.mem_iff.mpr (List.mem_map.mpr ⟨p, hp, rfl⟩))
  rw [← addr_one tt (hN q hq) hp (Value.ref.inj e)]
  exact hq
theorem sort_set {a : Addr} {L : List (Addr × List Int)} {es : Array (Int × Value)} {ep : Nat} {t : SetTable} {Q : Value → Shared → Prop} (Z : Lies P w s.heap a L es ep t) (tt : ∀ p ∈ L, IsT P w s.heap p.2 p.1) (hh : A.handled = none) (two : ∀ p ∈ L, p.2.length = 2)
    (hQ : ∀ s' b (out : Array Value) (c : Nat) (N : List (Addr × List Int)), (∀ d o, s.heap.get? d = some o → s'.heap.get? d = some o) → s'.gens = s.gens → s'.os = s.os → s.heap.objs.size ≤ b → s'.heap.get? b = some (seqObj "list" out c) →
      out.toList = N.map (fun q => Value.ref q.1) → N.Perm L → N.Pairwise (fun p q => ahead p.2 q.2) → Q (.ref b) s') : wpAny (model P w) A (call (.builtin "sorted") [.ref a]) Q E s := by
  obtain ⟨o, ho, hex, hd⟩ := Z.obj
  have num := Z.num
  have num2 := rows_num Z.row
  apply Calls.call_function_entry kind_sorted plain_sorted entry_sorted (args_sorted1 _)
  unfold Builtin.«sorted»
  apply wpAny_bind (m := checkCount "sorted" 1 1 _)
  apply wpAny_pure
  refine wpAny_bind (collect_set (A := A.in1) hh ⟨o, ho, hex.1, hd⟩ Z.fit (by unfold scanBound; omega) Z.tbl.ris Z.ord fun s1 vs kp hz hg hos pm => ?_)
  have refs : es.toList.map (·.2) = L.map fun q => Value.ref q.1 := by
    rw [Z.row, rowsOf, List.map_map]
    rfl
  rw [refs] at pm
  have inL : ∀ v ∈ vs, ∃ p ∈ L, v = Value.ref p.1 := fun v hv => by
    obtain ⟨p, hp, e⟩ := List.mem_map.mp (pm.mem_iff.mp hv)
    exact ⟨p, hp, e.symm⟩
  have len : vs.length ≤ 76 := by rw [pm.length_eq, List.length_map]; exact num
  refine wpAny_bind (wpAny_newList ?_ (by rw [sizeLine_eq]; omega))
  have oL : (s1.heap.push (seqObj "list" vs.toArray 0)).get? s1.heap.objs.size = some (seqObj "list" vs.toArray 0) := Heap.get?_push_size _ rfl
  have up : ∀ d o, s.heap.get? d = some o → (s1.heap.push (seqObj "list" vs.toArray 0)).get? d = some o := fun d o e => Heap.get?_push_of_some _ (kp d o e)
  have tup : ∀ v ∈ vs, Srt.IsPair (s1.heap.push (seqObj "list" vs.toArray 0)) v (told L v).1 (told L v).2 := fun v hv => by
    obtain ⟨p, hp, rfl⟩ := inL v hv
    rw [told_at tt hp]
    exact isPair_of (isT_keep (tt p hp) up) (two p hp)
  refine wpAny_bind (wpAny_holding (wpAny_call_entry (s := { s1 with heap := s1.heap.push (seqObj "list" vs.toArray 0) }) slot_list_sort ⟨_, oL, rfl⟩ entry_list_sort
    (SrtO.list_sort_ord (ltv := fun v u => SrtO.lexB (told L v) (told L u)) (SrtO.swo_lex (told L)) oL (by rw [sizeLine_eq]; omega) (fun h2 => SrtO.pairs_sortableO (by omega) tup fun o e => ?_) fun out sr sb => ⟨_, rfl, ?_⟩) (args_list_sort _)))
  · obtain rfl := Option.some.inj (oL.symm.trans e)
    exact fun c => absurd (Value.type.inj c) (by decide)
  obtain ⟨c, hc⟩ := sortedHeap_at (vs := vs) (out := out.toArray) oL
  obtain ⟨N, e1, e2⟩ := back (L := L) (vs := out) fun v hv => inL v (sb.perm.mem_iff.mp hv)
  have pN : N.Perm L := perm_back tt Z.one e2 (by rw [← e1]; exact sb.perm.trans pm)
  have pw : N.Pairwise fun p q => ahead p.2 q.2 := by
    have nd : (N.map (·.2)).Nodup := (pN.map (·.2)).nodup_iff.mpr Z.one
    unfold SrtO.Srtd at sr
    rw [e1, List.pairwise_map] at sr
    refine List.Pairwise.imp_of_mem (fun {p q} hp hq h => ?_) (sr.and (List.pairwise_map.mp nd))
    obtain ⟨h1, h2⟩ := h
    have h1 : SrtO.lexB (told L (.ref q.1)) (told L (.ref p.1)) = false := h1
    rw [told_at tt (e2 p hp), told_at tt (e2 q hq)] at h1
    have h3 := SrtO.lexB_no.mp h1
    have p2 := two p (e2 p hp)
    have q2 := two q (e2 q hq)
    generalize p.2 = x at h2 h3 p2
    generalize q.2 = y at h2 h3 q2
    match x, p2 with
    | [x0, x1], _ =>
      match y, q2 with
      | [y0, y1], _ =>
        have h4 : ¬ (x0 = y0 ∧ x1 = y1) := fun z => h2 (by rw [z.1, z.2])
        have h5 : ¬ (y0 < x0 ∨ (y0 = x0 ∧ y1 < x1)) := h3
        show x0 < y0 ∨ (x0 = y0 ∧ x1 < y1)
        omega
  refine wpAny_pure ⟨_, rfl, hQ _ s1.heap.objs.size out.toArray c N (fun d u e => ?_) hg hos hz hc (by simpa using e1) pN pw⟩
  have q := kp d u e
  have lt := Heap.lt_size q
  refine (sortedHeap_old (Nat.ne_of_lt lt) (by rw [size_push']; exact Nat.lt_succ_of_lt lt)).trans ?_
  exact Heap.get?_push_of_some _ q
end
/-! ### the rules -/
def SetO (P : Program) (w : World) (a : Addr) (L : List (Addr × List Int)) : HO := .ext fun h => ∃ es ep t, Lies P w h a L es ep t
theorem setO_ok {P : Program} {w : World} {H : Hp} {h : Heap} {a : Addr} {L : List (Addr × List Int)} (z : ∃ es ep t, Lies P w h a L es ep t) : ObjOk P w H h a (SetO P w a L) :=
  ⟨z, let ⟨_, _, _, z⟩ := z; let ⟨o, ho, _⟩ := z.obj; ⟨o, ho⟩, fun h1 h2 ⟨es, ep, t, z⟩ k => ⟨es, ep, t, z.on k⟩⟩
section
variable {X : Cx}
/-- set(xs) of a list of tuples with keys in D -/
def rSetD (K : PySem.W.Frag) (P : Program) (w : World) (D : List (List Int)) : List V → Hp → VK → Prop := fun xs H Q => ∃ (l : Addr) (ks : List (Addr × List Int)), xs = [V.ref l] ∧ SqL K H l (ks.map fun p => V.ref p.1) ∧ (∀ p ∈ ks, SqT K H p.1 (p.2.map V.int)) ∧ (∀ p ∈ ks, p.2 ∈ D) ∧
  ∀ a L, H a = none → (∀ p ∈ L, p ∈ ks) → (∀ p ∈ ks, p.2 ∈ L.map (·.2)) → (L.map (·.2)).Nodup → Q (.ref a) (upd H a (SetO P w a L))
theorem cr_setD {D : List (List Int)} (dm : Dom X.prog X.w D) (hc : X.calm = true) (hu : X.A.units + 64 < cLine) : CallR X (.type "set") (rSetD X.K X.prog X.w D) := by
  intro pins s σ H xs us Q I r h
  obtain ⟨l, ks, rfl, hl, hk, hD, q⟩ := h
  rw [Vals.ref1 r]
  obtain ⟨its, rv, pl, hz⟩ := I.list hl
  refine made (P := X.prog) (w := X.w) (D := D) (ks := ks) (I.ok.hd hc) pl.isList (by simpa using refs_of_vals rv) (fun p hp => I.isT (hk p hp)) dm hD (by omega) fun h' tk z => ?_
  obtain ⟨L, es, ep, t, z1, g⟩ := z.set_
  refine ⟨.ref s.heap.objs.size, upd H s.heap.objs.size (SetO X.prog X.w s.heap.objs.size L), I.laid (t' := tk) z.old (Nat.le_refl _) (setO_ok ⟨es, ep, t, z1⟩), rfl, q _ L (I.hok.fresh (Nat.le_refl _)) (fun p hp => List.mem_of_mem_take (g.sub p hp)) (fun p hp => ?_) z1.one⟩
  exact g.all p (by rw [List.take_length]; exact hp)
/-- sorted(set) of pairs -/
def rSortD (K : PySem.W.Frag) (P : Program) (w : World) : List V → Hp → VK → Prop := fun vs H Q => ∃ (a : Addr) (L : List (Addr × List Int)), vs = [V.ref a] ∧ H a = some (SetO P w a L) ∧ (∀ p ∈ L, SqT K H p.1 (p.2.map V.int)) ∧ (∀ p ∈ L, p.2.length = 2) ∧
  ∀ (N : List (Addr × List Int)) (b : Addr), N.Perm L → N.Pairwise (fun p q => ahead p.2 q.2) → H b = none → Q (.ref b) (upd H b (.lst (N.map fun q => V.ref q.1)))
theorem cr_sortD (hc : X.calm = true) : CallR X (.builtin "sorted") (rSortD X.K X.prog X.w) := by
  intro pins s σ H vs us Q I r h
  obtain ⟨a, L, rfl, ha, hk, two, q⟩ := h
  obtain ⟨es, ep, t, Z⟩ : ∃ es ep t, Lies X.prog X.w s.heap a L es ep t := (I.hok a _ ha).1
  rw [Vals.ref1 r]
  refine sort_set Z (fun p hp => I.isT (hk p hp)) (I.ok.hd hc) two fun s' b out c N k g o hb hg hout pm pw => ?_
  have len : (N.map fun q => V.ref q.1).length ≤ sizeLine := by
    have := Z.num
    rw [List.length_map, pm.length_eq, sizeLine_eq]
    omega
  have hn : H b = none := I.hok.fresh hb
  have J := I.call (ch := []) (h' := s'.heap) (g' := s'.gens) (d' := s'.drawn) (t' := s'.toks) (H' := upd H b (.lst (N.map fun q => V.ref q.1))) (Un.laid k hb hn) (I.hok.laid k hb ⟨len, out.toList, c, by rw [hout]; exact vals_of_refs N, hg⟩) (by rw [g]; exact I.bare) (fun _ z => nomatch z)
  have e : s' = { s with heap := s'.heap, gens := s'.gens, drawn := s'.drawn, toks := s'.toks } := by
    cases s'; cases s; cases o; rfl
  rw [e]
  exact ⟨.ref b, _, J, rfl, q N b pm pw hn⟩
end
end Tu

set_option Elab.async false
set_option linter.all false
set_option maxRecDepth 100000
set_option maxHeartbeats 4000000
/-! Tu5: pairs of places i < j < 12: their hashes are unlike; a list of pairs and its set, sorted. -/
namespace Tu
open PySem PySem.Spec PyProof.Rows L2
def hsh (k : List Int) : Int := reduceHash (Builtin.Tuple.tupleHashOf (k.map hashInt))
theorem hsh_eq (P : Program) (w : World) (k : List Int) : thash P w k = hsh k := rfl
/-- all pairs of places -/
def pairs12 : List (List Int) := (List.range 12).flatMap fun (j : Nat) => (List.range j).map fun (i : Nat) => [(i : Int), (j : Int)]
theorem pairs_few : pairs12.length ≤ 76 := by decide +kernel
theorem pairs_hash : (pairs12.map hsh).Nodup := by decide +kernel
theorem inj_of_nodup {α β : Type} {f : α → β} : ∀ {l : List α}, (l.map f).Nodup → ∀ x, x ∈ l → ∀ y, y ∈ l → f x = f y → x = y
  | [], _, x, hx, _, _, _ => nomatch hx
  | a :: l, n, x, hx, y, hy, e => by
    rw [List.map_cons, List.nodup_cons] at n
    rcases List.mem_cons.mp hx with e1 | h1
    · rcases List.mem_cons.mp hy with e2 | h2
      · rw [e1, e2]
      · exact absurd (List.mem_map.mpr ⟨y, h2, by rw [← e, e1]⟩) n.1
    · rcases List.mem_cons.mp hy with e2 | h2
      · exact absurd (List.mem_map.mpr ⟨x, h1, by rw [e, e2]⟩) n.1
      · exact inj_of_nodup n.2 x h1 y h2 e
theorem pairs_dom (P : Program) (w : World) : Dom P w pairs12 := ⟨pairs_few, fun k hk m hm e => inj_of_nodup pairs_hash k hk m hm e⟩
theorem pairs_mem {i j : Nat} (h1 : i < j) (h2 : j < 12) : [(i : Int), (j : Int)] ∈ pairs12 :=
  List.mem_flatMap.mpr ⟨j, List.mem_range.mpr h2, List.mem_map.mpr ⟨i, List.mem_range.mpr h1, rfl⟩⟩
/-- pairs of places as the rules have them -/
def keyN (b : Nat × Nat) : List Int := [(b.1 : Int), (b.2 : Int)]
/-- ascending pairs -/
def AscP (bs : List (Nat × Nat)) : Prop := bs.Pairwise fun a b => a.1 < b.1 ∨ (a.1 = b.1 ∧ a.2 < b.2)
theorem ahead_keyN {a b : Nat × Nat} : ahead (keyN a) (keyN b) ↔ a.1 < b.1 ∨ (a.1 = b.1 ∧ a.2 < b.2) := by
  show ((a.1 : Int) < (b.1 : Int) ∨ ((a.1 : Int) = (b.1 : Int) ∧ (a.2 : Int) < (b.2 : Int))) ↔ _
  omega
theorem ascP_nodup {bs : List (Nat × Nat)} (h : AscP bs) : bs.Nodup := List.Pairwise.imp (fun {a b} h e => by subst e; omega) h
/-- two ascending lists of the same pairs are one -/
theorem ascP_uniq : ∀ {as bs : List (Nat × Nat)}, AscP as → AscP bs → (∀ p, p ∈ as ↔ p ∈ bs) → as = bs
  | [], [], _, _, _ => rfl
  | [], b :: bs, _, _, h => nomatch (h b).mpr List.mem_cons_self
  | a :: as, [], _, _, h => nomatch (h a).mp List.mem_cons_self
  | a :: as, b :: bs, ha, hb, h => by
    have ha' := List.pairwise_cons.mp ha
    have hb' := List.pairwise_cons.mp hb
    have e : a = b := by
      rcases List.mem_cons.mp ((h a).mp List.mem_cons_self) with e | e
      · exact e
      · rcases List.mem_cons.mp ((h b).mpr List.mem_cons_self) with f | f
        · exact f.symm
        · have z1 := hb'.1 a e
          have z2 := ha'.1 b f
          omega
    subst e
    rw [ascP_uniq ha'.2 hb'.2 fun p => ⟨fun hp => ?_, fun hp => ?_⟩]
    · rcases List.mem_cons.mp ((h p).mp (List.mem_cons_of_mem _ hp)) with e | e
      · have := ha'.1 p hp
        subst e
        omega
      · exact e
    · rcases List.mem_cons.mp ((h p).mpr (List.mem_cons_of_mem _ hp)) with e | e
      · have := hb'.1 p hp
        subst e
        omega
      · exact e
/-- what the set and sorted leave of a list of pairs: its ascending list -/
theorem out_pairs {bs : List (Nat × Nat)} {as : List Addr} (hl : as.length = bs.length) {L N : List (Addr × List Int)} (sub : ∀ p ∈ L, p ∈ as.zip (bs.map keyN)) (all : ∀ p ∈ as.zip (bs.map keyN), p.2 ∈ L.map (·.2)) (pm : N.Perm L) (pw : N.Pairwise fun p q => ahead p.2 q.2) :
    ∃ cs : List (Nat × Nat), N.map (·.2) = cs.map keyN ∧ AscP cs ∧ ∀ p, p ∈ cs ↔ p ∈ bs := by
  have key : ∀ {M : List (Addr × List Int)}, (∀ p ∈ M, ∃ b ∈ bs, p.2 = keyN b) → ∃ cs : List (Nat × Nat), M.map (·.2) = cs.map keyN ∧ ∀ c ∈ cs, c ∈ bs := by
    intro M
    induction M with
    | nil => exact fun _ => ⟨[], rfl, fun _ h => nomatch h⟩
    | cons p M ih =>
      intro h
      obtain ⟨b, hb, e⟩ := h p List.mem_cons_self
      obtain ⟨cs, e1, e2⟩ := ih fun q hq => h q (List.mem_cons_of_mem _ hq)
      refine ⟨b :: cs, by rw [List.map_cons, List.map_cons, e, e1], fun c hc => ?_⟩
      rcases List.mem_cons.mp hc with rfl | hc
      · exact hb
      · exact e2 c hc
  have inj : ∀ {a b : Nat × Nat}, keyN a = keyN b → a = b := fun {a b} e => by
    injection e with e1 e2
    injection e2 with e2
    exact Prod.ext (by omega) (by omega)
  obtain ⟨cs, e1, e2⟩ := key (M := N) fun p hp => by
    have h := (List.of_mem_zip (sub p (pm.mem_iff.mp hp))).2
    obtain ⟨b, hb, e⟩ := List.mem_map.mp h
    exact ⟨b, hb, e.symm⟩
  refine ⟨cs, e1, ?_, fun p => ⟨e2 p, fun hp => ?_⟩⟩
  · have h : (N.map fun p : Addr × List Int => p.2).Pairwise ahead := List.pairwise_map.mpr pw
    rw [e1, List.pairwise_map] at h
    exact h.imp fun {a b} z => ahead_keyN.mp z
  · obtain ⟨i, hi, rfl⟩ := List.getElem_of_mem hp
    have hz : (as[i]'(by omega), keyN bs[i]) ∈ as.zip (bs.map keyN) := by
      refine List.mem_of_getElem? (i := i) ?_
      rw [List.getElem?_zip_eq_some]
      exact ⟨List.getElem?_eq_getElem (by omega), by rw [List.getElem?_map, List.getElem?_eq_getElem hi]; rfl⟩
    have h := all _ hz
    rw [← (pm.map (·.2)).mem_iff, e1] at h
    obtain ⟨c, hc, e⟩ := List.mem_map.mp h
    rw [← inj e]
    exact hc
end Tu

set_option Elab.async false
set_option linter.all false
set_option maxRecDepth 100000
set_option maxHeartbeats 4000000
/-! Sm: sum of a tuple of ints. -/
namespace Bx
open PySem PySem.Spec PyProof.Rows L2
theorem preSum_getD (ns : List Int) : ∀ i, i ≤ ns.length → preSum (fun i => ns.getD i 0) i = (ns.take i).sum
  | 0, _ => rfl
  | i + 1, h => by
    have e : ns.take (i + 1) = ns.take i ++ [ns[i]'(by omega)] := by
      rw [List.take_add_one, List.getElem?_eq_getElem (by omega)]
      rfl
    rw [e, List.sum_append]
    show preSum (fun i => ns.getD i 0) i + ns.getD i 0 = _
    rw [preSum_getD ns i (by omega), List.getD_eq_getElem?_getD, List.getElem?_eq_getElem (by omega)]
    simp
def rSumT (K : PySem.W.Frag) : List V → Hp → VK → Prop := fun vs H Q => ∃ (a : Addr) (ns : List Int), vs = [V.ref a] ∧ SqT K H a (ns.map V.int) ∧ Q (.int ns.sum) H
theorem cr_sumT {X : Cx} (hc : X.calm = true) : CallR X (.builtin "sum") (rSumT X.K) := by
  intro pins s σ H vs us Q I r h
  obtain ⟨a, ns, rfl, hs, q⟩ := h
  obtain ⟨its, rv, ht, hz⟩ := I.tuple hs
  rw [Vals.ref1 r]
  have ht : s.heap.IsTuple a its.toArray := ht
  have ne : a ≠ s.heap.objs.size := by
    obtain ⟨o, ho, _⟩ := ht
    exact Nat.ne_of_lt (Heap.lt_size ho)
  have hn : its.length = ns.length := by rw [← rv.length, List.length_map]
  refine call_sum_walkAnyS (wpAny_pyIter_tuple ht ?_)
  refine ⟨s.heap.objs.size, _, _, _, _, _, _, fun i => ns.getD i 0, rfl, (Walks.tuple (A := X.A.in1) (by simp [I.ok.hd hc]) s.heap.objs.size a ne its.toArray).toS, ⟨⟨_, Heap.get?_push_size _ rfl, rfl, rfl⟩, ht.push _⟩, fun b hb => ?_, fun i v hv => ?_, fun s' t' mv => ?_⟩
  · rw [Heap.size_push]
    rcases List.mem_cons.mp hb with e | e
    · rw [e]
      exact Nat.lt_succ_self _
    · rw [List.mem_singleton.mp e]
      obtain ⟨o, ho, _⟩ := ht
      exact Nat.lt_succ_of_lt (Heap.lt_size ho)
  · exact IntsAre.int_at rv.ints i v (by simpa using hv)
  · obtain ⟨h', g', d', tk', os'⟩ := s'
    obtain rfl : g' = s.gens := mv.gens
    obtain rfl : d' = s.drawn := mv.drawn
    obtain rfl : os' = s.os := mv.os
    have e : preSum (fun i => ns.getD i 0) its.toArray.size = ns.sum := by
      rw [List.size_toArray, hn, preSum_getD ns _ (Nat.le_refl _), List.take_length]
    rw [e]
    refine ⟨.int _, H, I.kept (t' := tk') fun b o eo => ?_, ⟨_, rfl⟩, q⟩
    refine mv.heap b o ?_ (Heap.get?_push_of_some _ eo)
    rw [List.mem_singleton]
    exact Nat.ne_of_lt (Heap.lt_size eo)
/-! ### three arguments by name, from behind -/
def rev3 {α : Type} : List α → List α → List α
  | [], [c, b, a] => [a, b, c]
  | _, _ => []
theorem rev3_rel {vs zs : List V} {us ws : List Value} (h1 : Vals vs us) (h2 : Vals zs ws) : Vals (rev3 vs zs) (rev3 us ws) := by
  cases h1 with
  | cons _ _ => exact .nil
  | nil =>
    cases h2 with
    | nil => exact .nil
    | cons a h3 => cases h3 with
      | nil => exact .nil
      | cons b h4 => cases h4 with
        | nil => exact .nil
        | cons c h5 => cases h5 with
          | nil => exact .cons c (.cons b (.cons a .nil))
          | cons _ _ => exact .nil
end Bx

set_option Elab.async false
set_option linter.all false
set_option maxRecDepth 100000
set_option maxHeartbeats 4000000
/-! Dr: sorted of lists of data of any length; list(d.values()). -/
namespace Bx
open PySem PySem.Spec PyProof.Rows L2
open PySem.W (EachIs AllAlike Sortable dataLe)
theorem each_of {α β : Type} {R : α → β → Prop} : ∀ {as : List α} {bs : List β}, as.length = bs.length → (∀ (i : Nat) (a : α) (b : β), as[i]? = some a → bs[i]? = some b → R a b) → EachIs R as bs
  | [], [], _, _ => .nil
  | a :: as, b :: bs, h, k => .cons (k 0 a b rfl rfl) (each_of (Nat.succ.inj h) fun i a b h1 h2 => k (i + 1) a b h1 h2)
theorem each_at {α β : Type} {R : α → β → Prop} : ∀ {as : List α} {bs : List β}, EachIs R as bs → ∀ {i : Nat} {a : α} {b : β}, as[i]? = some a → bs[i]? = some b → R a b
  | _, _, .cons h t, 0, _, _, h1, h2 => by cases h1; cases h2; exact h
  | _, _, .cons h t, i + 1, _, _, h1, h2 => each_at t (i := i) h1 h2
theorem zip_at {α β : Type} {as : List α} {bs : List β} {i : Nat} {p : α × β} (h : (as.zip bs)[i]? = some p) : as[i]? = some p.1 ∧ bs[i]? = some p.2 := by
  rw [List.getElem?_zip_eq_some] at h
  exact h
theorem vals_of_each : ∀ {us : List Value} {zs : List (V × PyData)}, EachIs (fun v (b : V × PyData) => RelV b.1 v) us zs → Vals (zs.map (·.1)) us
  | _, _, .nil => .nil
  | _, _, .cons h t => .cons h (vals_of_each t)
theorem vals_at : ∀ {xs : List V} {us : List Value}, Vals xs us → ∀ {i : Nat} {x : V} {u : Value}, xs[i]? = some x → us[i]? = some u → RelV x u
  | _, _, .cons h t, 0, _, _, h1, h2 => by cases h1; cases h2; exact h
  | _, _, .cons h t, i + 1, _, _, h1, h2 => vals_at t (i := i) h1 h2
theorem dpAll_zip {K : PySem.W.Frag} {H : Hp} : ∀ {zs : List (V × PyData)}, (∀ z ∈ zs, Dp K H z.1 z.2) → DpAll K H (zs.map (·.1)) (zs.map (·.2))
  | [], _ => .nil
  | z :: zs, h => .cons (h z List.mem_cons_self) (dpAll_zip fun y hy => h y (List.mem_cons_of_mem _ hy))
theorem dpAll_zipmem {K : PySem.W.Frag} {H : Hp} : ∀ {xs : List V} {ds : List PyData}, DpAll K H xs ds → ∀ z ∈ xs.zip ds, Dp K H z.1 z.2
  | _, _, .nil, _, hz => nomatch hz
  | _, _, .cons h t, z, hz => by
    rw [List.zip_cons_cons] at hz
    rcases List.mem_cons.mp hz with e | e
    · rw [e]; exact h
    · exact dpAll_zipmem t z e
/-- sorted(xs) of a list of data that compare -/
def rSortDt (K : PySem.W.Frag) : List V → Hp → VK → Prop := fun vs H Q => ∃ (a : Addr) (xs : List V) (ds : List PyData), vs = [V.ref a] ∧ SqL K H a xs ∧ DpAll K H xs ds ∧ AllAlike ds ∧ Sortable ds ∧ ds.length ≤ 100000 ∧ (∀ d ∈ ds, d.depth ≤ 40) ∧
  ∀ ys es p, DpAll K H ys es → es.Perm ds → es.Pairwise (fun d e => PySem.W.dataLt e d = false) → H p = none → Q (.ref p) (upd H p (.lst ys))
theorem dataLe_not {β : Type} (k : β → PyData) (a b : β) : dataLe false k a b = !PySem.W.dataLt (k b) (k a) := rfl
theorem cr_sortDt {X : Cx} (hu : X.A.units + 64 < cLine) : CallR X (.builtin "sorted") (rSortDt X.K) := by
  intro pins s σ H vs us Q I r h
  obtain ⟨a, xs, ds, rfl, hs, hd, ha, hk, hn, hdp, q⟩ := h
  rw [Vals.ref1 r]
  obtain ⟨its, rv, hl, hz⟩ := I.list hs
  have e1 : (xs.zip ds).map (·.2) = ds := List.map_snd_zip (Nat.le_of_eq (dpAll_len hd).symm)
  have e0 : (xs.zip ds).map (·.1) = xs := List.map_fst_zip (Nat.le_of_eq (dpAll_len hd))
  have el : its.length = (xs.zip ds).length := by rw [← rv.length, List.length_zip, dpAll_len hd]; omega
  have rd : ∀ (i : Nat) (u : Value) (z : V × PyData), its[i]? = some u → (xs.zip ds)[i]? = some z → RelV z.1 u ∧ ∃ as, Reads s.heap u z.2 as := fun i u z h1 h2 => by
    obtain ⟨h3, h4⟩ := zip_at h2
    have h5 := vals_at rv h3 h1
    obtain ⟨as, h6⟩ := Dp.reads I z.2 z.1 u (dpAll_zipmem hd z (List.mem_of_getElem? h2)) h5
    exact ⟨h5, as, h6⟩
  have hl' : s.heap.IsList a its.toArray := hl.isList
  refine PySem.W.sorted_data (vs := its) (bs := xs.zip ds) (R := fun v (b : V × PyData) => RelV b.1 v) (enc := fun b : V × PyData => b.2) hl' (each_of el fun i u z h1 h2 => (rd i u z h1 h2).1) (each_of el fun i u z h1 h2 => (rd i u z h1 h2).2) (by rw [e1]; exact ha) (by rw [e1]; exact hk) (by rw [List.length_zip, sizeLine_eq]; omega)
    (fun b hb => by have := hdp b.2 (by rw [← e1]; exact List.mem_map.mpr ⟨b, hb, rfl⟩); omega) fun out ho he => ?_
  have hv := vals_of_each he
  have hperm : ((xs.zip ds).mergeSort (dataLe false fun b : V × PyData => b.2)).Perm (xs.zip ds) := List.mergeSort_perm ..
  have tot := PySem.W.sortLe_total (listOrd itemOrd) false (fun b : V × PyData => PySem.W.keyToks b.2)
  have hsort : ((xs.zip ds).mergeSort (dataLe false fun b : V × PyData => b.2)).Pairwise (fun a b => dataLe false (fun b : V × PyData => b.2) a b = true) := List.pairwise_mergeSort (fun a b c h1 h2 => tot.trans a b c h1 h2) (fun a b => Bool.or_eq_true_iff.mpr (tot.total a b)) _
  generalize (xs.zip ds).mergeSort (dataLe false fun b : V × PyData => b.2) = zs at hv hperm hsort he
  have hlz : zs.length = out.length := by rw [he.length]
  have kp : ∀ b o, s.heap.get? b = some o → (sortedAll s.heap its out.toArray).get? b = some o := fun b o e => sortedAll_old e
  obtain ⟨n, hat⟩ := sortedAll_at s.heap its out.toArray
  have hfr : H (s.heap.objs.size + 1) = none := I.hok.fresh (Nat.le_succ _)
  refine ⟨.ref (s.heap.objs.size + 1), upd H (s.heap.objs.size + 1) (.lst (zs.map (·.1))), I.laid (t' := s.toks) kp (Nat.le_succ _) ⟨?_, out, n, hv, hat⟩, rfl, q _ (zs.map (·.2)) _ (dpAll_zip fun z hz => dpAll_zipmem hd z (hperm.mem_iff.mp hz)) ?_ ?_ hfr⟩
  · rw [List.length_map, hperm.length_eq, List.length_zip, sizeLine_eq]
    omega
  · have := hperm.map (·.2)
    rw [e1] at this
    exact this
  · rw [List.pairwise_map]
    refine hsort.imp fun {d e} h => ?_
    rw [dataLe_not] at h
    simpa using h
theorem cr_sortDtK {X : Cx} {K : PySem.W.Frag} (h : X.K = K) (hu : X.A.units + 64 < cLine) : CallR X (.builtin "sorted") (rSortDt K) := h ▸ cr_sortDt hu
/-! ### list(d.values()) -/
def rValsL : V → Hp → VK → Prop := fun x H Q => ∃ (d : Addr) (kvs : List (Key × V)), x = .ref d ∧ H d = some (.dK kvs) ∧ ∀ p, H p = none → Q (.ref p) (upd H p (.lst (kvs.map (·.2))))
def tListVals (te : TE) : TE := fun σ H Q => te σ H fun x H1 => rValsL x H1 Q
theorem vals_of_at2 : ∀ {xs : List V} {us : List Value}, xs.length = us.length → (∀ (j : Nat) (x : V) (u : Value), xs[j]? = some x → us[j]? = some u → RelV x u) → Vals xs us
  | [], [], _, _ => .nil
  | x :: xs, u :: us, h, k => .cons (k 0 x u rfl rfl) (vals_of_at2 (Nat.succ.inj h) fun j x u h1 h2 => k (j + 1) x u h1 h2)
theorem kv_at : ∀ {kvs : List (Key × V)} {vs : List (Key × Value)}, KV kvs vs → ∀ {j : Nat} {q : Key × V} {p : Key × Value}, kvs[j]? = some q → vs[j]? = some p → RelV q.2 p.2
  | _, _, .cons h t, 0, _, _, h1, h2 => by cases h1; cases h2; exact h.2
  | _, _, .cons h t, j + 1, _, _, h1, h2 => kv_at t (j := j) h1 h2
theorem pe_listVals {X : Cx} {e : Expr} {te : TE} {p apos cpos pos : Pos} (hc : X.calm = true) (he : PE X e te) (hg : Gl X "list") (hm : X.mg "list" = none) (hv : bootBuiltins "list" = some (.type "list")) (hbase : attributeBase e "values" X.env (eval e X.env) = eval e X.env := by rfl) (hline : (apos.endLine == cpos.line) = true := by rfl)
    (hs : starEach [.Call (.Attribute e "values" apos) [] [] cpos] X.env = (false, eval (.Call (.Attribute e "values" apos) [] [] cpos) X.env) :: starEach [] X.env := by rfl) :
    PE X (.Call (.Name "list" p) [.Call (.Attribute e "values" apos) [] [] cpos] [] pos) (tListVals te) := by
  refine ⟨fun pins s σ H Q I hq => wpAny_Call_Name_kw (ld_blt I hg hm hv (PyProof.Rows.callWith_type1 ?_ hs rfl))⟩
  rw [hs]
  refine Calls.spliced_cons ?_
  refine wpAny_Call_method (T := "dict") (id := "dict.values") hbase rfl hline F.plainAttrs_dict F.slot_dict_values F.type_dict_values (thn (he.run pins s σ H _ I hq) fun u s1 ⟨x, H1, I1, rx, d, kvs, ex, hd, q⟩ => ?_)
  subst ex
  obtain rfl : u = Value.ref d := rx
  obtain ⟨hz, hs0, vs, kv, hdo⟩ := I1.hok d _ hd
  obtain ⟨ep, hat⟩ := hdo.dictAt
  have lk : kvs.length = vs.length := Paired.length kv
  have I2 : Inv X pins σ H1 { s1 with heap := s1.heap.push { cls := .type "dict_values", data := .fields #[.ref d] } } := I1.kept (t' := s1.toks) fun b ob e => Heap.get?_push_of_some _ e
  refine ⟨hdo.typeIs, hdo.mapOf.noDict, ?_⟩
  refine method_meetsIn F.slot_dict_values F.entry_dict_values rfl (PySem.evalArgs_none ⟨rfl, hdo.typeIs, F.args_dict_values_1 _, _, meets_dict_values (mixKind X.prog X.w) d hs0, ⟨vs, hdo⟩, Calls.spliced_nil ?_⟩)
  refine PySem.W.kdl_call (PySem.W.kdl_values (knd := mixKind X.prog X.w) (kvs := vs) (ep := ep)) (I1.ok.hd hc) ⟨⟨_, Heap.get?_push_size _ rfl, rfl, rfl⟩, hat.push _⟩ (by rw [← lk]; exact hz) fun h' tk acc c hk hS hacc => ?_
  refine ⟨.ref _, _, I2.laid (t' := tk) hk (Nat.le_refl _) (show ObjOk X.prog X.w _ _ _ (.lst (kvs.map (·.2))) from ⟨by rw [List.length_map]; exact hz, acc.toList, c, vals_of_at2 ?_ fun j x u h1 h2 => ?_, by rw [Array.toArray_toList]; exact hS⟩), rfl, q _ (I2.hok.fresh (Nat.le_refl _))⟩
  · have el : acc.toList.length = acc.size := by simp
    rw [List.length_map, el, hacc.1, lk]
  · obtain ⟨k, hky⟩ := hacc.2 j u (by rw [← Array.getElem?_toList]; exact h2)
    rw [List.getElem?_map, Option.map_eq_some_iff] at h1
    obtain ⟨qv, h3, rfl⟩ := h1
    exact kv_at kv h3 hky
end Bx

set_option Elab.async false
set_option linter.all false
set_option maxRecDepth 100000
set_option maxHeartbeats 4000000
/-! Ex: defs that raise an own error, their calls within a try, by position and all by name. -/
namespace Bx
open PySem PySem.Spec PyProof.Rows L2
theorem FunC.okX {P : Program} {w : World} {K : PySem.W.Frag} {mg : Str → Option Value} {base : Heap} {x qual : Str} {st : Stmt} {f : Addr} {fd : FuncData} {c : Addr} {N ps : List Str} {k : Nat} {sp : Sp} (F : FunC K x qual st f fd c) (S : FnScope N ps (defScope st)) (len : ∀ vs H Q E, sp vs H Q E → vs.length = ps.length)
    (hbody : ∀ (A : Around) (outer : List Env) (s : Shared) (H : Hp) (vs : List V) (Q : VK) (E : XK), Room k (A.deeper (envOfC qual (defScope st) s.heap.objs.size f (.ref c))) → sp vs H Q E →
      ∃ t, PSs (cxOf (L2.CX P w) P w K mg base N qual (defScope st) f (.ref c) A outer s H E) (defBody st) t ∧ t { nx := fun _ H' => Q .non H', rt := Q } (start N vs) H) : FnOk P w K mg base (L2.CX P w) (k + 1) f fd ps sp := by
  obtain ⟨oc, od, kV, doc, pm, an, ct, osl, rfl, lk, hcd⟩ := F.ex
  exact fn_of lk hcd S len fun A outer s H vs Q E hr hsp => hbody A outer s H vs Q E hr hsp
/-- an own error class over ValueError, without an __init__ of its own -/
structure Xc (K : PySem.W.Frag) (mg : Str → Option Value) (x : Str) (C : Addr) : Prop where
  g : mg x = some (.ref C)
  x : PySem.W.excIn K C [.type "ValueError", .type "Exception", .type "BaseException", .type "object"] "ValueError.__new__" = true
  k : PySem.W.keepIn K (.ref C) = true
  b : PySem.W.subIn K (.ref C) (.type "BaseException") = some true
  t : PySem.W.typeIn K (.ref C) = some (.type "type")
/-- raise C('..') -/
theorem ps_raiseC {X : Cx} {W : WX} {x m : Str} {C : Addr} {j : Nat} {p p2 pos pos' : Pos} (hc : X.calm = true) (tk : Takes X W) (q : Xc X.K X.mg x C) (hg : Gl X x) (hdb : (x == ("__debug__" : Str)) = false := by decide) :
    PS X (.Raise (some (.Call (.Name x p) [.Constant (.str m) j p2] [] pos)) none pos') (fun _ σ H => W (.ref C) none σ H) :=
  ps_raise hc tk (pmk_own PySem.F.excBase_ValueError q.x q.g q.k (raises_own q.b q.t) hg hdb)
/-- a callee that may raise -/
structure CalX (P : Program) (w : World) (K : PySem.W.Frag) (mg : Str → Option Value) (base : Heap) (k : Nat) (x : Str) (ps : List Str) (sp : Sp) : Prop where
  ex : ∃ (f : Addr) (fd : FuncData), FnOk P w K mg base (L2.CX P w) k f fd ps sp ∧ mg x = some (.ref f) ∧ PySem.W.keepIn K (.ref f) = true ∧ Binds K fd ps []
structure CalXK (P : Program) (w : World) (K : PySem.W.Frag) (mg : Str → Option Value) (base : Heap) (k : Nat) (x : Str) (ps ks : List Str) (g : {α : Type} → List α → List α → List α) (sp : Sp) : Prop where
  ex : ∃ (f : Addr) (fd : FuncData), FnOk P w K mg base (L2.CX P w) k f fd ps sp ∧ mg x = some (.ref f) ∧ PySem.W.keepIn K (.ref f) = true ∧ KBinds K fd ps ks g g
section
variable {X : Cx} {k : Nat} {x : Str} {ps ks : List Str} {sp : Sp} {p pos : Pos} {e : Expr} {es : List Expr} {t tk' : TA} {W : WX} {g : {α : Type} → List α → List α → List α} {kws : List Keyword}
theorem pe_calS (C : CalX X.prog X.w X.K X.mg X.base k x ps sp) (hr : Room k X.A) (tk : Takes X W) (hg : Gl X x) (ha : PA X (e :: es) t) (hdb : (x == ("__debug__" : Str)) = false := by decide) (he : starEach (e :: es) X.env = (false, eval e X.env) :: starEach es X.env := by rfl) (hpl : (backTo pos (starEach es X.env)).any (·.1) = false := by rfl) :
    PE X (.Call (.Name x p) (e :: es) [] pos) (tCallS sp (WE W) t) := by
  obtain ⟨f, fd, h1, h2, h3, h4⟩ := C.ex
  exact pe_callS h1 hr hg h2 h3 h4 (fun σ => passAt tk σ) ha hdb he hpl
def tCallSK (sp : Sp) (gV : List V → List V → List V) (E : L2.St → XK) (tk : TA) : TE := fun σ H Q => tk σ H fun zs H2 => sp (gV [] zs) H2 Q (E σ)
theorem pe_calSK (C : CalXK X.prog X.w X.K X.mg X.base k x ps ks g sp) (hr : Room k X.A) (tk : Takes X W) (hg : Gl X x) (hkw : PK X kws tk') (hall : (backToKw pos (keywordEach kws X.env)).all (·.1.isSome) = true := by rfl) (hks : (backToKw pos (keywordEach kws X.env)).filterMap (·.1) = ks := by rfl)
    (hdb : (x == ("__debug__" : Str)) = false := by decide)
    (hpl : ((backTo pos (starEach [] X.env)).any (·.1) || (backToKw pos (keywordEach kws X.env)).any (·.1.isNone)) = false := by rfl) : PE X (.Call (.Name x p) [] kws pos) (tCallSK sp g (WE W) tk') := by
  obtain ⟨f, fd, F, hm, hk, hb⟩ := C.ex
  refine ⟨fun pins s σ H Q I h => wpAny_Call_Name_kw (ld_glob I hg hm (PySem.W.callWith_KW0 (h₀ := X.base) I.ok.mod.kin hk hall (thn (hkw.run pos pins s σ H _ I h) fun ws s2 ⟨zs, H2, I2, rz, q2⟩ => ⟨I2.kIn, ?_⟩) hpl) hdb)⟩
  rw [hks]
  have r2 := hb.rel (vs := []) (us := []) .nil rz
  have hl : (g [] ws).length = ps.length := by rw [← r2.length]; exact F.len _ _ _ _ q2
  refine wpAny_call (codeAny_mono (F.run X.A X.stack s2 H2 ⟨[], ks.zip ws⟩ (g [] ws) (g [] zs) Q (WE W σ) hr I2.env0 (hb.to s2 [] ws I2.kIn hl) r2 q2) fun r s' hq => ?_)
  cases r with
  | error e => exact passAt tk σ pins H2 s2 e s' I2 hq
  | ok fl =>
    cases fl with
    | ret u => exact I2.after hq
    | _ => exact False.elim hq
end
end Bx

set_option Elab.async false
set_option linter.all false
set_option maxRecDepth 100000
set_option maxHeartbeats 4000000
/-! Ids: index of a tuple's data; len(set(t)) of a tuple of unlike ints; a dict comprehension over a range. -/
namespace Bx
open PySem PySem.Spec PyProof.Rows L2
section
variable {X : Cx}
/-- t.index(x): the first place of an equal one -/
def rIndexT (K : PySem.W.Frag) : V → List V → Hp → VK → Prop := fun x xs H Q => ∃ (a : Addr) (y : V) (d : PyData) (ds : List PyData) (j : Nat) (z : PyData), x = V.ref a ∧ xs = [y] ∧ Dp K H (V.ref a) (.tuple ds) ∧ Dp K H y d ∧
  SeqAt.shaped (.tuple ds) = true ∧ SeqAt.shaped d = true ∧ ds[j]? = some z ∧ PyData.eqv z d = true ∧ (∀ (m : Nat) (z' : PyData), m < j → ds[m]? = some z' → PyData.eqv z' d = false) ∧ Q (.int (j : Nat)) H
theorem mt_indexT (hu : X.A.units + 65 < cLine) : MtR X "tuple.index" (rIndexT X.K) := by
  intro pins s σ H x xs v us Q I rx rxs h
  obtain ⟨a, y, d, ds, j, z, rfl, rfl, hl, hy, sl, sd, hz, hzj, hno, q⟩ := h
  cases rx
  cases rxs with
  | cons ry rt =>
    rename_i uy ut
    cases rt
    obtain ⟨bs, r1⟩ := Dp.reads I d y uy hy ry
    have hxs : PyData.canLayAll0 ds = true := SeqAt.canLay_of_shaped sl
    have hroom : X.A.units + 1 + min (PyData.depthAll ds) d.depth < cLine := room_in_shaped sd hu
    cases hl with
    | tup hs ha =>
      obtain ⟨its, rv, pl, hlen⟩ := I.tuple hs
      obtain ⟨⟨cls, dd, data, sls⟩, ho, hc, n, hdt⟩ := pl
      simp only at hc hdt
      subst hc
      subst hdt
      obtain ⟨as, h4⟩ := Dp.readsAll I ds _ its ha rv
      have hn : its.length = ds.length := SeqAt.ReadsAll.length ds its as h4
      have hmap : its.map (SeqAt.readOf s.heap) = ds := SeqAt.readsAll_map ds its as hxs h4
      obtain ⟨hjd, _⟩ := List.getElem?_eq_some_iff.mp hz
      have hjl : j < its.length := by omega
      have hj : j < its.toArray.size := by simpa using hjl
      have at_ : ∀ (m : Nat) (hm : m < its.toArray.size) (z' : PyData), ds[m]? = some z' → SeqAt.readOf s.heap its.toArray[m] = z' := by
        intro m hm z' hz'
        have hml : m < its.length := by simpa using hm
        rw [← hmap, List.getElem?_map, List.getElem?_eq_getElem hml] at hz'
        have e1 : SeqAt.readOf s.heap its[m] = z' := Option.some.inj (show some (SeqAt.readOf s.heap its[m]) = some z' from hz')
        simpa using e1
      refine call_meets PySem.F.slot_tuple_index ⟨_, ho, rfl⟩ PySem.F.entry_tuple_index (PySem.F.args_tuple_index_2 _ _)
        (TI.tuple_indexAt a its.toArray n dd sls uy (fun u => PyData.eqv (SeqAt.readOf s.heap u) d) j hj ?_ ?_) ⟨ho, SeqAt.items_eqAt (vs := its.toArray) (show ReadsAll s.heap its.toArray.toList ds as from h4) r1 hxs (SeqAt.canLay_of_shaped sd) hroom, ?_⟩
      · show PyData.eqv (SeqAt.readOf s.heap its.toArray[j]) d = true
        rw [at_ j hj z hz]
        exact hzj
      · intro m hm hmj
        have hmd : m < ds.length := by omega
        have hz' : ds[m]? = some ds[m] := List.getElem?_eq_getElem hmd
        show PyData.eqv (SeqAt.readOf s.heap its.toArray[m]) d = false
        rw [at_ m hm _ hz']
        exact hno m _ hmj hz'
      · exact ⟨.int (j : Nat), H, I.tok _, ⟨_, rfl⟩, q⟩
theorem mt_indexTK {K : PySem.W.Frag} (h : X.K = K) (hu : X.A.units + 65 < cLine) : MtR X "tuple.index" (rIndexT K) := h ▸ mt_indexT hu
/-- len(set(t)), the ints of t unlike -/
def tLenSetT (K : PySem.W.Frag) (ta : TE) : TE := fun σ H Q => ta σ H fun x H1 => ∃ (l : Addr) (ns : List Int), x = V.ref l ∧ SqT K H1 l (ns.map V.int) ∧ ns.length ≤ 1000 ∧ ns.Nodup ∧ Q (.int ns.length) H1
theorem pe_lenSetT {a : Expr} {ta : TE} {p p2 q pos : Pos} (hc : X.calm = true) (hg : Gl X "len") (hm : X.mg "len" = none) (hg2 : Gl X "set") (hm2 : X.mg "set" = none) (ha : PE X a ta)
    (na : starEach [a] X.env = (false, eval a X.env) :: starEach [] X.env := by rfl) : PE X (.Call (.Name "len" p) [.Call (.Name "set" p2) [a] [] q] [] pos) (tLenSetT X.K ta) := by
  refine ⟨fun pins s σ H Q I h => ?_⟩
  refine Call_ (ld_blt I hg hm PySem.boot_len ?_)
  refine PyProof.Rows.callWith_builtin1 (PyProof.Rows.args_cons ?_ rfl) rfl rfl
  refine Call_ (ld_blt I hg2 hm2 PyProof.Rows.boot_set ?_)
  refine PyProof.Rows.callWith_type1 (PyProof.Rows.args_cons (thn (ha.run pins s σ H _ I h) fun v s1 ⟨x, H1, I1, r1, q1⟩ => PyProof.Rows.args_nil ?_) na) na rfl
  obtain ⟨l, ns, rfl, hq, h1, hnd, q1⟩ := q1
  cases r1
  obtain ⟨its, r, pt, hz⟩ := I1.tuple hq
  have hi : IntsAre its.toArray.toList ns := ints_of_vals r
  refine call_set_tupI ns (I1.ok.hd hc) (show s1.heap.IsTuple l its.toArray from pt) hi (by unfold scanBound; omega) fun h' tk c R1 hcn k => ?_
  refine PyProof.Rows.args_nil ?_
  obtain ⟨o, es, ep, t, ho, hex, hdt, g, nd, hmm, hb, hf, hn, hr, hl2⟩ := R1
  have I2 : Inv X pins σ H1 { s1 with heap := h', toks := tk } := I1.kept fun b o e => k b o e
  have hsz : es.size = ns.length := by
    have hp := (List.perm_ext_iff_of_nodup nd hnd).mpr fun j => by rw [← hmm j, decide_eq_true_eq]
    have := hp.length_eq
    rw [List.length_map, Array.length_toList] at this
    exact this
  refine call_len_set ho hex hdt hf (by omega) ⟨.int ns.length, H1, I2.tok _, ⟨_, by rw [hsz]⟩, q1⟩
end
theorem dc_range {lo : Int} {n : Nat} {g : TG} {tt : TT} {tk tv : TE} {vs : List Nat} {σ : L2.St} {H1 : Hp} {D : Addr} {Qd : Hp → Prop} (Pv : Nat → Hp → Prop) (h0 : Pv 0 (upd H1 D (.dK [])))
    (hs : ∀ i H, i < n → Pv i H → g (.int (lo + i)) (wipe σ vs) H fun σ2 H2 => wipe σ2 vs = wipe σ vs ∧ tt σ2 H2 fun b H3 =>
      if b = true then tk σ2 H3 fun y H4 => tv σ2 H4 fun z H5 => ∃ kvs k, y = kV k ∧ H5 D = some (.dK kvs) ∧ kvs.length < sizeLine ∧ Pv (i + 1) (upd H5 D (.dK (putK kvs k z))) else Pv (i + 1) H3) (hd : ∀ H, Pv n H → Qd H) :
    ∃ W : Nat → Nat → Hp → Prop, (∃ m, W 0 m (upd H1 D (.dK []))) ∧ ∀ i m H, W i m H →
      ((Itr lo n).stop i H ∧ Qd H) ∨ ((Itr lo n).go i H ∧ ∃ Nx : Hp → Prop, (∀ H', Nx H' → ∃ m', m' < m ∧ W (i + 1) m' H') ∧ ∀ x H', (Itr lo n).yld i H x H' → g x (wipe σ vs) H' fun σ2 H2 => wipe σ2 vs = wipe σ vs ∧ tt σ2 H2 fun b H3 =>
        if b = true then tk σ2 H3 fun y H4 => tv σ2 H4 fun z H5 => ∃ kvs k, y = kV k ∧ H5 D = some (.dK kvs) ∧ kvs.length < sizeLine ∧ Nx (upd H5 D (.dK (putK kvs k z))) else Nx H3) := by
  refine ⟨fun i m H => m = n - i ∧ i ≤ n ∧ Pv i H, ⟨n, by simp, Nat.zero_le _, h0⟩, ?_⟩
  rintro i m H ⟨rfl, hi, p⟩
  by_cases hlt : i < n
  · refine .inr ⟨hlt, Pv (i + 1), fun H' p' => ⟨n - (i + 1), by omega, rfl, hlt, p'⟩, fun x H' y => ?_⟩
    obtain ⟨e, y⟩ := y
    subst e y
    exact hs i _ hlt p
  · have e : i = n := by omega
    subst e
    exact .inl ⟨Nat.le_refl _, hd H p⟩
end Bx

set_option Elab.async false
set_option linter.all false
set_option maxRecDepth 100000
set_option maxHeartbeats 4000000
/-! Xt: tuples known exactly from where they are made; a method of such a tuple. -/
namespace Bx
open PySem PySem.Spec PyProof.Rows L2
/-- a tuple whose object is known: no dict of its own -/
structure XTup (H : Hp) (p : Addr) (xs : List V) : Prop where
  ex : ∃ o : Obj, H p = some (.frz o (.tup xs)) ∧ o.cls = .type "tuple" ∧ o.dict = none
theorem XTup.sqT {K : PySem.W.Frag} {H : Hp} {p : Addr} {xs : List V} (h : XTup H p xs) : SqT K H p xs := by
  obtain ⟨o, e, _⟩ := h.ex
  exact .inl (.inr ⟨o, e⟩)
theorem XTup.ext {H H' : Hp} {p : Addr} {xs : List V} (h : XTup H p xs) (x : Ext H H') : XTup H' p xs := by
  obtain ⟨o, e, e2, e3⟩ := h.ex
  exact ⟨o, x.keep _ _ e (fun z => z), e2, e3⟩
theorem XTup.new {H : Hp} {p : Addr} {xs : List V} {o : Obj} (h1 : o.cls = .type "tuple") (h2 : o.dict = none) : XTup (upd H p (.frz o (.tup xs))) p xs := ⟨o, upd_same, h1, h2⟩
section
variable {X : Cx}
/-- tuple(x) of a list, known exactly -/
def kTupX (K : PySem.W.Frag) (x : V) (H : Hp) (Q : VK) : Prop :=
  ∃ p xs, x = V.ref p ∧ SqL K H p xs ∧ ∀ q (o : Obj), H q = none → o.cls = .type "tuple" → o.dict = none → Q (.ref q) (upd H q (.frz o (.tup xs)))
theorem rl_tupleX (pins : List (Addr × Obj)) (s : Shared) (σ : L2.St) (H : Hp) (x : V) (v : Value) (Q : VK) (I : Inv X pins σ H s) (r : RelV x v) (h : kTupX X.K x H Q) :
    wpAny (model X.prog X.w) X.A (call (.type "tuple") [v]) (EP X pins σ Q) X.xe s := by
  obtain ⟨p, xs, rfl, hs, q⟩ := h
  obtain rfl : v = .ref p := r
  obtain ⟨its, rv, pl, hz⟩ := I.list hs
  refine call_tuple_list pl.isList (fun h' hk => ?_) (by rw [List.size_toArray, ← rv.length]; exact hz)
  have I1 : Inv X pins σ H { s with heap := h' } := I.kept (t' := s.toks) hk
  have I2 : Inv X pins σ (upd H h'.objs.size (.frz { cls := .type "tuple", data := .seq its.toArray } (.tup xs))) { s with heap := h'.push { cls := .type "tuple", data := .seq its.toArray } } :=
    I1.laid (t' := s.toks) (fun b o e => Heap.get?_push_of_some _ e) (Nat.le_refl _) (show ObjOk X.prog X.w _ _ _ (.frz _ (.tup xs)) from ⟨by simp [Heap.get?, Heap.push], hz, its, rv, IsTup.new _ _⟩)
  exact ⟨.ref h'.objs.size, _, I2, rfl, q _ _ (I1.hok.fresh (Nat.le_refl _)) rfl rfl⟩
theorem pe_tupleOfX {a : Expr} {ta : TE} {p pos : Pos} (hg : Gl X "tuple") (hm : X.mg "tuple" = none) (ha : PE X a ta) (na : starEach [a] X.env = (false, eval a X.env) :: starEach [] X.env := by rfl) :
    PE X (.Call (.Name "tuple" p) [a] [] pos) (tThen ta (kTupX X.K)) := by
  refine ⟨fun pins s σ H Q I h => ?_⟩
  exact Call_ (ld_blt I hg hm boot_tuple (PyProof.Rows.callWith_type1 (one_arg ha I h (fun v s2 x H2 I2 r q => rl_tupleX pins s2 σ H2 x v Q I2 r q) na) na))
/-- a method of a tuple known exactly -/
def tBMX (r : V → List V → Hp → VK → Prop) (to : TE) (t : TA) : TE := fun σ H Q => to σ H fun x H1 => (∃ p ys, x = V.ref p ∧ XTup H1 p ys) ∧ t σ H1 fun xs H2 => r x xs H2 Q
theorem pe_bmX {o e : Expr} {es : List Expr} {to : TE} {t : TA} {name : Str} {id : String} {apos cpos : Pos} {r : V → List V → Hp → VK → Prop} (slot : Slot "tuple" name id) (hty : typeOf (.builtin id) = pure (.type "method_descriptor")) (hm : MtR X id r) (ho : PE X o to) (ha : PA X (e :: es) t)
    (hbase : attributeBase o name X.env (eval o X.env) = eval o X.env := by rfl)
    (hfew : ((backTo cpos (starEach (e :: es) X.env)).all (fun x => !x.1) && (backToKw cpos (keywordEach [] X.env)).all (fun x => x.1.isSome)
      && decide ((e :: es).length + ([] : List Keyword).length + (if ([] : List Keyword).isEmpty then 0 else 1) < 30)) = true := by rfl)
    (hline : (apos.endLine == cpos.line) = true := by rfl) (hs : starEach (e :: es) X.env = (false, eval e X.env) :: starEach es X.env := by rfl) (hplain : (backTo cpos (starEach es X.env)).any (·.1) = false := by rfl) :
    PE X (.Call (.Attribute o name apos) (e :: es) [] cpos) (tBMX r to t) := by
  refine ⟨fun pins s σ H Q I h => ?_⟩
  refine wpAny_Call_method_late hbase hfew hline rfl (thn (ho.run pins s σ H _ I h) fun v s1 ⟨x, H1, I1, r1, ty, q1⟩ => ?_)
  obtain ⟨p, ys, ex, hx⟩ := ty
  subst ex
  obtain rfl : v = Value.ref p := r1
  obtain ⟨o1, e1, e2, e3⟩ := hx.ex
  have hobj : s1.heap.get? p = some o1 := (I1.hok p _ e1).1
  refine ⟨"tuple", id, PySem.F.plainAttrs_tuple, slot, hty, ⟨o1, hobj, e2⟩, (fun a ea => by cases ea; exact ⟨o1, hobj, e3⟩), ?_⟩
  have hA := ha.run cpos pins s1 σ H1 _ I1 q1
  rw [hs] at hA ⊢
  refine Calls.callWith_builtin (by show (false || (backTo cpos (starEach es X.env)).any (·.1)) = false; rw [hplain] <;> rfl) (Calls.evalArgs_plain ?_)
  exact thn hA fun us s2 ⟨vs, H2, I2, r2, q2⟩ => hm pins s2 σ H2 (.ref p) vs (.ref p) us Q I2 rfl r2 q2
end
end Bx

set_option Elab.async false
set_option linter.all false
set_option maxRecDepth 100000
set_option maxHeartbeats 4000000
/-! Rs: t[::-1] of a tuple, sorted(set(t)) of ints, >= of tuples of ints, a chain of three. -/
namespace Bx
open PySem PySem.Spec PyProof.Rows L2

/-! ### t[::-1] -/
theorem pick_back {α : Type} (xs : Array α) : ∀ n : Nat, n ≤ xs.size → (List.range n).filterMap (fun (m : Nat) => xs[n - 1 - m]?) = (xs.toList.take n).reverse
  | 0, _ => by simp
  | n + 1, h => by
    have ih := pick_back xs n (by omega)
    have e1 : (fun (m : Nat) => xs[n + 1 - 1 - (m + 1)]?) = fun m => xs[n - 1 - m]? := by
      funext m
      have : n + 1 - 1 - (m + 1) = n - 1 - m := by omega
      rw [this]
    have hx : xs[n]? = some xs[n] := Array.getElem?_eq_getElem (by omega)
    have hx2 : xs.toList[n]? = some xs[n] := by rw [Array.getElem?_toList]; exact hx
    rw [List.range_succ_eq_map, List.filterMap_cons, List.filterMap_map]
    show (match xs[n + 1 - 1 - 0]? with
      | none => _
      | some b => _) = _
    have e2 : n + 1 - 1 - 0 = n := by omega
    rw [e2, hx]
    show xs[n] :: List.filterMap (fun (m : Nat) => xs[n + 1 - 1 - (m + 1)]?) (List.range n) = _
    rw [e1, ih, List.take_add_one, hx2]
    simp
theorem fm_congr {α β : Type} (f g : α → Option β) : ∀ l : List α, (∀ x ∈ l, f x = g x) → l.filterMap f = l.filterMap g
  | [], _ => rfl
  | x :: l, h => by
    rw [List.filterMap_cons, List.filterMap_cons, h x List.mem_cons_self, fm_congr f g l fun y hy => h y (List.mem_cons_of_mem _ hy)]
theorem pick_rev (xs : Array Value) : ((List.range xs.size).filterMap fun (m : Nat) => xs[(((xs.size : Nat) : Int) - 1 + (m : Int) * (-1)).toNat]?).toArray = xs.toList.reverse.toArray := by
  have h := pick_back xs xs.size (Nat.le_refl _)
  have e2 : (List.range xs.size).filterMap (fun (m : Nat) => xs[(((xs.size : Nat) : Int) - 1 + (m : Int) * (-1)).toNat]?) = (List.range xs.size).filterMap (fun (m : Nat) => xs[xs.size - 1 - m]?) := by
    exact fm_congr _ _ _ fun m hm => by
      have z := List.mem_range.mp hm
      have : (((xs.size : Nat) : Int) - 1 + (m : Int) * (-1)).toNat = xs.size - 1 - m := by omega
      rw [this]
  rw [e2, h]
  have : xs.toList.take xs.size = xs.toList := List.take_of_length_le (by rw [Array.length_toList]; exact Nat.le_refl _)
  rw [this]
section
variable {prog : Program} {w : World} {A : Around} {E : Value → Shared → Prop} {s : Shared}
theorem part_is {v : Value} {o : Option Int} {Q : Option Int → Shared → Prop} (p : IsPart v o) (h : Q o s) : wpAny (model prog w) A (Builtin.Slice.slicePartIndex v) Q E s := by
  cases p with
  | none => exact PyProof.Rows.slicePart_none h
  | int i t => exact PyProof.Rows.slicePart_int h
theorem applied_back {sl : Addr} {vl vu vs : Value} {n : Nat} {Q : Int × Int × Nat → Shared → Prop} (hs : s.heap.IsSliceOf sl vl vu vs) (pl : IsPart vl none) (pu : IsPart vu none) (ps : IsPart vs (some (-1)))
    (h : Q ((n : Int) - 1, -1, n) s) : wpAny (model prog w) A (Builtin.Slice.sliceApplied (.ref sl) (pure (n : Int))) Q E s := by
  obtain ⟨os, a1, a2, a3⟩ := id hs
  unfold Builtin.Slice.sliceApplied Builtin.Slice.sliceFields
  refine wpAny_bind (wpAny_bind (wpAny_field a1 a3 (x := vl) rfl (wpAny_bind (wpAny_field a1 a3 (x := vu) rfl (wpAny_bind (wpAny_field a1 a3 (x := vs) rfl (wpAny_pure ?_)))))))
  refine wpAny_bind (part_is ps ?_)
  show wpAny _ _ (if ((-1 : Int) == 0) = true then _ else _) _ _ s
  rw [if_neg (by decide)]
  refine wpAny_bind (part_is pl (wpAny_bind (part_is pu (wpAny_bind (wpAny_pure ?_)))))
  show wpAny _ _ (pure ((n : Int) - 1, (-1 : Int), Builtin.Slice.slicePlaces ((n : Int) - 1) (-1) (-1))) _ _ s
  have e : Builtin.Slice.slicePlaces ((n : Int) - 1) (-1) (-1) = n := by
    unfold Builtin.Slice.slicePlaces
    rw [if_neg (by decide)]
    by_cases z : (n : Int) - 1 > -1
    · rw [if_pos z]
      have : -(-1 : Int) = 1 := by decide
      rw [this, Int.ediv_one]
      omega
    · rw [if_neg z]
      omega
  rw [e]
  exact wpAny_pure h
theorem getItem_back {t sl : Addr} {items : Array Value} {vl vu vs : Value} {Q : Value → Shared → Prop} (ht : PyProof.Rows.IsTup s.heap t items) (hs : s.heap.IsSliceOf sl vl vu vs) (pl : IsPart vl none) (pu : IsPart vu none) (ps : IsPart vs (some (-1)))
    (hsz : items.size ≤ sizeLine) (h : Q (.ref s.heap.objs.size) { s with heap := s.heap.push { cls := .type "tuple", data := .seq items.toList.reverse.toArray } }) : wpAny (model prog w) A (getItem (.ref t) (.ref sl)) Q E s := by
  have room : sizeOk (.seq items.toList.reverse.toArray) := by
    show items.toList.reverse.toArray.size ≤ sizeLine
    rw [List.size_toArray, List.length_reverse, Array.length_toList]
    exact hsz
  obtain ⟨os, a1, a2, a3⟩ := id hs
  have isS : s.TypeIs (.ref sl) "slice" := ⟨os, a1, a2⟩
  unfold getItem
  try with_reducible refine wpAny_holding ?_
  first | refine wpAny_bind (wpAny_pure ?_) | skip
  refine wpAny_bind (wpAny_sequenceKey ht.typeIs (by decide) (wpAny_bind (wpAny_callSpecial?_slot (name := Str.ofString "__getitem__") ht.typeIs PyProof.Rows.slot_tuple_getitem (wpAny_call_entry PyProof.Rows.slot_tuple_getitem ht.typeIs entry_tuple_getitem ?_ (args_tuple_getitem _ _)))))
  show wpAny _ _ (Builtin.Tuple.tupleItemsOf (.ref t) >>= _) _ _ s
  refine wpAny_bind (PyProof.Rows.tupleItemsOf_ ht (wpAny_bind (wpAny_typeOf isS ?_)))
  rw [if_pos (by decide)]
  refine wpAny_bind (applied_back hs pl pu ps ?_)
  have no : ¬ ((((items.size : Nat) : Int) - 1 == 0 && (-1 : Int) == 1 && items.size == items.size) = true) := by
    intro q
    rw [Bool.and_eq_true, Bool.and_eq_true] at q
    exact absurd q.1.2 (by decide)
  show wpAny _ _ (if (((items.size : Nat) : Int) - 1 == 0 && (-1 : Int) == 1 && items.size == items.size) = true then _ else _) _ _ s
  rw [if_neg no, pick_rev]
  first
    | exact wpAny_bind (m := Builtin.Tuple.tupleExact _) (wpAny_newObj_type (wpAny_pure ⟨_, rfl, wpAny_pure h⟩) room)
    | exact wpAny_bind (wpAny_bind (m := Builtin.Tuple.tupleExact _) (wpAny_newObj_type (wpAny_pure ⟨_, rfl, wpAny_pure h⟩) room))
end
section
variable {X : Cx}
def tRevT (K : PySem.W.Frag) (te : TE) : TE := fun σ H Q => te σ H fun x H1 => ∃ a xs, x = .ref a ∧ SqT K H1 a xs ∧ ∀ p, H1 p = none → Q (.ref p) (upd H1 p (.tup xs.reverse))
theorem pe_revT {e : Expr} {te : TE} {k : Nat} {p1 p2 p3 pos : Pos} (he : PE X e te) : PE X (.Subscript e (.Slice none none (some (.UnaryOp .USub (.Constant (.int 1) k p1) p2)) p3) pos) (tRevT X.K te) := by
  refine ⟨fun pins s σ H Q I h => Subscript_ (thn (he.run pins s σ H _ I h) fun v s1 ⟨x, H1, I1, r1, q1⟩ => ?_)⟩
  obtain ⟨a, xs, ex, hx, q⟩ := q1
  subst ex
  cases r1
  have back : PO X (some (.UnaryOp .USub (.Constant (.int 1) k p1) p2)) (tPart (tUn (rU fun i => .int (-i)) (tC (.int 1)))) := po_some (pe_un un_neg pe_int)
  refine wpAny_Slice (thn (po_none.run pins s1 σ H1 (fun o H2 => o = none ∧ H2 = H1) I1 ⟨rfl, rfl⟩) fun vl s2 ⟨l, H2, I2, pl, el, e2⟩ => ?_)
  subst el e2
  refine thn (po_none.run pins s2 σ H2 (fun o H3 => o = none ∧ H3 = H2) I2 ⟨rfl, rfl⟩) fun vu s3 ⟨u, H3, I3, pu, eu, e3⟩ => ?_
  subst eu e3
  refine thn (back.run pins s3 σ H3 (fun o H4 => o = some (-1) ∧ H4 = H3) I3 ⟨1, rfl, -1, rfl, rfl, rfl⟩) fun vs s4 ⟨o, H4, I4, ps, eo, e4⟩ => ?_
  subst eo e4
  have I5 : Inv X pins σ H4 { s4 with heap := s4.heap.push { cls := .type "slice", data := .fields #[vl, vu, vs] } } := I4.kept (t' := s4.toks) fun b ob z => Heap.get?_push_of_some _ z
  obtain ⟨its, r, ht, hz⟩ := I5.tuple hx
  have hlen := r.length
  show wpAny (model X.prog X.w) X.A (subscriptTail e (.Slice none none (some (.UnaryOp .USub (.Constant (.int 1) k p1) p2)) p3) (.ref a) (.ref s4.heap.objs.size)) (EP X pins σ Q) X.xe { s4 with heap := s4.heap.push { cls := .type "slice", data := .fields #[vl, vu, vs] } }
  refine tail_any (ops := [.ref a, .ref s4.heap.objs.size]) ht.typeIs (PyProof.Rows.slot_tuple_getitem.lookup) ?_ (by with_unfolding_all rfl)
  refine getItem_back (items := its.toArray) ht (Heap.IsSliceOf.new _ vl vu vs) pl pu ps (by rw [List.size_toArray]; omega) ?_
  refine ⟨.ref _, _, I5.laid (t' := s4.toks) (o := .tup xs.reverse) (fun b ob z => Heap.get?_push_of_some _ z) (Nat.le_refl _) ?_, rfl, q _ (I5.hok.fresh (Nat.le_refl _))⟩
  exact ⟨by rw [List.length_reverse]; exact hz, _, r.reverse, IsTup.new _ _⟩

/-! ### >= of tuples of ints -/
def rGeT (K : PySem.W.Frag) : R2 := fun x y H Q => ∃ (a b : Addr) (ns ms : List Int), x = .ref a ∧ y = .ref b ∧ SqT K H a (ns.map V.int) ∧ SqT K H b (ms.map V.int) ∧
  Q (.bl (Ob.lexAt (fun j => decide (ns.getD j 0 = ms.getD j 0)) (fun j => decide (ms.getD j 0 ≤ ns.getD j 0)) (decide (ns.length ≥ ms.length)) 0 (min ns.length ms.length))) H
theorem op_geT (hu : X.A.units < cLine) : OpR X (compareOp .GtE) (rGeT X.K) := by
  intro pins s σ H x y v u Q I rx ry h
  obtain ⟨a, b, ns, ms, rfl, rfl, ha, hb, q⟩ := h
  cases rx
  cases ry
  obtain ⟨its, r1, p1, _⟩ := I.tuple ha
  obtain ⟨its2, r2, p2, _⟩ := I.tuple hb
  have i1 : IntsAre its ns := Vals.ints r1
  have i2 : IntsAre its2 ms := Vals.ints r2
  have n1 : its.toArray.size = ns.length := by rw [List.size_toArray]; exact i1.length
  have n2 : its2.toArray.size = ms.length := by rw [List.size_toArray]; exact i2.length
  have g1 : ∀ j (z : j < its.toArray.size), ∃ t, its.toArray[j] = .int (ns.getD j 0) t := fun j z => PyProof.Rows.IntsAre.int_at i1 _ _ (by simp at z; simp [z])
  have g2 : ∀ j (z : j < its2.toArray.size), ∃ t, its2.toArray[j] = .int (ms.getD j 0) t := fun j z => PyProof.Rows.IntsAre.int_at i2 _ _ (by simp at z; simp [z])
  have main := Ob.RcOp.tuples_ge (A := X.A) (s := s) (e := fun j => decide (ns.getD j 0 = ms.getD j 0)) (r := fun j => decide (ms.getD j 0 ≤ ns.getD j 0)) p1 p2 hu (fun j z1 z2 => by
    obtain ⟨t, et⟩ := g1 j z1
    obtain ⟨t', et'⟩ := g2 j z2
    rw [et, et']
    have z : decide (ns.getD j 0 = ms.getD j 0) = (ns.getD j 0 == ms.getD j 0) := by
      by_cases c : ns.getD j 0 = ms.getD j 0
      · rw [decide_eq_true c]; exact (beq_iff_eq.mpr c).symm
      · rw [decide_eq_false c]; exact (beq_eq_false_iff_ne.mpr c).symm
    rw [z]
    exact SeqAt.EqAt.int_int _ _ _ _) (fun j z1 z2 _ => by
    obtain ⟨t, et⟩ := g1 j z1
    obtain ⟨t', et'⟩ := g2 j z2
    rw [et, et']
    exact Ob.RcOp.ge_int _ _ _ _)
  rw [n1, n2] at main
  show wpAny _ X.A (richCompare .GtE _ _) _ _ s
  exact main _ _ _ _ ⟨.bl _, H, I, rfl, q⟩

/-! ### sorted(set(t)) -/
end
section
variable {P : Program} {w : World} {A : Around} {E : Value → Shared → Prop} {s : Shared}
theorem sort_setI {a : Addr} {S : Int → Bool} {n : Nat} {Q : Value → Shared → Prop} (R : SetR w s.heap a S n) (hh : A.handled = none)
    (hQ : ∀ s' b (out : Array Value) (c : Nat) (ms : List Int), (∀ d o, s.heap.get? d = some o → s'.heap.get? d = some o) → s'.gens = s.gens → s'.os = s.os → s.heap.objs.size ≤ b → s'.heap.get? b = some (seqObj "list" out c) →
      IntsAre out.toList ms → ms.length = n → ms.Pairwise (· < ·) → (∀ k, k ∈ ms ↔ S k = true) → Q (.ref b) s') : wpAny (model P w) A (call (.builtin "sorted") [.ref a]) Q E s := by
  obtain ⟨o, es, ep, t, ho, hex, hd, gd, nd, mem, bd, fit, num, ris, led⟩ := R
  apply Calls.call_function_entry kind_sorted plain_sorted entry_sorted (args_sorted1 _)
  unfold Builtin.«sorted»
  apply wpAny_bind (m := checkCount "sorted" 1 1 _)
  apply wpAny_pure
  refine wpAny_bind (collect_set (A := A.in1) hh ⟨o, ho, hex.1, hd⟩ fit bd ris led fun s1 vs kp hz hg hos pm => ?_)
  have small : vs.length ≤ sizeLine := by
    rw [pm.length_eq, List.length_map, Array.length_toList, sizeLine_eq]
    unfold scanBound at bd
    omega
  have allI : ∀ v ∈ vs, ∃ i t, v = Value.int i t := fun v hv => by
    obtain ⟨e, he, rfl⟩ := List.mem_map.mp (pm.mem_iff.mp hv)
    obtain ⟨k, tk, e1⟩ := gd e he
    exact ⟨k, tk, e1.1⟩
  have isI := SrtO.ints_iv allI
  have ivs : (vs.map SrtO.iv).Perm (es.toList.map keyOf) := by
    have q := pm.map SrtO.iv
    rw [List.map_map] at q
    have e : (es.toList.map (SrtO.iv ∘ Prod.snd)) = es.toList.map keyOf := List.map_congr_left fun e he => by
      obtain ⟨k, tk, e1⟩ := gd e he
      show SrtO.iv e.2 = keyOf e
      unfold keyOf
      rw [e1.1]
      rfl
    rw [← e]
    exact q
  refine wpAny_bind (wpAny_newList ?_ small)
  have oL : (s1.heap.push (seqObj "list" vs.toArray 0)).get? s1.heap.objs.size = some (seqObj "list" vs.toArray 0) := Heap.get?_push_size _ rfl
  refine wpAny_bind (wpAny_holding (wpAny_call_entry (s := { s1 with heap := s1.heap.push (seqObj "list" vs.toArray 0) }) slot_list_sort ⟨_, oL, rfl⟩ entry_list_sort
    (SrtO.list_sort_ord SrtO.swo_int oL small (fun h2 => SrtO.ints_sortable isI h2) fun out sr sb => ⟨_, rfl, ?_⟩) (args_list_sort _)))
  obtain ⟨c, hc⟩ := sortedHeap_at (vs := vs) (out := out.toArray) oL
  obtain ⟨k1, k2, k3⟩ := SrtO.ints_out isI sr sb
  have k4 := k2.trans ivs
  have nd2 : (out.map SrtO.iv).Nodup := k4.nodup_iff.mpr nd
  refine wpAny_pure ⟨_, rfl, hQ _ s1.heap.objs.size out.toArray c (out.map SrtO.iv) (fun d u e => ?_) hg hos hz hc (by simpa using k1) ?_ ?_ fun k => ?_⟩
  · have q := kp d u e
    have lt := Heap.lt_size q
    exact (sortedHeap_old (Nat.ne_of_lt lt) (by rw [size_push']; exact Nat.lt_succ_of_lt lt)).trans (Heap.get?_push_of_some _ q)
  · rw [k4.length_eq, List.length_map, Array.length_toList]
    exact num
  · exact (k3.and nd2).imp fun {x y} z => by omega
  · rw [k4.mem_iff]
    exact (mem k).symm
end
section
variable {X : Cx}
def tSortSetT (K : PySem.W.Frag) (ta : TE) : TE := fun σ H Q => ta σ H fun x H1 => ∃ (l : Addr) (ns : List Int), x = V.ref l ∧ SqT K H1 l (ns.map V.int) ∧ ns.length ≤ 1000 ∧
  ∀ (ms : List Int) (p : Addr), ms.Pairwise (· < ·) → (∀ k, k ∈ ms ↔ k ∈ ns) → H1 p = none → Q (.ref p) (upd H1 p (.lst (ms.map V.int)))
theorem pe_sortSetT {a : Expr} {ta : TE} {p p2 q pos : Pos} (hc : X.calm = true) (hg : Gl X "sorted") (hm : X.mg "sorted" = none) (hg2 : Gl X "set") (hm2 : X.mg "set" = none) (hb : bootBuiltins ("sorted" : Str) = some (.builtin "sorted")) (ha : PE X a ta)
    (na : starEach [a] X.env = (false, eval a X.env) :: starEach [] X.env := by rfl) : PE X (.Call (.Name "sorted" p) [.Call (.Name "set" p2) [a] [] q] [] pos) (tSortSetT X.K ta) := by
  refine ⟨fun pins s σ H Q I h => ?_⟩
  refine Call_ (ld_blt I hg hm hb ?_)
  refine PyProof.Rows.callWith_builtin1 (PyProof.Rows.args_cons ?_ rfl) rfl rfl
  refine Call_ (ld_blt I hg2 hm2 PyProof.Rows.boot_set ?_)
  refine PyProof.Rows.callWith_type1 (PyProof.Rows.args_cons (thn (ha.run pins s σ H _ I h) fun v s1 ⟨x, H1, I1, r1, q1⟩ => PyProof.Rows.args_nil ?_) na) na rfl
  obtain ⟨l, ns, rfl, hq, h1, q1⟩ := q1
  cases r1
  obtain ⟨its, r, pt, hz⟩ := I1.tuple hq
  have hi : IntsAre its.toArray.toList ns := ints_of_vals r
  refine call_set_tupI ns (I1.ok.hd hc) (show s1.heap.IsTuple l its.toArray from pt) hi (by unfold scanBound; omega) fun h' tk c R1 hcn k => ?_
  refine PyProof.Rows.args_nil ?_
  have I2 : Inv X pins σ H1 { s1 with heap := h', toks := tk } := I1.kept fun b o e => k b o e
  refine sort_setI R1 (I2.ok.hd hc) fun s' b out c2 ms kp g o hb2 hgt hout hlen pw hmem => ?_
  have len : (ms.map V.int).length ≤ sizeLine := by
    rw [List.length_map, sizeLine_eq]
    omega
  have hn : H1 b = none := I2.hok.fresh hb2
  have J := I2.call (ch := []) (h' := s'.heap) (g' := s'.gens) (d' := s'.drawn) (t' := s'.toks) (H' := upd H1 b (.lst (ms.map V.int))) (Un.laid kp hb2 hn) (I2.hok.laid kp hb2 ⟨len, out.toList, c2, vals_of_ints hout, hgt⟩) (by rw [g]; exact I2.bare) (fun _ z => nomatch z)
  have e : s' = { ({ s1 with heap := h', toks := tk } : Shared) with heap := s'.heap, gens := s'.gens, drawn := s'.drawn, toks := s'.toks } := by
    cases s'; cases s1; cases o; rfl
  rw [e]
  exact ⟨.ref b, _, J, rfl, q1 ms b pw (fun k => by rw [hmem, decide_eq_true_eq]) hn⟩

/-! ### a chain of three -/
def tChain3 (r r' r2 : R2) (ta tb tc td : TE) : TE := fun σ H Q => ta σ H fun x H1 => tb σ H1 fun y H2 => r x y H2 fun z H3 => ∃ k, z = .bl k ∧ (if k = true then
    tc σ H3 fun z1 H4 => r' y z1 H4 fun z2 H5 => ∃ k2, z2 = .bl k2 ∧ (if k2 = true then td σ H5 fun z3 H6 => r2 z1 z3 H6 Q else Q (.bl false) H5) else Q (.bl false) H3)
theorem pe_chain3 {a b c d : Expr} {ta tb tc td : TE} {pos : Pos} {op op' op2 : CmpOp} {r r' r2 : R2} (ho : OpR X (compareOp op) r) (ho' : OpR X (compareOp op') r') (ho2 : OpR X (compareOp op2) r2) (ha : PE X a ta) (hb : PE X b tb) (hc : PE X c tc) (hd : PE X d td)
    (hm : lastMarks [op, op', op2] [b, c, d] = false := by with_unfolding_all rfl) : PE X (.Compare a [op, op', op2] [b, c, d] pos) (tChain3 r r' r2 ta tb tc td) := by
  refine ⟨fun pins s σ H Q I h => ?_⟩
  refine Compare_chain (thn (ha.run pins s σ H _ I h) fun v s1 ⟨x, H1, I1, r1, q1⟩ => chain_link (thn (hb.run pins s1 σ H1 _ I1 q1) fun u s2 ⟨y, H2, I2, r2', q2⟩ =>
    thn (ho pins s2 σ H2 x y v u _ I2 r1 r2' q2) fun d1 s3 ⟨z, H3, I3, r3, k, e, q3⟩ => ?_)) hm
  subst e
  cases r3
  refine wpAny_truthy_bool ?_
  cases k with
  | false => exact ite_ff ⟨.bl false, H3, I3, rfl, q3⟩
  | true =>
    refine ite_tt (chain_link (thn (hc.run pins s3 σ H3 _ I3 q3) fun w1 s4 ⟨z1, H4, I4, r4, q4⟩ => thn (ho' pins s4 σ H4 y z1 u w1 _ I4 r2' r4 q4) fun d2 s5 ⟨z2, H5, I5, r5, k2, e2, q5⟩ => ?_))
    subst e2
    cases r5
    refine wpAny_truthy_bool ?_
    cases k2 with
    | false => exact ite_ff ⟨.bl false, H5, I5, rfl, q5⟩
    | true => exact ite_tt (chain_last (thn (hd.run pins s5 σ H5 _ I5 q5) fun w2 s6 ⟨z3, H6, I6, r6, q6⟩ => ho2 pins s6 σ H6 z1 z3 w1 w2 Q I6 r4 r6 q6))
end
end Bx

set_option Elab.async false
set_option linter.all false
set_option maxRecDepth 100000
set_option maxHeartbeats 4000000
/-! Rt: sorted of a tuple of data. -/
namespace Bx
open PySem PySem.Spec PyProof.Rows L2
open PySem.W (EachIs AllAlike Sortable dataLe)
section
variable {prog : Program} {w : World} {A : Around} {E : Value → Shared → Prop} {s : Shared}
theorem collect_tup {t : Addr} {vs : List Value} {Q : List Value → Shared → Prop} (ht : PyProof.Rows.IsTup s.heap t vs.toArray) (hsz : vs.length ≤ sizeLine)
    (h : Q vs { s with heap := (s.heap.push (seqObj "list" #[] 0)).update s.heap.objs.size (Obj.mapSeq (· ++ vs.toArray)) }) : wpAny (model prog w) A (collect (.ref t)) Q E s := by
  obtain ⟨o, ho, hc, n, hd⟩ := id ht
  unfold collect
  apply wpAny_bind
  apply wpAny_runValue
  apply codeAny_builtin entry_proto_collect'
  show wpAny _ _ (do again (.builtin "list.__iadd__" ⟨[← newList [], .ref t], []⟩)) _ _ s
  apply wpAny_bind
  refine wpAny_newList (wpAny_pure ⟨Code.quiet_builtin _ (by decide +kernel), codeAny_builtin entry_list_iadd' ?_⟩)
  show wpAny _ _ (Builtin.List.listExtendWith (.ref s.heap.objs.size) (.ref t) (.ref s.heap.objs.size)) _ _ { s with heap := s.heap.push (seqObj "list" #[] 0) }
  unfold Builtin.List.listExtendWith
  have here : (s.heap.push (seqObj "list" #[] 0)).get? t = some o := Heap.get?_push_of_some _ ho
  have fresh : (s.heap.push (seqObj "list" #[] 0)).get? s.heap.objs.size = some (seqObj "list" #[] 0) := Heap.get?_push_size _ rfl
  refine wpAny_bind (wpAny_typeOf (T := "tuple") ⟨o, here, hc⟩ ?_)
  have yes : (Value.type "tuple" == Value.type "tuple") = true := by rfl
  rw [if_pos (by rw [yes]; simp)]
  refine wpAny_bind (listItems_at here hd (wpAny_bind (listItems_at (xs := #[]) (n := 0) fresh rfl ?_)))
  rw [if_neg (by simp)]
  refine wpAny_bind (listUpdate_at (xs := #[]) (n := 0) fresh rfl (wpAny_pure ?_) (Nat.zero_le _) (by show (#[] ++ vs.toArray).size ≤ sizeLine + 1; simp only [Array.size_append, List.size_toArray, List.length_nil]; omega))
  show wpAny (model prog w) A (do
      let o ← load s.heap.objs.size
      match o.data with
      | .seq xs _ => pure xs.toList
      | _ => unsupported "internal:collect") Q E { s with heap := (s.heap.push (seqObj "list" #[] 0)).update s.heap.objs.size (Obj.mapSeq (· ++ vs.toArray)) }
  refine wpAny_bind (wpAny_load (get?_update_seq fresh _) ?_)
  have e : ((#[] : Array Value) ++ vs.toArray).toList = vs := by simp
  show wpAny _ _ (pure ((#[] : Array Value) ++ vs.toArray).toList) Q E _
  rw [e]
  exact wpAny_pure h
theorem sortT_data {β : Type} {vs : List Value} {bs : List β} {enc : β → PyData} {R : Value → β → Prop} {t : Addr} {Q : Value → Shared → Prop} (ht : PyProof.Rows.IsTup s.heap t vs.toArray) (e : EachIs R vs bs) (er : EachIs (fun v b => ∃ as, Reads s.heap v (enc b) as) vs bs)
    (hal : AllAlike (bs.map enc)) (hk : Sortable (bs.map enc)) (hL : bs.length ≤ sizeLine) (hu : ∀ b, b ∈ bs → A.units + 3 + (enc b).depth < cLine)
    (h : ∀ out, out.length = bs.length → EachIs R out (bs.mergeSort (dataLe false enc)) → Q (.ref (s.heap.objs.size + 1)) { s with heap := sortedAll s.heap vs (List.toArray out) }) : wpAny (model prog w) A (call (.builtin "sorted") [.ref t]) Q E s := by
  have hz : vs.length ≤ sizeLine := by rw [e.length]; exact hL
  apply Calls.call_function_entry kind_sorted plain_sorted entry_sorted (args_sorted1 _)
  unfold Builtin.«sorted»
  apply wpAny_bind (m := checkCount "sorted" 1 1 _)
  apply wpAny_pure
  refine wpAny_bind (collect_tup ht hz (wpAny_bind (wpAny_newList ?_ hz)))
  have sz : ((s.heap.push (seqObj "list" #[] 0)).update s.heap.objs.size (Obj.mapSeq (· ++ vs.toArray))).objs.size = s.heap.objs.size + 1 := by
    rw [Heap.size_update, size_push']
  have new : (((s.heap.push (seqObj "list" #[] 0)).update s.heap.objs.size (Obj.mapSeq (· ++ vs.toArray))).push (seqObj "list" vs.toArray 0)).get? (s.heap.objs.size + 1) = some (seqObj "list" vs.toArray 0) := by
    rw [← sz]
    exact Heap.get?_push_size _ rfl
  have keep : ∀ b o, s.heap.get? b = some o → (((s.heap.push (seqObj "list" #[] 0)).update s.heap.objs.size (Obj.mapSeq (· ++ vs.toArray))).push (seqObj "list" vs.toArray 0)).get? b = some o := fun b o q => by
    refine Heap.get?_push_of_some _ ?_
    rw [Heap.get?_update_ne _ _ _ _ (Nat.ne_of_lt (Heap.lt_size q))]
    exact Heap.get?_push_of_some _ q
  show wpAny _ _ _ _ _ { s with heap := ((s.heap.push (seqObj "list" #[] 0)).update s.heap.objs.size (Obj.mapSeq (· ++ vs.toArray))).push (seqObj "list" vs.toArray 0) }
  rw [sz]
  refine wpAny_bind (wpAny_holding (PySem.W.list_sort_data (s := { s with heap := ((s.heap.push (seqObj "list" #[] 0)).update s.heap.objs.size (Obj.mapSeq (· ++ vs.toArray))).push (seqObj "list" vs.toArray 0) }) (enc := enc) (R := R) new e
    (er.mono fun v b ⟨as, r⟩ => ⟨as, PyProof.Rows.Reads.keeps keep r, fun hm => by
      obtain ⟨o, ho⟩ := PyProof.On.reads_mem_get r _ hm
      exact absurd (Heap.lt_size ho) (Nat.not_lt.mpr (Nat.le_succ _))⟩) hal hk hL (fun b hb => by
      have := hu b hb
      show A.units + 1 + 1 + _ < _
      omega) fun out ho he => ?_))
  exact wpAny_pure ⟨_, rfl, h out ho he⟩
end
section
variable {X : Cx}
/-- sorted(t) of a tuple of data that compare -/
def rSortTd (K : PySem.W.Frag) : List V → Hp → VK → Prop := fun vs H Q => ∃ (a : Addr) (xs : List V) (ds : List PyData), vs = [V.ref a] ∧ SqT K H a xs ∧ DpAll K H xs ds ∧ AllAlike ds ∧ Sortable ds ∧ ds.length ≤ 100000 ∧ (∀ d ∈ ds, d.depth ≤ 40) ∧
  ∀ ys es p, ys.Perm xs → DpAll K H ys es → es.Perm ds → es.Pairwise (fun d e => PySem.W.dataLt e d = false) → H p = none → Q (.ref p) (upd H p (.lst ys))
theorem cr_sortTd (hu : X.A.units + 64 < cLine) : CallR X (.builtin "sorted") (rSortTd X.K) := by
  intro pins s σ H vs us Q I r h
  obtain ⟨a, xs, ds, rfl, hs, hd, ha, hk, hn, hdp, q⟩ := h
  rw [Vals.ref1 r]
  obtain ⟨its, rv, ht, hz⟩ := I.tuple hs
  have e1 : (xs.zip ds).map (·.2) = ds := List.map_snd_zip (Nat.le_of_eq (dpAll_len hd).symm)
  have e0 : (xs.zip ds).map (·.1) = xs := List.map_fst_zip (Nat.le_of_eq (dpAll_len hd))
  have el : its.length = (xs.zip ds).length := by rw [← rv.length, List.length_zip, dpAll_len hd]; omega
  have rd : ∀ (i : Nat) (u : Value) (z : V × PyData), its[i]? = some u → (xs.zip ds)[i]? = some z → RelV z.1 u ∧ ∃ as, Reads s.heap u z.2 as := fun i u z h1 h2 => by
    obtain ⟨h3, h4⟩ := zip_at h2
    have h5 := vals_at rv h3 h1
    obtain ⟨as, h6⟩ := Dp.reads I z.2 z.1 u (dpAll_zipmem hd z (List.mem_of_getElem? h2)) h5
    exact ⟨h5, as, h6⟩
  refine sortT_data (vs := its) (bs := xs.zip ds) (R := fun v (b : V × PyData) => RelV b.1 v) (enc := fun b : V × PyData => b.2) ht (each_of el fun i u z h1 h2 => (rd i u z h1 h2).1) (each_of el fun i u z h1 h2 => (rd i u z h1 h2).2) (by rw [e1]; exact ha) (by rw [e1]; exact hk) (by rw [List.length_zip, sizeLine_eq]; omega)
    (fun b hb => by have := hdp b.2 (by rw [← e1]; exact List.mem_map.mpr ⟨b, hb, rfl⟩); omega) fun out ho he => ?_
  have hv := vals_of_each he
  have hperm : ((xs.zip ds).mergeSort (dataLe false fun b : V × PyData => b.2)).Perm (xs.zip ds) := List.mergeSort_perm ..
  have tot := PySem.W.sortLe_total (listOrd itemOrd) false (fun b : V × PyData => PySem.W.keyToks b.2)
  have hsort : ((xs.zip ds).mergeSort (dataLe false fun b : V × PyData => b.2)).Pairwise (fun a b => dataLe false (fun b : V × PyData => b.2) a b = true) := List.pairwise_mergeSort (fun a b c h1 h2 => tot.trans a b c h1 h2) (fun a b => Bool.or_eq_true_iff.mpr (tot.total a b)) _
  generalize (xs.zip ds).mergeSort (dataLe false fun b : V × PyData => b.2) = zs at hv hperm hsort he
  have kp : ∀ b o, s.heap.get? b = some o → (sortedAll s.heap its out.toArray).get? b = some o := fun b o e => sortedAll_old e
  obtain ⟨n, hat⟩ := sortedAll_at s.heap its out.toArray
  have hfr : H (s.heap.objs.size + 1) = none := I.hok.fresh (Nat.le_succ _)
  refine ⟨.ref (s.heap.objs.size + 1), upd H (s.heap.objs.size + 1) (.lst (zs.map (·.1))), I.laid (t' := s.toks) kp (Nat.le_succ _) ⟨?_, out, n, hv, hat⟩, rfl, q _ (zs.map (·.2)) _ ?_ (dpAll_zip fun z hz => dpAll_zipmem hd z (hperm.mem_iff.mp hz)) ?_ ?_ hfr⟩
  · rw [List.length_map, hperm.length_eq, List.length_zip, sizeLine_eq]
    omega
  · have := hperm.map (·.1)
    rw [e0] at this
    exact this
  · have := hperm.map (·.2)
    rw [e1] at this
    exact this
  · rw [List.pairwise_map]
    refine hsort.imp fun {d e} h => ?_
    rw [dataLe_not] at h
    simpa using h
end
end Bx

set_option Elab.async false
set_option linter.all false
set_option maxRecDepth 100000
set_option maxHeartbeats 4000000
/-! St: a text times a number. -/
namespace Bx
open PySem PySem.Spec PyProof.Rows L2 TL
theorem fold_cat {α : Type} : ∀ (ls : List (Array α)) (a : Array α), (ls.foldl (· ++ ·) a).toList = a.toList ++ (ls.map Array.toList).flatten
  | [], a => by simp
  | l :: ls, a => by
    rw [List.foldl_cons, fold_cat ls (a ++ l)]
    simp
theorem str_len (z : Str) : z.length = (tl z).length := by
  show z.cps.size = z.cps.toList.length
  rw [Array.length_toList]
theorem str_ext {x y : Str} (h : tl x = tl y) : x = y := by
  cases x with
  | mk a => cases y with
    | mk b =>
      have h : a.toList = b.toList := h
      rw [Array.toList_inj.mp h]
section
variable {X : Cx}
def rRepS : R2 := fun x y H Q => ∃ (z : Str) (n : Nat), x = .str z ∧ y = .int (n : Int) ∧ n ≤ 1000 ∧ z.length ≤ 100 ∧ ∀ u : Str, tl u = (List.replicate n (tl z)).flatten → Q (.str u) H
theorem op_repS : OpR X (binaryOp .Mult) rRepS := by
  intro pins s σ H x y v u Q I rx ry h
  obtain ⟨z, n, rfl, rfl, hn, hz, q⟩ := h
  obtain ⟨t, rfl⟩ := rx
  obtain ⟨t', rfl⟩ := ry
  have hr : (decide ((n : Int) < -(2 ^ 63 : Int)) || decide ((n : Int) ≥ 2 ^ 63)) = false := by
    rw [decide_eq_false (by omega), decide_eq_false (by omega)]
    rfl
  refine P.mul_str hr (fun h1 _ => ?_) (fun h1 _ => ?_) ?_
  · have h2 : (0 : Int) < n := by omega
    have h3 : (z.length : Int) ≤ (2 ^ 63 - 1) / n := by
      rw [Int.le_ediv_iff_mul_le h2]
      have : (z.length : Int) * n ≤ 100 * 1000 := Int.mul_le_mul (by omega) (by omega) (by omega) (by omega)
      omega
    omega
  · have : z.length * (n : Int).toNat ≤ 100 * 1000 := Nat.mul_le_mul hz (by omega)
    unfold Builtin.Str.tooLong
    rw [sizeLine_eq]
    exact decide_eq_false (by omega)
  · by_cases h1 : (n : Int) < 1
    · rw [if_pos h1]
      have h0 : n = 0 := by omega
      subst h0
      exact ⟨by decide, .str Str.empty, H, I.tok _, ⟨_, rfl⟩, q _ rfl⟩
    · rw [if_neg h1]
      by_cases h2 : ((n : Int) == 1 || z.length == 0) = true
      · rw [if_pos h2]
        refine ⟨.str z, H, I, ⟨t, rfl⟩, q z ?_⟩
        rcases Bool.or_eq_true_iff.mp h2 with e | e
        · have : n = 1 := by
            have := eq_of_beq e
            omega
          subst this
          simp
        · have : z.length = 0 := eq_of_beq e
          rw [str_len] at this
          rw [List.length_eq_zero_iff.mp this]
          simp
      · rw [if_neg h2]
        have e : tl (⟨(List.replicate (n : Int).toNat z.cps).foldl (· ++ ·) #[]⟩ : Str) = (List.replicate n (tl z)).flatten := by
          show ((List.replicate (n : Int).toNat z.cps).foldl (· ++ ·) #[]).toList = _
          rw [fold_cat, Int.toNat_natCast, List.map_replicate]
          rfl
        refine ⟨?_, .str _, H, I.tok _, ⟨_, rfl⟩, q _ e⟩
        have h3 : (tl (⟨(List.replicate (n : Int).toNat z.cps).foldl (· ++ ·) #[]⟩ : Str)).length ≤ 100 * 1000 := by
          rw [e, List.length_flatten, List.map_replicate, List.sum_replicate_nat, ← str_len]
          exact Nat.le_trans (Nat.mul_le_mul hn hz) (by decide)
        rw [← str_len] at h3
        show _ ≤ sizeLine
        rw [sizeLine_eq]
        omega
end
end Bx

set_option Elab.async false
set_option linter.all false
set_option maxRecDepth 100000
set_option maxHeartbeats 4000000
/-! Gj: sep.join(a generator expression). -/
namespace Gx
open PySem PySem.Spec PyProof.Rows L2 GenW
section
variable {X : Cx} {scope : Scope} {N : List Str} {src : List (Option Nat)} {c P : Addr}
variable {o elt tg iter : Expr} {ifs : List Expr} {apos cpos gpos : Pos} {wi : TI} {g : TG} {tt : TT} {te to : TE} {vs : List Nat} {k : Nat}
abbrev tGJoin (P : Addr) (to : TE) (wi : TI) (g : TG) (tt : TT) (te : TE) (vs : List Nat) (src : List (Option Nat)) : TE := fun σ H Q => to σ H fun v H1 => ∃ sep : Str, v = .str sep ∧
  tGen P wi g tt te vs src (fun _ => pTup) (fun Q ys H => ∃ zs : List Str, ys = zs.map V.str ∧ (zs.map (·.length)).sum + zs.length * sep.length ≤ 16777216 ∧ Q (.str (Txt.join sep zs)) H) σ H1 Q
theorem pe_gjoin (G : GParts X k scope N tg ifs elt g tt te) (hr : Room (k + 3) X.A) (ho : PE X o to) (TB : TabB X.base X.mg c P) (hcode : X.env.code = .ref c) (ok : GOk X.N X.env.scope scope N src) (hi : PI X tg iter wi)
    (hs : ∀ v, genFold iter X.env v = pure v := by intro _; rfl) (hbase : attributeBase o "join" X.env (eval o X.env) = eval o X.env := by rfl)
    (hfew : ((backTo cpos (starEach [.GeneratorExp elt [⟨tg, iter, ifs, 0⟩] scope gpos] X.env)).all (fun x => !x.1) && (backToKw cpos (keywordEach [] X.env)).all (fun x => x.1.isSome)
      && decide (([.GeneratorExp elt [⟨tg, iter, ifs, 0⟩] scope gpos] : List Expr).length + ([] : List Keyword).length + (if ([] : List Keyword).isEmpty then 0 else 1) < 30)) = true := by rfl)
    (hline : (apos.endLine == cpos.line) = true := by rfl)
    (he : starEach [.GeneratorExp elt [⟨tg, iter, ifs, 0⟩] scope gpos] X.env = (false, eval (.GeneratorExp elt [⟨tg, iter, ifs, 0⟩] scope gpos) X.env) :: starEach [] X.env := by rfl)
    (hplain : (backTo cpos (starEach [] X.env)).any (·.1) = false := by rfl) :
    PE X (.Call (.Attribute o "join" apos) [.GeneratorExp elt [⟨tg, iter, ifs, 0⟩] scope gpos] [] cpos) (tGJoin P to wi g tt te vs src) := by
  refine ⟨fun pins s σ H Q I h => ?_⟩
  refine wpAny_Call_method_late hbase hfew hline rfl (thn (ho.run pins s σ H _ I h) fun v s1 ⟨x', H1, I1, r1, sep, ex, q1⟩ => ?_)
  subst ex
  obtain ⟨tk, rfl⟩ := (show ∃ t, v = Value.str sep t from r1)
  refine ⟨"str", _, PySem.F.plainAttrs_str, PySem.F.slot_str_join, PySem.F.type_str_join, typeIs_str _ _ _, (fun _ e => nomatch e), ?_⟩
  rw [he]
  refine Calls.callWith_builtin (by show (false || (backTo cpos (starEach [] X.env)).any (·.1)) = false; rw [hplain] <;> rfl) (Calls.evalArgs_plain ?_)
  show wpAny _ _ (spliced ((false, eval (.GeneratorExp elt [⟨tg, iter, ifs, 0⟩] scope gpos) X.env) :: backTo cpos (starEach [] X.env))) _ _ s1
  refine Calls.spliced_cons (gen_make (gpos := gpos) (elt := elt) (ifs := ifs) hr TB hcode ok hi hs I1 q1 fun it fp tn J H1 H2 s4 code a go gi s5 q hT I4 T st hfp M => ?_)
  obtain ⟨W, ⟨m, w0⟩, turn⟩ := q H2 hT
  refine Calls.spliced_nil ?_
  refine wpAny_call (codeAny_call_builtin F.slot_str_join.plain F.entry_str_join (F.slot_str_join.check _ _ _ _ _ _ _ _ (typeIs_str _ _ _) (F.args_str_join_2 _ _) ?_))
  show wpAny _ X.A.in1 (Builtin.«str.join» ⟨[.str sep tk, .ref a], []⟩) _ _ s5
  rw [join_tree_other]
  have hTI : s5.TypeIs (.ref a) "generator" := Heap.IsGen.typeIs (s := s5) (M.gen _ M.obj)
  refine wpAny_bind (wpAny_typeOf hTI ?_)
  show wpAny _ X.A.in1 ((pyIter (.ref a)).tryCatch _ >>= fun it => collect it >>= fun items => joinTail sep items) _ _ s5
  refine wpAny_bind (wpAny_tryCatch (wpAny_pyIter_gen (M.gen _ M.obj) ?_))
  refine wpAny_bind (collect_gx (B := X.A.in1) G M ok I4 T st hfp (show X.A.in1.frames = some X.stack from I4.ok.frames) hr.in1 turn w0 fun s' ys H acc b q hv hle => ?_)
  obtain ⟨zs, rfl, hz, q⟩ := q
  obtain ⟨l, hl, ht⟩ := strsAre_values (strs_of_vals hv)
  subst ht
  have hok := joinOk_of hz
  unfold JoinOk at hok
  rw [Bool.not_eq_true'] at hok
  have g : Gives (joinTail sep (strValues l)) (joinMade sep l) := by
    have g0 := gives_joinTail sep l hok
    cases l with
    | nil => exact g0
    | cons p r => cases r with
      | nil => exact g0
      | cons q r' => exact g0
  rw [hl]
  have I5 := b.inv I4 fun b hb => (hfp b hb).1
  refine g X.prog X.w X.A (wants _ X.xe) s' (post_join l ⟨joinFit_length hok, fun t' k' => ?_⟩)
  exact ⟨.str _, H, I5.tok k', ⟨t', rfl⟩, q⟩
end
end Gx

set_option Elab.async false
set_option linter.all false
set_option maxRecDepth 100000
set_option maxHeartbeats 4000000
/-! Jt: not in a tuple of data; the texts of numbers. -/
namespace Bx
open PySem PySem.Spec PyProof.Rows L2
section
variable {X : Cx}
theorem op_notInDT (hu : X.A.units + 65 < cLine) : OpR X (compareOp .NotIn) (rInDT X.K true) := by
  intro pins s σ H x y v u Q I rx ry h
  obtain ⟨d, ds, hd, he, sd, se, q⟩ := h
  obtain ⟨as, r1⟩ := Dp.reads I d x v hd rx
  obtain ⟨bs, r2⟩ := Dp.reads I (.tuple ds) y u he ry
  refine SeqAt.notIn_tuple_reads r2 r1 (SeqAt.canLay_of_shaped se) (SeqAt.canLay_of_shaped sd) (PyProof.Rows.room_in_shaped sd hu) ⟨.bl (!ds.any fun y => y.eqv d), H, I, rfl, ?_⟩
  rw [Bool.true_xor] at q
  exact q
theorem op_notInDTK {K : PySem.W.Frag} (h : X.K = K) (hu : X.A.units + 65 < cLine) : OpR X (compareOp .NotIn) (rInDT K true) := h ▸ op_notInDT hu
end
open Gx GenW in
/-- tuple(..) over a source, whatever comes behind -/
theorem g_tupF {J : It} {n : Nat} {it : Nat → V} {te : TE} {vs : List Nat} {σg : L2.St} {H : Hp} {o : Nat} {Fin : List V → Hp → Prop} {Pw : Nat → List V → Hp → Prop} (S : ∀ i ys, Src J n it (Pw i ys)) (hn : n ≤ sizeLine) (hw : ∀ x, wipe (σg.set o (some x)) vs = σg) (h0 : Pw 0 [] H)
    (len : ∀ i ys H, Pw i ys H → ys.length ≤ i)
    (elt : ∀ i ys H (C : V → Hp → Prop), Pw i ys H → i < n → (∀ v H4, Pw (i + 1) (ys ++ [v]) H4 → C v H4) → te (σg.set o (some (it i))) H C)
    (fin : ∀ ys H, Pw n ys H → Fin ys H) :
    ∃ W : Nat → Nat → List V → Hp → Prop, (∃ m, W 0 m [] H) ∧ GTurn J (gName o) tYes te vs σg pTup Fin W := by
  refine ⟨fun i m ys H => Pw i ys H ∧ i ≤ n ∧ m = n - i, ⟨n, h0, Nat.zero_le _, by omega⟩, fun i m ys H ⟨hp, hi, hm⟩ => ?_⟩
  by_cases e : i = n
  · subst e
    exact .inl ⟨(S i ys).stop H hp, fin ys H hp⟩
  · have hlt : i < n := by omega
    refine .inr ⟨(S i ys).go i H hp hlt, fun x H' y => ?_⟩
    obtain ⟨rfl, rfl⟩ := (S i ys).yld i H x H' hp hlt y
    refine ⟨hw _, ?_⟩
    dsimp only [tYes]
    rw [if_pos rfl]
    exact elt i ys H' _ hp hlt fun v H4 h4 => ⟨by have := len i ys H' hp; omega, n - (i + 1), by omega, h4, hlt, rfl⟩
/-- the text of a whole number -/
def nTx (i : Int) : Str := Str.ofString (toString i)
theorem nTx_len {i : Int} {k : Nat} (hk : 0 < k) (h : i.natAbs < 10 ^ k) : (nTx i).length ≤ k + 1 := by
  have := int_text_length_le10 hk h
  rwa [nTx, PySem.ofString_length]
theorem strOk_num (i : Int) : PyData.strOk (nTx i) = true := by
  unfold PyData.strOk nTx
  rw [Str.ofString_eq_toList, Array.all_eq_true']
  intro x hx
  have hx : x ∈ (toString i).toList.map Char.toNat := by simpa using hx
  obtain ⟨c, _, rfl⟩ := List.mem_map.mp hx
  rw [decide_eq_true_eq]
  have := c.valid
  rcases this with z | z
  · have z : c.toNat < 55296 := z
    omega
  · have z : c.toNat < 1114112 := z.2
    omega
theorem strOk_append {x y : Str} (hx : PyData.strOk x = true) (hy : PyData.strOk y = true) : PyData.strOk (x ++ y) = true := by
  unfold PyData.strOk at *
  rw [Array.all_eq_true'] at *
  intro c hc
  have hc : c ∈ (x ++ y).cps.toList := by simpa using hc
  have e : (x ++ y).cps.toList = x.cps.toList ++ y.cps.toList := TL.tl_append x y
  rw [e] at hc
  rcases List.mem_append.mp hc with z | z
  · exact hx c (by simpa using z)
  · exact hy c (by simpa using z)
end Bx
namespace Bx
open PySem PySem.Spec PyProof.Rows L2
theorem pe_joinK {X : Cx} {K : PySem.W.Frag} {o e : Expr} {to te : TE} {apos pos : Pos} (h : X.K = K) (ho : PE X o to) (he : PE X e te) (hs : starEach [e] X.env = [(false, eval e X.env)] := by rfl) (hbase : attributeBase o "join" X.env (eval o X.env) = eval o X.env := by rfl) (hline : (apos.endLine == pos.line) = true := by rfl) :
    PE X (.Call (.Attribute o "join" apos) [e] [] pos) (tM1 (fun x xs H Q => ∃ a p, ∃ ys : List Str, x = .str a ∧ xs = [.ref p] ∧ (SqL K H p (ys.map V.str) ∨ SqT K H p (ys.map V.str)) ∧
      (ys.map (·.length)).sum + ys.length * a.length ≤ 16777216 ∧ Q (.str (Txt.join a ys)) H) to te) := h ▸ pe_join ho he hs hbase hline
theorem strOk_list {l : List Nat} (h : ∀ x ∈ l, x < 1114112) : PyData.strOk ⟨l.toArray⟩ = true := by
  unfold PyData.strOk
  rw [Array.all_eq_true']
  intro x hx
  rw [decide_eq_true_eq]
  exact h x (by simpa using hx)
theorem strOk_mem {s : Str} (h : PyData.strOk s = true) {x : Nat} (hx : x ∈ s.cps.toList) : x < 1114112 := by
  unfold PyData.strOk at h
  rw [Array.all_eq_true'] at h
  exact of_decide_eq_true (h x (by simpa using hx))
end Bx

set_option Elab.async false
set_option linter.all false
set_option maxRecDepth 100000
set_option maxHeartbeats 4000000
namespace Wd
open PySem PySem.Spec PyProof.Rows L2 Bx Gx
def topS (i : Nat) : Stmt := PySem.Challenge.pw_wardsdrawn_k07_squares_bars_and_lists.main.body.getD i (.Pass ⟨0, 0, 0, 0⟩)
abbrev st_WardError : Stmt := topS 1
abbrev st_InvalidCount : Stmt := topS 2
abbrev st_InvalidLand : Stmt := topS 3
abbrev st_InvalidPlan : Stmt := topS 4
abbrev st_is_integer : Stmt := topS 9
abbrev st_is_ascending : Stmt := topS 10
abbrev st_is_place : Stmt := topS 11
abbrev st_is_lot : Stmt := topS 12
abbrev st_mask_of : Stmt := topS 13
abbrev st_lot_of : Stmt := topS 14
abbrev st_whole_mask : Stmt := topS 15
abbrev st_links_of : Stmt := topS 16
abbrev st_reached : Stmt := topS 17
abbrev st_hangs_together : Stmt := topS 18
abbrev st_fault_of_land : Stmt := topS 19
abbrev st_fault_of_folk : Stmt := topS 20
abbrev st_fault_of_borders : Stmt := topS 21
abbrev st_is_border : Stmt := topS 22
abbrev st_fault_of_plan : Stmt := topS 23
abbrev st_check_land : Stmt := topS 24
abbrev st_check_plan : Stmt := topS 25
abbrev st_check_count : Stmt := topS 26
abbrev st_folk_within : Stmt := topS 28
abbrev st_ward_row : Stmt := topS 29
abbrev st_square : Stmt := topS 33
abbrev st_bars : Stmt := topS 34
abbrev st_listed : Stmt := topS 35
abbrev st_sign_of : Stmt := topS 36
abbrev st_bar_of : Stmt := topS 37
abbrev st__law_spring : Stmt := topS 39
abbrev st__law_drop : Stmt := topS 40
abbrev st__law_kinds : Stmt := topS 41
abbrev st__law_alike : Stmt := topS 42
abbrev st__law_land : Stmt := topS 43
abbrev st__law_order : Stmt := topS 44
abbrev st__law_near : Stmt := topS 45
abbrev st__law_reached : Stmt := topS 46
abbrev st__law_pieces : Stmt := topS 47
abbrev st__law_plan : Stmt := topS 48
abbrev st__law_some : Stmt := topS 49
abbrev st__law_owners : Stmt := topS 50
abbrev st__law_square : Stmt := topS 51
abbrev st__law_bars : Stmt := topS 52
abbrev st_law : Stmt := topS 53
/-! ### plain data -/
def isIntD (lo hi : Int) : PyData → Bool
  | .int i => decide (lo ≤ i ∧ i ≤ hi)
  | _ => false
theorem tyB_dp {K : PySem.W.Frag} {H : Hp} {v : V} {d : PyData} (h : Dp K H v d) : (∃ i, v = .int i ∧ d = .int i ∧ TyB K H v "int") ∨ ∃ T, T ∈ tyNames ∧ TyB K H v T ∧ T ≠ "int" ∧ ∀ lo hi, isIntD lo hi d = false := by
  cases h with
  | non => exact .inr ⟨"NoneType", by decide, .non, by decide, fun _ _ => rfl⟩
  | bl b => exact .inr ⟨"bool", by decide, .bl b, by decide, fun _ _ => rfl⟩
  | int i => exact .inl ⟨i, rfl, rfl, .int i⟩
  | str x => exact .inr ⟨"str", by decide, .str x, by decide, fun _ _ => rfl⟩
  | lst h _ => exact .inr ⟨"list", by decide, .lst h, by decide, fun _ _ => rfl⟩
  | tup h _ => exact .inr ⟨"tuple", by decide, .tup h, by decide, fun _ _ => rfl⟩
section
variable {P : Program} {w : World} {K : PySem.W.Frag} {mg : Str → Option Value} {base : Heap}
/-! ### is_integer -/
def spIsInteger (K : PySem.W.Frag) : Sp := fun vs H Q _ => ∃ (v : V) (d : PyData) (lo hi : Int), vs = [v, .int lo, .int hi] ∧ Dp K H v d ∧ Q (.bl (isIntD lo hi d)) H
theorem sc_is_integer : FnScope ["value", "low", "high"] ["value", "low", "high"] (defScope st_is_integer) := ⟨rfl, rfl, rfl, by decide +kernel, rfl, by decide +kernel, by decide +kernel⟩
theorem ok_is_integer {f : Addr} {fd : FuncData} (F : Fun K "is_integer" "is_integer" st_is_integer f fd) (B : Bl mg) : FnOk P w K mg base CX0 1 f fd ["value", "low", "high"] (spIsInteger K) := by
  refine F.ok sc_is_integer (fun vs H Q E h => ?_) (fun cdv A outer s H vs Q E hr h => ?_)
  · obtain ⟨v, d, lo, hi, rfl, _⟩ := h
    rfl
  · obtain ⟨v, d, lo, hi, rfl, hd, k⟩ := h
    refine ⟨_, pss_one (ps_ret (pe_and (pe_cmpR op_eqTy (pe_callTy call_type1 rfl B.type (by decide +kernel) (pa_cons (pv 0) pa_nil)) (pe_bltn rfl B.int (by decide +kernel) (v := .ty "int") rfl) (nomark _)) (pe_one (pe_chain op_le op_le (pv 1) (pv 0) (pv 2))))), ?_⟩
    rcases tyB_dp hd with ⟨i, rfl, rfl, ht⟩ | ⟨T, hT, ht, hne, hf⟩
    · refine ⟨_, rfl, _, "int", rfl, ht, "int", "int", rfl, rfl, by decide, by decide, true, rfl, ?_⟩
      simp only [tVar, tC, t2I, tAdd, tSub, tCmp, tIsN, tNotN, tB, tAnd, tOr, tNot, tAndV, tOrV, tNotV, tIf, tNext, tSeq, tDrop, tRet, tRetN, tIfS, tAsg, gName, gNil, gCons, gTup, gSub, tPar, tAug, tAugS, iList, iTup, iRng1, iRng2, tOp, tUn, rI, rI0, rU, rEq, rNe, tTest, tChain, tNil, tCons, tTup, tLst, tCall, tCB, rTyp, r1, kTyp, rTyC, tSl, tNoPart, tPart, tBM0, tBM, tYes, rIxL, rIxT, rIx, rSetL, gtList, L2.start, Ends.nx, Ends.rt, List.map, List.length, List.replicate, List.append, List.append_nil, List.cons_append, List.nil_append, List.set, List.getElem?_cons_zero, List.getElem?_cons_succ, Option.some.injEq, exists_and_left, exists_eq_left', exists_eq_left, V.int.injEq, V.ty.injEq, V.bl.injEq, V.ref.injEq, List.cons.injEq, and_true, true_and, decide_eq_true_eq, Bool.false_eq_true, if_false, if_true, id]
      by_cases h1 : lo ≤ i
      · rw [if_pos h1]
        by_cases h2 : i ≤ hi
        · have e : isIntD lo hi (.int i) = true := decide_eq_true ⟨h1, h2⟩
          rw [e] at k
          simpa [h2] using k
        · have e : isIntD lo hi (.int i) = false := decide_eq_false fun z => h2 z.2
          rw [e] at k
          simpa [h2] using k
      · have e : isIntD lo hi (.int i) = false := decide_eq_false fun z => h1 z.1
        rw [e] at k
        rw [if_neg h1]
        exact k
    · rw [hf] at k
      refine ⟨_, rfl, _, T, rfl, ht, T, "int", rfl, rfl, hT, by decide, false, ?_, k⟩
      rw [decide_eq_false hne]
      rfl
/-! ### is_place -/
def spIsPlace (K : PySem.W.Frag) : Sp := fun vs H Q _ => ∃ (l v : V) (fs : List Int) (bd d : PyData), vs = [l, v] ∧ Dp K H l (.tuple [.tuple (fs.map .int), bd]) ∧ fs.length ≤ 100 ∧ Dp K H v d ∧ Q (.bl (isIntD 0 ((fs.length : Int) - 1) d)) H
theorem sc_is_place : FnScope ["land", "value"] ["land", "value"] (defScope st_is_place) := ⟨rfl, rfl, rfl, by decide +kernel, rfl, by decide +kernel, by decide +kernel⟩
theorem ok_is_place {f : Addr} {fd : FuncData} (F : Fun K "is_place" "is_place" st_is_place f fd) (B : Bl mg) (c1 : Cal P w K mg base 1 "is_integer" ["value", "low", "high"] (spIsInteger K)) : FnOk P w K mg base CX0 2 f fd ["land", "value"] (spIsPlace K) := by
  refine F.ok sc_is_place (fun vs H Q E h => ?_) (fun cdv A outer s H vs Q E hr h => ?_)
  · obtain ⟨l, v, fs, bd, d, rfl, _⟩ := h
    rfl
  · obtain ⟨l, v, fs, bd, d, rfl, hl, hn, hd, k⟩ := h
    refine ⟨_, pss_one (ps_ret (pe_cal c1 hr rfl (pa_cons (pv 1) (pa_cons pe_int (pa_cons (pe_op op_sub (pe_callB call_len (by rfl) B.len PySem.boot_len (pa_cons (pe_ix ix_tup (pv 0) pe_int (fun _ _ => rfl)) pa_nil)) pe_int) pa_nil))))), ?_⟩
    obtain ⟨a, xs, rfl, h1, h2⟩ := dp_tup hl
    obtain ⟨v0, h3, h4⟩ := dpAll_get (i := 0) h2 rfl
    obtain ⟨b, rfl, h5⟩ := dp_ints h4
    refine ⟨_, rfl, _, rfl, _, _, _, _, rfl, rfl, h1, atI_nat h3, _, fs.length, rfl, .inr ⟨_, h5, by simp⟩, _, _, rfl, rfl, _, d, 0, _, rfl, hd, k⟩
end
section
variable {P : Program} {w : World} {K : PySem.W.Frag} {mg : Str → Option Value} {base : Heap}
/-! ### is_ascending: of a tuple of ints -/
def asc : List Int → Bool
  | a :: b :: r => decide (a < b) && asc (b :: r)
  | _ => true
theorem asc_range (ns : List Int) : (List.range (ns.length - 1)).all (fun i => decide (ns.getD i 0 < ns.getD (i + 1) 0)) = asc ns := by
  induction ns with
  | nil => rfl
  | cons a r ih =>
    cases r with
    | nil => rfl
    | cons b r =>
      have e : (a :: b :: r).length - 1 = (b :: r).length - 1 + 1 := by simp
      rw [e, List.range_succ_eq_map, List.all_cons, List.all_map]
      show _ = (decide (a < b) && asc (b :: r))
      rw [← ih]
      rfl
def spIsAscending (K : PySem.W.Frag) (Pt : Addr) : Sp := fun vs H Q _ => ∃ (v : V) (ns : List Int), vs = [v] ∧ Dp K H v (.tuple (ns.map .int)) ∧ ns.length ≤ 6000 ∧ TabG H Pt ∧ ∀ H', Ext H H' → Q (.bl (asc ns)) H'
theorem sc_is_ascending : FnScope ["row"] ["row"] (defScope st_is_ascending) := ⟨rfl, rfl, rfl, by decide +kernel, rfl, by decide +kernel, by decide +kernel⟩
theorem ok_is_ascending {f c Pt : Addr} {fd : FuncData} (F : FunC K "is_ascending" "is_ascending" st_is_ascending f fd c) (TB : TabB base mg c Pt) (B : Bl mg) : FnOk P w K mg base CX0 4 f fd ["row"] (spIsAscending K Pt) := by
  refine F.ok sc_is_ascending (fun vs H Q E h => ?_) (fun A outer s H vs Q E hr h => ?_)
  · obtain ⟨v, ns, rfl, _⟩ := h
    rfl
  · obtain ⟨v, ns, rfl, hd, hl, hT, k⟩ := h
    refine ⟨_, pss_one (ps_ret (pe_gall (k := 0) (N := ["k", "row"]) (src := [none, some 0]) (vs := [0])
      ⟨fun B s H fp code hB => pg_name (i := 0) (by decide +kernel : (["k", "row"] : List Str).Nodup) rfl (Or.inl rfl), fun B s H fp code hB => pts_nil, fun B s H fp code hB => pe_cmpR op_lt (pe_ix (ix_tupK (K := K) rfl) (pv 1) (pv 0) (fun _ _ => rfl)) (pe_ix (ix_tupK (K := K) rfl) (pv 1) (pe_op op_add (pv 0) pe_int) (fun _ _ => rfl)) (nomark _)⟩
      (hr.mono (by decide)) rfl B.all TB rfl (gOk (ND := ["row"]) (sc := defScope st_is_ascending) (by decide +kernel)) (pi_range1 rfl B.range (pa_cons (pe_op op_sub (pe_callB call_len (by rfl) B.len PySem.boot_len (pa_cons (pv 0) pa_nil)) pe_int) pa_nil)))), ?_⟩
    obtain ⟨a, rfl, h1⟩ := dp_ints hd
    refine ⟨_, rfl, _, ns.length, rfl, .inr ⟨_, h1, by simp⟩, _, _, rfl, rfl, _, rfl, by omega, by omega, hT, fun H2 hT2 => ?_⟩
    have x2 : Ext H H2 := Ext.tabbed hT hT2
    have e : ((ns.length : Int) - 1).toNat = ns.length - 1 := by omega
    rw [e]
    refine g_all (Ph := fun H4 => H4 = H2) src_range (fun i => decide (ns.getD i 0 < ns.getD (i + 1) 0)) rfl (fun i H C hp hi k2 => ?_) (fun H hp ea => ?_) fun H hp ea => ?_
    · subst hp
      have g1 : (ns.map V.int)[i]? = some (V.int (ns.getD i 0)) := by
        rw [List.getElem?_map, List.getElem?_eq_getElem (by omega), List.getD_eq_getElem?_getD, List.getElem?_eq_getElem (by omega)]
        rfl
      have g2 : (ns.map V.int)[i + 1]? = some (V.int (ns.getD (i + 1) 0)) := by
        rw [List.getElem?_map, List.getElem?_eq_getElem (by omega), List.getD_eq_getElem?_getD, List.getElem?_eq_getElem (by omega)]
        rfl
      refine ⟨rfl, _, rfl, _, rfl, _, _, _, _, rfl, rfl, x2.sqT h1, by rw [Int.zero_add]; exact atI_nat g1, _, rfl, _, rfl, _, _, rfl, rfl, _, _, _, _, rfl, rfl, x2.sqT h1, (by
        have e2 : (0 : Int) + (i : Int) + 1 = ((i + 1 : Nat) : Int) := by omega
        rw [e2]; exact atI_nat g2), _, _, rfl, rfl, k2 H rfl⟩
    all_goals
      subst hp
      rw [asc_range] at ea
      have q := k _ x2
      rw [ea] at q
      exact q
end
section
variable {P : Program} {w : World} {K : PySem.W.Frag} {mg : Str → Option Value} {base : Heap}
def lotD (ps : List Nat) : PyData := .tuple (ps.map fun (p : Nat) => .int (p : Int))
theorem dp_lot {H : Hp} {v : V} {ps : List Nat} (h : Dp K H v (lotD ps)) : ∃ a, v = .ref a ∧ SqT K H a (ps.map fun (p : Nat) => V.int (p : Int)) := by
  have h2 : Dp K H v (.tuple ((ps.map fun (p : Nat) => (p : Int)).map .int)) := by
    rw [List.map_map]
    exact h
  obtain ⟨a, e, h3⟩ := dp_ints h2
  rw [List.map_map] at h3
  exact ⟨a, e, h3⟩
theorem dpAll_lot {H : Hp} (ps : List Nat) : DpAll K H (ps.map fun (p : Nat) => V.int (p : Int)) (ps.map fun (p : Nat) => .int (p : Int)) := by
  have h := dpAll_of_ints (K := K) (H := H) (ps.map fun (p : Nat) => (p : Int))
  rw [List.map_map, List.map_map] at h
  exact h
theorem getD_lot {ps : List Nat} {i : Nat} (hi : i < (ps.map fun (p : Nat) => V.int (p : Int)).length) : (ps.map fun (p : Nat) => V.int (p : Int)).getD i .non = V.int ((ps.getD i 0 : Nat) : Int) := by
  rw [List.length_map] at hi
  rw [List.getD_eq_getElem?_getD, List.getElem?_map, List.getElem?_eq_getElem hi, List.getD_eq_getElem?_getD, List.getElem?_eq_getElem hi]
  rfl
theorem all_range_getD (ps : List Nat) (f : Nat → Bool) : (List.range ps.length).all (fun i => f (ps.getD i 0)) = ps.all f := by
  induction ps with
  | nil => rfl
  | cons p r ih =>
    rw [List.length_cons, List.range_succ_eq_map, List.all_cons, List.all_map, List.all_cons, ← ih]
    rfl
theorem map_range_getD {α : Type} (ps : List Nat) (f : Nat → α) : (List.range ps.length).map (fun i => f (ps.getD i 0)) = ps.map f := by
  induction ps with
  | nil => rfl
  | cons p r ih =>
    rw [List.length_cons, List.range_succ_eq_map, List.map_cons, List.map_map, List.map_cons, ← ih]
    rfl
/-! ### is_lot: of a tuple of places -/
def isLot (n : Nat) (ps : List Nat) : Bool := !ps.isEmpty && (ps.all fun p => decide (p < n)) && asc (ps.map fun (p : Nat) => (p : Int))
def spIsLot (K : PySem.W.Frag) (T1 T2 : Addr) : Sp := fun vs H Q _ => ∃ (l v : V) (fs : List Int) (bd : PyData) (ps : List Nat), vs = [l, v] ∧ Dp K H l (.tuple [.tuple (fs.map .int), bd]) ∧ fs.length ≤ 100 ∧ Dp K H v (lotD ps) ∧ ps.length ≤ 6000 ∧
  TabG H T1 ∧ TabG H T2 ∧ ∀ H', Ext H H' → Q (.bl (isLot fs.length ps)) H'
theorem sc_is_lot : FnScope ["land", "value"] ["land", "value"] (defScope st_is_lot) := ⟨rfl, rfl, rfl, by decide +kernel, rfl, by decide +kernel, by decide +kernel⟩
theorem ok_is_lot {f c T1 T2 : Addr} {fd : FuncData} (F : FunC K "is_lot" "is_lot" st_is_lot f fd c) (TB : TabB base mg c T1) (B : Bl mg) (c1 : Cal P w K mg base 2 "is_place" ["land", "value"] (spIsPlace K))
    (c2 : Cal P w K mg base 4 "is_ascending" ["row"] (spIsAscending K T2)) : FnOk P w K mg base CX0 6 f fd ["land", "value"] (spIsLot K T1 T2) := by
  refine F.ok sc_is_lot (fun vs H Q E h => ?_) (fun A outer s H vs Q E hr h => ?_)
  · obtain ⟨l, v, fs, bd, ps, rfl, _⟩ := h
    rfl
  · obtain ⟨l, v, fs, bd, ps, rfl, hl, hn, hd, hz, hT1, hT2, k⟩ := h
    refine ⟨_, pss_cons (ps_if (PW.pt (pw_or (pt_cmpR op_neTy (pe_callTy call_type1 rfl B.type (by decide +kernel) (pa_cons (pv 1) pa_nil)) (pe_bltn rfl B.tuple (by decide +kernel) (v := .ty "tuple") rfl) (nomark _))
        (pw_or1 (pt_cmpR op_eq (pe_callB call_len (by rfl) B.len PySem.boot_len (pa_cons (pv 1) pa_nil)) pe_int (nomark _))))) (pss_one (ps_ret pe_bl)) pss_nil)
      (pss_one (ps_ret (pe_and (pe_gall (k := 3) (N := ["place", "land"]) (src := [none, some 0]) (vs := [0])
        ⟨fun B s H fp code hB => pg_name (i := 0) (by decide +kernel : (["place", "land"] : List Str).Nodup) rfl (Or.inl rfl), fun B s H fp code hB => pts_nil, fun B s H fp code hB => pe_cal c1 (hB.deeper _) rfl (pa_cons (pv 1) (pa_cons (pv 0) pa_nil))⟩
        hr rfl B.all TB rfl (gOk (ND := ["land", "value"]) (sc := defScope st_is_lot) (by decide +kernel)) (pi_tup (pv 1)))
        (pe_one (pe_cal c2 (hr.mono (by decide)) rfl (pa_cons (pv 1) pa_nil)))))), ?_⟩
    obtain ⟨a, rfl, h1⟩ := dp_lot hd
    refine ⟨_, rfl, _, "tuple", rfl, .tup h1, "tuple", "tuple", rfl, rfl, by decide, by decide, false, rfl, ?_⟩
    refine iteF ⟨_, rfl, _, ps.length, rfl, .inr ⟨_, h1, by simp⟩, rfl, _, rfl, ?_⟩
    by_cases he : ps = []
    · subst he
      refine iteT ?_
      exact k H (Ext.refl H)
    · have hne : decide (V.int (ps.length : Int) = V.int 0) = false := by
        apply decide_eq_false
        intro z
        injection z with z
        exact he (List.length_eq_zero_iff.mp (by omega))
      rw [hne]
      refine iteF ?_
      refine ⟨_, rfl, a, rfl, ⟨_, h1⟩, hT1, fun H2 hT => ?_⟩
      have x2 : Ext H H2 := Ext.tabbed hT1 hT
      refine g_all (Ph := fun H4 => H4 = H2) (src_tup fun H4 e => by rw [e]; exact x2.sqT h1) (fun i => decide (ps.getD i 0 < fs.length)) rfl (fun i H C hp hi k2 => ?_) (fun H4 hp ea => ?_) fun H4 hp ea => ?_
      · subst hp
        refine ⟨rfl, _, rfl, _, rfl, _, _, fs, bd, .int (ps.getD i 0 : Nat), rfl, dp_ext x2 hl, hn, (by rw [getD_lot hi]; exact .int _), ?_⟩
        have e : isIntD 0 ((fs.length : Int) - 1) (.int (ps.getD i 0 : Nat)) = decide (ps.getD i 0 < fs.length) := by
          show decide (_ ∧ _) = _
          apply decide_eq_decide.mpr
          omega
        rw [e]
        exact k2 H rfl
      · subst hp
        rw [List.length_map, all_range_getD ps fun p => decide (p < fs.length)] at ea
        refine ⟨_, rfl, iteT ⟨_, rfl, _, ps.map fun (p : Nat) => (p : Int), rfl, ?_, by rw [List.length_map]; exact hz, x2.tabs _ hT2, fun H5 x5 => ?_⟩⟩
        · rw [List.map_map]
          exact dp_ext x2 hd
        · have q := k H5 (x2.trans x5)
          unfold isLot at q
          rw [ea] at q
          have e0 : ps.isEmpty = false := by cases ps with
            | nil => exact absurd rfl he
            | cons _ _ => rfl
          rw [e0] at q
          exact q
      · subst hp
        rw [List.length_map, all_range_getD ps fun p => decide (p < fs.length)] at ea
        refine ⟨_, rfl, iteF ?_⟩
        have q := k H4 x2
        unfold isLot at q
        rw [ea] at q
        simpa using q
/-! ### mask_of -/
def spMaskOf (K : PySem.W.Frag) (T1 : Addr) : Sp := fun vs H Q _ => ∃ (v : V) (ps : List Nat), vs = [v] ∧ Dp K H v (lotD ps) ∧ (∀ p ∈ ps, p ≤ 1000) ∧ TabG H T1 ∧ ∀ H', Ext H H' → Q (.int (Mk.mask ps : Nat)) H'
theorem sc_mask_of : FnScope ["lot"] ["lot"] (defScope st_mask_of) := ⟨rfl, rfl, rfl, by decide +kernel, rfl, by decide +kernel, by decide +kernel⟩
theorem sum_cast (ps : List Nat) : (ps.map fun (p : Nat) => ((2 ^ p : Nat) : Int)).sum = ((Mk.mask ps : Nat) : Int) := by
  induction ps with
  | nil => rfl
  | cons p r ih =>
    have e : Mk.mask (p :: r) = 2 ^ p + Mk.mask r := rfl
    rw [List.map_cons, List.sum_cons, ih, e]
    omega
theorem ok_mask_of {f c T1 : Addr} {fd : FuncData} (F : FunC K "mask_of" "mask_of" st_mask_of f fd c) (TB : TabB base mg c T1) (B : Bl mg) : FnOk P w K mg base CX0 4 f fd ["lot"] (spMaskOf K T1) := by
  refine F.ok sc_mask_of (fun vs H Q E h => ?_) (fun A outer s H vs Q E hr h => ?_)
  · obtain ⟨v, ps, rfl, _⟩ := h
    rfl
  · obtain ⟨v, ps, rfl, hd, hp, hT, k⟩ := h
    refine ⟨_, pss_one (ps_ret (pe_gsum (k := 0) (N := ["place"]) (src := [none]) (vs := [0])
        ⟨fun B s H fp code hB => pg_name (i := 0) (by decide +kernel : (["place"] : List Str).Nodup) rfl (Or.inl rfl), fun B s H fp code hB => pts_nil, fun B s H fp code hB => pe_op op_shl pe_int (pv 0)⟩
        (hr.mono (by decide)) rfl B.sum TB rfl (gOk (ND := ["lot"]) (sc := defScope st_mask_of) (by decide +kernel)) (pi_tup (pv 0)))), ?_⟩
    obtain ⟨a, rfl, h1⟩ := dp_lot hd
    refine ⟨_, rfl, a, rfl, ⟨_, h1⟩, hT, fun H2 hT2 => ?_⟩
    have x2 : Ext H H2 := Ext.tabbed hT hT2
    refine g_sum (Ph := fun H4 => H4 = H2) (src_tup fun H4 e => by rw [e]; exact x2.sqT h1) (fun i => ((2 ^ ps.getD i 0 : Nat) : Int)) rfl (fun i H C hp2 hi k2 => ?_) fun H4 hp2 => ?_
    · subst hp2
      rw [getD_lot hi]
      rw [List.length_map] at hi
      have hb : ps.getD i 0 ≤ 1000 := by
        rw [List.getD_eq_getElem?_getD, List.getElem?_eq_getElem hi]
        exact hp _ (List.getElem_mem hi)
      refine ⟨rfl, _, rfl, 1, _, rfl, rfl, ⟨by omega, by omega, by decide⟩, ?_⟩
      have e : (1 : Int) * 2 ^ ((ps.getD i 0 : Nat) : Int).toNat = ((2 ^ ps.getD i 0 : Nat) : Int) := by
        rw [Int.toNat_natCast, Int.one_mul]
        simp
      show C (V.int ((1 : Int) * 2 ^ ((ps.getD i 0 : Nat) : Int).toNat)) H
      rw [e]
      exact k2 H rfl
    · subst hp2
      rw [List.length_map, map_range_getD ps fun (p : Nat) => ((2 ^ p : Nat) : Int), sum_cast]
      exact k H4 x2
/-! ### lot_of -/
def spLotOf (K : PySem.W.Frag) (T1 : Addr) : Sp := fun vs H Q _ => ∃ (m n : Nat), vs = [.int (m : Int)] ∧ m < 2 ^ n ∧ n ≤ 1000 ∧ TabG H T1 ∧ ∀ p H', Ext H H' → H p = none → Dp K H' (.ref p) (lotD (Mk.bits n m)) → H' p = some (.tup ((Mk.bits n m).map fun (p : Nat) => V.int (p : Int))) → Q (.ref p) H'
theorem sc_lot_of : FnScope ["mask"] ["mask"] (defScope st_lot_of) := ⟨rfl, rfl, rfl, by decide +kernel, rfl, by decide +kernel, by decide +kernel⟩
theorem intBits_lt (m : Nat) : m < 2 ^ Builtin.Int.intBits (m : Int) := by
  unfold Builtin.Int.intBits
  by_cases h : m = 0
  · subst h; decide
  · have e : ((m : Int) == 0) = false := by simp; omega
    rw [e]
    exact Nat.lt_log2_self
theorem intBits_le {m n : Nat} (h : m < 2 ^ n) : Builtin.Int.intBits (m : Int) ≤ n := by
  unfold Builtin.Int.intBits
  by_cases e0 : m = 0
  · subst e0; simp
  · have e : ((m : Int) == 0) = false := by simp; omega
    rw [e]
    have := (Nat.log2_lt e0).mpr h
    exact this
theorem shr_and (m i : Nat) : Builtin.bitAnd ((m : Int) / 2 ^ i) 1 = (if m.testBit i then 1 else 0 : Int) := by
  have e0 : ((m : Int) / 2 ^ i) = ((m / 2 ^ i : Nat) : Int) := by simp
  have e1 : Builtin.bitAnd ((m / 2 ^ i : Nat) : Int) 1 = (((m / 2 ^ i) &&& 1 : Nat) : Int) := rfl
  rw [e0, e1, Nat.and_one_is_mod]
  have e2 := Nat.testBit_eq_decide_div_mod_eq (x := m) (i := i)
  rw [e2]
  rcases Nat.mod_two_eq_zero_or_one (m / 2 ^ i) with z | z <;> simp [z]
theorem ok_lot_of {f c T1 : Addr} {fd : FuncData} (F : FunC K "lot_of" "lot_of" st_lot_of f fd c) (TB : TabB base mg c T1) (B : Bl mg) : FnOk P w K mg base CX0 6 f fd ["mask"] (spLotOf K T1) := by
  refine F.ok sc_lot_of (fun vs H Q E h => ?_) (fun A outer s H vs Q E hr h => ?_)
  · obtain ⟨m, n, rfl, _⟩ := h
    rfl
  · obtain ⟨m, n, rfl, hm, hn, hT, k⟩ := h
    refine ⟨_, pss_one (ps_ret (pe_gtup (k := 0) (N := ["place", "mask"]) (src := [none, some 0]) (vs := [0])
        ⟨fun B s H fp code hB => pg_name (i := 0) (by decide +kernel : (["place", "mask"] : List Str).Nodup) rfl (Or.inl rfl), fun B s H fp code hB => pts_one (pt_truthK (K := K) rfl (pe_op op_and (pe_op op_shr (pv 1) (pv 0)) pe_int) (by intro _; rfl)), fun B s H fp code hB => pv 0⟩
        (hr.mono (by decide)) rfl B.tuple TB rfl (gOk (ND := ["mask"]) (sc := defScope st_lot_of) (by decide +kernel)) (pi_range1 rfl B.range (pa_cons (pe_bits (pv 0)) pa_nil)))), ?_⟩
    have hb := intBits_lt m
    have hb2 := intBits_le hm
    generalize hN : Builtin.Int.intBits (m : Int) = N at hb hb2
    refine ⟨_, rfl, _, rfl, _, by rw [hN], by omega, by omega, hT, fun H2 hT2 => ?_⟩
    have x2 : Ext H H2 := Ext.tabbed hT hT2
    have eN : ((N : Nat) : Int).toNat = N := Int.toNat_natCast N
    rw [eN]
    refine g_tup (Pw := fun i ys H4 => H4 = H2 ∧ ys = ((List.range i).filter fun q => m.testBit q).map fun (p : Nat) => V.int (p : Int)) (fun _ _ => src_range) (Nat.le_trans (Nat.le_trans hb2 hn) (by decide)) (fun i => m.testBit i) (fun _ => rfl) ⟨rfl, rfl⟩
      (fun i ys H4 ⟨_, e⟩ => ?_) (fun i ys H4 C ⟨e1, e2⟩ hi k2 => ?_) (fun i ys H4 ⟨e1, e2⟩ hi hk => ⟨e1, ?_⟩) (fun i ys H4 C ⟨e1, e2⟩ hi hk k2 => ?_) fun ys H4 ⟨e1, e2⟩ p hp => ?_
    · rw [e, List.length_map]
      have := List.length_filter_le (fun q => m.testBit q) (List.range i)
      rw [List.length_range] at this
      exact this
    · refine ⟨_, rfl, _, rfl, _, _, rfl, rfl, (by show (0 : Int) ≤ 0 + (i : Int); omega), _, _, rfl, rfl, m.testBit i, ?_, k2 H4 ⟨e1, e2⟩⟩
      show m.testBit i = (Builtin.bitAnd ((m : Int) / 2 ^ ((0 : Int) + (i : Int)).toNat) 1 != 0)
      have e : ((0 : Int) + (i : Int)).toNat = i := by omega
      rw [e, shr_and]
      cases m.testBit i <;> rfl
    · rw [e2, List.range_succ, List.filter_append, List.filter_cons_of_neg (by simp [hk])]
      simp
    · refine ⟨_, rfl, k2 _ H4 ⟨e1, ?_⟩⟩
      rw [e2, List.range_succ, List.filter_append, List.filter_cons_of_pos (by simp [hk]), List.map_append, Int.zero_add]
      rfl
    · subst e1
      have eb : ((List.range N).filter fun q => m.testBit q) = Mk.bits n m := Mk.bits_any hb hm
      rw [eb] at e2
      subst e2
      exact k p _ (x2.trans (Ext.new hp)) (x2.free hp) (dp_new hp (dpAll_lot _)) upd_same
end
section
variable {P : Program} {w : World} {K : PySem.W.Frag} {mg : Str → Option Value} {base : Heap}
def bordD (bs : List (Nat × Nat)) : PyData := .tuple (bs.map fun (b : Nat × Nat) => .tuple [.int (b.1 : Int), .int (b.2 : Int)])
def landD (fs : List Int) (bs : List (Nat × Nat)) : PyData := .tuple [.tuple (fs.map .int), bordD bs]
abbrev vsN (l : List Nat) : List V := l.map fun (m : Nat) => V.int (m : Int)
theorem vsN_get {l : List Nat} {i : Nat} (h : i < l.length) : (vsN l)[i]? = some (V.int ((l.getD i 0 : Nat) : Int)) := by
  rw [List.getElem?_map, List.getElem?_eq_getElem h, List.getD_eq_getElem?_getD, List.getElem?_eq_getElem h]
  rfl
theorem vsN_set (l : List Nat) (i x : Nat) : (vsN l).set i (V.int (x : Int)) = vsN (l.set i x) := by
  rw [← List.map_set]
theorem ixN_nat {n j : Nat} (h : j < n) : ixN n (j : Int) = some j := by
  unfold ixN
  rw [if_pos (by omega), if_pos (by omega)]
  simp
theorem or_pp (a b : Nat) : Builtin.bitOr (a : Int) (b : Int) = ((a ||| b : Nat) : Int) := by
  rw [Bits.bitOr_pp (by omega) (by omega), Int.toNat_natCast, Int.toNat_natCast]
theorem xor_pp (a b : Nat) : Builtin.bitXor (a : Int) (b : Int) = ((a ^^^ b : Nat) : Int) := by
  rw [Bits.bitXor_pp (by omega) (by omega), Int.toNat_natCast, Int.toNat_natCast]
theorem and_pp (a b : Nat) : Builtin.bitAnd (a : Int) (b : Int) = ((a &&& b : Nat) : Int) := by
  rw [PyProof.Rows.bitAnd_pp (by omega) (by omega), Int.toNat_natCast, Int.toNat_natCast]
theorem shl_pp (b : Nat) : (1 : Int) * 2 ^ ((b : Nat) : Int).toNat = ((2 ^ b : Nat) : Int) := by
  rw [Int.toNat_natCast, Int.one_mul]
  simp
/-! ### links_of -/
def spLinksOf (K : PySem.W.Frag) : Sp := fun vs H Q _ => ∃ (l : V) (fs : List Int) (bs : List (Nat × Nat)), vs = [l] ∧ Dp K H l (landD fs bs) ∧ fs.length ≤ 12 ∧ Mk.Bs fs.length bs ∧
  ∀ p H' lk, Ext H H' → H p = none → H' p = some (.lst (vsN lk)) → Mk.Lk fs.length bs lk → Q (.ref p) H'
theorem sc_links_of : FnScope ["land", "links", "low", "high"] ["land"] (defScope st_links_of) := ⟨rfl, rfl, rfl, by decide +kernel, rfl, by decide +kernel, by decide +kernel⟩
theorem ok_links_of {f : Addr} {fd : FuncData} (F : Fun K "links_of" "links_of" st_links_of f fd) (B : Bl mg) : FnOk P w K mg base CX0 1 f fd ["land"] (spLinksOf K) := by
  refine F.ok sc_links_of (fun vs H Q E h => ?_) (fun cdv A outer s H vs Q E hr h => ?_)
  · obtain ⟨l, fs, bs, rfl, _⟩ := h
    rfl
  · obtain ⟨l, fs, bs, rfl, hd, hn, hb, k⟩ := h
    refine ⟨_, pss_cons (ps_set (i := 1) sc_links_of.nd rfl (Or.inl rfl) (pe_op op_rep (pe_lst (pa_cons pe_int pa_nil)) (pe_callB call_len (by rfl) B.len PySem.boot_len (pa_cons (pe_ix ix_tup (pv 0) pe_int (fun _ _ => rfl)) pa_nil))))
      (pss_cons (ps_for PassesOwn.never rfl (pi_tup (pe_ix ix_tup (pv 0) pe_int (fun _ _ => rfl))) (pg_tup rfl (pgs_cons (pg_name (i := 2) sc_links_of.nd rfl (Or.inl rfl)) (pgs_cons (pg_name (i := 3) sc_links_of.nd rfl (Or.inl rfl)) pgs_nil)))
        (pss_cons (ps_augS (pv 1) (pv 2) get_list (pe_op op_shl pe_int (pv 3)) iop_or set_list)
        (pss_one (ps_augS (pv 1) (pv 3) get_list (pe_op op_shl pe_int (pv 2)) iop_or set_list))))
      (pss_one (ps_ret (pv 1)))), ?_⟩
    obtain ⟨a, xs, rfl, h1, h2⟩ := dp_tup hd
    obtain ⟨v0, h3, h4⟩ := dpAll_get (i := 0) h2 rfl
    obtain ⟨b, rfl, h5⟩ := dp_ints h4
    obtain ⟨v1, h6, h7⟩ := dpAll_get (i := 1) h2 rfl
    obtain ⟨c, ys, rfl, h8, h9⟩ := dp_tup h7
    -- [0] * len(land[0])
    refine ⟨by decide, fun q hq => ?_⟩
    have x1 : Ext H (upd H q (.lst [.int 0])) := Ext.new hq
    refine ⟨_, rfl, _, _, _, _, rfl, rfl, x1.sqT h1, atI_nat h3, _, fs.length, rfl, .inr ⟨_, x1.sqT h5, by simp⟩, q, fs.length, _, rfl, rfl, upd_same, by omega, by omega, ?_, fun p hp => ?_⟩
    · have e : ((fs.length : Nat) : Int).toNat = fs.length := Int.toNat_natCast _
      rw [e]
      have : 12 ≤ sizeLine := by decide
      simp only [List.length_cons, List.length_nil]
      omega
    have x2 : Ext H (upd (upd H q (.lst [.int 0])) p (.lst (List.replicate ((fs.length : Nat) : Int).toNat [V.int 0]).flatten)) := x1.trans (Ext.new hp)
    have hp0 : H p = none := x1.free hp
    have e0 : (List.replicate ((fs.length : Nat) : Int).toNat [V.int 0]).flatten = vsN (List.replicate fs.length 0) := by
      rw [Int.toNat_natCast]
      generalize fs.length = n
      induction n with
      | zero => rfl
      | succ n ih => rw [List.replicate_succ, List.flatten_cons, ih]; rfl
    -- for low, high in land[1]
    refine ⟨_, rfl, _, _, _, _, rfl, rfl, x2.sqT h1, atI_nat h6, c, rfl, ⟨_, x2.sqT h8⟩, for_tup (K := K) (a := c) (xs := ys) (fun i σ H2 => ∃ (lk : List Nat) (o1 o2 : Option V), σ = [some (.ref a), some (.ref p), o1, o2] ∧ Ext H H2 ∧ H2 p = some (.lst (vsN lk)) ∧ Mk.Lk fs.length (bs.take i) lk)
      ⟨_, none, none, rfl, x2, by rw [upd_same, e0], by rw [List.take_zero]; exact Mk.Lk.nil _⟩ (fun i σ H2 _ ⟨_, _, _, _, x, _⟩ => x.sqT h8) ?_ ?_⟩
    · rintro i x σ H2 hx ⟨lk, o1, o2, rfl, x3, hl3, L⟩
      obtain ⟨d, hd1, hd2⟩ := dpAll_get' h9 hx
      rw [List.getElem?_map] at hd1
      cases eb : bs[i]? with
      | none => rw [eb] at hd1; cases hd1
      | some be =>
        rw [eb] at hd1
        cases hd1
        obtain ⟨b1, b2⟩ := be
        obtain ⟨hb1, hb2⟩ := hb (b1, b2) (List.mem_of_getElem? eb)
        simp only at hb1 hb2
        obtain ⟨t, zs, rfl, h10, h11⟩ := dp_tup hd2
        have ez : zs = [V.int (b1 : Int), V.int (b2 : Int)] := by
          cases h11 with
          | cons z1 zr =>
            cases zr with
            | cons z2 zr =>
              cases zr
              rw [dp_int z1, dp_int z2]
        subst ez
        have hl := L.len
        have g1 : (vsN lk)[b1]? = some (V.int ((lk.getD b1 0 : Nat) : Int)) := vsN_get (by omega)
        refine ⟨t, _, rfl, x3.sqT h10, rfl, _, _, rfl, _, _, rfl, rfl, ?_⟩
        refine ⟨_, rfl, _, rfl, p, _, b1, _, rfl, rfl, hl3, g1, _, rfl, 1, (b2 : Int), rfl, rfl, ⟨by omega, by omega, by decide⟩, _, _, rfl, rfl, p, vsN lk, _, b1, rfl, rfl, hl3, by simp [ixN_nat (show b1 < lk.length by omega)], ?_⟩
        have e1 : V.int (Builtin.bitOr ((lk.getD b1 0 : Nat) : Int) (1 * 2 ^ ((b2 : Nat) : Int).toNat)) = V.int ((lk.getD b1 0 ||| 2 ^ b2 : Nat) : Int) := by rw [shl_pp, or_pp]
        dsimp only
        rw [e1, vsN_set]
        have g2 : (vsN (lk.set b1 (lk.getD b1 0 ||| 2 ^ b2)))[b2]? = some (V.int ((lk.getD b2 0 : Nat) : Int)) := by
          rw [vsN_get (by simp; omega), Mk.getD_set (by omega), if_neg (by omega)]
        refine ⟨_, rfl, _, rfl, p, _, b2, _, rfl, rfl, upd_same, g2, _, rfl, 1, (b1 : Int), rfl, rfl, ⟨by omega, by omega, by decide⟩, _, _, rfl, rfl, p, vsN (lk.set b1 (lk.getD b1 0 ||| 2 ^ b2)), _, b2, rfl, rfl, upd_same, by simp [ixN_nat (show b2 < lk.length by omega)], ?_⟩
        have e2 : V.int (Builtin.bitOr ((lk.getD b2 0 : Nat) : Int) (1 * 2 ^ ((b1 : Nat) : Int).toNat)) = V.int ((lk.getD b2 0 ||| 2 ^ b1 : Nat) : Int) := by rw [shl_pp, or_pp]
        dsimp only
        rw [e2, vsN_set]
        refine ⟨_, _, _, rfl, ?_, upd_same, ?_⟩
        · exact (x3.write hp0).write hp0
        · have et : bs.take (i + 1) = bs.take i ++ [(b1, b2)] := by
            rw [List.take_add_one, eb]
            rfl
          rw [et]
          exact L.add hb1 hb2
    · rintro σ H2 ⟨lk, o1, o2, rfl, x3, hl3, L⟩
      have el : ys.length = bs.length := by
        have := dpAll_len h9
        rw [List.length_map] at this
        exact this
      rw [el, List.take_length] at L
      exact ⟨_, rfl, k p H2 lk x3 hp0 hl3 L⟩
/-! ### reached -/
def spReached (K : PySem.W.Frag) (T1 : Addr) : Sp := fun vs H Q _ => ∃ (l : Addr) (lk : List Nat) (n start m : Nat) (bs : List (Nat × Nat)), vs = [.ref l, .int (start : Int), .int (m : Int)] ∧ H l = some (.lst (vsN lk)) ∧ Mk.Lk n bs lk ∧ Mk.Bs n bs ∧ n ≤ 12 ∧ m < 2 ^ n ∧
  (∀ q, start.testBit q = true → m.testBit q = true) ∧ TabG H T1 ∧ ∀ r H', Ext H H' → Mk.Rch bs m start r → Q (.int ((r : Nat) : Int)) H'
theorem sc_reached : FnScope ["links", "start", "mask", "seen", "fresh", "around", "place"] ["links", "start", "mask"] (defScope st_reached) := ⟨rfl, rfl, rfl, by decide +kernel, rfl, by decide +kernel, by decide +kernel⟩
theorem ok_reached {f T1 : Addr} {fd : FuncData} (F : Fun K "reached" "reached" st_reached f fd) (B : Bl mg) (c1 : Cal P w K mg base 6 "lot_of" ["mask"] (spLotOf K T1)) : FnOk P w K mg base CX0 7 f fd ["links", "start", "mask"] (spReached K T1) := by
  refine F.ok sc_reached (fun vs H Q E h => ?_) (fun cdv A outer s H vs Q E hr h => ?_)
  · obtain ⟨l, lk, n, start, m, bs, rfl, _⟩ := h
    rfl
  · obtain ⟨l, lk, n, start, m, bs, rfl, hl, L, hb, hn, hm, hs, hT, k⟩ := h
    refine ⟨_, pss_cons (ps_set (i := 3) sc_reached.nd rfl (Or.inl rfl) (pv 1)) (pss_cons (ps_set (i := 4) sc_reached.nd rfl (Or.inl rfl) (pv 1))
      (pss_cons (ps_while PassesOwn.never (pt_truth (pv 4) (by intro _; rfl))
        (pss_cons (ps_set (i := 5) sc_reached.nd rfl (Or.inl rfl) pe_int)
        (pss_cons (ps_for PassesOwn.never rfl (pi_tup (pe_cal c1 hr rfl (pa_cons (pv 4) pa_nil))) (pg_name (i := 6) sc_reached.nd rfl (Or.inl rfl))
          (pss_one (ps_aug (i := 5) sc_reached.nd rfl (Or.inl rfl) (pe_ix ix_list (pv 0) (pv 6) (fun _ _ => rfl)) iop_or)))
        (pss_cons (ps_set (i := 4) sc_reached.nd rfl (Or.inl rfl) (pe_op op_and (pv 5) (pe_op op_xor (pv 2) (pv 3))))
        (pss_one (ps_aug (i := 3) sc_reached.nd rfl (Or.inl rfl) (pv 4) iop_or))))))
      (pss_one (ps_ret (pv 3))))), ?_⟩
    refine ⟨_, rfl, _, rfl, ?_⟩
    dsimp only [gName, tSeq]
    refine while_by (fun σ H2 => ∃ (seen fresh : Nat) (o1 o2 : Option V), σ = [some (.ref l), some (.int (start : Int)), some (.int (m : Int)), some (.int (seen : Int)), some (.int (fresh : Int)), o1, o2] ∧ Ext H H2 ∧ Mk.Walk bs m start seen fresh)
      (fun σ _ => match σ with
        | [_, _, _, some (.int a), some (.int b), _, _] => 2 * (m - a.toNat) + (if b = 0 then 0 else 1)
        | _ => 0) ⟨start, start, none, none, rfl, Ext.refl H, Mk.Walk.begin hs⟩ ?_ ?_
    · rintro σ H2 ⟨seen, fresh, o1, o2, rfl, x2, W⟩
      refine ⟨_, rfl, decide (fresh ≠ 0), ?_, ?_⟩
      · show decide (fresh ≠ 0) = (((fresh : Nat) : Int) != 0)
        by_cases e : fresh = 0
        · subst e; rfl
        · have e2 : ((fresh : Int) != 0) = true := by simp; omega
          rw [e2]
          exact decide_eq_true e
      by_cases e : fresh = 0
      · rw [decide_eq_false (by simp [e])]
        subst e
        exact iteF ⟨_, rfl, k seen H2 x2 W.fin⟩
      · rw [decide_eq_true e]
        refine iteT ?_
        have hf : fresh < 2 ^ n := Mk.lt_of_sub hm fun q hq => by
          obtain ⟨_, _, c⟩ := W.sound q (W.sub q hq)
          exact c.snd
        refine ⟨_, rfl, fresh, n, rfl, hf, by omega, x2.tabs _ hT, fun p H3 x3 hp hd3 hp3 => ?_⟩
        have x13 := x2.trans x3
        refine ⟨p, rfl, ⟨_, SqT.of hp3⟩, for_tup (K := K) (a := p) (xs := vsN (Mk.bits n fresh)) (fun i σ H4 => ∃ (o2 : Option V), σ = [some (.ref l), some (.int (start : Int)), some (.int (m : Int)), some (.int (seen : Int)), some (.int (fresh : Int)), some (.int ((((Mk.bits n fresh).take i).foldl (fun a q => a ||| lk.getD q 0) 0 : Nat) : Int)), o2] ∧ H4 = H3)
          ⟨_, rfl, rfl⟩ (fun i σ H4 _ ⟨_, _, e4⟩ => by rw [e4]; exact SqT.of hp3) ?_ ?_⟩
        · rintro i x σ H4 hx ⟨o2, rfl, rfl⟩
          rw [List.getElem?_map] at hx
          cases eb : (Mk.bits n fresh)[i]? with
          | none => rw [eb] at hx; cases hx
          | some q =>
            rw [eb] at hx
            cases hx
            have hq := (Mk.mem_bits.mp (List.mem_of_getElem? eb)).1
            have hll := L.len
            refine ⟨_, rfl, _, rfl, _, rfl, _, _, _, _, rfl, rfl, SqL.of (x13.lst hl), atI_nat (vsN_get (show q < lk.length by omega)), _, _, rfl, rfl, some (V.int (q : Int)), ?_, rfl⟩
            have et : (Mk.bits n fresh).take (i + 1) = (Mk.bits n fresh).take i ++ [q] := by
              rw [List.take_add_one, eb]
              rfl
            dsimp only [List.set]
            rw [et, List.foldl_append, or_pp]
            rfl
        · rintro σ H4 ⟨o2, rfl, rfl⟩
          have elen : (vsN (Mk.bits n fresh)).length = (Mk.bits n fresh).length := List.length_map ..
          rw [elen, List.take_length]
          generalize har : (Mk.bits n fresh).foldl (fun a q => a ||| lk.getD q 0) 0 = around
          have ha : ∀ r, around.testBit r = true ↔ ∃ q, fresh.testBit q = true ∧ Mk.adj bs q r = true := fun r => by
            rw [← har]
            exact Mk.around_bits L hf r
          have W2 := W.turn ha
          refine ⟨_, rfl, _, rfl, _, rfl, _, _, rfl, rfl, _, _, rfl, rfl, ?_⟩
          refine ⟨_, rfl, _, rfl, _, _, rfl, rfl, ?_⟩
          have e1 : Builtin.bitAnd (around : Int) (Builtin.bitXor (m : Int) (seen : Int)) = ((around &&& (m ^^^ seen) : Nat) : Int) := by rw [xor_pp, and_pp]
          have e2 : Builtin.bitOr (seen : Int) (Builtin.bitAnd (around : Int) (Builtin.bitXor (m : Int) (seen : Int))) = ((seen ||| (around &&& (m ^^^ seen)) : Nat) : Int) := by rw [e1, or_pp]
          refine ⟨⟨_, _, some (V.int (around : Int)), o2, by dsimp only [List.set]; rw [e2, e1], x13, W2⟩, ?_⟩
          show 2 * (m - (Builtin.bitOr (seen : Int) (Builtin.bitAnd (around : Int) (Builtin.bitXor (m : Int) (seen : Int)))).toNat) + (if Builtin.bitAnd (around : Int) (Builtin.bitXor (m : Int) (seen : Int)) = 0 then 0 else 1) < 2 * (m - ((seen : Nat) : Int).toNat) + (if ((fresh : Nat) : Int) = 0 then 0 else 1)
          rw [e2, e1, Int.toNat_natCast, Int.toNat_natCast, if_neg (show ¬ ((fresh : Nat) : Int) = 0 by omega)]
          have hle := W2.le
          by_cases hz : around &&& (m ^^^ seen) = 0
          · rw [hz, if_pos (show ((0 : Nat) : Int) = 0 from rfl), Nat.or_zero]
            omega
          · rw [if_neg (by omega)]
            have hdj : seen &&& (around &&& (m ^^^ seen)) = 0 := Mk.eq_of_bits fun q => by
              rw [Nat.testBit_and, Nat.testBit_and, Nat.testBit_xor, Nat.zero_testBit]
              have hsm : seen.testBit q = true → m.testBit q = true := fun hq => by
                obtain ⟨_, _, c⟩ := W.sound q hq
                exact c.snd
              cases h1 : seen.testBit q <;> cases h2 : m.testBit q <;> simp_all
            have := Mk.or_gt hdj hz
            omega
    · rintro σ H2 Q1 Q2 hq ⟨v, e, kk, ht, q⟩
      exact ⟨v, e, kk, ht, hq _ _ q⟩
end
section
variable {P : Program} {w : World} {K : PySem.W.Frag} {mg : Str → Option Value} {base : Heap}
/-! ### is_border: of a right border -/
def spIsBorder (K : PySem.W.Frag) : Sp := fun vs H Q _ => ∃ (v : V) (b1 b2 n : Nat), vs = [v, .int (n : Int)] ∧ Dp K H v (.tuple [.int (b1 : Int), .int (b2 : Int)]) ∧ b1 < b2 ∧ b2 < n ∧ Q (.bl true) H
theorem sc_is_border : FnScope ["value", "many", "low", "high"] ["value", "many"] (defScope st_is_border) := ⟨rfl, rfl, rfl, by decide +kernel, rfl, by decide +kernel, by decide +kernel⟩
theorem ok_is_border {f : Addr} {fd : FuncData} (F : Fun K "is_border" "is_border" st_is_border f fd) (B : Bl mg) (c1 : Cal P w K mg base 1 "is_integer" ["value", "low", "high"] (spIsInteger K)) : FnOk P w K mg base CX0 2 f fd ["value", "many"] (spIsBorder K) := by
  refine F.ok sc_is_border (fun vs H Q E h => ?_) (fun cdv A outer s H vs Q E hr h => ?_)
  · obtain ⟨v, b1, b2, n, rfl, _⟩ := h
    rfl
  · obtain ⟨v, b1, b2, n, rfl, hd, h12, h2n, k⟩ := h
    refine ⟨_, pss_cons (ps_if (PW.pt (pw_or (pt_cmpR op_neTy (pe_callTy call_type1 rfl B.type (by decide +kernel) (pa_cons (pv 0) pa_nil)) (pe_bltn rfl B.tuple (by decide +kernel) (v := .ty "tuple") rfl) (nomark _))
        (pw_or1 (pt_cmpR op_ne (pe_callB call_len (by rfl) B.len PySem.boot_len (pa_cons (pv 0) pa_nil)) pe_int (nomark _))))) (pss_one (ps_ret pe_bl)) pss_nil)
      (pss_cons (ps_asg (pv 0) (pg_tup rfl (pgs_cons (pg_name (i := 2) sc_is_border.nd rfl (Or.inl rfl)) (pgs_cons (pg_name (i := 3) sc_is_border.nd rfl (Or.inl rfl)) pgs_nil))))
      (pss_one (ps_ret (pe_and (pe_cal c1 hr rfl (pa_cons (pv 3) (pa_cons pe_int (pa_cons (pe_op op_sub (pv 1) pe_int) pa_nil)))) (pe_one (pe_cal c1 hr rfl (pa_cons (pv 2) (pa_cons pe_int (pa_cons (pe_op op_sub (pv 3) pe_int) pa_nil))))))))), ?_⟩
    obtain ⟨t, zs, rfl, h1, h2⟩ := dp_tup hd
    have ez : zs = [V.int (b1 : Int), V.int (b2 : Int)] := by
      cases h2 with
      | cons z1 zr =>
        cases zr with
        | cons z2 zr =>
          cases zr
          rw [dp_int z1, dp_int z2]
    subst ez
    refine ⟨_, rfl, _, "tuple", rfl, .tup h1, "tuple", "tuple", rfl, rfl, by decide, by decide, false, rfl, ?_⟩
    refine iteF ⟨_, rfl, _, 2, rfl, .inr ⟨_, h1, rfl⟩, rfl, false, rfl, iteF ?_⟩
    refine ⟨_, rfl, t, _, rfl, h1, rfl, _, _, rfl, _, _, rfl, rfl, ?_⟩
    refine ⟨_, rfl, _, rfl, _, _, rfl, rfl, _, .int (b2 : Int), 0, (n : Int) - 1, rfl, .int _, true, ?_, iteT ?_⟩
    · show V.bl (decide (_ ∧ _)) = _
      rw [decide_eq_true (by omega)]
    · refine ⟨_, rfl, _, rfl, _, _, rfl, rfl, _, .int (b1 : Int), 0, (b2 : Int) - 1, rfl, .int _, ?_⟩
      show Q (V.bl (decide (_ ∧ _))) H
      rw [decide_eq_true (by omega)]
      exact k
end
theorem lex2_false {a b c d : Int} (h : c < a ∨ (c = a ∧ d < b)) :
    Ob.lexAt (fun j => decide ([a, b].getD j 0 = [c, d].getD j 0)) (fun j => decide ([a, b].getD j 0 ≤ [c, d].getD j 0)) (decide ([a, b].length ≤ [c, d].length)) 0 (min [a, b].length [c, d].length) = false := by
  show (if decide (a = c) = true then (if decide (b = d) = true then _ else decide (b ≤ d)) else decide (a ≤ c)) = false
  by_cases e1 : a = c
  · rw [decide_eq_true e1, if_pos rfl]
    have e2 : ¬ b = d := by omega
    rw [decide_eq_false e2, if_neg Bool.false_ne_true]
    apply decide_eq_false
    omega
  · rw [decide_eq_false e1, if_neg Bool.false_ne_true]
    apply decide_eq_false
    omega
/-- the three numbers of the module -/
structure Nums (mg : Str → Option Value) : Prop where
  fp : ∃ t, mg "FEWEST_PLACES" = some (.int 2 t)
  mp : ∃ t, mg "MOST_PLACES" = some (.int 12 t)
  mf : ∃ t, mg "MOST_FOLK" = some (.int 1000000 t)
def ltP (a b : Nat × Nat) : Prop := a.1 < b.1 ∨ (a.1 = b.1 ∧ a.2 < b.2)
structure LandOk (fs : List Int) (bs : List (Nat × Nat)) : Prop where
  few : 2 ≤ fs.length
  most : fs.length ≤ 12
  folk : ∀ z ∈ fs, 0 ≤ z ∧ z ≤ 1000000
  bord : Mk.Bs fs.length bs
  asc : bs.Pairwise ltP
theorem bs_len {n : Nat} (hn : n ≤ 12) {bs : List (Nat × Nat)} (hb : Mk.Bs n bs) (h : bs.Pairwise ltP) : bs.length ≤ 1000 := by
  -- coded by one number below 13 * 13, ascending
  have key : ∀ (l : List Nat) (m : Nat), l.Pairwise (· < ·) → (∀ x ∈ l, x < m) → l.length ≤ m := by
    intro l
    induction l with
    | nil => intro m _ _; exact Nat.zero_le _
    | cons a r ih =>
      intro m hp hm
      rw [List.pairwise_cons] at hp
      have h1 := ih (m - a - 1) |> fun _ => hm a List.mem_cons_self
      have h2 : ∀ (r : List Nat) (lo m : Nat), r.Pairwise (· < ·) → (∀ x ∈ r, lo ≤ x ∧ x < m) → r.length ≤ m - lo := by
        intro r
        induction r with
        | nil => intro lo m _ _; exact Nat.zero_le _
        | cons b r ih =>
          intro lo m hp hm
          rw [List.pairwise_cons] at hp
          have h3 := hm b List.mem_cons_self
          have := ih (b + 1) m hp.2 fun x hx => ⟨hp.1 x hx, (hm x (List.mem_cons_of_mem _ hx)).2⟩
          rw [List.length_cons]
          omega
      have h3 := h2 r (a + 1) m hp.2 fun x hx => ⟨hp.1 x hx, hm x (List.mem_cons_of_mem _ hx)⟩
      rw [List.length_cons]
      omega
  have h2 := key (bs.map fun (b : Nat × Nat) => 13 * b.1 + b.2) 169 (by
    rw [List.pairwise_map]
    refine List.Pairwise.imp_of_mem (fun {a b} ha hb' z => ?_) h
    have := hb a ha
    have := hb b hb'
    rcases z with z | z
    · omega
    · omega) fun x hx => by
    obtain ⟨b, h1, rfl⟩ := List.mem_map.mp hx
    have := hb b h1
    omega
  rw [List.length_map] at h2
  omega
section
variable {P : Program} {w : World} {K : PySem.W.Frag} {mg : Str → Option Value} {base : Heap}
theorem dp_pair {H : Hp} {v : V} {b : Nat × Nat} (h : Dp K H v (.tuple [.int (b.1 : Int), .int (b.2 : Int)])) : ∃ t, v = .ref t ∧ SqT K H t [V.int (b.1 : Int), V.int (b.2 : Int)] := by
  obtain ⟨t, zs, rfl, h1, h2⟩ := dp_tup h
  cases h2 with
  | cons z1 zr =>
    cases zr with
    | cons z2 zr =>
      cases zr
      rw [dp_int z1, dp_int z2] at h1
      exact ⟨t, rfl, h1⟩
theorem dp_bord {H : Hp} {v : V} {bs : List (Nat × Nat)} (h : Dp K H v (bordD bs)) : ∃ c ys, v = .ref c ∧ SqT K H c ys ∧ ys.length = bs.length ∧ ∀ (i : Nat) (b : Nat × Nat), bs[i]? = some b → ∃ u, ys[i]? = some u ∧ Dp K H u (.tuple [.int (b.1 : Int), .int (b.2 : Int)]) := by
  obtain ⟨c, ys, rfl, h1, h2⟩ := dp_tup h
  refine ⟨c, ys, rfl, h1, by have := dpAll_len h2; rw [List.length_map] at this; exact this, fun i b e => ?_⟩
  exact dpAll_get h2 (by rw [List.getElem?_map, e]; rfl)
/-! ### fault_of_folk, fault_of_borders, fault_of_land, check_land: of right lands -/
def spFaultFolk (K : PySem.W.Frag) : Sp := fun vs H Q _ => ∃ (v : V) (fs : List Int), vs = [v] ∧ Dp K H v (.tuple (fs.map .int)) ∧ 2 ≤ fs.length ∧ fs.length ≤ 12 ∧ (∀ z ∈ fs, 0 ≤ z ∧ z ≤ 1000000) ∧ Q .non H
theorem sc_fault_of_folk : FnScope ["folk", "k"] ["folk"] (defScope st_fault_of_folk) := ⟨rfl, rfl, rfl, by decide +kernel, rfl, by decide +kernel, by decide +kernel⟩
theorem ok_fault_of_folk {f : Addr} {fd : FuncData} (F : Fun K "fault_of_folk" "fault_of_folk" st_fault_of_folk f fd) (B : Bl mg) (N : Nums mg) (c1 : Cal P w K mg base 1 "is_integer" ["value", "low", "high"] (spIsInteger K)) : FnOk P w K mg base CX0 2 f fd ["folk"] (spFaultFolk K) := by
  refine F.ok sc_fault_of_folk (fun vs H Q E h => ?_) (fun cdv A outer s H vs Q E hr h => ?_)
  · obtain ⟨v, fs, rfl, _⟩ := h
    rfl
  · obtain ⟨v, fs, rfl, hd, h2, h12, hf, k⟩ := h
    obtain ⟨⟨t1, e1⟩, ⟨t2, e2⟩, ⟨t3, e3⟩⟩ := N
    refine ⟨_, pss_cons (ps_if (PW.pt (pw_or (pt_cmpR op_neTy (pe_callTy call_type1 rfl B.type (by decide +kernel) (pa_cons (pv 0) pa_nil)) (pe_bltn rfl B.tuple (by decide +kernel) (v := .ty "tuple") rfl) (nomark _))
        (pw_or1 (pt_not (pt_chain op_le op_le (pe_glob rfl e1 (v := .int 2) ⟨_, rfl⟩) (pe_callB call_len (by rfl) B.len PySem.boot_len (pa_cons (pv 0) pa_nil)) (pe_glob rfl e2 (v := .int 12) ⟨_, rfl⟩)))))) pss_never pss_nil)
      (pss_cons (ps_for PassesOwn.never rfl (pi_range1 rfl B.range (pa_cons (pe_callB call_len (by rfl) B.len PySem.boot_len (pa_cons (pv 0) pa_nil)) pa_nil)) (pg_name (i := 1) sc_fault_of_folk.nd rfl (Or.inl rfl))
        (pss_one (ps_if (pt_not (pt_val (pe_cal c1 hr rfl (pa_cons (pe_ix ix_tup (pv 0) (pv 1) (fun _ _ => rfl)) (pa_cons pe_int (pa_cons (pe_glob rfl e3 (v := .int 1000000) ⟨_, rfl⟩) pa_nil)))) (by intro _; rfl))) pss_never pss_nil)))
      (pss_one (ps_ret pe_non))), ?_⟩
    obtain ⟨a, rfl, h1⟩ := dp_ints hd
    refine ⟨_, rfl, _, "tuple", rfl, .tup h1, "tuple", "tuple", rfl, rfl, by decide, by decide, false, rfl, ?_⟩
    refine iteF ⟨_, rfl, _, fs.length, rfl, .inr ⟨_, h1, by simp⟩, _, _, rfl, rfl, true, ?_, iteT ⟨_, _, rfl, rfl, true, ?_, iteF ?_⟩⟩
    · show V.bl (decide _) = _
      rw [decide_eq_true (by omega)]
    · show V.bl (decide _) = _
      rw [decide_eq_true (by omega)]
    refine ⟨_, rfl, _, fs.length, rfl, .inr ⟨_, h1, by simp⟩, _, rfl, by omega, by omega, ?_⟩
    rw [Int.toNat_natCast]
    refine for_range (n := fs.length) (fun i σ H2 => ∃ o, σ = [some (.ref a), o] ∧ H2 = H) ⟨_, rfl, rfl⟩ ?_ ?_
    · rintro i σ H2 hi ⟨o, rfl, rfl⟩
      have g1 : (fs.map V.int)[i]? = some (V.int fs[i]) := by rw [List.getElem?_map, List.getElem?_eq_getElem hi]; rfl
      refine ⟨_, rfl, _, rfl, _, _, _, _, rfl, rfl, h1, by rw [Int.zero_add]; exact atI_nat g1, _, .int fs[i], 0, 1000000, rfl, .int _, true, ?_, iteF ⟨_, rfl, rfl⟩⟩
      show V.bl (decide _) = _
      rw [decide_eq_true (hf _ (List.getElem_mem hi))]
    · rintro σ H2 ⟨o, rfl, rfl⟩
      exact k
def spFaultBord (K : PySem.W.Frag) : Sp := fun vs H Q _ => ∃ (v : V) (bs : List (Nat × Nat)) (n : Nat), vs = [v, .int (n : Int)] ∧ Dp K H v (bordD bs) ∧ n ≤ 12 ∧ Mk.Bs n bs ∧ bs.Pairwise ltP ∧ Q .non H
theorem sc_fault_of_borders : FnScope ["borders", "many", "k"] ["borders", "many"] (defScope st_fault_of_borders) := ⟨rfl, rfl, rfl, by decide +kernel, rfl, by decide +kernel, by decide +kernel⟩
theorem ok_fault_of_borders {f : Addr} {fd : FuncData} (F : Fun K "fault_of_borders" "fault_of_borders" st_fault_of_borders f fd) (B : Bl mg) (c1 : Cal P w K mg base 2 "is_border" ["value", "many"] (spIsBorder K)) : FnOk P w K mg base CX0 3 f fd ["borders", "many"] (spFaultBord K) := by
  refine F.ok sc_fault_of_borders (fun vs H Q E h => ?_) (fun cdv A outer s H vs Q E hr h => ?_)
  · obtain ⟨v, bs, n, rfl, _⟩ := h
    rfl
  · obtain ⟨v, bs, n, rfl, hd, hn, hb, ha, k⟩ := h
    refine ⟨_, pss_cons (ps_if (pt_cmpR op_neTy (pe_callTy call_type1 rfl B.type (by decide +kernel) (pa_cons (pv 0) pa_nil)) (pe_bltn rfl B.tuple (by decide +kernel) (v := .ty "tuple") rfl) (nomark _)) pss_never pss_nil)
      (pss_cons (ps_for PassesOwn.never rfl (pi_range1 rfl B.range (pa_cons (pe_callB call_len (by rfl) B.len PySem.boot_len (pa_cons (pv 0) pa_nil)) pa_nil)) (pg_name (i := 2) sc_fault_of_borders.nd rfl (Or.inl rfl))
        (pss_cons (ps_if (pt_not (pt_val (pe_cal c1 hr rfl (pa_cons (pe_ix ix_tup (pv 0) (pv 2) (fun _ _ => rfl)) (pa_cons (pv 1) pa_nil))) (by intro _; rfl))) pss_never pss_nil)
        (pss_one (ps_if (PW.pt (pw_and (pt_cmpR op_gt (pv 2) pe_int (nomark _)) (pw_and1 (pt_cmpR (op_leT hr.units0) (pe_ix ix_tup (pv 0) (pv 2) (fun _ _ => rfl)) (pe_ix ix_tup (pv 0) (pe_op op_sub (pv 2) pe_int) (fun _ _ => rfl)) (nomark _))))) pss_never pss_nil))))
      (pss_one (ps_ret pe_non))), ?_⟩
    obtain ⟨c, ys, rfl, h1, hl, hg⟩ := dp_bord hd
    have hbl := bs_len hn hb ha
    refine ⟨_, rfl, _, "tuple", rfl, .tup h1, "tuple", "tuple", rfl, rfl, by decide, by decide, false, rfl, iteF ?_⟩
    refine ⟨_, rfl, _, bs.length, rfl, .inr ⟨_, h1, hl.symm⟩, _, rfl, by omega, by omega, ?_⟩
    rw [Int.toNat_natCast]
    refine for_range (n := bs.length) (fun i σ H2 => ∃ o, σ = [some (.ref c), some (.int (n : Int)), o] ∧ H2 = H) ⟨_, rfl, rfl⟩ ?_ ?_
    · rintro i σ H2 hi ⟨o, rfl, rfl⟩
      obtain ⟨u, hu, hu2⟩ := hg i _ (List.getElem?_eq_getElem hi)
      have hbi := hb _ (List.getElem_mem hi)
      refine ⟨_, rfl, _, rfl, _, _, _, _, rfl, rfl, h1, by rw [Int.zero_add]; exact atI_nat hu, _, rfl, _, bs[i].1, bs[i].2, n, rfl, hu2, hbi.1, hbi.2, true, rfl, iteF ?_⟩
      refine ⟨_, rfl, _, _, rfl, rfl, decide (0 < i), ?_, ?_⟩
      · show V.bl (decide ((0 : Int) < (0 : Int) + (i : Int))) = _
        congr 1
        apply decide_eq_decide.mpr
        omega
      by_cases hi0 : 0 < i
      · rw [decide_eq_true hi0]
        refine iteT ?_
        obtain ⟨u', hu', hu2'⟩ := hg (i - 1) _ (List.getElem?_eq_getElem (show i - 1 < bs.length by omega))
        obtain ⟨t, rfl, q1⟩ := dp_pair hu2
        obtain ⟨t', rfl, q2⟩ := dp_pair hu2'
        have hlt : ltP bs[i - 1] bs[i] := List.pairwise_iff_getElem.mp ha _ _ _ _ (by omega)
        refine ⟨_, rfl, _, rfl, _, _, _, _, rfl, rfl, h1, by rw [Int.zero_add]; exact atI_nat hu, _, rfl, _, rfl, _, _, rfl, rfl, _, _, _, _, rfl, rfl, h1, (by
          have e : (0 : Int) + (i : Int) - 1 = ((i - 1 : Nat) : Int) := by omega
          rw [e]; exact atI_nat hu'), t, t', [(bs[i].1 : Int), (bs[i].2 : Int)], [(bs[i - 1].1 : Int), (bs[i - 1].2 : Int)], rfl, rfl, q1, q2, false, ?_, iteF ⟨_, rfl, rfl⟩⟩
        congr 1
        unfold ltP at hlt
        apply lex2_false
        omega
      · rw [decide_eq_false hi0]
        exact iteF (iteF ⟨_, rfl, rfl⟩)
    · rintro σ H2 ⟨o, rfl, rfl⟩
      exact k
def spFaultLand (K : PySem.W.Frag) : Sp := fun vs H Q _ => ∃ (v : V) (fs : List Int) (bs : List (Nat × Nat)), vs = [v] ∧ Dp K H v (landD fs bs) ∧ LandOk fs bs ∧ Q .non H
theorem sc_fault_of_land : FnScope ["value", "folk", "borders", "place"] ["value"] (defScope st_fault_of_land) := ⟨rfl, rfl, rfl, by decide +kernel, rfl, by decide +kernel, by decide +kernel⟩
theorem ok_fault_of_land {f : Addr} {fd : FuncData} (F : Fun K "fault_of_land" "fault_of_land" st_fault_of_land f fd) (B : Bl mg) (c1 : Cal P w K mg base 2 "fault_of_folk" ["folk"] (spFaultFolk K)) (c2 : Cal P w K mg base 3 "fault_of_borders" ["borders", "many"] (spFaultBord K)) : FnOk P w K mg base CX0 4 f fd ["value"] (spFaultLand K) := by
  refine F.ok sc_fault_of_land (fun vs H Q E h => ?_) (fun cdv A outer s H vs Q E hr h => ?_)
  · obtain ⟨v, fs, bs, rfl, _⟩ := h
    rfl
  · obtain ⟨v, fs, bs, rfl, hd, ok, k⟩ := h
    refine ⟨_, pss_cons (ps_if (PW.pt (pw_or (pt_cmpR op_neTy (pe_callTy call_type1 rfl B.type (by decide +kernel) (pa_cons (pv 0) pa_nil)) (pe_bltn rfl B.tuple (by decide +kernel) (v := .ty "tuple") rfl) (nomark _))
        (pw_or1 (pt_cmpR op_ne (pe_callB call_len (by rfl) B.len PySem.boot_len (pa_cons (pv 0) pa_nil)) pe_int (nomark _))))) pss_never pss_nil)
      (pss_cons (ps_asg (pv 0) (pg_tup rfl (pgs_cons (pg_name (i := 1) sc_fault_of_land.nd rfl (Or.inl rfl)) (pgs_cons (pg_name (i := 2) sc_fault_of_land.nd rfl (Or.inl rfl)) pgs_nil))))
      (pss_cons (ps_set (i := 3) sc_fault_of_land.nd rfl (Or.inl rfl) (pe_cal c1 (hr.mono (by decide)) rfl (pa_cons (pv 1) pa_nil)))
      (pss_cons (ps_if (pt_cmpR op_isN (pv 3) pe_non (nomark _)) (pss_one (ps_set (i := 3) sc_fault_of_land.nd rfl (Or.inl rfl) (pe_cal c2 hr rfl (pa_cons (pv 2) (pa_cons (pe_callB call_len (by rfl) B.len PySem.boot_len (pa_cons (pv 1) pa_nil)) pa_nil))))) pss_nil)
      (pss_one (ps_ret (pv 3)))))), ?_⟩
    obtain ⟨a, xs, rfl, h1, h2⟩ := dp_tup hd
    have ez : ∃ v0 v1, xs = [v0, v1] ∧ Dp K H v0 (.tuple (fs.map .int)) ∧ Dp K H v1 (bordD bs) := by
      cases h2 with
      | cons z1 zr =>
        cases zr with
        | cons z2 zr =>
          cases zr
          exact ⟨_, _, rfl, z1, z2⟩
    obtain ⟨v0, v1, rfl, d0, d1⟩ := ez
    obtain ⟨b, rfl, h5⟩ := dp_ints d0
    refine ⟨_, rfl, _, "tuple", rfl, .tup h1, "tuple", "tuple", rfl, rfl, by decide, by decide, false, rfl, ?_⟩
    refine iteF ⟨_, rfl, _, 2, rfl, .inr ⟨_, h1, rfl⟩, rfl, false, rfl, iteF ?_⟩
    refine ⟨_, rfl, a, _, rfl, h1, rfl, _, _, rfl, _, _, rfl, rfl, ?_⟩
    refine ⟨_, rfl, _, fs, rfl, d0, ok.few, ok.most, ok.folk, ?_⟩
    refine ⟨_, rfl, rfl, true, rfl, iteT ?_⟩
    refine ⟨_, rfl, _, rfl, _, fs.length, rfl, .inr ⟨_, h5, by simp⟩, _, bs, fs.length, rfl, d1, ok.most, ok.bord, ok.asc, ?_⟩
    exact ⟨_, rfl, k⟩
def spCheckLand (K : PySem.W.Frag) : Sp := spFaultLand K
theorem sc_check_land : FnScope ["land", "place"] ["land"] (defScope st_check_land) := ⟨rfl, rfl, rfl, by decide +kernel, rfl, by decide +kernel, by decide +kernel⟩
theorem ok_check_land {f : Addr} {fd : FuncData} (F : Fun K "check_land" "check_land" st_check_land f fd) (c1 : Cal P w K mg base 4 "fault_of_land" ["value"] (spFaultLand K)) : FnOk P w K mg base CX0 5 f fd ["land"] (spFaultLand K) := by
  refine F.ok sc_check_land (fun vs H Q E h => ?_) (fun cdv A outer s H vs Q E hr h => ?_)
  · obtain ⟨v, fs, bs, rfl, _⟩ := h
    rfl
  · obtain ⟨v, fs, bs, rfl, hd, ok, k⟩ := h
    refine ⟨_, pss_cons (ps_set (i := 1) sc_check_land.nd rfl (Or.inl rfl) (pe_cal c1 hr rfl (pa_cons (pv 0) pa_nil))) (pss_one (ps_if (pt_cmpR op_notN (pv 1) pe_non (nomark _)) pss_never pss_nil)), ?_⟩
    exact ⟨_, rfl, v, fs, bs, rfl, hd, ok, _, rfl, rfl, false, rfl, iteF k⟩
/-! ### check_lot -/
def spCheckLot (K : PySem.W.Frag) (T1 T2 : Addr) : Sp := fun vs H Q _ => ∃ (l v : V) (fs : List Int) (bd : PyData) (ps : List Nat), vs = [l, v] ∧ Dp K H l (.tuple [.tuple (fs.map .int), bd]) ∧ fs.length ≤ 12 ∧ Dp K H v (lotD ps) ∧ isLot fs.length ps = true ∧ ps.length ≤ 12 ∧
  TabG H T1 ∧ TabG H T2 ∧ ∀ H', Ext H H' → Q .non H'
end
section
variable {P : Program} {w : World} {K : PySem.W.Frag} {mg : Str → Option Value} {base : Heap}
/-! ### cut_places -/
theorem asc_pair : ∀ {ns : List Int}, asc ns = true → ns.Pairwise (· < ·)
  | [], _ => .nil
  | [_], _ => by simp
  | a :: b :: r, h => by
    have h2 : (decide (a < b) && asc (b :: r)) = true := h
    rw [Bool.and_eq_true, decide_eq_true_eq] at h2
    have ih := asc_pair h2.2
    rw [List.pairwise_cons] at ih ⊢
    refine ⟨fun x hx => ?_, by rw [List.pairwise_cons]; exact ih⟩
    rcases List.mem_cons.mp hx with e | e
    · rw [e]; exact h2.1
    · have := ih.1 x e
      omega
structure LotOk (n : Nat) (ps : List Nat) : Prop where
  ne : ps ≠ []
  lt : ∀ p ∈ ps, p < n
  asc : ps.Pairwise (· < ·)
theorem pair_asc : ∀ {ns : List Int}, ns.Pairwise (· < ·) → asc ns = true
  | [], _ => rfl
  | [_], _ => rfl
  | a :: b :: r, h => by
    rw [List.pairwise_cons] at h
    show (decide (a < b) && asc (b :: r)) = true
    rw [pair_asc h.2, decide_eq_true (h.1 b List.mem_cons_self)]
    rfl
theorem LotOk.is {n : Nat} {ps : List Nat} (h : LotOk n ps) : isLot n ps = true := by
  unfold isLot
  have e1 : ps.isEmpty = false := by cases ps with
    | nil => exact absurd rfl h.ne
    | cons _ _ => rfl
  have e2 : (ps.all fun p => decide (p < n)) = true := List.all_eq_true.mpr fun p hp => decide_eq_true (h.lt p hp)
  have e3 : Wd.asc (ps.map fun (p : Nat) => (p : Int)) = true := Wd.pair_asc (by
    rw [List.pairwise_map]
    exact h.asc.imp fun z => by omega)
  rw [e1, e2, e3]
  rfl
theorem LotOk.len {n : Nat} {ps : List Nat} (h : LotOk n ps) : ps.length ≤ n := by
  have e := Mk.bits_mask h.asc h.lt
  rw [← e]
  exact Mk.bits_len _ _
end
end Wd

set_option Elab.async false
set_option linter.all false
set_option maxRecDepth 100000
set_option maxHeartbeats 4000000
namespace Wd
open PySem PySem.Spec PyProof.Rows L2 Bx Gx













































section
variable {P : Program} {w : World} {K : PySem.W.Frag} {mg : Str → Option Value} {base : Heap}
/-! ### the drawn numbers -/
/-- the spring at sp, its great cells at gr -/
structure SpAt (H : Hp) (sp gr : Addr) : Prop where
  ex : ∃ (xs : List Int) (m t : Int), H sp = some (.lst [.ref gr, .int m, .int t]) ∧ H gr = some (.lst (xs.map V.int)) ∧ 0 ≤ m ∧ m < 2305843009213693951 ∧ xs.length ≤ 63
  ne : sp ≠ gr
theorem SpAt.ls {H : Hp} {sp gr p : Addr} (h : SpAt H sp gr) (hp : p ∈ [sp, gr]) : p ∈ [sp, gr] ∧ ∃ xs, H p = some (.lst xs) := by
  obtain ⟨xs, m, t, h1, h2, _⟩ := h.ex
  refine ⟨hp, ?_⟩
  rcases List.mem_cons.mp hp with e | e
  · rw [e]; exact ⟨_, h1⟩
  · rw [List.mem_singleton.mp e]; exact ⟨_, h2⟩
theorem SpAt.ext {H H' : Hp} {sp gr : Addr} (h : SpAt H sp gr) (x : Ext H H') : SpAt H' sp gr := by
  obtain ⟨xs, m, t, h1, h2, h3⟩ := h.ex
  exact ⟨⟨xs, m, t, x.lst h1, x.lst h2, h3⟩, h.ne⟩
theorem SpAt.upd {H : Hp} {sp gr p : Addr} {o : HO} (h : SpAt H sp gr) (h1 : p ≠ sp) (h2 : p ≠ gr) : SpAt (upd H p o) sp gr := by
  obtain ⟨xs, m, t, h3, h4, h5⟩ := h.ex
  exact ⟨⟨xs, m, t, by rw [upd_ne h1.symm]; exact h3, by rw [upd_ne h2.symm]; exact h4, h5⟩, h.ne⟩
def spSpring (K : PySem.W.Frag) : Sp := fun vs H Q _ => ∃ (a : Addr) (ns : List Int), vs = [.ref a] ∧ SqL K H a (ns.map V.int) ∧ ns.length ≤ 63 ∧ ∀ sp gr H', Ext H H' → SpAt H' sp gr → H sp = none → H gr = none → Q (.ref sp) H'
theorem sc_law_spring : FnScope ["script", "cell", "great", "mixed"] ["script"] (defScope st__law_spring) := ⟨rfl, rfl, rfl, by decide +kernel, rfl, by decide +kernel, by decide +kernel⟩
theorem ok_law_spring {f : Addr} {fd : FuncData} (F : Fun K "_law_spring" "_law_spring" st__law_spring f fd) (B : Bl mg) : FnOk P w K mg base CX0 1 f fd ["script"] (spSpring K) := by
  refine F.ok sc_law_spring (fun vs H Q E h => ?_) (fun cdv A outer s H vs Q E hr h => ?_)
  · obtain ⟨a, ns, rfl, _⟩ := h
    rfl
  · obtain ⟨a, ns, rfl, hS, hlen, k⟩ := h
    refine ⟨_, pss_cons (ps_setLc (i := 2) (own := [("cell", 1)]) (g := gName 1) rfl sc_law_spring.nd rfl rfl (sw_true rfl rfl rfl (by decide +kernel)) (pi_list (pv 0)) (blkOk_by (own := [("cell", 1)]) (N := ["script", "cell", "great", "mixed"]) (sc := defScope st__law_spring) (by decide +kernel))
        (fun _ _ _ _ _ => pg_name (i := 1) sc_law_spring.nd rfl (Or.inl rfl)) (fun _ _ _ _ _ => pts_one (pt_cmpR op_ge (pv 1) (pe_op op_pow pe_int pe_int) (nomark _))) (fun _ _ _ _ _ => pe_op op_sub (pv 1) (pe_op op_pow pe_int pe_int)))
      (pss_cons (ps_set (i := 3) sc_law_spring.nd rfl (Or.inl rfl) (pe_op op_add pe_int (pe_op op_mul pe_int (pe_callB call_len (by rfl) B.len PySem.boot_len (pa_cons (pv 0) pa_nil)))))
      (pss_cons (ps_for PassesOwn.never rfl (pi_list (pv 0)) (pg_name (i := 1) sc_law_spring.nd rfl (Or.inl rfl))
        (pss_one (ps_set (i := 3) sc_law_spring.nd rfl (Or.inl rfl) (pe_op op_mod (pe_callTy call_int1 rfl B.int (by decide +kernel) (pa_cons (pe_op op_add (pe_op op_add (pe_op op_mul (pv 3) pe_int) (pe_op op_mul (pv 1) pe_int)) pe_int) pa_nil)) pe_int))))
      (pss_one (ps_ret (pe_lst (pa_cons (pv 2) (pa_cons (pv 3) (pa_cons pe_int pa_nil)))))))), ?_⟩
    refine ⟨_, rfl, a, rfl, ⟨_, hS⟩, fun D hD => ?_⟩
    refine lc_list (K := K) (a := a) (xs := ns.map V.int) (fun i H1 => ∃ xs : List Int, xs.length ≤ i ∧ H1 = upd H D (.lst (xs.map V.int))) ⟨[], Nat.le_refl _, rfl⟩ (fun i H1 _ ⟨xs, _, e⟩ => by rw [e]; exact (Ext.new hD).sqL hS) ?_ ?_
    · rintro i x H1 hx ⟨xs, hl, rfl⟩
      obtain ⟨z, rfl⟩ : ∃ z, x = V.int z := by
        rw [List.getElem?_map] at hx
        cases e : ns[i]? with
        | none => rw [e] at hx; cases hx
        | some z => rw [e] at hx; exact ⟨z, (Option.some.inj hx).symm⟩
      have hi : i < ns.length := by
        have := (List.getElem?_eq_some_iff.mp hx).1
        rwa [List.length_map] at this
      refine ⟨rfl, _, rfl, _, _, rfl, rfl, ⟨by decide, by decide, by decide⟩, _, _, rfl, rfl, _, rfl, ?_⟩
      refine ite2 (fun _ => ?_) (fun _ => ?_)
      · refine ⟨_, rfl, _, _, rfl, rfl, ⟨by decide, by decide, by decide⟩, _, _, rfl, rfl, _, upd_same, ?_, xs ++ [z - 10 ^ Int.toNat 18], ?_, ?_⟩
        · rw [List.length_map]
          exact small1000 (by omega)
        · rw [List.length_append]
          exact Nat.add_le_add_right hl 1
        · rw [upd_upd, List.map_append]
          rfl
      · exact ⟨xs, by omega, rfl⟩
    · rintro H1 ⟨xs, hl, rfl⟩
      rw [List.length_map] at hl
      have x1 : Ext H (upd H D (.lst (xs.map V.int))) := Ext.new hD
      have hDa : (upd H D (.lst (xs.map V.int))) D = some (.lst (xs.map V.int)) := upd_same
      generalize upd H D (.lst (xs.map V.int)) = H1 at x1 hDa ⊢
      refine ⟨_, rfl, _, ns.length, rfl, .inl ⟨_, x1.sqL hS, by simp⟩, _, _, rfl, rfl, .inl ⟨by decide, by decide⟩, _, _, rfl, rfl, ?_⟩
      refine ⟨_, rfl, a, rfl, ⟨_, x1.sqL hS⟩, for_list (K := K) (a := a) (xs := ns.map V.int) (fun i σ H2 => ∃ (v : Option V) (m : Int), σ = [some (.ref a), v, some (.ref D), some (.int m)] ∧ H2 = H1 ∧ 0 ≤ m ∧ m < 2305843009213693951)
        ⟨_, _, rfl, rfl, by omega, by omega⟩ (fun i σ H2 _ ⟨_, _, _, e, _⟩ => by rw [e]; exact x1.sqL hS) ?_ ?_⟩
      · rintro i x σ H2 hx ⟨v, m, rfl, rfl, hm1, hm2⟩
        obtain ⟨z, rfl⟩ : ∃ z, x = V.int z := by
          rw [List.getElem?_map] at hx
          cases e : ns[i]? with
          | none => rw [e] at hx; cases hx
          | some z => rw [e] at hx; exact ⟨z, (Option.some.inj hx).symm⟩
        refine ⟨_, rfl, _, _, rfl, rfl, .inr ⟨by decide, by decide⟩, _, rfl, _, _, rfl, rfl, .inr ⟨by decide, by decide⟩, _, _, rfl, rfl, _, _, rfl, rfl, .inl ⟨_, rfl, ?_⟩⟩
        refine ⟨_, _, rfl, rfl, (by show (0 : Int) < 2305843009213693951; decide), some (.int z), _, rfl, rfl, Int.emod_nonneg _ (by decide), Int.emod_lt_of_pos _ (by decide)⟩
      · rintro σ H2 ⟨v, m, rfl, rfl, hm1, hm2⟩
        refine ⟨_, rfl, _, rfl, by show 3 ≤ sizeLine; decide, fun l hlf => ?_⟩
        have hnl : l ≠ D := fun e => by rw [e, hDa] at hlf; cases hlf
        exact k l D _ (x1.trans (Ext.new hlf)) ⟨⟨xs, m, 0, upd_same, by rw [upd_ne hnl.symm]; exact hDa, hm1, hm2, by omega⟩, hnl⟩ (x1.free hlf) hD
/-! ### a number from 0 on -/
theorem fmod_bd (y : Int) {m : Nat} (h : 0 < m) : 0 ≤ y.fmod (m : Int) ∧ y.fmod (m : Int) < (m : Int) := by
  rw [Int.fmod_eq_emod_of_nonneg y (by omega)]
  exact ⟨Int.emod_nonneg _ (by omega), Int.emod_lt_of_pos _ (by omega)⟩
def spDrop (K : PySem.W.Frag) : Sp := fun vs H Q _ => ∃ (sp gr : Addr) (many : Nat), vs = [.ref sp, .int (many : Int)] ∧ SpAt H sp gr ∧ 0 < many ∧ many < 100000000 ∧ ∀ (n : Nat) H', n < many → ExtS [sp, gr] H H' → SpAt H' sp gr → Q (.int (n : Int)) H'
theorem sc_law_drop : FnScope ["spring", "many", "great", "found"] ["spring", "many"] (defScope st__law_drop) := ⟨rfl, rfl, rfl, by decide +kernel, rfl, by decide +kernel, by decide +kernel⟩
theorem ok_law_drop {f : Addr} {fd : FuncData} (F : Fun K "_law_drop" "_law_drop" st__law_drop f fd) (B : Bl mg) : FnOk P w K mg base CX0 1 f fd ["spring", "many"] (spDrop K) := by
  refine F.ok sc_law_drop (fun vs H Q E h => ?_) (fun cdv A outer s H vs Q E hr h => ?_)
  · obtain ⟨sp, gr, many, rfl, _⟩ := h
    rfl
  · obtain ⟨sp, gr, many, rfl, S, hm0, hmb, k⟩ := h
    refine ⟨_, pss_cons (ps_set (i := 2) sc_law_drop.nd rfl (Or.inl rfl) (pe_ix ix_list (pv 0) pe_int (fun _ _ => rfl)))
      (pss_cons (ps_while PassesOwn.never (PW.pt (pw_and (pt_cmpR (op_neD hr.units) (pv 2) (pe_lst pa_nil) (nomark _)) (pw_and1 (pt_cmpR op_eq (pe_ix ix_list (pv 2) pe_int (fun _ _ => rfl)) pe_int (nomark _)))))
        (pss_one (ps_expr (pe_bm PySem.F.plainAttrs_list PySem.F.slot_list_pop PySem.F.type_list_pop mt_popAt (pv 2) (pa_cons pe_int pa_nil)))))
      (pss_cons (ps_if (pt_cmpR (op_neD hr.units) (pv 2) (pe_lst pa_nil) (nomark _))
        (pss_cons (ps_set (i := 3) sc_law_drop.nd rfl (Or.inl rfl) (pe_op op_modN (pe_callTy call_int1 rfl B.int (by decide +kernel) (pa_cons (pe_ix ix_list (pv 2) pe_int (fun _ _ => rfl)) pa_nil)) (pv 1)))
        (pss_cons (ps_asg (pe_op op_fdivN (pe_ix ix_list (pv 2) pe_int (fun _ _ => rfl)) (pv 1)) (pg_sub (pv 2) pe_int set_list))
        (pss_one (ps_ret (pv 3))))) pss_nil)
      (pss_cons (ps_asg (pe_op op_add (pe_ix ix_list (pv 0) pe_int (fun _ _ => rfl)) pe_int) (pg_sub (pv 0) pe_int set_list))
      (pss_cons (ps_asg (pe_op op_mod (pe_callTy call_int1 rfl B.int (by decide +kernel) (pa_cons (pe_op op_add (pe_op op_mul (pe_ix ix_list (pv 0) pe_int (fun _ _ => rfl)) pe_int) (pe_op op_mul (pe_ix ix_list (pv 0) pe_int (fun _ _ => rfl)) pe_int)) pa_nil)) pe_int) (pg_sub (pv 0) pe_int set_list))
      (pss_one (ps_ret (pe_op op_modN (pe_op op_fdiv (pe_op op_mod (pe_callTy call_int1 rfl B.int (by decide +kernel) (pa_cons (pe_op op_mul (pe_ix ix_list (pv 0) pe_int (fun _ _ => rfl)) (pe_ix ix_list (pv 0) pe_int (fun _ _ => rfl))) pa_nil)) pe_int) pe_int) (pv 1)))))))), ?_⟩
    obtain ⟨xs, m, t, h1, h2, hm1, hm2, hl⟩ := S.ex
    refine ⟨_, rfl, sp, _, _, _, rfl, rfl, SqL.of h1, atI_nat (j := 0) rfl, ?_⟩
    dsimp only [gName, tSeq]
    refine via (fun σ H2 => σ = [some (.ref sp), some (.int (many : Int)), some (.ref gr), none] ∧ SpAt H2 sp gr ∧ ExtS [sp, gr] H H2) ?_ (fun nx hnx => ?_)
    · rintro σ H2 ⟨rfl, S2, x2⟩
      obtain ⟨ys, m2, t2, g1, g2, g3, g4, g5⟩ := S2.ex
      refine ⟨_, rfl, Nat.zero_le _, fun l hl0 => ?_⟩
      have hng : gr ≠ l := ne_of_none g2 hl0
      have x3 : ExtS [sp, gr] H2 (upd H2 l (.lst [])) := .new hl0
      refine ⟨.list (ys.map .int), .list [], .lst (SqL.of (by rw [upd_ne hng]; exact g2)) (dpAll_of_ints ys), .lst (SqL.of upd_same) .nil, (Sh.ints (n := 0) ys).shaped (by decide), (Sh.lst (n := 0) (fun d hd => by cases hd)).shaped (by decide), _, rfl, ?_⟩
      rw [eqv_nil]
      have S3 : SpAt (upd H2 l (.lst [])) sp gr := S2.upd (ne_of_none g1 hl0).symm hng.symm
      have g1' : (upd H2 l (.lst [])) sp = some (.lst [.ref gr, .int m2, .int t2]) := by rw [upd_ne (ne_of_none g1 hl0)]; exact g1
      have g2' : (upd H2 l (.lst [])) gr = some (.lst (ys.map V.int)) := by rw [upd_ne hng]; exact g2
      have x23 := x2.trans x3
      generalize upd H2 l (.lst []) = H3 at x23 S3 g1' g2' ⊢
      have w1 : sp ∈ [sp, gr] ∧ ∃ xs, H sp = some (.lst xs) := S.ls (by simp)
      have w2 : gr ∈ [sp, gr] ∧ ∃ xs, H gr = some (.lst xs) := S.ls (by simp)
      cases ys with
      | cons y r =>
        refine iteT ?_
        refine ⟨_, rfl, gr, _, _, _, rfl, rfl, SqL.of g2', atI_nat (j := 0) rfl, .inl ⟨_, rfl, _, rfl, _, _, rfl, rfl, by omega, ?_⟩⟩
        refine ⟨_, rfl, gr, _, _, _, rfl, rfl, SqL.of g2', atI_nat (j := 0) rfl, _, rfl, _, _, rfl, rfl, ⟨by omega, by omega⟩, _, rfl, gr, _, _, 0, rfl, rfl, g2', by simp [ixN], _, rfl, ?_⟩
        obtain ⟨hf1, hf2⟩ := fmod_bd y hm0
        have e : y.fmod (many : Int) = (((y.fmod (many : Int)).toNat : Nat) : Int) := by omega
        have hlt : (y.fmod (many : Int)).toNat < many := by omega
        dsimp only [List.set]
        show Q (V.int (y.fmod (many : Int))) _
        rw [e]
        refine k _ _ hlt (x23.write (.inr w2)) ⟨⟨y.fdiv many :: r, m2, t2, by rw [upd_ne S.ne]; exact g1', upd_same, g3, g4, g5⟩, S.ne⟩
      | nil =>
        refine iteF ?_
        refine ⟨_, rfl, sp, _, _, _, rfl, rfl, SqL.of g1', atI_nat (j := 2) rfl, _, _, rfl, rfl, _, rfl, sp, _, _, 2, rfl, rfl, g1', rfl, ?_⟩
        dsimp only [List.set]
        refine ⟨_, rfl, sp, _, _, _, rfl, rfl, SqL.of upd_same, atI_nat (j := 1) rfl, _, _, rfl, rfl, .inr ⟨by decide, by decide⟩, _, rfl, sp, _, _, _, rfl, rfl, SqL.of upd_same, atI_nat (j := 2) rfl, _, _, rfl, rfl, .inr ⟨by decide, by decide⟩, _, _, rfl, rfl, .inl ⟨_, rfl, _, _, rfl, rfl, (by show (0 : Int) < 2305843009213693951; decide), _, rfl, sp, _, _, 1, rfl, rfl, upd_same, rfl, ?_⟩⟩
        dsimp only [List.set]
        rw [upd_upd]
        have hq1 := Int.emod_nonneg (m2 * 6364136223846793005 + (t2 + 1) * 1442695040888963407) (show (2305843009213693951 : Int) ≠ 0 by decide)
        have hq2 := Int.emod_lt_of_pos (m2 * 6364136223846793005 + (t2 + 1) * 1442695040888963407) (show (0 : Int) < 2305843009213693951 by decide)
        generalize (m2 * 6364136223846793005 + (t2 + 1) * 1442695040888963407) % 2305843009213693951 = q at hq1 hq2 ⊢
        refine ⟨_, rfl, sp, _, _, _, rfl, rfl, SqL.of upd_same, atI_nat (j := 1) rfl, _, rfl, sp, _, _, _, rfl, rfl, SqL.of upd_same, atI_nat (j := 1) rfl, _, _, rfl, rfl, .inl ⟨by omega, by omega⟩, .inl ⟨_, rfl, _, _, rfl, rfl, (by show (0 : Int) < 2305843009213693921; decide), _, _, rfl, rfl, ⟨by decide, by decide⟩, _, rfl, _, _, rfl, rfl, by omega, ?_⟩⟩
        generalize q * q % 2305843009213693921 / 1048576 = y
        obtain ⟨hf1, hf2⟩ := fmod_bd y hm0
        have e : y.fmod (many : Int) = (((y.fmod (many : Int)).toNat : Nat) : Int) := by omega
        have hlt : (y.fmod (many : Int)).toNat < many := by omega
        show Q (V.int (y.fmod (many : Int))) _
        rw [e]
        refine k _ _ hlt (x23.write (.inr w1)) ⟨⟨[], q, t2 + 1, upd_same, by rw [upd_ne S.ne.symm]; exact g2', hq1, hq2, by decide⟩, S.ne⟩
    · refine while_by (fun σ H2 => σ = [some (.ref sp), some (.int (many : Int)), some (.ref gr), none] ∧ SpAt H2 sp gr ∧ ExtS [sp, gr] H H2)
        (fun σ H2 => match H2 gr with
          | some (.lst ys) => ys.length
          | _ => 0) ⟨rfl, S, .refl _ H⟩ ?_ ?_
      · rintro σ H2 ⟨rfl, S2, x2⟩
        obtain ⟨ys, m2, t2, g1, g2, g3, g4, g5⟩ := S2.ex
        refine ⟨_, rfl, Nat.zero_le _, fun l hl0 => ?_⟩
        have hng : gr ≠ l := ne_of_none g2 hl0
        have x3 : ExtS [sp, gr] H2 (upd H2 l (.lst [])) := .new hl0
        refine ⟨.list (ys.map .int), .list [], .lst (SqL.of (by rw [upd_ne hng]; exact g2)) (dpAll_of_ints ys), .lst (SqL.of upd_same) .nil, (Sh.ints (n := 0) ys).shaped (by decide), (Sh.lst (n := 0) (fun d hd => by cases hd)).shaped (by decide), _, rfl, ?_⟩
        rw [eqv_nil]
        have S3 : SpAt (upd H2 l (.lst [])) sp gr := S2.upd (ne_of_none g1 hl0).symm hng.symm
        have g1' : (upd H2 l (.lst [])) sp = some (.lst [.ref gr, .int m2, .int t2]) := by rw [upd_ne (ne_of_none g1 hl0)]; exact g1
        have g2' : (upd H2 l (.lst [])) gr = some (.lst (ys.map V.int)) := by rw [upd_ne hng]; exact g2
        have x23 := x2.trans x3
        generalize upd H2 l (.lst []) = H3 at x23 S3 g1' g2' ⊢
        cases ys with
        | nil => exact iteF (hnx _ _ ⟨rfl, S3, x23⟩)
        | cons y r =>
          refine iteT ?_
          refine ⟨_, rfl, gr, _, _, _, rfl, rfl, SqL.of g2', atI_nat (j := 0) rfl, rfl, _, rfl, ?_⟩
          refine ite2 (fun _ => ?_) (fun _ => ?_)
          · refine ⟨_, rfl, .inl ⟨rfl, _, SqL.of g2'⟩, gr, _, 0, 0, _, rfl, rfl, g2', by decide, by decide, by simp [seqIndex?], rfl, ⟨rfl, ⟨⟨r, m2, t2, by rw [upd_ne S.ne]; exact g1', upd_same, g3, g4, by have := g5; simp at this; omega⟩, S.ne⟩, x23.write (.inr (S.ls (by simp)))⟩, ?_⟩
            rw [g2, upd_same]
            simp
          · exact hnx _ _ ⟨rfl, S3, x23⟩
      · rintro σ H2 Q1 Q2 hq ⟨v, e, hl, g⟩
        refine ⟨v, e, hl, fun l hl0 => ?_⟩
        obtain ⟨d, d2, a1, a2, a3, a4, kk, a5, q⟩ := g l hl0
        refine ⟨d, d2, a1, a2, a3, a4, kk, a5, ?_⟩
        cases kk with
        | false => exact hq _ _ q
        | true =>
          obtain ⟨b1, b2, b3, b4, b5, b6, b7, b8, b9, b10, b11, b12, b13, b14⟩ := q
          exact ⟨b1, b2, b3, b4, b5, b6, b7, b8, b9, b10, b11, b12, b13, hq _ _ b14⟩
end
section
variable {P : Program} {w : World} {K : PySem.W.Frag} {mg : Str → Option Value} {base : Heap}
/-! ### a drawn sequence -/
theorem rgV_nat (n : Nat) : rgV 0 (n : Int) = vsN (List.range n) := by
  unfold rgV vsN
  simp
theorem vsN_len (l : List Nat) : (vsN l).length = l.length := List.length_map ..
theorem vsN_at {l : List Nat} {n : Nat} (h : n < l.length) : (vsN l)[n]? = some (.int ((l[n] : Nat) : Int)) := by
  rw [List.getElem?_map, List.getElem?_eq_getElem h]
  rfl
theorem erase_map {α β : Type} (f : α → β) : ∀ (l : List α) (n : Nat), (l.map f).eraseIdx n = (l.eraseIdx n).map f
  | [], _ => rfl
  | _ :: _, 0 => rfl
  | x :: l, n + 1 => by
    show f x :: (l.map f).eraseIdx n = f x :: (l.eraseIdx n).map f
    rw [erase_map f l n]
theorem erase_perm : ∀ {l : List Nat} {n : Nat} (h : n < l.length), (l[n] :: l.eraseIdx n).Perm l
  | _ :: _, 0, _ => .refl _
  | x :: l, n + 1, h => by
    have h2 : n < l.length := by simpa using h
    have ih := erase_perm (l := l) (n := n) h2
    exact (List.Perm.swap x (l[n]'h2) (l.eraseIdx n)).trans (ih.cons x)
def spOrder (K : PySem.W.Frag) : Sp := fun vs H Q _ => ∃ (sp gr : Addr) (many : Nat), vs = [.ref sp, .int (many : Int)] ∧ SpAt H sp gr ∧ many ≤ 100 ∧ ∀ (p : Addr) (os : List Nat) H', os.Perm (List.range many) → ExtS [sp, gr] H H' → SpAt H' sp gr → H p = none → H' p = some (.tup (vsN os)) → Q (.ref p) H'
theorem sc_law_order : FnScope ["spring", "many", "left", "found", "turn"] ["spring", "many"] (defScope st__law_order) := ⟨rfl, rfl, rfl, by decide +kernel, rfl, by decide +kernel, by decide +kernel⟩
theorem ok_law_order {f : Addr} {fd : FuncData} (F : Fun K "_law_order" "_law_order" st__law_order f fd) (B : Bl mg) (c1 : Cal P w K mg base 1 "_law_drop" ["spring", "many"] (spDrop K)) : FnOk P w K mg base CX0 2 f fd ["spring", "many"] (spOrder K) := by
  refine F.ok sc_law_order (fun vs H Q E h => ?_) (fun cdv A outer s H vs Q E hr h => ?_)
  · obtain ⟨sp, gr, many, rfl, _⟩ := h
    rfl
  · obtain ⟨sp, gr, many, rfl, S, hm, k⟩ := h
    refine ⟨_, pss_cons (ps_par (i := 2) (j := 3) (by rfl) sc_law_order.nd rfl rfl (by decide) rfl rfl (pa_cons (pe_listRg rfl rfl B.list (prg_1 rfl B.range (pv 1))) (pa_cons (pe_lst pa_nil) pa_nil)) (by rfl))
      (pss_cons (ps_for PassesOwn.never rfl (pi_range1 rfl B.range (pa_cons (pv 1) pa_nil)) (pg_name (i := 4) sc_law_order.nd rfl (Or.inl rfl))
        (pss_one (ps_expr (pe_bm PySem.F.plainAttrs_list PySem.F.slot_list_append PySem.F.type_list_append mt_append (pv 3)
          (pa_cons (pe_bm PySem.F.plainAttrs_list PySem.F.slot_list_pop PySem.F.type_list_pop mt_popAt (pv 2)
            (pa_cons (pe_cal c1 (hr.mono (by decide)) rfl (pa_cons (pv 0) (pa_cons (pe_callB call_len (by rfl) B.len PySem.boot_len (pa_cons (pv 2) pa_nil)) pa_nil))) pa_nil)) pa_nil)))))
      (pss_one (ps_ret (pe_tupleOf rfl B.tuple (pv 3))))), ?_⟩
    refine ⟨_, rfl, _, rfl, ⟨by omega, by omega⟩, fun l hl0 => ?_⟩
    rw [rgV_nat]
    have y1 : ExtS [sp, gr] H (upd H l (.lst (vsN (List.range many)))) := .new hl0
    have S1 : SpAt (upd H l (.lst (vsN (List.range many)))) sp gr := S.ext (.new hl0)
    refine ⟨Nat.zero_le _, fun d hd0 => ⟨_, _, rfl, ?_⟩⟩
    have hld : l ≠ d := ne_of_none upd_same hd0
    have hd : H d = none := y1.free hd0
    have nl : l ∉ [sp, gr] := fun h => by
      obtain ⟨_, xs, e⟩ := S.ls h
      rw [hl0] at e; cases e
    have nd : d ∉ [sp, gr] := fun h => by
      obtain ⟨_, xs, e⟩ := S.ls h
      rw [hd] at e; cases e
    dsimp only [List.set]
    refine ⟨_, rfl, _, rfl, by omega, by omega, for_range (lo := 0) (n := (many : Int).toNat) (fun i σ H2 => ∃ (v : Option V) (ls fs : List Nat), σ = [some (.ref sp), some (.int (many : Int)), some (.ref l), some (.ref d), v] ∧ H2 l = some (.lst (vsN ls)) ∧ H2 d = some (.lst (vsN fs)) ∧ (fs ++ ls).Perm (List.range many) ∧ fs.length = i ∧ SpAt H2 sp gr ∧ ExtS [sp, gr] H H2)
      ⟨_, List.range many, [], rfl, by rw [upd_ne hld]; exact upd_same, upd_same, List.Perm.refl _, rfl, S1.ext (.new hd0), y1.trans (.new hd0)⟩ ?_ ?_⟩
    · rintro i σ H2 hi ⟨v, ls, fs, rfl, h1, h2, hp, hf, S2, x2⟩
      have hlen := hp.length_eq
      rw [List.length_append, List.length_range, hf] at hlen
      rw [Int.toNat_natCast] at hi
      refine ⟨_, rfl, .inl ⟨rfl, _, SqL.of h2⟩, _, rfl, .inl ⟨rfl, _, SqL.of h1⟩, _, rfl, _, rfl, _, ls.length, rfl, .inl ⟨_, SqL.of h1, (vsN_len ls).symm⟩, sp, gr, ls.length, rfl, S2, by omega, by omega, fun n H3 hn x3 S3 => ?_⟩
      have h1' := x3.lst nl h1
      have h2' := x3.lst nd h2
      refine ⟨l, _, _, n, _, rfl, rfl, h1', by omega, by omega, ?_, vsN_at hn, d, _, _, rfl, rfl, by rw [upd_ne hld.symm]; exact h2', ?_, ?_⟩
      · rw [vsN_len]
        have e1 : ¬ ((n : Int) < 0) := by omega
        have e2 : decide (0 ≤ (n : Int)) = true := decide_eq_true (by omega)
        have e3 : decide ((n : Int) < (ls.length : Int)) = true := decide_eq_true (by omega)
        simp only [seqIndex?, if_neg e1, e2, e3, Bool.and_self, if_true, Int.toNat_natCast]
      · rw [vsN_len]
        exact small1000 (by omega)
      · refine ⟨_, ls.eraseIdx n, fs ++ [ls[n]], rfl, ?_, ?_, ?_, by rw [List.length_append, hf]; rfl, ?_, ?_⟩
        · rw [upd_ne hld, upd_same]
          rw [erase_map]
        · rw [upd_same]
          show _ = some (HO.lst (List.map _ (fs ++ [ls[n]])))
          rw [List.map_append]
          rfl
        · rw [List.append_assoc]
          exact ((erase_perm hn).append_left fs).trans hp
        · exact (S3.upd (fun e => nl (by simp [e])) (fun e => nl (by simp [e]))).upd (fun e => nd (by simp [e])) (fun e => nd (by simp [e]))
        · exact ((x2.trans x3).write (.inl hl0)).write (.inl hd)
    · rintro σ H2 ⟨v, ls, fs, rfl, h1, h2, hp, hf, S2, x2⟩
      have hlen := hp.length_eq
      rw [List.length_append, List.length_range, hf] at hlen
      rw [Int.toNat_natCast] at hlen
      have el : ls = [] := List.length_eq_zero_iff.mp (by omega)
      subst el
      rw [List.append_nil] at hp
      exact ⟨_, rfl, .inl ⟨d, _, rfl, SqL.of h2, fun q hq => k q fs _ hp (x2.trans (.new hq)) (S2.ext (.new hq)) (x2.free hq) upd_same⟩⟩
end
section
variable {P : Program} {w : World} {K : PySem.W.Frag} {mg : Str → Option Value} {base : Heap}
/-! ### the neighbours of a place -/
theorem filt_snoc (f : Nat → Bool) (l : List Nat) (i : Nat) : (l ++ [i]).filter f = l.filter f ++ (if f i = true then [i] else []) := by
  rw [List.filter_append]
  congr 1
  by_cases z : f i = true
  · rw [if_pos z, List.filter_cons_of_pos z]; rfl
  · rw [if_neg z, List.filter_cons_of_neg z]; rfl
def nearL (n : Nat) (bs : List (Nat × Nat)) (p : Nat) : List Nat := (List.range n).filter fun k => Mk.adj bs k p
theorem sh_pair (n : Nat) (a b : Int) : Bx.Sh (n + 2) (.tuple [.int a, .int b]) := .tup fun d hd => by
  rcases List.mem_cons.mp hd with e | e
  · rw [e]; exact .int _ _
  · rw [List.mem_singleton.mp e]; exact .int _ _
theorem sh_bord (n : Nat) (bs : List (Nat × Nat)) : Bx.Sh (n + 3) (bordD bs) := .tup fun d hd => by
  obtain ⟨b, _, rfl⟩ := List.mem_map.mp hd
  exact sh_pair _ _ _
theorem any_adj (bs : List (Nat × Nat)) (k p : Nat) :
    ((bs.map fun (b : Nat × Nat) => PyData.tuple [.int (b.1 : Int), .int (b.2 : Int)]).any fun z => PyData.eqv z (.tuple [.int (if (p : Int) < (k : Int) then (p : Int) else (k : Int)), .int (if (p : Int) > (k : Int) then (p : Int) else (k : Int))])) = Mk.adj bs k p := by
  unfold Mk.adj
  have e1 : (if (p : Int) < (k : Int) then (p : Int) else (k : Int)) = ((min k p : Nat) : Int) := by
    split <;> omega
  have e2 : (if (p : Int) > (k : Int) then (p : Int) else (k : Int)) = ((max k p : Nat) : Int) := by
    split <;> omega
  rw [e1, e2, List.any_map]
  induction bs with
  | nil => rfl
  | cons b r ih =>
    rw [List.any_cons, ih, List.contains_cons]
    congr 1
    obtain ⟨x, y⟩ := b
    rw [Bool.eq_iff_iff]
    simp [PyData.eqv, PyData.eqvAll]
    omega
def spNear (K : PySem.W.Frag) : Sp := fun vs H Q _ => ∃ (l : V) (fs : List Int) (bs : List (Nat × Nat)) (p : Nat), vs = [l, .int (p : Int)] ∧ Dp K H l (landD fs bs) ∧ fs.length ≤ 12 ∧ ∀ q H', Ext H H' → H q = none → H' q = some (.lst (vsN (nearL fs.length bs p))) → Q (.ref q) H'
theorem sc_law_near : FnScope ["land", "place", "k"] ["land", "place"] (defScope st__law_near) := ⟨rfl, rfl, rfl, by decide +kernel, rfl, by decide +kernel, by decide +kernel⟩
theorem dp_land {H : Hp} {l : V} {fs : List Int} {bs : List (Nat × Nat)} (h : Dp K H l (landD fs bs)) : ∃ (a af : Addr) (vb : V), l = .ref a ∧ SqT K H a [.ref af, vb] ∧ SqT K H af (fs.map V.int) ∧ Dp K H vb (bordD bs) := by
  obtain ⟨a, xs, rfl, h1, h2⟩ := dp_tup h
  cases h2 with
  | cons hf h3 =>
    cases h3 with
    | cons hb h4 =>
      cases h4
      obtain ⟨af, rfl, h5⟩ := dp_ints hf
      exact ⟨a, af, _, rfl, h1, h5, hb⟩
theorem ok_law_near {f : Addr} {fd : FuncData} (F : Fun K "_law_near" "_law_near" st__law_near f fd) (B : Bl mg) : FnOk P w K mg base CX0 1 f fd ["land", "place"] (spNear K) := by
  refine F.ok sc_law_near (fun vs H Q E h => ?_) (fun cdv A outer s H vs Q E hr h => ?_)
  · obtain ⟨l, fs, bs, p, rfl, _⟩ := h
    rfl
  · obtain ⟨l, fs, bs, p, rfl, hl, hn, k⟩ := h
    refine ⟨_, pss_one (ps_ret (pe_lc (own := [("k", 2)]) (g := gName 2) (by rfl) sc_law_near.nd (pi_range1 rfl B.range (pa_cons (pe_callB call_len (by rfl) B.len PySem.boot_len (pa_cons (pe_ix ix_tup (pv 0) pe_int (fun _ _ => rfl)) pa_nil)) pa_nil))
      (blkOk_by (own := [("k", 2)]) (N := ["land", "place", "k"]) (sc := defScope st__law_near) (by decide +kernel)) (fun _ _ _ _ _ => pg_name (i := 2) sc_law_near.nd rfl (Or.inl rfl))
      (fun _ _ _ _ _ => pts_one (pt_cmpR (op_inDTK (K := K) rfl (u65 hr)) (pe_tup (pa_cons (pe_callB (call_min2 rfl) (by rfl) B.min (by decide +kernel) (pa_cons (pv 2) (pa_cons (pv 1) pa_nil))) (pa_cons (pe_callB (call_max2 rfl) (by rfl) B.max (by decide +kernel) (pa_cons (pv 2) (pa_cons (pv 1) pa_nil))) pa_nil))) (pe_ix (ix_tupK (K := K) rfl) (pv 0) pe_int (fun _ _ => rfl)) (by rfl)))
      (fun _ _ _ _ _ => pv 2))), ?_⟩
    obtain ⟨a, af, vb, rfl, h1, h2, h3⟩ := dp_land hl
    refine ⟨_, rfl, a, _, _, _, rfl, rfl, h1, atI_nat (j := 0) rfl, _, fs.length, rfl, .inr ⟨_, h2, by simp⟩, _, rfl, by omega, by omega, fun D hD => ?_⟩
    have x1 : ∀ o, Ext H (upd H D o) := fun o => .new hD
    refine lc_range (lo := 0) (n := (fs.length : Int).toNat) (fun i H2 => H2 D = some (.lst (vsN ((List.range i).filter fun k => Mk.adj bs k p))) ∧ Ext H H2) ⟨upd_same, x1 _⟩ (fun i H2 hi ⟨e, x2⟩ => ?_) fun H2 ⟨e, x2⟩ => k D H2 x2 hD (by rw [Int.toNat_natCast] at e; exact e)
    rw [Int.toNat_natCast] at hi
    refine ⟨rfl, _, rfl, _, rfl, _, _, rfl, _, rfl, _, rfl, _, _, rfl, by show 2 ≤ sizeLine; decide, fun t ht => ?_⟩
    have x3 : Ext H (upd H2 t (.tup [.int (if (p : Int) < (0 + (i : Int)) then (p : Int) else (0 + (i : Int))), .int (if (p : Int) > (0 + (i : Int)) then (p : Int) else (0 + (i : Int)))])) := x2.trans (.new ht)
    refine ⟨_, rfl, a, _, _, _, rfl, rfl, x3.sqT h1, atI_nat (j := 1) rfl, .tuple [.int (if (p : Int) < (0 + (i : Int)) then (p : Int) else (0 + (i : Int))), .int (if (p : Int) > (0 + (i : Int)) then (p : Int) else (0 + (i : Int)))], _, dp_new ht (.cons (.int _) (.cons (.int _) .nil)), dp_ext x3 h3, (sh_pair 0 _ _).shaped (by decide), (sh_bord 0 bs).shaped (by decide), _, rfl, ?_⟩
    rw [Bool.false_xor, Int.zero_add, any_adj bs i p]
    have ne : D ≠ t := ne_of_none e ht
    have et : (List.range (i + 1)).filter (fun k => Mk.adj bs k p) = (List.range i).filter (fun k => Mk.adj bs k p) ++ (if Mk.adj bs i p = true then [i] else []) := by
      rw [List.range_succ]
      exact filt_snoc (fun k => Mk.adj bs k p) _ i
    by_cases z : Mk.adj bs i p = true
    · rw [z]
      refine iteT ⟨_, rfl, _, by rw [upd_ne ne]; exact e, ?_, ?_, (x2.trans (.new ht)).write hD⟩
      · rw [vsN_len]
        have := List.length_filter_le (fun k => Mk.adj bs k p) (List.range i)
        rw [List.length_range] at this
        exact small1000 (by omega)
      · rw [upd_same, et, if_pos z]
        show _ = some (HO.lst (List.map _ (_ ++ _)))
        rw [List.map_append]
        rfl
    · rw [Bool.not_eq_true] at z
      rw [z]
      refine iteF ⟨by rw [upd_ne ne, et, if_neg (by rw [z]; exact Bool.false_ne_true), List.append_nil]; exact e, x2.trans (.new ht)⟩
end
end Wd

set_option Elab.async false
set_option linter.all false
set_option maxRecDepth 100000
set_option maxHeartbeats 4000000
namespace Wd
open PySem PySem.Spec PyProof.Rows L2 Bx Gx













































section
variable {P : Program} {w : World} {K : PySem.W.Frag} {mg : Str → Option Value} {base : Heap}
/-! ### the places to which a lot hangs from one of them -/
theorem inV_vsN (k : Nat) (l : List Nat) : inV (.int (k : Int)) (vsN l) = decide (k ∈ l) := by
  unfold inV vsN
  rw [List.any_map]
  induction l with
  | nil => rfl
  | cons x r ih =>
    rw [List.any_cons, ih]
    have e : ((fun y => eqV y (.int (k : Int))) ∘ fun (m : Nat) => V.int (m : Int)) x = decide (k = x) := by
      show ((x : Int) == (k : Int)) = _
      rw [Bool.eq_iff_iff]
      simp
      omega
    rw [e, Bool.eq_iff_iff]
    simp
theorem flat_vsN (l : List Nat) : (vsN l).all flatV = true := by
  rw [List.all_eq_true]
  intro x hx
  obtain ⟨y, _, rfl⟩ := List.mem_map.mp hx
  rfl
/-- a lot's own part, ascending: what hangs to a place -/
structure Part (bs : List (Nat × Nat)) (ps : List Nat) (p : Nat) (r : List Nat) : Prop where
  asc : r.Pairwise (· < ·)
  mem : ∀ x, x ∈ r ↔ Mk.Conn bs (· ∈ ps) p x
def spLReached (K : PySem.W.Frag) : Sp := fun vs H Q _ => ∃ (l : V) (v : Addr) (fs : List Int) (bs : List (Nat × Nat)) (ps : List Nat) (p : Nat), vs = [l, .ref v, .int (p : Int)] ∧ Dp K H l (landD fs bs) ∧ fs.length ≤ 12 ∧ Mk.Bs fs.length bs ∧ SqT K H v (vsN ps) ∧ (∀ x ∈ ps, x < fs.length) ∧ p ∈ ps ∧
  ∀ q H' r, Ext H H' → H q = none → H' q = some (.tup (vsN r)) → Part bs ps p r → Q (.ref q) H'
theorem sc_law_reached : FnScope ["land", "lot", "place", "found", "at", "k"] ["land", "lot", "place"] (defScope st__law_reached) := ⟨rfl, rfl, rfl, by decide +kernel, rfl, by decide +kernel, by decide +kernel⟩
theorem ok_law_reached {f : Addr} {fd : FuncData} (F : Fun K "_law_reached" "_law_reached" st__law_reached f fd) (B : Bl mg) (c1 : Cal P w K mg base 1 "_law_near" ["land", "place"] (spNear K)) : FnOk P w K mg base CX0 2 f fd ["land", "lot", "place"] (spLReached K) := by
  refine F.ok sc_law_reached (fun vs H Q E h => ?_) (fun cdv A outer s H vs Q E hr h => ?_)
  · obtain ⟨l, v, fs, bs, ps, p, rfl, _⟩ := h
    rfl
  · obtain ⟨l, v, fs, bs, ps, p, rfl, hl, hn, hb, hv, hlt, hp, k⟩ := h
    refine ⟨_, pss_cons (ps_asg (pe_tup (pa_cons (pe_lst (pa_cons (pv 2) pa_nil)) (pa_cons pe_int pa_nil))) (pg_tup (by rfl) (pgs_cons (pg_name (i := 3) sc_law_reached.nd rfl (Or.inr rfl)) (pgs_cons (pg_name (i := 4) sc_law_reached.nd rfl (Or.inl rfl)) pgs_nil))))
      (pss_cons (ps_while PassesOwn.never (pt_cmpR op_lt (pv 4) (pe_callB call_len (by rfl) B.len PySem.boot_len (pa_cons (pv 3) pa_nil)) (nomark _))
        (pss_cons (ps_set (i := 3) sc_law_reached.nd rfl (Or.inr rfl) (pe_op op_cat (pv 3)
          (pe_lc (own := [("k", 5)]) (g := gName 5) (by rfl) sc_law_reached.nd (pi_list (pe_cal c1 (hr.mono (by decide)) rfl (pa_cons (pv 0) (pa_cons (pe_ix ix_list (pv 3) (pv 4) (fun _ _ => rfl)) pa_nil))))
            (blkOk_by (own := [("k", 5)]) (N := ["land", "lot", "place", "found", "at", "k"]) (sc := defScope st__law_reached) (by decide +kernel)) (fun _ _ _ _ _ => pg_name (i := 5) sc_law_reached.nd rfl (Or.inl rfl))
            (fun _ _ _ _ _ => pts_one (PW.pt (pw_and (pt_cmpR (op_inK (K := K) rfl) (pv 5) (pv 1) (by rfl)) (pw_and1 (pt_cmpR (op_notInK (K := K) rfl) (pv 5) (pv 3) (by rfl))))))
            (fun _ _ _ _ _ => pv 5))))
        (pss_one (ps_set (i := 4) sc_law_reached.nd rfl (Or.inl rfl) (pe_op op_add (pv 4) pe_int)))))
      (pss_one (ps_ret (pe_tupleOf rfl B.tuple (pe_callB cr_sorted (by rfl) B.sorted (by decide +kernel) (pa_cons (pv 3) pa_nil)))))), ?_⟩
    refine ⟨_, rfl, by show 1 ≤ sizeLine; decide, fun d hd => ⟨by show 2 ≤ sizeLine; decide, fun t ht => ⟨t, _, rfl, SqT.of upd_same, rfl, ?_⟩⟩⟩
    dsimp only [gCons, gName, gNil, tSeq, List.set, L2.start, List.map, List.length, List.replicate, List.append]
    refine ⟨_, _, rfl, _, _, rfl, rfl, ?_⟩
    have x0 : Ext H (upd (upd H d (.lst [.int (p : Int)])) t (.tup [.ref d, .int 0])) := (Ext.new hd).trans (.new ht)
    have e0 : (upd (upd H d (.lst [.int (p : Int)])) t (.tup [.ref d, .int 0])) d = some (.lst (vsN [p])) := by
      rw [upd_ne (ne_of_none upd_same ht), upd_same]
      rfl
    refine while_by (fun σ H2 => ∃ (fnd : List Nat) (at_ : Nat) (D : Addr) (o : Option V), σ = [some l, some (.ref v), some (.int (p : Int)), some (.ref D), some (.int (at_ : Int)), o] ∧ Ext H H2 ∧ H D = none ∧ H2 D = some (.lst (vsN fnd)) ∧ Mk.Rw bs ps p fnd at_)
      (fun σ _ => match σ with
        | [_, _, _, _, some (.int a), _] => fs.length - a.toNat
        | _ => 0) ⟨[p], 0, d, none, rfl, x0, hd, e0, .begin hp⟩ ?_ ?_
    · rintro σ H2 ⟨fnd, at_, D, o, rfl, x2, hD, hD2, W⟩
      have hfl : fnd.length ≤ fs.length := Mk.nodup_le _ _ W.nd fun x hx => hlt x (W.sound x hx).snd
      refine ⟨_, rfl, _, rfl, _, fnd.length, rfl, .inl ⟨_, SqL.of hD2, (vsN_len fnd).symm⟩, _, _, rfl, rfl, _, rfl, ?_⟩
      refine ite2 (fun z => ?_) (fun z => ?_)
      · have hat : at_ < fnd.length := by
          have := of_decide_eq_true z
          omega
        refine ⟨_, rfl, _, rfl, _, rfl, _, rfl, D, _, _, _, rfl, rfl, SqL.of hD2, atI_nat (vsN_at hat), l, fs, bs, fnd[at_], rfl, dp_ext x2 hl, hn, fun q H3 x3 hq hq2 => ⟨q, rfl, ⟨_, SqL.of hq2⟩, fun D2 hD2n => ?_⟩⟩
        have hget : fnd[at_]? = some fnd[at_] := List.getElem?_eq_getElem hat
        have W2 := W.turn hget hb
        generalize fnd[at_] = x at W2 hq2
        have x23 := x2.trans x3
        have hD3 := x3.lst hD2
        have ne : D ≠ D2 := ne_of_none hD3 hD2n
        refine lc_list (K := K) (a := q) (xs := vsN (nearL fs.length bs x)) (fun i H4 => H4 D2 = some (.lst (vsN (((nearL fs.length bs x).take i).filter fun k => decide (k ∈ ps) && decide (k ∉ fnd)))) ∧ Ext H3 H4) ⟨upd_same, .new hD2n⟩ (fun i H4 _ ⟨_, x4⟩ => SqL.of (x4.lst hq2)) (fun i y H4 hy ⟨e4, x4⟩ => ?_) (fun H4 ⟨e4, x4⟩ => ?_)
        · rw [List.getElem?_map] at hy
          cases eb : (nearL fs.length bs x)[i]? with
          | none => rw [eb] at hy; cases hy
          | some z =>
            rw [eb] at hy
            cases hy
            have et : (nearL fs.length bs x).take (i + 1) = (nearL fs.length bs x).take i ++ [z] := by
              rw [List.take_add_one, eb]
              rfl
            refine ⟨rfl, _, rfl, _, rfl, v, _, rfl, .inr ((x23.trans x4).sqT hv), rfl, flat_vsN _, _, rfl, ?_⟩
            have hsz : (vsN (((nearL fs.length bs x).take i).filter fun k => decide (k ∈ ps) && decide (k ∉ fnd))).length < sizeLine := by
              rw [vsN_len]
              have h1 := List.length_filter_le (fun k => decide (k ∈ ps) && decide (k ∉ fnd)) ((nearL fs.length bs x).take i)
              have h2 : ((nearL fs.length bs x).take i).length ≤ (nearL fs.length bs x).length := by rw [List.length_take]; omega
              have h3 : (nearL fs.length bs x).length ≤ fs.length := by
                have := List.length_filter_le (fun k => Mk.adj bs k x) (List.range fs.length)
                rw [List.length_range] at this
                exact this
              exact small1000 (by omega)
            rw [et]
            have ef := filt_snoc (fun k => decide (k ∈ ps) && decide (k ∉ fnd)) ((nearL fs.length bs x).take i) z
            rw [ef]
            show if (if false = true then !inV _ _ else inV _ _) = true then _ else _
            rw [if_neg Bool.false_ne_true, inV_vsN]
            by_cases z1 : z ∈ ps
            · rw [decide_eq_true z1]
              refine iteT ⟨_, rfl, _, rfl, D, _, rfl, .inl (SqL.of (x4.lst hD3)), rfl, flat_vsN _, _, rfl, ?_⟩
              show if (if true = true then !inV _ _ else inV _ _) = true then _ else _
              rw [if_pos rfl, inV_vsN]
              by_cases z2 : z ∈ fnd
              · rw [decide_eq_true z2]
                refine iteF ?_
                refine ⟨?_, x4⟩
                simp only [z1, z2, decide_true, not_true, decide_false, Bool.and_false, if_false, List.append_nil, Bool.false_eq_true]
                exact e4
              · rw [decide_eq_false z2]
                refine iteT ⟨_, rfl, _, e4, hsz, ?_, x4.write hD2n⟩
                rw [upd_same]
                simp only [z1, z2, decide_true, not_false_eq_true, Bool.and_true, if_true]
                show _ = some (HO.lst (List.map _ (_ ++ _)))
                rw [List.map_append]
                rfl
            · rw [decide_eq_false z1]
              refine iteF ?_
              refine ⟨?_, x4⟩
              simp only [z1, decide_false, Bool.false_and, if_false, List.append_nil, Bool.false_eq_true]
              exact e4
        · rw [vsN_len, List.take_length] at e4
          have hD4 := x4.lst hD3
          have hnl : (((nearL fs.length bs x).filter fun k => decide (k ∈ ps) && decide (k ∉ fnd))).length ≤ fs.length := by
            have h1 := List.length_filter_le (fun k => decide (k ∈ ps) && decide (k ∉ fnd)) (nearL fs.length bs x)
            have h3 : (nearL fs.length bs x).length ≤ fs.length := by
              have := List.length_filter_le (fun k => Mk.adj bs k x) (List.range fs.length)
              rw [List.length_range] at this
              exact this
            omega
          refine ⟨_, _, _, _, rfl, rfl, hD4, e4, Nat.le_of_lt (small1000 (by rw [vsN_len, vsN_len]; omega)), fun r hr0 => ?_⟩
          refine ⟨_, rfl, _, _, rfl, rfl, ?_⟩
          dsimp only [List.set]
          have x24 := x23.trans x4
          refine ⟨⟨_, at_ + 1, r, o, ?_, x24.trans (.new hr0), x24.free hr0, ?_, W2⟩, ?_⟩
          · rfl
          · rw [upd_same]
            show _ = some (HO.lst (List.map _ (_ ++ _)))
            rw [List.map_append]
            rfl
          · show fs.length - (((at_ : Nat) : Int) + 1).toNat < fs.length - ((at_ : Nat) : Int).toNat
            omega
      · have hat : fnd.length ≤ at_ := by
          have h0 := z
          rw [decide_eq_true_eq] at h0
          omega
        refine ⟨_, rfl, D, fnd.map fun (m : Nat) => (m : Int), rfl, ?_, by rw [List.length_map]; omega, fun ns q hperm hasc hq => ?_⟩
        · rw [List.map_map]
          exact SqL.of hD2
        have hnn : ∀ z ∈ ns, 0 ≤ z := fun z hz => by
          obtain ⟨y, _, rfl⟩ := List.mem_map.mp (hperm.mem_iff.mp hz)
          omega
        have ens : (ns.map Int.toNat).map (fun (m : Nat) => (m : Int)) = ns := by
          rw [List.map_map]
          conv => rhs; rw [← List.map_id ns]
          exact List.map_congr_left fun z hz => Int.toNat_of_nonneg (hnn z hz)
        have hmem : ∀ x, x ∈ ns.map Int.toNat ↔ x ∈ fnd := fun x => by
          rw [List.mem_map]
          constructor
          · rintro ⟨z, hz, rfl⟩
            obtain ⟨y, hy, rfl⟩ := List.mem_map.mp (hperm.mem_iff.mp hz)
            exact hy
          · intro hx
            exact ⟨(x : Int), hperm.mem_iff.mpr (List.mem_map.mpr ⟨x, hx, rfl⟩), rfl⟩
        have hnd : ns.Nodup := hperm.nodup_iff.mpr (by
          refine List.Pairwise.map _ ?_ W.nd
          intro a b hab e
          exact hab (by omega))
        have hpw : (ns.map Int.toNat).Pairwise (· < ·) := by
          rw [List.pairwise_map]
          refine (hasc.and hnd).imp_of_mem fun {a b} ha hb2 hab => ?_
          have h1 := hnn a ha
          have h2 := hnn b hb2
          have h3 := hab.1
          have h4 := hab.2
          omega
        refine .inl ⟨q, _, rfl, SqL.of upd_same, fun r hr0 => ?_⟩
        have er : ns.map V.int = vsN (ns.map Int.toNat) := by
          show _ = (ns.map Int.toNat).map fun (m : Nat) => V.int (m : Int)
          conv => lhs; rw [← ens]
          rw [List.map_map]
          rfl
        exact k r _ (ns.map Int.toNat) (x2.trans ((Ext.new hq).trans (.new hr0))) (x2.free ((Ext.new hq).free hr0)) (by rw [upd_same, er]) ⟨hpw, fun x => (hmem x).trans (W.fin hat x)⟩
    · rintro σ H2 Q1 Q2 hq ⟨a1, a2, a3, a4, a5, a6, a7, a8, a9, a10, a11, a12, a13, a14, a15⟩
      exact ⟨a1, a2, a3, a4, a5, a6, a7, a8, a9, a10, a11, a12, a13, a14, hq _ _ a15⟩
end
section
variable {P : Program} {w : World} {K : PySem.W.Frag} {mg : Str → Option Value} {base : Heap}
/-! ### the greatest lots that hang together -/
def spLPieces (K : PySem.W.Frag) : Sp := fun vs H Q _ => ∃ (l : V) (v : Addr) (fs : List Int) (bs : List (Nat × Nat)) (ps : List Nat), vs = [l, .ref v] ∧ Dp K H l (landD fs bs) ∧ fs.length ≤ 12 ∧ Mk.Bs fs.length bs ∧ SqT K H v (vsN ps) ∧ (∀ x ∈ ps, x < fs.length) ∧ ps.Pairwise (· < ·) ∧
  ∀ q H' (rs : List (List Nat)), Ext H H' → H q = none → Dp K H' (.ref q) (.tuple (rs.map lotD)) → (∀ r ∈ rs, r.Pairwise (· < ·) ∧ ∀ x ∈ r, x ∈ ps) → rs.length ≤ ps.length → Mk.Pcs bs (Mk.mask ps) (rs.map Mk.mask) → Q (.ref q) H'
theorem sc_law_pieces : FnScope ["land", "lot", "found", "left", "place"] ["land", "lot"] (defScope st__law_pieces) := ⟨rfl, rfl, rfl, by decide +kernel, rfl, by decide +kernel, by decide +kernel⟩
theorem dp_lotT {H : Hp} {a : Addr} {r : List Nat} (h : SqT K H a (vsN r)) : Dp K H (.ref a) (lotD r) := .tup h (dpAll_lot r)
theorem ok_law_pieces {f : Addr} {fd : FuncData} (F : Fun K "_law_pieces" "_law_pieces" st__law_pieces f fd) (B : Bl mg) (c1 : Cal P w K mg base 2 "_law_reached" ["land", "lot", "place"] (spLReached K)) : FnOk P w K mg base CX0 3 f fd ["land", "lot"] (spLPieces K) := by
  refine F.ok sc_law_pieces (fun vs H Q E h => ?_) (fun cdv A outer s H vs Q E hr h => ?_)
  · obtain ⟨l, v, fs, bs, ps, rfl, _⟩ := h
    rfl
  · obtain ⟨l, v, fs, bs, ps, rfl, hl, hn, hb, hv, hlt, hasc, k⟩ := h
    have hpl : ps.length ≤ fs.length := by
      have e := Mk.bits_mask hasc hlt
      rw [← e]
      exact Mk.bits_len _ _
    refine ⟨_, pss_cons (ps_asg (pe_tup (pa_cons (pe_lst pa_nil) (pa_cons (pe_callTy call_list_of rfl B.list (by decide +kernel) (pa_cons (pv 1) pa_nil)) pa_nil))) (pg_tup (by rfl) (pgs_cons (pg_name (i := 2) sc_law_pieces.nd rfl (Or.inr rfl)) (pgs_cons (pg_name (i := 3) sc_law_pieces.nd rfl (Or.inl rfl)) pgs_nil))))
      (pss_cons (ps_while PassesOwn.never (pt_cmpR (op_neD hr.units) (pv 3) (pe_lst pa_nil) (nomark _))
        (pss_cons (ps_expr (pe_bm PySem.F.plainAttrs_list PySem.F.slot_list_append PySem.F.type_list_append mt_append (pv 2) (pa_cons (pe_cal c1 (hr.mono (by decide)) rfl (pa_cons (pv 0) (pa_cons (pv 1) (pa_cons (pe_ix ix_list (pv 3) pe_int (fun _ _ => rfl)) pa_nil)))) pa_nil)))
        (pss_one (ps_setLc (i := 3) (own := [("place", 4)]) (g := gName 4) (by rfl) sc_law_pieces.nd rfl rfl (sw_true rfl rfl rfl (by decide +kernel)) (pi_list (pv 3))
          (blkOk_by (own := [("place", 4)]) (N := ["land", "lot", "found", "left", "place"]) (sc := defScope st__law_pieces) (by decide +kernel)) (fun _ _ _ _ _ => pg_name (i := 4) sc_law_pieces.nd rfl (Or.inl rfl))
          (fun _ _ _ _ _ => pts_one (pt_cmpR (op_notInK (K := K) rfl) (pv 4) (pe_ix (ix_lstK (K := K) rfl) (pv 2) (pe_un un_neg pe_int) (fun _ _ => rfl)) (by rfl)))
          (fun _ _ _ _ _ => pv 4)))))
      (pss_one (ps_ret (pe_tupleOf rfl B.tuple (pv 2))))), ?_⟩
    refine ⟨Nat.zero_le _, fun d hd => ⟨_, rfl, v, _, rfl, .inr ((Ext.new hd).sqT hv), fun l0 hl0 => ⟨by show 2 ≤ sizeLine; decide, fun t ht => ⟨t, _, rfl, SqT.of upd_same, rfl, ?_⟩⟩⟩⟩
    dsimp only [gCons, gName, gNil, tSeq, List.set, L2.start, List.map, List.length, List.replicate, List.append]
    refine ⟨_, _, rfl, _, _, rfl, rfl, ?_⟩
    have ndl : d ≠ l0 := ne_of_none upd_same hl0
    have x0 : Ext H (upd (upd (upd H d (.lst [])) l0 (.lst (vsN ps))) t (.tup [.ref d, .ref l0])) := ((Ext.new hd).trans (.new hl0)).trans (.new ht)
    have e0 : (upd (upd (upd H d (.lst [])) l0 (.lst (vsN ps))) t (.tup [.ref d, .ref l0])) d = some (.lst []) := by
      have e : (upd (upd H d (.lst [])) l0 (.lst (vsN ps))) d = some (.lst []) := by rw [upd_ne ndl, upd_same]
      rw [upd_ne (ne_of_none e ht)]
      exact e
    have e1 : (upd (upd (upd H d (.lst [])) l0 (.lst (vsN ps))) t (.tup [.ref d, .ref l0])) l0 = some (.lst (vsN ps)) := by
      rw [upd_ne (ne_of_none upd_same ht), upd_same]
    refine while_by (fun σ H2 => ∃ (L : Addr) (left : List Nat) (rs : List (List Nat)) (as : List V) (o : Option V), σ = [some l, some (.ref v), some (.ref d), some (.ref L), o] ∧ Ext H H2 ∧ H L = none ∧ d ≠ L ∧ H2 d = some (.lst as) ∧ DpAll K H2 as (rs.map lotD) ∧ H2 L = some (.lst (vsN left)) ∧ Mk.Pw bs ps left rs)
      (fun σ H2 => match σ with
        | [_, _, _, some (.ref L), _] => (match H2 L with
          | some (.lst ys) => ys.length
          | _ => 0)
        | _ => 0) ⟨l0, ps, [], [], none, rfl, x0, (Ext.new hd).free hl0, ndl, e0, .nil, e1, .begin hasc⟩ ?_ ?_
    · rintro σ H2 ⟨L, left, rs, as, o, rfl, x2, hL, hdL, hD2, hA, hL2, W⟩
      refine ⟨_, rfl, Nat.zero_le _, fun z hz0 => ?_⟩
      have hLz : L ≠ z := ne_of_none hL2 hz0
      have x3 : Ext H2 (upd H2 z (.lst [])) := .new hz0
      refine ⟨.list ((left.map fun (m : Nat) => (m : Int)).map .int), .list [], .lst (SqL.of (by rw [upd_ne hLz, hL2]; show some (HO.lst (left.map _)) = some (HO.lst ((left.map _).map V.int)); rw [List.map_map]; rfl)) (dpAll_of_ints _), .lst (SqL.of upd_same) .nil, (Sh.ints (n := 0) _).shaped (by decide), (Sh.lst (n := 0) (fun d hd => by cases hd)).shaped (by decide), _, rfl, ?_⟩
      rw [eqv_nil]
      have x23 := x2.trans x3
      have hD3 := x3.lst hD2
      have hL3 := x3.lst hL2
      have hA3 := dpAll_ext x3 hA
      generalize upd H2 z (.lst []) = H3 at x23 hD3 hL3 hA3 ⊢
      cases left with
      | nil =>
        refine iteF ?_
        refine ⟨_, rfl, .inl ⟨d, _, rfl, SqL.of hD3, fun q hq => ?_⟩⟩
        have := W.len
        refine k q _ rs (x23.trans (.new hq)) (x23.free hq) (dp_new hq hA3) W.good ?_ W.fin
        rw [List.length_nil] at this
        exact this
      | cons x0 tl =>
        refine iteT ?_
        have h0 : x0 ∈ ps := W.sub x0 List.mem_cons_self
        have hlen := W.len
        rw [List.length_cons] at hlen
        refine ⟨_, rfl, .inl ⟨rfl, _, SqL.of hD3⟩, _, rfl, _, rfl, _, rfl, L, _, _, _, rfl, rfl, SqL.of hL3, atI_nat (j := 0) rfl, l, v, fs, bs, ps, x0, rfl, dp_ext x23 hl, hn, hb, x23.sqT hv, hlt, h0, fun q H4 r x4 hq hq4 hP => ?_⟩
        have hD4 := x4.lst hD3
        have hL4 := x4.lst hL3
        have hA4 := dpAll_ext x4 hA3
        have halen : as.length = rs.length := by
          have := dpAll_len hA
          rw [List.length_map] at this
          exact this
        have hsz : as.length < sizeLine := small1000 (by omega)
        refine ⟨d, _, _, rfl, rfl, hD4, hsz, ?_⟩
        obtain ⟨W2, hlt2⟩ := W.turn hP.asc hP.mem
        have x24 := x23.trans x4
        have x25 : Ext H (upd H4 d (.lst (as ++ [.ref q]))) := x24.write hd
        have hLne : L ≠ d := hdL.symm
        have x45 : ∀ a o, a ≠ d → H4 a = some o → (upd H4 d (.lst (as ++ [.ref q]))) a = some o := fun a o n e => by rw [upd_ne n]; exact e
        have hqd : q ≠ d := fun e => by rw [e, hD3] at hq; cases hq
        have hq5 := x45 q _ hqd hq4
        have hL5 := x45 L _ hLne hL4
        have hD5 : (upd H4 d (.lst (as ++ [.ref q]))) d = some (.lst (as ++ [.ref q])) := upd_same
        have hA5 : DpAll K (upd H4 d (.lst (as ++ [.ref q]))) (as ++ [.ref q]) ((rs ++ [r]).map lotD) := by
          rw [List.map_append]
          refine dpAll_app ?_ (.cons (dp_lotT (SqT.of hq5)) .nil)
          have x5 : ExtS [d] H4 (upd H4 d (.lst (as ++ [.ref q]))) := (ExtS.refl [d] H4).write (.inr ⟨by simp, _, hD4⟩)
          exact dpAll_extS x5 (noLs_map lotD (fun r => by show noLs _ = true; exact noLs_map _ (fun _ => rfl) r) rs) hA4
        generalize upd H4 d (.lst (as ++ [.ref q])) = H5 at x25 hq5 hL5 hD5 hA5 ⊢
        refine ⟨_, rfl, L, rfl, ⟨_, SqL.of hL5⟩, fun D2 hD2n => ?_⟩
        have nd2 : d ≠ D2 := ne_of_none hD5 hD2n
        refine lc_list (K := K) (a := L) (xs := vsN (x0 :: tl)) (fun i H6 => H6 D2 = some (.lst (vsN (((x0 :: tl).take i).filter fun x => decide (x ∉ r)))) ∧ Ext H5 H6) ⟨upd_same, .new hD2n⟩ (fun i H6 _ ⟨_, x6⟩ => SqL.of (x6.lst hL5)) (fun i y H6 hy ⟨e6, x6⟩ => ?_) (fun H6 ⟨e6, x6⟩ => ?_)
        · rw [List.getElem?_map] at hy
          cases eb : (x0 :: tl)[i]? with
          | none => rw [eb] at hy; cases hy
          | some u =>
            rw [eb] at hy
            cases hy
            have et : (x0 :: tl).take (i + 1) = (x0 :: tl).take i ++ [u] := by
              rw [List.take_add_one, eb]
              rfl
            have hlen6 : (vsN (((x0 :: tl).take i).filter fun x => decide (x ∉ r))).length < sizeLine := by
              rw [vsN_len]
              have h1 := List.length_filter_le (fun x => decide (x ∉ r)) ((x0 :: tl).take i)
              have h2 : ((x0 :: tl).take i).length ≤ (x0 :: tl).length := by rw [List.length_take]; omega
              rw [List.length_cons] at h2
              exact small1000 (by omega)
            refine ⟨rfl, _, rfl, _, rfl, _, rfl, d, _, _, _, rfl, rfl, SqL.of (x6.lst hD5), ?_, q, _, rfl, .inr (SqT.of (x6.tup hq5)), rfl, flat_vsN _, _, rfl, ?_⟩
            · exact atI_last _ _
            · show if (if true = true then !inV _ _ else inV _ _) = true then _ else _
              rw [if_pos rfl, inV_vsN, et, filt_snoc (fun x => decide (x ∉ r))]
              by_cases z2 : u ∈ r
              · rw [decide_eq_true z2]
                refine iteF ⟨?_, x6⟩
                simp only [z2, not_true, decide_false, if_false, List.append_nil, Bool.false_eq_true]
                exact e6
              · rw [decide_eq_false z2]
                refine iteT ⟨_, rfl, _, e6, hlen6, ?_, x6.write hD2n⟩
                rw [upd_same]
                simp only [z2, decide_true, not_false_eq_true, if_true]
                show _ = some (HO.lst (List.map _ (_ ++ _)))
                rw [List.map_append]
                rfl
        · rw [vsN_len, List.take_length] at e6
          have hD6 := x6.lst hD5
          have hLn : H D2 = none := x25.free hD2n
          refine ⟨⟨D2, _, rs ++ [r], as ++ [.ref q], o, rfl, x25.trans x6, hLn, nd2, hD6, dpAll_ext x6 hA5, e6, W2⟩, ?_⟩
          show (match H6 D2 with
            | some (.lst ys) => ys.length
            | _ => 0) < (match H2 L with
            | some (.lst ys) => ys.length
            | _ => 0)
          rw [e6, hL2]
          show (vsN _).length < (vsN _).length
          rw [vsN_len, vsN_len]
          exact hlt2
    · rintro σ H2 Q1 Q2 hq ⟨v, e, hl, g⟩
      refine ⟨v, e, hl, fun l hl0 => ?_⟩
      obtain ⟨d, d2, a1, a2, a3, a4, kk, a5, q⟩ := g l hl0
      exact ⟨d, d2, a1, a2, a3, a4, kk, a5, hq _ _ q⟩
end
section
variable {P : Program} {w : World} {K : PySem.W.Frag} {mg : Str → Option Value} {base : Heap}
/-! ### a drawn lot -/
theorem noL_bord (bs : List (Nat × Nat)) : noL (bordD bs) = true := by
  show noLs _ = true
  exact noLs_map _ (fun _ => rfl) bs
theorem noL_land (fs : List Int) (bs : List (Nat × Nat)) : noL (landD fs bs) = true := by
  show (noL (.tuple (fs.map .int)) && (noL (bordD bs) && true)) = true
  rw [noL_bord]
  show (noLs _ && true) = true
  rw [noLs_map _ (fun _ => rfl) fs]
  rfl
theorem asc_snoc {l : List Nat} {i : Nat} (h : l.Pairwise (· < ·)) (h2 : ∀ x ∈ l, x < i) : (l ++ [i]).Pairwise (· < ·) := by
  rw [List.pairwise_append]
  refine ⟨h, by simp, fun a ha b hb => ?_⟩
  rw [List.mem_singleton.mp hb]
  exact h2 a ha
theorem asc_len {l : List Nat} {n : Nat} (h : l.Pairwise (· < ·)) (h2 : ∀ x ∈ l, x < n) : l.length ≤ n := by
  have e := Mk.bits_mask h h2
  rw [← e]
  exact Mk.bits_len _ _
theorem SpAt.notin {H : Hp} {sp gr p : Addr} (h : SpAt H sp gr) (hp : H p = none) : p ∉ [sp, gr] := fun e => by
  obtain ⟨_, xs, e2⟩ := h.ls e
  rw [hp] at e2
  cases e2
def spSome (K : PySem.W.Frag) : Sp := fun vs H Q _ => ∃ (sp gr : Addr) (l : V) (fs : List Int) (bs : List (Nat × Nat)), vs = [.ref sp, l] ∧ SpAt H sp gr ∧ Dp K H l (landD fs bs) ∧ 0 < fs.length ∧ fs.length ≤ 12 ∧
  ∀ (q : Addr) (ps : List Nat) H', ExtS [sp, gr] H H' → SpAt H' sp gr → H q = none → H' q = some (.tup (vsN ps)) → ps ≠ [] → ps.Pairwise (· < ·) → (∀ x ∈ ps, x < fs.length) → Q (.ref q) H'
theorem sc_law_some : FnScope ["spring", "land", "found", "k"] ["spring", "land"] (defScope st__law_some) := ⟨rfl, rfl, rfl, by decide +kernel, rfl, by decide +kernel, by decide +kernel⟩
theorem ok_law_some {f : Addr} {fd : FuncData} (F : Fun K "_law_some" "_law_some" st__law_some f fd) (B : Bl mg) (c1 : Cal P w K mg base 1 "_law_drop" ["spring", "many"] (spDrop K)) : FnOk P w K mg base CX0 2 f fd ["spring", "land"] (spSome K) := by
  refine F.ok sc_law_some (fun vs H Q E h => ?_) (fun cdv A outer s H vs Q E hr h => ?_)
  · obtain ⟨sp, gr, l, fs, bs, rfl, _⟩ := h
    rfl
  · obtain ⟨sp, gr, l, fs, bs, rfl, S, hl, hn0, hn, k⟩ := h
    refine ⟨_, pss_cons (ps_set (i := 2) sc_law_some.nd rfl (Or.inl rfl) (pe_tupleOf rfl B.tuple
        (pe_lc (own := [("k", 3)]) (g := gName 3) (by rfl) sc_law_some.nd (pi_range1 rfl B.range (pa_cons (pe_callB call_len (by rfl) B.len PySem.boot_len (pa_cons (pe_ix ix_tup (pv 1) pe_int (fun _ _ => rfl)) pa_nil)) pa_nil))
          (blkOk_by (own := [("k", 3)]) (N := ["spring", "land", "found", "k"]) (sc := defScope st__law_some) (by decide +kernel)) (fun _ _ _ _ _ => pg_name (i := 3) sc_law_some.nd rfl (Or.inl rfl))
          (fun _ _ _ _ _ => pts_one (pt_cmpR op_gt (pe_cal c1 (hr.mono (by decide)) rfl (pa_cons (pv 0) (pa_cons pe_int pa_nil))) pe_int (nomark _)))
          (fun _ _ _ _ _ => pv 3))))
      (pss_one (ps_ret (pe_ifExp (pt_cmpR (op_neD hr.units) (pv 2) (pe_tup pa_nil) (nomark _)) (pv 2)
        (pe_tup (pa_cons (pe_cal c1 (hr.mono (by decide)) rfl (pa_cons (pv 0) (pa_cons (pe_callB call_len (by rfl) B.len PySem.boot_len (pa_cons (pe_ix ix_tup (pv 1) pe_int (fun _ _ => rfl)) pa_nil)) pa_nil))) pa_nil))))), ?_⟩
    obtain ⟨a, af, vb, rfl, h1, h2, h3⟩ := dp_land hl
    refine ⟨_, rfl, a, _, _, _, rfl, rfl, h1, atI_nat (j := 0) rfl, _, fs.length, rfl, .inr ⟨_, h2, by simp⟩, _, rfl, by omega, by omega, fun D hD => ?_⟩
    have hDs := S.notin hD
    have S1 : ∀ o, SpAt (upd H D o) sp gr := fun o => S.ext (.new hD)
    refine lc_range (lo := 0) (n := (fs.length : Int).toNat) (fun i H2 => ∃ ps : List Nat, H2 D = some (.lst (vsN ps)) ∧ ps.Pairwise (· < ·) ∧ (∀ x ∈ ps, x < i) ∧ SpAt H2 sp gr ∧ ExtS [sp, gr] H H2) ⟨[], upd_same, .nil, (fun x hx => by cases hx), S1 _, .new hD⟩ (fun i H2 hi ⟨ps, e, ha, hlt, S2, x2⟩ => ?_) fun H2 ⟨ps, e, ha, hlt, S2, x2⟩ => ?_
    · rw [Int.toNat_natCast] at hi
      refine ⟨rfl, _, rfl, sp, gr, 3, rfl, S2, by decide, by decide, fun n H3 hn3 x3 S3 => ?_⟩
      have e3 := x3.lst hDs e
      refine ⟨_, _, rfl, rfl, _, rfl, ?_⟩
      refine ite2 (fun _ => ?_) (fun _ => ?_)
      · have := asc_len ha hlt
        refine ⟨_, rfl, _, e3, by rw [vsN_len]; exact small1000 (by omega), ps ++ [i], ?_, asc_snoc ha hlt, fun x hx => ?_, S3.upd (fun z => hDs (by simp [z])) (fun z => hDs (by simp [z])), (x2.trans x3).write (.inl hD)⟩
        · rw [upd_same]
          show _ = some (HO.lst (List.map _ (_ ++ _)))
          rw [List.map_append, Int.zero_add]
          rfl
        · rcases List.mem_append.mp hx with z | z
          · have := hlt x z; omega
          · rw [List.mem_singleton.mp z]; omega
      · exact ⟨ps, e3, ha, fun x hx => by have := hlt x hx; omega, S3, x2.trans x3⟩
    · rw [Int.toNat_natCast] at hlt
      refine .inl ⟨D, _, rfl, SqL.of e, fun q hq => ?_⟩
      have x3 : ExtS [sp, gr] H (upd H2 q (.tup (vsN ps))) := x2.trans (.new hq)
      have S3 : SpAt (upd H2 q (.tup (vsN ps))) sp gr := S2.ext (.new hq)
      have e3 : (upd H2 q (.tup (vsN ps))) q = some (.tup (vsN ps)) := upd_same
      have hqf := x2.free hq
      generalize upd H2 q (.tup (vsN ps)) = H3 at x3 S3 e3 ⊢
      refine ⟨_, rfl, Nat.zero_le _, fun t ht => ?_⟩
      have hqt : q ≠ t := ne_of_none e3 ht
      refine ⟨lotD ps, .tuple [], dp_lotT (SqT.of (by rw [upd_ne hqt]; exact e3)), .tup (SqT.of upd_same) .nil, ?_, (Sh.tup (n := 0) (fun d hd => by cases hd)).shaped (by decide), _, rfl, ?_⟩
      · have := (Sh.intsT (n := 0) (ps.map fun (p : Nat) => (p : Int))).shaped (by decide)
        rw [List.map_map] at this
        exact this
      have x4 := x3.trans (ExtS.new (S := [sp, gr]) (o := .tup []) ht)
      have S4 : SpAt (upd H3 t (.tup [])) sp gr := S3.ext (.new ht)
      have e4 : (upd H3 t (.tup [])) q = some (.tup (vsN ps)) := by rw [upd_ne hqt]; exact e3
      show if (!PyData.eqv (.tuple _) (.tuple [])) = true then _ else _
      rw [eqv_nilT]
      generalize upd H3 t (.tup []) = H4 at x4 S4 e4 ⊢
      cases ps with
      | cons p r => exact iteT ⟨_, rfl, k q (p :: r) H4 x4 S4 hqf e4 (fun z => nomatch z) ha hlt⟩
      | nil =>
        refine iteF ?_
        refine ⟨_, rfl, _, rfl, a, _, _, _, rfl, rfl, x4.sqT h1, atI_nat (j := 0) rfl, _, fs.length, rfl, .inr ⟨_, x4.sqT h2, by simp⟩, sp, gr, fs.length, rfl, S4, hn0, by omega, fun n H5 hn5 x5 S5 => ⟨by show 1 ≤ sizeLine; decide, fun r hr0 => ?_⟩⟩
        have x6 := x4.trans x5
        exact k r [n] _ (x6.trans (.new hr0)) (S5.ext (.new hr0)) (x6.free hr0) upd_same (fun z => nomatch z) (by simp) fun x hx => by rw [List.mem_singleton.mp hx]; exact hn5
end
end Wd

set_option Elab.async false
set_option linter.all false
set_option maxRecDepth 100000
set_option maxHeartbeats 4000000
namespace Wd
open PySem PySem.Spec PyProof.Rows L2 Bx Gx













































section
variable {P : Program} {w : World} {K : PySem.W.Frag} {mg : Str → Option Value} {base : Heap}
/-! ### alike -/
def tyName : PyData → String
  | .none => "NoneType"
  | .bool _ => "bool"
  | .int _ => "int"
  | .str _ => "str"
  | .list _ => "list"
  | .tuple _ => "tuple"
  | _ => "dict"
theorem tyX_dp {H : Hp} {v : V} {d : PyData} (h : Dp K H v d) : TyX K H v (.type (tyName d)) ∧ tyName d ∈ ["NoneType", "bool", "int", "str", "list", "tuple"] := by
  cases h with
  | non => exact ⟨.base .non, by simp [tyName]⟩
  | bl b => exact ⟨.base (.bl b), by simp [tyName]⟩
  | int i => exact ⟨.base (.int i), by simp [tyName]⟩
  | str x => exact ⟨.base (.str x), by simp [tyName]⟩
  | lst h _ =>
    refine ⟨?_, by simp [tyName]⟩
    rcases h with (h | ⟨o, h⟩) | ⟨o, _, _, h1, h2, _⟩
    · exact .base (.lst h)
    · exact .base (.frz h)
    · exact .kList h1 h2
  | tup h _ =>
    refine ⟨?_, by simp [tyName]⟩
    rcases h with (h | ⟨o, h⟩) | ⟨o, _, _, h1, h2, _⟩
    · exact .base (.tup h)
    · exact .fTuple h
    · exact .kTuple h1 h2
def kindsOf (T : String) : List Bool := [decide (T = "bool"), decide (T = "int" ∨ T = "bool"), decide (T = "str"), decide (T = "tuple"), decide (T = "list"), decide (T = "NoneType")]
theorem kit_in (T U : String) (hT : T ∈ ["NoneType", "bool", "int", "str", "list", "tuple"]) (hU : U ∈ ["bool", "int", "str", "list", "tuple"]) : PySem.W.kitOne K (.type T) (.type U) = some (decide (T = U ∨ (T = "bool" ∧ U = "int"))) := by
  simp only [List.mem_cons, List.mem_nil_iff, or_false] at hT hU
  rcases hT with rfl | rfl | rfl | rfl | rfl | rfl <;> rcases hU with rfl | rfl | rfl | rfl | rfl <;> exact kit_ty (by decide +kernel)
def spKinds (K : PySem.W.Frag) : Sp := fun vs H Q _ => ∃ (v : V) (d : PyData), vs = [v] ∧ Dp K H v d ∧ ∀ q H', Ext H H' → H q = none → H' q = some (.lst ((kindsOf (tyName d)).map V.bl)) → Q (.ref q) H'
theorem sc_law_kinds : FnScope ["thing", "found"] ["thing"] (defScope st__law_kinds) := ⟨rfl, rfl, rfl, by decide +kernel, rfl, by decide +kernel, by decide +kernel⟩
theorem ok_law_kinds {f : Addr} {fd : FuncData} (F : Fun K "_law_kinds" "_law_kinds" st__law_kinds f fd) (B : Bl mg) : FnOk P w K mg base CX0 1 f fd ["thing"] (spKinds K) := by
  refine F.ok sc_law_kinds (fun vs H Q E h => ?_) (fun cdv A outer s H vs Q E hr h => ?_)
  · obtain ⟨v, d, rfl, _⟩ := h
    rfl
  · obtain ⟨v, d, rfl, hd, k⟩ := h
    refine ⟨_, pss_cons (ps_set (i := 1) sc_law_kinds.nd rfl (Or.inl rfl) (pe_lst
        (pa_cons (pe_callB call_isi (by rfl) B.isinstance (by decide +kernel) (pa_cons (pv 0) (pa_cons (pe_bltn rfl B.bool (by decide +kernel) (v := .ty "bool") rfl) pa_nil)))
        (pa_cons (pe_callB call_isi (by rfl) B.isinstance (by decide +kernel) (pa_cons (pv 0) (pa_cons (pe_bltn rfl B.int (by decide +kernel) (v := .ty "int") rfl) pa_nil)))
        (pa_cons (pe_callB call_isi (by rfl) B.isinstance (by decide +kernel) (pa_cons (pv 0) (pa_cons (pe_bltn rfl B.str (by decide +kernel) (v := .ty "str") rfl) pa_nil))) pa_nil)))))
      (pss_one (ps_ret (pe_op op_cat (pv 1) (pe_lst
        (pa_cons (pe_callB call_isi (by rfl) B.isinstance (by decide +kernel) (pa_cons (pv 0) (pa_cons (pe_bltn rfl B.tuple (by decide +kernel) (v := .ty "tuple") rfl) pa_nil)))
        (pa_cons (pe_callB call_isi (by rfl) B.isinstance (by decide +kernel) (pa_cons (pv 0) (pa_cons (pe_bltn rfl B.list (by decide +kernel) (v := .ty "list") rfl) pa_nil)))
        (pa_cons (pe_cmpR op_isN (pv 0) pe_non (nomark _)) pa_nil))))))), ?_⟩
    obtain ⟨hT, hin⟩ := tyX_dp hd
    have hN : decide (v = V.non) = decide (tyName d = "NoneType") := by
      cases hd <;> simp [tyName]
    have kk := fun U hU => kit_in (K := K) (tyName d) U hin hU
    refine ⟨_, rfl, v, _, _, _, _, rfl, .ty "bool", hT, kk "bool" (by simp), _, rfl, v, _, _, _, _, rfl, .ty "int", hT, kk "int" (by simp), _, rfl, v, _, _, _, _, rfl, .ty "str", hT, kk "str" (by simp), by show 3 ≤ sizeLine; decide, fun l hl => ?_⟩
    have x1 : Ext H (upd H l (.lst [V.bl (decide (tyName d = "bool" ∨ tyName d = "bool" ∧ "bool" = "int")), V.bl (decide (tyName d = "int" ∨ tyName d = "bool" ∧ "int" = "int")), V.bl (decide (tyName d = "str" ∨ tyName d = "bool" ∧ "str" = "int"))])) := .new hl
    have e1 : (upd H l (.lst [V.bl (decide (tyName d = "bool" ∨ tyName d = "bool" ∧ "bool" = "int")), V.bl (decide (tyName d = "int" ∨ tyName d = "bool" ∧ "int" = "int")), V.bl (decide (tyName d = "str" ∨ tyName d = "bool" ∧ "str" = "int"))])) l = some (.lst [V.bl (decide (tyName d = "bool" ∨ tyName d = "bool" ∧ "bool" = "int")), V.bl (decide (tyName d = "int" ∨ tyName d = "bool" ∧ "int" = "int")), V.bl (decide (tyName d = "str" ∨ tyName d = "bool" ∧ "str" = "int"))]) := upd_same
    have hT2 := (tyX_dp (dp_ext x1 hd)).1
    refine ⟨_, rfl, _, rfl, v, _, _, _, _, rfl, .ty "tuple", hT2, kk "tuple" (by simp), _, rfl, v, _, _, _, _, rfl, .ty "list", hT2, kk "list" (by simp), _, rfl, rfl, by show 3 ≤ sizeLine; decide, fun m hm => ?_⟩
    have hlm : l ≠ m := ne_of_none e1 hm
    refine ⟨l, m, _, _, rfl, rfl, by rw [upd_ne hlm]; exact e1, upd_same, by show 3 + 3 ≤ sizeLine; decide, fun q hq => ?_⟩
    refine k q _ (x1.trans ((Ext.new hm).trans (.new hq))) (x1.free ((Ext.new hm).free hq)) ?_
    rw [upd_same]
    show some (HO.lst [V.bl _, V.bl _, V.bl _, V.bl _, V.bl _, V.bl _]) = some (HO.lst [V.bl _, V.bl _, V.bl _, V.bl _, V.bl _, V.bl _])
    rw [hN]
    simp
end
section
variable {P : Program} {w : World} {K : PySem.W.Frag} {mg : Str → Option Value} {base : Heap}
theorem seq_eq {d : PyData} {ds ds' : List PyData} (h : d = .list ds ∨ d = .tuple ds) (h' : d = .list ds' ∨ d = .tuple ds') : ds' = ds := by
  rcases h with rfl | rfl <;> rcases h' with e | e <;> cases e <;> rfl
theorem canLay_get : ∀ {ds : List PyData}, PyData.canLayAll0 ds = true → ∀ d ∈ ds, d.canLay0 = true
  | [], _, d, hd => by cases hd
  | e :: ds, h, d, hd => by
    simp only [PyData.canLayAll0, Bool.and_eq_true] at h
    rcases List.mem_cons.mp hd with z | z
    · rw [z]; exact h.1
    · exact canLay_get h.2 d z
theorem depth_get : ∀ {ds : List PyData} {n : Nat}, PyData.depthAll ds ≤ n → ∀ d ∈ ds, d.depth ≤ n
  | [], _, _, d, hd => by cases hd
  | e :: ds, n, h, d, hd => by
    simp only [PyData.depthAll] at h
    rcases List.mem_cons.mp hd with z | z
    · rw [z]; omega
    · exact depth_get (by omega) d z
theorem rix_of {H : Hp} {a : Addr} {xs : List V} {i : Nat} {v : V} {Q : VK} (h : SqL K H a xs ∨ SqT K H a xs) (e : xs[i]? = some v) (q : Q v H) : rIx K (.ref a) (.int (i : Int)) H Q := by
  rcases h with h | h
  · exact .inl ⟨a, xs, i, v, rfl, rfl, h, atI_nat e, q⟩
  · exact .inr (.inl ⟨a, xs, i, v, rfl, rfl, h, atI_nat e, q⟩)
theorem ix_seqK {X : Cx} {K : PySem.W.Frag} (h : X.K = K) : IxR X (rIx K) := h ▸ ix_seq
mutual
/-- data whose lists and tuples are short -/
def smD : PyData → Bool
  | .list ds => decide (ds.length ≤ 500) && smDs ds
  | .tuple ds => decide (ds.length ≤ 500) && smDs ds
  | _ => true
def smDs : List PyData → Bool
  | [] => true
  | d :: ds => smD d && smDs ds
end
theorem smD_seq {d : PyData} {ds : List PyData} (h : d = .list ds ∨ d = .tuple ds) (hs : smD d = true) : ds.length ≤ 500 ∧ smDs ds = true := by
  rcases h with rfl | rfl <;> simpa [smD] using hs
theorem smDs_get : ∀ {ds : List PyData}, smDs ds = true → ∀ d ∈ ds, smD d = true
  | [], _, d, hd => by cases hd
  | e :: ds, h, d, hd => by
    simp only [smDs, Bool.and_eq_true] at h
    rcases List.mem_cons.mp hd with z | z
    · rw [z]; exact h.1
    · exact smDs_get h.2 d z
def spAlike (K : PySem.W.Frag) (r : Nat) : Sp := fun vs H Q _ => ∃ (v u : V) (d : PyData), vs = [v, u] ∧ Dp K H v d ∧ Dp K H u d ∧ d.canLay0 = true ∧ smD d = true ∧ d.depth < r ∧ ∀ H', Ext H H' → Q (.bl true) H'
theorem sc_law_alike : FnScope ["found", "due", "k"] ["found", "due"] (defScope st__law_alike) := ⟨rfl, rfl, rfl, by decide +kernel, rfl, by decide +kernel, by decide +kernel⟩
theorem dp_seq {H : Hp} {v : V} {d : PyData} (h : Dp K H v d) (ht : tyName d = "tuple" ∨ tyName d = "list") : ∃ a xs ds, v = .ref a ∧ (SqL K H a xs ∨ SqT K H a xs) ∧ DpAll K H xs ds ∧ d.depth = PyData.depthAll ds + 1 ∧ (d.canLay0 = true → PyData.canLayAll0 ds = true) ∧ (d = .list ds ∨ d = .tuple ds) := by
  cases h with
  | lst h hs => exact ⟨_, _, _, rfl, .inl h, hs, by simp [PyData.depth], by simp [PyData.canLay0], .inl rfl⟩
  | tup h hs => exact ⟨_, _, _, rfl, .inr h, hs, by simp [PyData.depth], by simp [PyData.canLay0], .inr rfl⟩
  | non => simp [tyName] at ht
  | bl => simp [tyName] at ht
  | int => simp [tyName] at ht
  | str => simp [tyName] at ht
theorem kit_two (T : String) (hT : T ∈ ["NoneType", "bool", "int", "str", "list", "tuple"]) : PySem.W.kitAny K (.type T) [.type "tuple", .type "list"] = some (decide (T = "tuple" ∨ T = "list")) := by
  unfold PySem.W.kitAny
  rw [kit_in T "tuple" hT (by simp)]
  unfold PySem.W.kitAny
  rw [kit_in T "list" hT (by simp)]
  by_cases h1 : T = "tuple"
  · subst h1; rfl
  · by_cases h2 : T = "list"
    · subst h2; rfl
    · simp only [h1, h2, false_or, or_self, decide_false, show ¬ ("tuple" = "int") by decide, show ¬ ("list" = "int") by decide, and_false]
      rfl
theorem ok_law_alike {f : Addr} {fd : FuncData} (F : Fun K "_law_alike" "_law_alike" st__law_alike f fd) (B : Bl mg) (hm : mg "_law_alike" = some (.ref f)) (hb : Binds K fd ["found", "due"] []) (c1 : Cal P w K mg base 1 "_law_kinds" ["thing"] (spKinds K)) :
    ∀ r : Nat, FnOk P w K mg base CX0 (2 + r) f fd ["found", "due"] (spAlike K r)
  | 0 => by
    refine F.ok (k := 1) sc_law_alike (fun vs H Q E h => ?_) (fun cdv A outer s H vs Q E hr h => ?_)
    · obtain ⟨v, u, d, rfl, _⟩ := h
      rfl
    · obtain ⟨v, u, d, rfl, _, _, _, _, h0, _⟩ := h
      omega
  | r + 1 => by
    have c2 : Cal P w K mg base (2 + r) "_law_alike" ["found", "due"] (spAlike K r) := ⟨f, fd, ok_law_alike F B hm hb c1 r, hm, F.kp, hb⟩
    refine F.ok (k := 2 + r) sc_law_alike (fun vs H Q E h => ?_) (fun cdv A outer s H vs Q E hr h => ?_)
    · obtain ⟨v, u, d, rfl, _⟩ := h
      rfl
    · obtain ⟨v, u, d, rfl, hv, hu, hlay, hsm, hdep, k⟩ := h
      refine ⟨_, pss_cons (ps_if (pt_cmpR (op_neD hr.units) (pe_cal c1 (hr.mono (by omega)) rfl (pa_cons (pv 0) pa_nil)) (pe_cal c1 (hr.mono (by omega)) rfl (pa_cons (pv 1) pa_nil)) (nomark _)) pss_never pss_nil)
        (pss_cons (ps_if (pt_val (pe_callB call_isiT (by rfl) B.isinstance (by decide +kernel) (pa_cons (pv 1) (pa_cons (pe_tup (pa_cons (pe_bltn rfl B.tuple (by decide +kernel) (v := .ty "tuple") rfl) (pa_cons (pe_bltn rfl B.list (by decide +kernel) (v := .ty "list") rfl) pa_nil))) pa_nil))))
          (pss_one (ps_ret (pe_and (pe_cmpR op_eq (pe_callB call_len (by rfl) B.len PySem.boot_len (pa_cons (pv 0) pa_nil)) (pe_callB call_len (by rfl) B.len PySem.boot_len (pa_cons (pv 1) pa_nil)) (nomark _))
            (pe_one (pe_callB (cr_all rfl) (by rfl) B.all (by decide +kernel) (pa_cons
              (pe_lc (own := [("k", 2)]) (g := gName 2) (by rfl) sc_law_alike.nd (pi_range1 rfl B.range (pa_cons (pe_callB call_len (by rfl) B.len PySem.boot_len (pa_cons (pv 1) pa_nil)) pa_nil))
                (blkOk_by (own := [("k", 2)]) (N := ["found", "due", "k"]) (sc := defScope st__law_alike) (by decide +kernel)) (fun _ _ _ _ _ => pg_name (i := 2) sc_law_alike.nd rfl (Or.inl rfl))
                (fun _ _ _ _ _ => pts_nil)
                (fun _ _ _ _ _ => pe_cal c2 hr rfl (pa_cons (pe_ix (ix_seqK (K := K) rfl) (pv 0) (pv 2) (fun _ _ => rfl)) (pa_cons (pe_ix (ix_seqK (K := K) rfl) (pv 1) (pv 2) (fun _ _ => rfl)) pa_nil)))) pa_nil)))))) pss_nil)
        (pss_one (ps_ret (pe_cmpR (op_eqD hr.units) (pv 0) (pv 1) (nomark _))))), ?_⟩
      refine ⟨_, rfl, v, d, rfl, hv, fun q1 H1 x1 hq1 e1 => ?_⟩
      refine ⟨_, rfl, u, d, rfl, dp_ext x1 hu, fun q2 H2 x2 hq2 e2 => ?_⟩
      have shk : Sh 2 (.list ((kindsOf (tyName d)).map .bool)) := .lst fun b hb => by
        obtain ⟨z, _, rfl⟩ := List.mem_map.mp hb
        exact ⟨by simp [PyData.canLay0], by simp [PyData.depth]⟩
      have dpk : ∀ H, DpAll K H ((kindsOf (tyName d)).map V.bl) ((kindsOf (tyName d)).map .bool) := fun H => by
        generalize kindsOf (tyName d) = l
        induction l with
        | nil => exact .nil
        | cons b l ih => exact .cons (.bl b) ih
      refine ⟨.list ((kindsOf (tyName d)).map .bool), .list ((kindsOf (tyName d)).map .bool), .lst (SqL.of (x2.lst e1)) (dpk _), .lst (SqL.of e2) (dpk _), shk.shaped (by decide), shk.shaped (by decide), _, rfl, ?_⟩
      rw [SeqAt.eqv_refl _ shk.lay]
      refine iteF ?_
      have x12 := x1.trans x2
      have hv2 := dp_ext x12 hv
      have hu2 := dp_ext x12 hu
      obtain ⟨hT, hin⟩ := tyX_dp hu2
      refine ⟨_, rfl, by show 2 ≤ sizeLine; decide, fun t ht => ?_⟩
      have x3 : Ext H (upd H2 t (.tup [.ty "tuple", .ty "list"])) := x12.trans (.new ht)
      refine ⟨u, t, _, _, _, _, rfl, upd_same, .cons (.ty "tuple") (.cons (.ty "list") .nil), (tyX_dp (dp_ext x3 hu)).1, kit_two _ hin, _, rfl, ?_⟩
      have hv3 := dp_ext x3 hv
      have hu3 := dp_ext x3 hu
      generalize upd H2 t (.tup [.ty "tuple", .ty "list"]) = H3 at x3 hv3 hu3 ⊢
      by_cases hs : tyName d = "tuple" ∨ tyName d = "list"
      · rw [decide_eq_true hs]
        refine iteT ?_
        obtain ⟨av, xs, ds, rfl, sv, av2, hdd, hcl, hor⟩ := dp_seq hv3 hs
        obtain ⟨au, ys, ds', rfl, su, au2, _, _, hor'⟩ := dp_seq hu3 hs
        have eds : ds' = ds := seq_eq hor hor'
        subst eds
        have l1 := dpAll_len av2
        have l2 := dpAll_len au2
        have lenv : ∀ {H : Hp} {a : Addr} {xs : List V}, (SqL K H a xs ∨ SqT K H a xs) → LenV K (.ref a) H xs.length := fun h => by
          rcases h with h | h
          · exact .inl ⟨_, h, rfl⟩
          · exact .inr ⟨_, h, rfl⟩
        refine ⟨_, rfl, _, xs.length, rfl, lenv sv, _, rfl, _, ys.length, rfl, lenv su, rfl, _, rfl, ?_⟩
        obtain ⟨hl5, hsm2⟩ := smD_seq hor' hsm
        have elen : decide (V.int (xs.length : Int) = V.int (ys.length : Int)) = true := decide_eq_true (by rw [l1, l2])
        rw [elen]
        refine iteT ⟨_, rfl, _, ys.length, rfl, lenv su, _, rfl, by omega, by omega, fun D hD => ?_⟩
        have nlst : ∀ {H H' : Hp} {a : Addr} {xs : List V}, Ext H H' → (SqL K H a xs ∨ SqT K H a xs) → (SqL K H' a xs ∨ SqT K H' a xs) := fun x h => h.elim (fun z => .inl (x.sqL z)) fun z => .inr (x.sqT z)
        refine lc_range (lo := 0) (n := (ys.length : Int).toNat) (fun i H4 => H4 D = some (.lst ((List.replicate i true).map V.bl)) ∧ Ext H3 H4) ⟨upd_same, .new hD⟩ (fun i H4 hi ⟨e4, x4⟩ => ?_) fun H4 ⟨e4, x4⟩ => ?_
        · rw [Int.toNat_natCast] at hi
          have hx := List.getElem?_eq_getElem (show i < xs.length by omega)
          have hy := List.getElem?_eq_getElem hi
          obtain ⟨d1, hd1, hp1⟩ := dpAll_get' av2 hx
          obtain ⟨d2, hd2, hp2⟩ := dpAll_get' au2 hy
          have ed : d2 = d1 := by
            rw [hd1] at hd2
            exact (Option.some.inj hd2).symm
          subst ed
          have hmem := List.mem_of_getElem? hd1
          have hcn : d2.canLay0 = true := canLay_get (hcl hlay) d2 hmem
          have hdn : d2.depth < r := by
            have := depth_get (Nat.le_refl _) d2 hmem
            omega
          have e0 : (0 : Int) + (i : Int) = (i : Int) := Int.zero_add _
          refine ⟨rfl, ?_⟩
          rw [e0]
          dsimp only [tYes]
          rw [if_pos rfl]
          refine ⟨_, rfl, _, rfl, rix_of (nlst x4 sv) hx ⟨_, rfl, _, rfl, rix_of (nlst x4 su) hy ⟨_, _, d2, rfl, dp_ext x4 hp1, dp_ext x4 hp2, hcn, smDs_get hsm2 d2 hmem, hdn, fun H5 x5 => ?_⟩⟩⟩
          refine ⟨_, x5.lst e4, ?_, ?_, (x4.trans x5).write hD⟩
          · rw [List.length_map, List.length_replicate]
            exact small1000 (by omega)
          · rw [upd_same, List.replicate_succ', List.map_append]
            rfl
        · rw [Int.toNat_natCast] at e4
          refine ⟨D, List.replicate ys.length true, rfl, SqL.of e4, ?_⟩
          have et : ((List.replicate ys.length true).all id) = true := by
            rw [List.all_eq_true]
            intro b hb
            rw [List.eq_of_mem_replicate hb]
            rfl
          rw [et]
          exact k H4 (x3.trans x4)
      · rw [decide_eq_false hs]
        have shd : SeqAt.shaped d = true := by
          have hd0 : d.depth = 0 := by
            have := hs
            cases hv3 <;> simp [tyName, PyData.depth] at this ⊢
          unfold SeqAt.shaped
          rw [hlay, hd0]
          rfl
        refine iteF ⟨_, rfl, _, rfl, d, d, hv3, hu3, ?_, ?_, ?_⟩
        · exact shd
        · exact shd
        · rw [SeqAt.eqv_refl _ hlay]
          exact k H3 x3
end
end Wd

set_option Elab.async false
set_option linter.all false
set_option maxRecDepth 100000
set_option maxHeartbeats 4000000
namespace Wd
open PySem PySem.Spec PyProof.Rows L2 Bx Gx













































section
variable {P : Program} {w : World} {K : PySem.W.Frag} {mg : Str → Option Value} {base : Heap}
/-! ### a drawn land -/
theorem lc_keysT {d : Addr} {o : Obj} {kvs : List (List L2.Key × V)} {g : TG} {tt : TT} {te : TE} {vs : List Nat} {σ : L2.St} {H1 : Hp} {D : Addr} {Qd : Hp → Prop} (Pv : Nat → Hp → Prop)
    (h0 : Pv 0 (upd H1 D (.lst []))) (hl : ∀ i H, i ≤ kvs.length → Pv i H → H d = some (.frz o (.dT kvs)))
    (hs : ∀ i k v q H, kvs[i]? = some (k, v) → H q = some (.tup (k.map kV)) → Pv i H → g (.ref q) (wipe σ vs) H fun σ2 H2 => wipe σ2 vs = wipe σ vs ∧ tt σ2 H2 fun b H3 => if b = true then te σ2 H3 fun y H4 => ∃ acc, H4 D = some (.lst acc) ∧ acc.length < sizeLine ∧ Pv (i + 1) (upd H4 D (.lst (acc ++ [y]))) else Pv (i + 1) H3)
    (hd : ∀ H, Pv kvs.length H → Qd H) :
    ∃ W : Nat → Nat → Hp → Prop, (∃ m, W 0 m (upd H1 D (.lst []))) ∧ ∀ i m H, W i m H → ((Itkt d o kvs).stop i H ∧ Qd H) ∨ ((Itkt d o kvs).go i H ∧ ∃ Nx : Hp → Prop, (∀ H', Nx H' → ∃ m', m' < m ∧ W (i + 1) m' H') ∧
      ∀ x H', (Itkt d o kvs).yld i H x H' → g x (wipe σ vs) H' fun σ2 H2 => wipe σ2 vs = wipe σ vs ∧ tt σ2 H2 fun b H3 => if b = true then te σ2 H3 fun y H4 => ∃ acc, H4 D = some (.lst acc) ∧ acc.length < sizeLine ∧ Nx (upd H4 D (.lst (acc ++ [y]))) else Nx H3) := by
  refine ⟨fun i m H => Pv i H ∧ i ≤ kvs.length ∧ m = kvs.length - i, ⟨_, h0, Nat.zero_le _, rfl⟩, fun i m H ⟨hp, hi, hm⟩ => ?_⟩
  by_cases e : i = kvs.length
  · subst e
    exact .inl ⟨⟨hl _ H (Nat.le_refl _) hp, Nat.le_refl _⟩, hd H hp⟩
  · refine .inr ⟨⟨hl i H hi hp, by omega⟩, fun H' => Pv (i + 1) H', fun H' h => ⟨kvs.length - (i + 1), by omega, h, by omega, rfl⟩, ?_⟩
    rintro x H' ⟨rfl, k, v, q, hk, rfl, hq⟩
    exact hs i k v q H' hk hq hp
abbrev keyP (a b : Nat) : List L2.Key := [.inl (a : Int), .inl (b : Int)]
structure Bd (n : Nat) (kvs : List (List L2.Key × V)) : Prop where
  nd : (kvs.map (·.1)).Nodup
  ok : ∀ kv, kv ∈ kvs → ∃ a b : Nat, kv.1 = keyP a b ∧ a < b ∧ b < n
theorem Bd.nil (n : Nat) : Bd n [] := ⟨by simp, fun _ h => nomatch h⟩
theorem Bd.put {n : Nat} {kvs : List (List L2.Key × V)} (h : Bd n kvs) {a b : Nat} (hab : a < b) (hb : b < n) (v : V) : Bd n (putK kvs (keyP a b) v) := by
  unfold putK
  by_cases e : (kvs.any fun kv => decide (kv.1 = keyP a b)) = true
  · rw [if_pos e]
    have ek : (kvs.map fun kv => if kv.1 = keyP a b then (kv.1, v) else kv).map (·.1) = kvs.map (·.1) := by
      rw [List.map_map]
      refine List.map_congr_left fun kv _ => ?_
      show (if kv.1 = keyP a b then (kv.1, v) else kv).1 = kv.1
      split <;> rfl
    refine ⟨by rw [ek]; exact h.nd, fun kv hkv => ?_⟩
    obtain ⟨kv0, h0, rfl⟩ := List.mem_map.mp hkv
    obtain ⟨x, y, e1, e2, e3⟩ := h.ok kv0 h0
    refine ⟨x, y, ?_, e2, e3⟩
    split
    · exact e1
    · exact e1
  · rw [if_neg e]
    refine ⟨?_, fun kv hkv => ?_⟩
    · rw [List.map_append]
      refine List.nodup_append.mpr ⟨h.nd, by simp, fun x hx y hy exy => ?_⟩
      rw [List.map_cons, List.map_nil, List.mem_singleton] at hy
      obtain ⟨kv, hkv, rfl⟩ := List.mem_map.mp hx
      refine e (List.any_eq_true.mpr ⟨kv, hkv, decide_eq_true ?_⟩)
      rw [exy, hy]
    · rcases List.mem_append.mp hkv with z | z
      · exact h.ok kv z
      · rw [List.mem_singleton.mp z]
        exact ⟨a, b, rfl, hab, hb⟩
theorem Bd.len {n : Nat} {kvs : List (List L2.Key × V)} (h : Bd n kvs) (hn : n ≤ 12) : kvs.length ≤ 169 := by
  have key := Mk.nodup_le 169 (kvs.map fun kv => match kv.1 with
    | [.inl a, .inl b] => a.toNat * 13 + b.toNat
    | _ => 0) ?_ ?_
  · rw [List.length_map] at key
    exact key
  · have hnd := h.nd
    rw [List.nodup_iff_pairwise_ne, List.pairwise_map] at hnd ⊢
    refine hnd.imp_of_mem fun {x y} hx hy hne => ?_
    obtain ⟨a, b, e1, h1, h2⟩ := h.ok x hx
    obtain ⟨c, d, e2, h3, h4⟩ := h.ok y hy
    rw [e1, e2]
    rw [e1, e2] at hne
    show a * 13 + b ≠ c * 13 + d
    intro z
    apply hne
    have : a = c ∧ b = d := by omega
    rw [this.1, this.2]
  · intro x hx
    obtain ⟨kv, hkv, rfl⟩ := List.mem_map.mp hx
    obtain ⟨a, b, e1, h1, h2⟩ := h.ok kv hkv
    rw [e1]
    show a * 13 + b < 169
    omega
structure LdSt (H : Hp) (sp gr fo b : Addr) (n : Nat) (fs : List Int) (H2 : Hp) : Prop where
  d : ∃ kvs, H2 b = some (.dT kvs) ∧ Bd n kvs
  f : H2 fo = some (.tup (fs.map V.int))
  s : SpAt H2 sp gr
  x : ExtS [sp, gr] H H2
theorem LdSt.drop {H H2 H3 : Hp} {sp gr fo b : Addr} {n : Nat} {fs : List Int} (h : LdSt H sp gr fo b n fs H2) (x : ExtS [sp, gr] H2 H3) (s : SpAt H3 sp gr) : LdSt H sp gr fo b n fs H3 :=
  ⟨let ⟨kvs, e, hb⟩ := h.d; ⟨kvs, x.dT e, hb⟩, x.tup h.f, s, h.x.trans x⟩
theorem LdSt.new {H H2 : Hp} {sp gr fo b t : Addr} {o : HO} {n : Nat} {fs : List Int} (h : LdSt H sp gr fo b n fs H2) (ht : H2 t = none) : LdSt H sp gr fo b n fs (upd H2 t o) :=
  h.drop (.new ht) (h.s.ext (.new ht))
theorem LdSt.put {H H2 : Hp} {sp gr fo b t : Addr} {n : Nat} {fs : List Int} (h : LdSt H sp gr fo b n fs H2) (hb0 : H b = none) (hs : b ∉ [sp, gr]) (hn : n ≤ 12) {a c : Nat} (hac : a < c) (hc : c < n) (ht : H2 t = some (.tup [.int (a : Int), .int (c : Int)])) :
    ∃ H3, DPut H2 b (.ref t) (.bl true) H3 ∧ LdSt H sp gr fo b n fs H3 := by
  obtain ⟨kvs, e, hb⟩ := h.d
  refine ⟨upd H2 b (.dT (putK kvs (keyP a c) (.bl true))), .inr ⟨kvs, keyP a c, t, e, rfl, ht, small1000 (by have := hb.len hn; omega), rfl⟩, ⟨_, upd_same, hb.put hac hc _⟩, ?_, h.s.upd (fun z => hs (by simp [z])) (fun z => hs (by simp [z])), h.x.write (.inl hb0)⟩
  have hne : fo ≠ b := fun z => by
    have h1 := h.f
    rw [z, e] at h1
    cases h1
  rw [upd_ne hne]
  exact h.f
end
section
variable {P : Program} {w : World} {K : PySem.W.Frag} {mg : Str → Option Value} {base : Heap}
theorem two_sorted {ns : List Int} {x y : Int} (h : ns.Perm [x, y]) (hs : ns.Pairwise (· ≤ ·)) : ns = [min x y, max x y] := by
  have hl := h.length_eq
  match ns, hl with
  | [u, v], _ =>
    have huv : u ≤ v := by
      rw [List.pairwise_cons] at hs
      exact hs.1 v (by simp)
    have hu : u ∈ [x, y] := h.mem_iff.mp (by simp)
    have hc : (u = x ∧ v = y) ∨ (u = y ∧ v = x) := by
      rcases List.mem_cons.mp hu with e | e
      · subst e
        exact .inl ⟨rfl, by simpa using h.cons_inv⟩
      · have e := List.mem_singleton.mp e
        subst e
        have h2 : [u, v].Perm [u, x] := h.trans (List.Perm.swap u x [])
        exact .inr ⟨rfl, by simpa using h2.cons_inv⟩
    rcases hc with ⟨e1, e2⟩ | ⟨e1, e2⟩
    · rw [← e1, ← e2]
      congr 1
      · omega
      · congr 1; omega
    · rw [← e1, ← e2]
      congr 1
      · omega
      · congr 1; omega
/-- refs to pairs -/
inductive Pa (H : Hp) : List V → List (Nat × Nat) → Prop
  | nil : Pa H [] []
  | cons {t : Addr} {p : Nat × Nat} {vs : List V} {ps : List (Nat × Nat)} : H t = some (.tup [.int (p.1 : Int), .int (p.2 : Int)]) → Pa H vs ps → Pa H (.ref t :: vs) (p :: ps)
theorem Pa.mono {H H' : Hp} (k : ∀ t xs, H t = some (.tup xs) → H' t = some (.tup xs)) {vs : List V} {ps : List (Nat × Nat)} (h : Pa H vs ps) : Pa H' vs ps := by
  induction h with
  | nil => exact .nil
  | cons e _ ih => exact .cons (k _ _ e) ih
theorem Pa.snoc {H : Hp} {vs : List V} {ps : List (Nat × Nat)} (h : Pa H vs ps) {t : Addr} {p : Nat × Nat} (e : H t = some (.tup [.int (p.1 : Int), .int (p.2 : Int)])) : Pa H (vs ++ [.ref t]) (ps ++ [p]) := by
  induction h with
  | nil => exact .cons e .nil
  | cons e2 _ ih => exact .cons e2 ih
theorem Pa.len {H : Hp} {vs : List V} {ps : List (Nat × Nat)} (h : Pa H vs ps) : vs.length = ps.length := by
  induction h with
  | nil => rfl
  | cons _ _ ih => simp [ih]
theorem Pa.dp {H : Hp} {vs : List V} {ps : List (Nat × Nat)} (h : Pa H vs ps) : DpAll K H vs (ps.map fun (b : Nat × Nat) => .tuple [.int (b.1 : Int), .int (b.2 : Int)]) := by
  induction h with
  | nil => exact .nil
  | cons e _ ih => exact .cons (.tup (SqT.of e) (.cons (.int _) (.cons (.int _) .nil))) ih
theorem Pa.perm {H : Hp} {vs us : List V} (hp : vs.Perm us) : ∀ {ps : List (Nat × Nat)}, Pa H vs ps → ∃ bs, Pa H us bs ∧ ps.Perm bs := by
  induction hp with
  | nil => intro ps h; exact ⟨ps, h, .refl _⟩
  | cons x _ ih =>
    intro ps h
    cases h with
    | cons e h2 =>
      obtain ⟨bs, h3, h4⟩ := ih h2
      exact ⟨_, .cons e h3, h4.cons _⟩
  | swap x y l =>
    intro ps h
    cases h with
    | cons e h2 =>
      cases h2 with
      | cons e' h3 => exact ⟨_, .cons e' (.cons e h3), .swap _ _ _⟩
  | trans _ _ ih1 ih2 =>
    intro ps h
    obtain ⟨bs, h1, h2⟩ := ih1 h
    obtain ⟨cs, h3, h4⟩ := ih2 h1
    exact ⟨cs, h3, h2.trans h4⟩
theorem Pa.mem {H : Hp} {vs : List V} {ps : List (Nat × Nat)} (h : Pa H vs ps) {v : V} (hv : v ∈ vs) : ∃ t p, v = .ref t ∧ p ∈ ps ∧ H t = some (.tup [.int (p.1 : Int), .int (p.2 : Int)]) := by
  induction h with
  | nil => cases hv
  | cons e _ ih =>
    rcases List.mem_cons.mp hv with z | z
    · exact ⟨_, _, z, by simp, e⟩
    · obtain ⟨t, p, h1, h2, h3⟩ := ih z
      exact ⟨t, p, h1, List.mem_cons_of_mem _ h2, h3⟩
def kOf (H : Hp) : V → Int × Int
  | .ref t => match H t with
    | some (.tup [.int i, .int j]) => (i, j)
    | _ => (0, 0)
  | _ => (0, 0)
theorem Pa.asc {H : Hp} {vs : List V} {ps : List (Nat × Nat)} (h : Pa H vs ps) (hs : SrtO.Srtd (L2.ltP (kOf H)) vs) (hn : ps.Nodup) : ps.Pairwise ltP := by
  induction h with
  | nil => exact .nil
  | @cons t p vs ps e h2 ih =>
    rw [SrtO.Srtd, List.pairwise_cons] at hs
    rw [List.nodup_cons] at hn
    rw [List.pairwise_cons]
    refine ⟨fun q hq => ?_, ih hs.2 hn.2⟩
    obtain ⟨v, hv, t2, e1, e2⟩ : ∃ v ∈ vs, ∃ t2, v = .ref t2 ∧ H t2 = some (.tup [.int (q.1 : Int), .int (q.2 : Int)]) := by
      clear ih hs hn
      induction h2 with
      | nil => cases hq
      | cons e' _ ih2 =>
        rcases List.mem_cons.mp hq with z | z
        · rw [z]; exact ⟨_, List.mem_cons_self, _, rfl, e'⟩
        · obtain ⟨v, hv, r⟩ := ih2 z
          exact ⟨v, List.mem_cons_of_mem _ hv, r⟩
    have h3 := hs.1 v hv
    rw [e1] at h3
    have k1 : kOf H (.ref t) = ((p.1 : Int), (p.2 : Int)) := by
      show (match H t with
        | some (.tup [.int i, .int j]) => (i, j)
        | _ => (0, 0)) = _
      rw [e]
    have k2 : kOf H (.ref t2) = ((q.1 : Int), (q.2 : Int)) := by
      show (match H t2 with
        | some (.tup [.int i, .int j]) => (i, j)
        | _ => (0, 0)) = _
      rw [e2]
    have h4 : SrtO.lexB (kOf H (.ref t2)) (kOf H (.ref t)) = false := h3
    rw [k1, k2] at h4
    have hne : q ≠ p := fun z => hn.1 (z ▸ hq)
    have hne2 : ¬ (q.1 = p.1 ∧ q.2 = p.2) := fun z => hne (Prod.ext z.1 z.2)
    show p.1 < q.1 ∨ (p.1 = q.1 ∧ p.2 < q.2)
    unfold SrtO.lexB at h4
    by_cases z : q.1 = p.1
    · rw [if_pos (show (q.1 : Int) = (p.1 : Int) by omega), decide_eq_false_iff_not] at h4
      omega
    · rw [if_neg (show ¬ (q.1 : Int) = (p.1 : Int) by omega), decide_eq_false_iff_not] at h4
      omega
/-- a key led along an order -/
def prK (os : List Nat) : List L2.Key → Nat × Nat
  | [.inl a, .inl c] => (min (os.getD a.toNat 0) (os.getD c.toNat 0), max (os.getD a.toNat 0) (os.getD c.toNat 0))
  | _ => (0, 0)
theorem prK_keyP (os : List Nat) (a c : Nat) : prK os (keyP a c) = (min (os.getD a 0) (os.getD c 0), max (os.getD a 0) (os.getD c 0)) := rfl
theorem os_get {os : List Nat} {n : Nat} (h : os.Perm (List.range n)) : (∀ a, a < n → os.getD a 0 < n) ∧ ∀ a c, a < n → c < n → os.getD a 0 = os.getD c 0 → a = c := by
  have hl : os.length = n := by rw [h.length_eq, List.length_range]
  have hnd : os.Nodup := h.nodup_iff.mpr List.nodup_range
  have hg : ∀ a (ha : a < n), os.getD a 0 = os[a]'(by omega) := fun a ha => by
    rw [List.getD_eq_getElem?_getD, List.getElem?_eq_getElem (by omega)]
    rfl
  refine ⟨fun a ha => ?_, fun a c ha hc e => ?_⟩
  · rw [hg a ha]
    exact List.mem_range.mp (h.mem_iff.mp (List.getElem_mem _))
  · rw [hg a ha, hg c hc] at e
    exact (List.getElem_inj hnd).mp e
theorem prK_ok {os : List Nat} {n : Nat} (h : os.Perm (List.range n)) {kvs : List (List L2.Key × V)} (hb : Bd n kvs) : (kvs.map fun kv => prK os kv.1).Nodup ∧ ∀ p ∈ kvs.map (fun kv => prK os kv.1), p.1 < p.2 ∧ p.2 < n := by
  obtain ⟨h1, h2⟩ := os_get h
  refine ⟨?_, fun p hp => ?_⟩
  · have hnd := hb.nd
    rw [List.nodup_iff_pairwise_ne, List.pairwise_map] at hnd ⊢
    refine hnd.imp_of_mem fun {x y} hx hy hne => ?_
    obtain ⟨a, b, e1, h3, h4⟩ := hb.ok x hx
    obtain ⟨c, d, e2, h5, h6⟩ := hb.ok y hy
    rw [e1, e2] at hne ⊢
    rw [prK_keyP, prK_keyP]
    intro z
    apply hne
    injection z with z1 z2
    have i1 := h2 a c (by omega) (by omega)
    have i2 := h2 a d (by omega) (by omega)
    have i3 := h2 b c (by omega) (by omega)
    have i4 := h2 b d (by omega) (by omega)
    have : a = c ∧ b = d := by omega
    rw [this.1, this.2]
  · obtain ⟨kv, hkv, rfl⟩ := List.mem_map.mp hp
    obtain ⟨a, b, e1, h3, h4⟩ := hb.ok kv hkv
    rw [e1, prK_keyP]
    have i1 := h1 a (by omega)
    have i2 := h1 b (by omega)
    have i3 := h2 a b (by omega) (by omega)
    show min _ _ < max _ _ ∧ max _ _ < n
    omega
def spLand (K : PySem.W.Frag) : Sp := fun vs H Q _ => ∃ (sp gr : Addr) (places : Nat), vs = [.ref sp, .int (places : Int)] ∧ SpAt H sp gr ∧ 2 ≤ places ∧ places ≤ 12 ∧
  ∀ q (fs : List Int) (bs : List (Nat × Nat)) H', ExtS [sp, gr] H H' → SpAt H' sp gr → H q = none → Dp K H' (.ref q) (landD fs bs) → LandOk fs bs → fs.length ≤ places → Q (.ref q) H'
abbrev ldN : List Str := ["spring", "places", "many", "shape", "bound", "k", "folk", "borders", "rarely", "j", "i", "order"]
theorem sc_law_land : FnScope ldN ["spring", "places"] (defScope st__law_land) := ⟨rfl, rfl, rfl, by decide +kernel, rfl, by decide +kernel, by decide +kernel⟩
theorem ok_law_land {f : Addr} {fd : FuncData} (F : Fun K "_law_land" "_law_land" st__law_land f fd) (B : Bl mg) (c1 : Cal P w K mg base 1 "_law_drop" ["spring", "many"] (spDrop K)) (c2 : Cal P w K mg base 2 "_law_order" ["spring", "many"] (spOrder K)) : FnOk P w K mg base CX0 3 f fd ["spring", "places"] (spLand K) := by
  refine F.ok sc_law_land (fun vs H Q E h => ?_) (fun cdv A outer s H vs Q E hr h => ?_)
  · obtain ⟨sp, gr, pl, rfl, _⟩ := h
    rfl
  · obtain ⟨sp, gr, pl, rfl, S, hp2, hp12, k⟩ := h
    have hr1 := hr.mono (j := 1) (by decide)
    refine ⟨_, pss_cons (ps_par (i := 2) (j := 3) (by rfl) sc_law_land.nd rfl rfl (by decide) rfl rfl (pa_cons (pe_op op_add pe_int (pe_cal c1 hr1 rfl (pa_cons (pv 0) (pa_cons (pe_op op_sub (pv 1) pe_int) pa_nil)))) (pa_cons (pe_cal c1 hr1 rfl (pa_cons (pv 0) (pa_cons pe_int pa_nil))) pa_nil)) (by rfl))
      (pss_cons (ps_set (i := 4) sc_law_land.nd rfl (Or.inr rfl) (pe_ix ix_list (pe_lst (pa_cons pe_int (pa_cons pe_int (pa_cons pe_int (pa_cons pe_int pa_nil))))) (pe_cal c1 hr1 rfl (pa_cons (pv 0) (pa_cons pe_int pa_nil))) (fun _ _ => rfl)))
      (pss_cons (ps_par3 (i := 6) (j := 7) (l := 8) (by rfl) sc_law_land.nd rfl rfl rfl (by decide) (by decide) (by decide) rfl rfl rfl (pa_cons (pe_tupleOf rfl B.tuple
            (pe_lc (own := [("k", 5)]) (g := gName 5) (by rfl) sc_law_land.nd (pi_range1 rfl B.range (pa_cons (pv 2) pa_nil))
              (blkOk_by (own := [("k", 5)]) (N := ldN) (sc := defScope st__law_land) (by decide +kernel)) (fun _ _ _ _ _ => pg_name (i := 5) sc_law_land.nd rfl (Or.inl rfl))
              (fun _ _ _ _ _ => pts_nil) (fun _ _ _ _ _ => pe_cal c1 hr1 rfl (pa_cons (pv 0) (pa_cons (pv 4) pa_nil)))))
          (pa_cons pe_dnewT (pa_cons (pe_op op_add pe_int (pe_cal c1 hr1 rfl (pa_cons (pv 0) (pa_cons pe_int pa_nil)))) pa_nil))) (by rfl))
      (pss_cons (ps_for PassesOwn.never rfl (pi_range2 rfl B.range (pa_cons pe_int (pa_cons (pv 2) pa_nil))) (pg_name (i := 5) sc_law_land.nd rfl (Or.inl rfl))
        (pss_one (ps_if (pt_cmpR op_lt (pv 3) pe_int (nomark _))
          (pss_one (ps_dput (hu_of hr) (pv 7) (pe_tup (pa_cons (pe_op op_sub (pv 5) pe_int) (pa_cons (pv 5) pa_nil))) pe_bl rfl))
          (pss_one (ps_if (pt_cmpR op_eq (pv 3) pe_int (nomark _))
            (pss_one (ps_dput (hu_of hr) (pv 7) (pe_ifExp (pt_cmpR op_le (pe_op op_mul pe_int (pv 5)) (pv 2) (nomark _)) (pe_tup (pa_cons (pe_op op_sub (pv 5) pe_int) (pa_cons (pv 5) pa_nil))) (pe_tup (pa_cons (pe_op op_sub (pv 2) (pv 5)) (pa_cons (pv 5) pa_nil)))) pe_bl rfl))
            (pss_one (ps_if (pt_cmpR op_gt (pv 3) pe_int (nomark _))
              (pss_one (ps_dput (hu_of hr) (pv 7) (pe_tup (pa_cons (pe_cal c1 hr1 rfl (pa_cons (pv 0) (pa_cons (pv 5) pa_nil))) (pa_cons (pv 5) pa_nil))) pe_bl rfl))
              pss_nil)))))))
      (pss_cons (ps_if (PW.pt (pw_and (pt_cmpR op_eq (pv 3) pe_int (nomark _)) (pw_and1 (pt_cmpR op_gt (pv 2) pe_int (nomark _)))))
        (pss_one (ps_dput (hu_of hr) (pv 7) (pe_tup (pa_cons pe_int (pa_cons (pe_op op_sub (pv 2) pe_int) pa_nil))) pe_bl rfl)) pss_nil)
      (pss_cons (ps_for PassesOwn.never rfl (pi_range1 rfl B.range (pa_cons (pv 2) pa_nil)) (pg_name (i := 9) sc_law_land.nd rfl (Or.inl rfl))
        (pss_one (ps_for PassesOwn.never rfl (pi_range1 rfl B.range (pa_cons (pv 9) pa_nil)) (pg_name (i := 10) sc_law_land.nd rfl (Or.inl rfl))
          (pss_one (ps_if (PW.pt (pw_and (pt_cmpR op_gt (pv 3) pe_int (nomark _)) (pw_and1 (pt_cmpR op_eq (pe_cal c1 hr1 rfl (pa_cons (pv 0) (pa_cons (pe_op op_add (pv 8) pe_int) pa_nil))) pe_int (nomark _)))))
            (pss_one (ps_dput (hu_of hr) (pv 7) (pe_tup (pa_cons (pv 10) (pa_cons (pv 9) pa_nil))) pe_bl rfl)) pss_nil)))))
      (pss_cons (ps_set (i := 11) sc_law_land.nd rfl (Or.inr rfl) (pe_cal c2 hr rfl (pa_cons (pv 0) (pa_cons (pv 2) pa_nil))))
      (pss_one (ps_ret (pe_tup (pa_cons (pv 6) (pa_cons (pe_tupleOf rfl B.tuple (pe_callB cr_sortedPO (by rfl) B.sorted (by decide +kernel) (pa_cons
        (pe_lock (pe_lc (own := [("i", 10), ("j", 9)]) (g := L2.gTup K 2 (gCons (gName 10) (gCons (gName 9) gNil))) (by rfl) sc_law_land.nd (pi_keys (pv 7))
          (blkOk_by (own := [("i", 10), ("j", 9)]) (N := ldN) (sc := defScope st__law_land) (by decide +kernel))
          (fun _ _ _ _ _ => pg_tupK (K := K) rfl (by rfl) (pgs_cons (pg_name (i := 10) sc_law_land.nd rfl (Or.inl rfl)) (pgs_cons (pg_name (i := 9) sc_law_land.nd rfl (Or.inl rfl)) pgs_nil)))
          (fun _ _ _ _ _ => pts_nil)
          (fun _ _ _ _ _ => pe_tupleOfK (K := K) rfl rfl B.tuple (pe_callB (cr_sortedK (K := K) rfl) (by rfl) B.sorted (by decide +kernel) (pa_cons (pe_lst (pa_cons (pe_ix (ix_tupK (K := K) rfl) (pv 11) (pv 10) (fun _ _ => rfl)) (pa_cons (pe_ix (ix_tupK (K := K) rfl) (pv 11) (pv 9) (fun _ _ => rfl)) pa_nil))) pa_nil))))) pa_nil))) pa_nil))))))))))), ?_⟩
    -- many, shape
    have epl : (pl : Int) - 1 = ((pl - 1 : Nat) : Int) := by omega
    refine ⟨_, rfl, _, rfl, _, _, rfl, rfl, sp, gr, pl - 1, by show [V.ref sp, V.int ((pl : Int) - 1)] = _; rw [epl], S, by omega, by omega, fun n0 H1 hn0 x1 S1 => ?_⟩
    refine ⟨_, _, rfl, rfl, _, rfl, sp, gr, 10, rfl, S1, by decide, by decide, fun sh H2 hsh x2 S2 => ⟨_, _, rfl, ?_⟩⟩
    have x12 := x1.trans x2
    dsimp only [List.set, L2.start, List.map, List.length, List.replicate, List.append]
    rw [show (2 : Int) + (n0 : Int) = ((2 + n0 : Nat) : Int) from by omega]
    have hn12 : 2 + n0 ≤ 12 := by omega
    have hnpl : 2 + n0 ≤ pl := by omega
    have hn2 : 2 ≤ 2 + n0 := by omega
    generalize 2 + n0 = mn at hn12 hn2 hnpl ⊢
    -- bound
    refine ⟨by show 4 ≤ sizeLine; decide, fun l hl0 => ⟨_, rfl, sp, gr, 4, rfl, S2.ext (.new hl0), by decide, by decide, fun t4 H3 ht4 x3 S3 => ?_⟩⟩
    have hln := S2.notin hl0
    have hl3 := x3.lst hln (upd_same (H := H2) (a := l))
    obtain ⟨bd, hbd, hbd0, hbd1⟩ : ∃ bd : Nat, ([V.int 1, V.int 2, V.int 9, V.int 1000001] : List V)[t4]? = some (.int (bd : Int)) ∧ 0 < bd ∧ bd ≤ 1000001 := by
      match t4, ht4 with
      | 0, _ => exact ⟨1, rfl, by decide, by decide⟩
      | 1, _ => exact ⟨2, rfl, by decide, by decide⟩
      | 2, _ => exact ⟨9, rfl, by decide, by decide⟩
      | 3, _ => exact ⟨1000001, rfl, by decide, by decide⟩
    refine ⟨l, _, _, _, rfl, rfl, SqL.of hl3, atI_nat hbd, ?_⟩
    have x13 : ExtS [sp, gr] H H3 := (x12.trans (.new hl0)).trans x3
    dsimp only [gName, List.set]
    -- folk, borders, rarely
    refine ⟨_, rfl, _, rfl, by omega, by omega, fun D hD => ?_⟩
    have hDn := S3.notin hD
    refine lc_range (lo := 0) (n := (mn : Int).toNat) (fun i H4 => ∃ fs : List Int, H4 D = some (.lst (fs.map V.int)) ∧ fs.length = i ∧ (∀ z ∈ fs, 0 ≤ z ∧ z ≤ 1000000) ∧ SpAt H4 sp gr ∧ ExtS [sp, gr] H H4) ⟨[], upd_same, rfl, (fun z hz => by cases hz), S3.ext (.new hD), x13.trans (.new hD)⟩ (fun i H4 hi ⟨fs, e4, hfl, hfb, S4, x4⟩ => ?_) fun H4 ⟨fs, e4, hfl, hfb, S4, x4⟩ => ?_
    · rw [Int.toNat_natCast] at hi
      refine ⟨rfl, ?_⟩
      dsimp only [tYes]
      rw [if_pos rfl]
      refine ⟨_, rfl, _, rfl, sp, gr, bd, rfl, S4, hbd0, by omega, fun z H5 hz x5 S5 => ⟨_, x5.lst hDn e4, by rw [List.length_map]; exact small1000 (by omega), fs ++ [(z : Int)], ?_, by rw [List.length_append, hfl]; rfl, fun y hy => ?_, S5.upd (fun e => hDn (by simp [e])) (fun e => hDn (by simp [e])), (x4.trans x5).write (.inl (x13.free hD))⟩⟩
      · rw [upd_same, List.map_append]
        rfl
      · rcases List.mem_append.mp hy with h | h
        · exact hfb y h
        · rw [List.mem_singleton.mp h]; omega
    rw [Int.toNat_natCast] at hfl
    refine .inl ⟨D, _, rfl, SqL.of e4, fun fo hfo => fun b hb => ?_⟩
    have hfob : fo ≠ b := ne_of_none upd_same hb
    have hfo0 := x4.free hfo
    have S5 : SpAt (upd H4 fo (.tup (fs.map V.int))) sp gr := S4.ext (.new hfo)
    have x5 : ExtS [sp, gr] H (upd H4 fo (.tup (fs.map V.int))) := x4.trans (.new hfo)
    have hb0 := x5.free hb
    have hbn := S5.notin hb
    have L0 : LdSt H sp gr fo b mn fs (upd (upd H4 fo (.tup (fs.map V.int))) b (.dT [])) := ⟨⟨[], upd_same, .nil _⟩, by rw [upd_ne hfob]; exact upd_same, S5.ext (.new hb), x5.trans (.new hb)⟩
    generalize upd (upd H4 fo (.tup (fs.map V.int))) b (.dT []) = H6 at L0 ⊢
    refine ⟨_, rfl, sp, gr, 6, rfl, L0.s, by decide, by decide, fun ra H7 hra x7 S7 => ⟨_, _, rfl, rfl, _, _, _, rfl, ?_⟩⟩
    have L1 := L0.drop x7 S7
    clear L0
    dsimp only [List.set, wipe]
    rw [show (1 : Int) + (ra : Int) = ((1 + ra : Nat) : Int) from by omega]
    have hrr : 1 + ra ≤ 10 := by omega
    generalize 1 + ra = rr at hrr ⊢
    refine ⟨_, rfl, 1, (mn : Int), rfl, ⟨by omega, by omega, by omega, by omega⟩, for_range (lo := 1) (n := ((mn : Int) - 1).toNat) (fun i σ H8 => ∃ ok : Option V, σ = [some (.ref sp), some (.int (pl : Int)), some (.int (mn : Int)), some (.int (sh : Int)), some (.int (bd : Int)), ok, some (.ref fo), some (.ref b), some (.int (rr : Int)), none, none, none] ∧ LdSt H sp gr fo b mn fs H8)
      ⟨_, rfl, L1⟩ ?_ ?_⟩
    · rintro i σ H8 hi ⟨ok, rfl, L⟩
      have e1 : (1 : Int) + (i : Int) = ((i + 1 : Nat) : Int) := by omega
      rw [e1]
      have hi1 : i + 1 < mn := by omega
      have esub : ((i + 1 : Nat) : Int) - 1 = ((i : Nat) : Int) := by omega
      refine ⟨_, rfl, _, _, rfl, rfl, _, rfl, ?_⟩
      refine ite2 (fun _ => ?_) (fun _ => ?_)
      · refine ⟨_, rfl, _, rfl, _, _, rfl, rfl, _, rfl, by show 2 ≤ sizeLine; decide, fun t ht => ?_⟩
        have L2 := L.new (o := .tup [.int (((i + 1 : Nat) : Int) - 1), .int ((i + 1 : Nat) : Int)]) ht
        obtain ⟨H9, hp9, L9⟩ := L2.put hb0 hbn hn12 (a := i) (c := i + 1) (t := t) (by omega) hi1 (by rw [upd_same, esub])
        exact ⟨b, H9, rfl, hp9, _, rfl, L9⟩
      · refine ⟨_, rfl, rfl, _, rfl, ?_⟩
        refine ite2 (fun _ => ?_) (fun _ => ?_)
        · refine ⟨_, rfl, _, rfl, _, _, rfl, rfl, .inl ⟨by decide, by decide⟩, _, rfl, _, _, rfl, rfl, _, rfl, ?_⟩
          refine ite2 (fun _ => ?_) (fun hz => ?_)
          · refine ⟨_, rfl, _, _, rfl, rfl, _, rfl, by show 2 ≤ sizeLine; decide, fun t ht => ?_⟩
            have L2 := L.new (o := .tup [.int (((i + 1 : Nat) : Int) - 1), .int ((i + 1 : Nat) : Int)]) ht
            obtain ⟨H9, hp9, L9⟩ := L2.put hb0 hbn hn12 (a := i) (c := i + 1) (t := t) (by omega) hi1 (by rw [upd_same, esub])
            exact ⟨b, H9, rfl, hp9, _, rfl, L9⟩
          · rw [decide_eq_true_eq] at hz
            have e2 : (mn : Int) - ((i + 1 : Nat) : Int) = ((mn - (i + 1) : Nat) : Int) := by omega
            refine ⟨_, rfl, _, rfl, _, _, rfl, rfl, _, rfl, by show 2 ≤ sizeLine; decide, fun t ht => ?_⟩
            have L2 := L.new (o := .tup [.int ((mn : Int) - ((i + 1 : Nat) : Int)), .int ((i + 1 : Nat) : Int)]) ht
            obtain ⟨H9, hp9, L9⟩ := L2.put hb0 hbn hn12 (a := mn - (i + 1)) (c := i + 1) (t := t) (by omega) hi1 (by rw [upd_same, e2])
            exact ⟨b, H9, rfl, hp9, _, rfl, L9⟩
        · refine ⟨_, rfl, _, _, rfl, rfl, _, rfl, ?_⟩
          refine ite2 (fun _ => ?_) (fun _ => ?_)
          · refine ⟨_, rfl, _, rfl, _, rfl, sp, gr, i + 1, rfl, L.s, by omega, by omega, fun z H9 hz x9 S9 => ?_⟩
            have L2 := L.drop x9 S9
            refine ⟨_, rfl, by show 2 ≤ sizeLine; decide, fun t ht => ?_⟩
            have L3 := L2.new (o := .tup [.int (z : Int), .int ((i + 1 : Nat) : Int)]) ht
            obtain ⟨H10, hp10, L10⟩ := L3.put hb0 hbn hn12 (a := z) (c := i + 1) (t := t) hz hi1 upd_same
            exact ⟨b, H10, rfl, hp10, _, rfl, L10⟩
          · exact ⟨_, rfl, L⟩
    · rintro σ H8 ⟨ok, rfl, L⟩
      dsimp only [tSeq]
      refine via (fun σ H9 => σ = [some (.ref sp), some (.int (pl : Int)), some (.int (mn : Int)), some (.int (sh : Int)), some (.int (bd : Int)), ok, some (.ref fo), some (.ref b), some (.int (rr : Int)), none, none, none] ∧ LdSt H sp gr fo b mn fs H9) ?_ (fun nx hnx => ?_)
      rotate_left
      · refine ⟨_, rfl, rfl, _, rfl, ?_⟩
        refine ite2 (fun _ => ?_) (fun _ => hnx _ _ ⟨rfl, L⟩)
        refine ⟨_, rfl, _, _, rfl, rfl, _, rfl, ?_⟩
        refine ite2 (fun hz => ?_) (fun _ => hnx _ _ ⟨rfl, L⟩)
        rw [decide_eq_true_eq] at hz
        have e2 : (mn : Int) - 1 = ((mn - 1 : Nat) : Int) := by omega
        refine ⟨_, rfl, _, rfl, _, _, rfl, rfl, by show 2 ≤ sizeLine; decide, fun t ht => ?_⟩
        have L2 := L.new (o := .tup [.int 0, .int ((mn : Int) - 1)]) ht
        obtain ⟨H9, hp9, L9⟩ := L2.put hb0 hbn hn12 (a := 0) (c := mn - 1) (t := t) (by omega) (by omega) (by rw [upd_same, e2]; rfl)
        exact ⟨b, H9, rfl, hp9, hnx _ _ ⟨rfl, L9⟩⟩
      · rintro σ H9 ⟨rfl, L9⟩
        clear L
        refine ⟨_, rfl, _, rfl, by omega, by omega, for_range (lo := 0) (n := (mn : Int).toNat) (fun i σ H10 => ∃ oj oi : Option V, σ = [some (.ref sp), some (.int (pl : Int)), some (.int (mn : Int)), some (.int (sh : Int)), some (.int (bd : Int)), ok, some (.ref fo), some (.ref b), some (.int (rr : Int)), oj, oi, none] ∧ LdSt H sp gr fo b mn fs H10)
          ⟨_, _, rfl, L9⟩ ?_ ?_⟩
        · rintro j σ H10 hj ⟨oj, oi, rfl, L10⟩
          rw [Int.toNat_natCast] at hj
          rw [Int.zero_add]
          refine ⟨_, rfl, _, rfl, by omega, by omega, for_range (lo := 0) (n := (j : Int).toNat) (fun i σ H11 => ∃ oi : Option V, σ = [some (.ref sp), some (.int (pl : Int)), some (.int (mn : Int)), some (.int (sh : Int)), some (.int (bd : Int)), ok, some (.ref fo), some (.ref b), some (.int (rr : Int)), some (.int (j : Int)), oi, none] ∧ LdSt H sp gr fo b mn fs H11)
            ⟨_, rfl, L10⟩ ?_ ?_⟩
          · rintro i σ H11 hi ⟨oi, rfl, L11⟩
            rw [Int.toNat_natCast] at hi
            rw [Int.zero_add]
            refine ⟨_, rfl, _, _, rfl, rfl, _, rfl, ?_⟩
            refine ite2 (fun _ => ?_) (fun _ => ⟨_, rfl, L11⟩)
            have e3 : (rr : Int) + 1 = ((rr + 1 : Nat) : Int) := by omega
            refine ⟨_, rfl, _, rfl, _, _, rfl, rfl, sp, gr, rr + 1, by show [V.ref sp, V.int ((rr : Int) + 1)] = _; rw [e3], L11.s, by omega, by omega, fun z H12 hz x12 S12 => ⟨rfl, _, rfl, ?_⟩⟩
            have L12 := L11.drop x12 S12
            refine ite2 (fun _ => ?_) (fun _ => ⟨_, rfl, L12⟩)
            refine ⟨_, rfl, _, rfl, _, rfl, by show 2 ≤ sizeLine; decide, fun t ht => ?_⟩
            have L13 := L12.new (o := .tup [.int (i : Int), .int (j : Int)]) ht
            obtain ⟨H14, hp14, L14⟩ := L13.put hb0 hbn hn12 (a := i) (c := j) (t := t) hi hj upd_same
            exact ⟨b, H14, rfl, hp14, _, rfl, L14⟩
          · rintro σ H11 ⟨oi, rfl, L11⟩
            exact ⟨_, _, rfl, L11⟩
        · rintro σ H10 ⟨oj, oi, rfl, L10⟩
          refine ⟨_, rfl, _, rfl, sp, gr, mn, rfl, L10.s, by omega, fun oa os H11 hperm x11 S11 hoa0 hoa => ?_⟩
          have L11 := L10.drop x11 S11
          dsimp only [gName, List.set]
          refine ⟨_, rfl, ?_⟩
          obtain ⟨kvs, hd, hbd2⟩ := L11.d
          have hfo11 := L11.f
          obtain ⟨hnd, hok⟩ := prK_ok hperm hbd2
          have hkl := hbd2.len hn12
          refine ⟨b, .dT kvs, hd, trivial, fun od => ?_⟩
          have hob : oa ≠ b := fun z => by rw [z, hd] at hoa; cases hoa
          have hof : (upd H11 b (.frz od (.dT kvs))) oa = some (.tup (vsN os)) := by rw [upd_ne hob]; exact hoa
          have hbf : (upd H11 b (.frz od (.dT kvs))) b = some (.frz od (.dT kvs)) := upd_same
          have hx11 : ∀ c o, c ≠ b → (upd H11 b (.frz od (.dT kvs))) c = o → H11 c = o := fun c o n e => by rw [upd_ne n] at e; exact e
          have hf11 : ∀ c, (upd H11 b (.frz od (.dT kvs))) c = none → H11 c = none := fun c e => by
            by_cases z : c = b
            · rw [z, hbf] at e; cases e
            · exact hx11 c none z e
          have hk11 : ∀ c o, c ≠ b → H11 c = some o → (upd H11 b (.frz od (.dT kvs))) c = some o := fun c o n e => by rw [upd_ne n]; exact e
          have ht11 : ∀ Pt, Gx.TabG H11 Pt → Gx.TabG (upd H11 b (.frz od (.dT kvs))) Pt := fun Pt ⟨ps, e, z⟩ => ⟨ps, by rw [upd_ne (fun e2 => by rw [e2, hd] at e; cases e)]; exact e, z⟩
          generalize hHF : upd H11 b (.frz od (.dT kvs)) = HF at hof hbf hx11 hf11 hk11 ht11 ⊢
          refine ⟨_, rfl, b, od, rfl, .inr ⟨kvs, hbf, fun D2 hD2 => ?_⟩⟩
          have hbD : b ≠ D2 := ne_of_none hbf hD2
          refine lc_keysT (fun i H12 => ∃ as : List V, H12 D2 = some (.lst as) ∧ Pa H12 as ((kvs.take i).map fun kv => prK os kv.1) ∧ Ext HF H12) ⟨[], upd_same, .nil, .new hD2⟩ (fun i H12 _ ⟨_, _, _, x⟩ => x.keep _ _ hbf (fun z => z)) (fun i kk vv q H12 hk hq ⟨as, eas, hP, x12⟩ => ?_) fun H12 ⟨as, eas, hP, x12⟩ => ?_
          · obtain ⟨a, c, e1, hac, hcn⟩ := hbd2.ok (kk, vv) (List.mem_of_getElem? hk)
            have e1 : kk = keyP a c := e1
            subst e1
            obtain ⟨hos1, hos2⟩ := os_get hperm
            have hol : os.length = mn := by rw [hperm.length_eq, List.length_range]
            have hga : (vsN os)[a]? = some (.int ((os.getD a 0 : Nat) : Int)) := by
              rw [vsN_at (show a < os.length by omega), List.getD_eq_getElem?_getD, List.getElem?_eq_getElem (show a < os.length by omega)]
              rfl
            have hgc : (vsN os)[c]? = some (.int ((os.getD c 0 : Nat) : Int)) := by
              rw [vsN_at (show c < os.length by omega), List.getD_eq_getElem?_getD, List.getElem?_eq_getElem (show c < os.length by omega)]
              rfl
            refine ⟨q, _, rfl, SqT.of hq, rfl, _, _, rfl, _, _, rfl, rfl, rfl, ?_⟩
            dsimp only [tYes]
            rw [if_pos rfl]
            have hal := hP.len
            rw [List.length_map, List.length_take] at hal
            refine ⟨_, rfl, _, rfl, oa, _, _, _, rfl, rfl, SqT.of (x12.tup hof), atI_nat hga, _, rfl, _, rfl, oa, _, _, _, rfl, rfl, SqT.of (x12.tup hof), atI_nat hgc, by show 2 ≤ sizeLine; decide, fun l2 hl2 => ?_⟩
            refine ⟨l2, [((os.getD a 0 : Nat) : Int), ((os.getD c 0 : Nat) : Int)], rfl, SqL.of upd_same, by show 2 < 64; decide, fun ns' p2 hpm hasc hp2 => ?_⟩
            have e2 := two_sorted hpm hasc
            subst e2
            refine .inl ⟨p2, _, rfl, SqL.of upd_same, fun q2 hq2 => ?_⟩
            have x13 : Ext H12 (upd (upd (upd H12 l2 (.lst [.int ((os.getD a 0 : Nat) : Int), .int ((os.getD c 0 : Nat) : Int)])) p2 (.lst ([min ((os.getD a 0 : Nat) : Int) ((os.getD c 0 : Nat) : Int), max ((os.getD a 0 : Nat) : Int) ((os.getD c 0 : Nat) : Int)].map V.int))) q2 (.tup ([min ((os.getD a 0 : Nat) : Int) ((os.getD c 0 : Nat) : Int), max ((os.getD a 0 : Nat) : Int) ((os.getD c 0 : Nat) : Int)].map V.int))) := ((Ext.new hl2).trans (.new hp2)).trans (.new hq2)
            have eq2 : (upd (upd (upd H12 l2 (.lst [.int ((os.getD a 0 : Nat) : Int), .int ((os.getD c 0 : Nat) : Int)])) p2 (.lst ([min ((os.getD a 0 : Nat) : Int) ((os.getD c 0 : Nat) : Int), max ((os.getD a 0 : Nat) : Int) ((os.getD c 0 : Nat) : Int)].map V.int))) q2 (.tup ([min ((os.getD a 0 : Nat) : Int) ((os.getD c 0 : Nat) : Int), max ((os.getD a 0 : Nat) : Int) ((os.getD c 0 : Nat) : Int)].map V.int))) q2 = some (.tup [.int (((min (os.getD a 0) (os.getD c 0)) : Nat) : Int), .int (((max (os.getD a 0) (os.getD c 0)) : Nat) : Int)]) := by
              rw [upd_same, show min ((os.getD a 0 : Nat) : Int) ((os.getD c 0 : Nat) : Int) = (((min (os.getD a 0) (os.getD c 0)) : Nat) : Int) by omega, show max ((os.getD a 0 : Nat) : Int) ((os.getD c 0 : Nat) : Int) = (((max (os.getD a 0) (os.getD c 0)) : Nat) : Int) by omega]
              rfl
            generalize upd (upd (upd H12 l2 _) p2 _) q2 _ = H13 at x13 eq2 ⊢
            have e13 := x13.lst eas
            refine ⟨as, e13, small1000 (by omega), as ++ [.ref q2], upd_same, ?_, (x12.trans x13).write hD2⟩
            rw [List.take_add_one, hk, List.map_append]
            have hqD : q2 ≠ D2 := fun z => by rw [z, e13] at eq2; cases eq2
            refine Pa.snoc ((hP.mono fun t xs e => x13.tup e).mono fun t xs e => ?_) ?_
            · rw [upd_ne (fun z => by rw [z, e13] at e; cases e)]
              exact e
            · rw [upd_ne hqD]
              exact eq2
          · rw [List.take_length] at hP
            have hb12 : H12 b = some (.frz od (.dT kvs)) := x12.keep _ _ hbf fun z => z
            refine ⟨hb12, ?_⟩
            have hP2 : Pa (upd H12 b (.dT kvs)) as (kvs.map fun kv => prK os kv.1) := hP.mono fun t xs e => by
              rw [upd_ne (fun z => by rw [z, hb12] at e; cases e)]
              exact e
            have eas2 : (upd H12 b (.dT kvs)) D2 = some (.lst as) := by rw [upd_ne hbD.symm]; exact eas
            have xS : ExtS [sp, gr] H11 (upd H12 b (.dT kvs)) := by
              refine ⟨fun c o e n _ => ?_, fun Pt hPt => ?_, fun c o e => ?_⟩
              · by_cases z : c = b
                · rw [z, upd_same]
                  rw [z, hd] at e
                  exact e
                · rw [upd_ne z]
                  exact x12.keep c o (hk11 c o z e) n
              · obtain ⟨ps, e, z⟩ := x12.tabs Pt (ht11 Pt hPt)
                obtain ⟨ps0, e0, _⟩ := hPt
                exact ⟨ps, by rw [upd_ne (fun e2 => by rw [e2, hd] at e0; cases e0)]; exact e, z⟩
              · by_cases z : c = b
                · exact ⟨_, by rw [z, upd_same]⟩
                · rw [upd_ne z]
                  exact x12.live c o (hk11 c o z e)
            have S12 : SpAt (upd H12 b (.dT kvs)) sp gr := by
              obtain ⟨xs, m, t, h3, h4, h5⟩ := L11.s.ex
              have n1 : sp ≠ b := fun z => hbn (by simp [z])
              have n2 : gr ≠ b := fun z => hbn (by simp [z])
              exact ⟨⟨xs, m, t, by rw [upd_ne n1]; exact x12.lst (hk11 _ _ n1 h3), by rw [upd_ne n2]; exact x12.lst (hk11 _ _ n2 h4), h5⟩, L11.s.ne⟩
            have L12 := L11.drop xS S12
            generalize upd H12 b (.dT kvs) = H13 at hP2 eas2 xS S12 L12 ⊢
            have hal := hP2.len
            rw [List.length_map] at hal
            refine ⟨D2, as, kOf H13, rfl, SqL.of eas2, fun x hx => ?_, fun ys p hsrt hstb hp => ?_⟩
            · obtain ⟨t, pp, h1, _, h3⟩ := hP2.mem hx
              refine ⟨t, h1, ?_⟩
              rw [h1, h3]
              show _ = some (HO.tup [.int (match H13 t with
                | some (.tup [.int i, .int j]) => (i, j)
                | _ => (0, 0)).1, .int (match H13 t with
                | some (.tup [.int i, .int j]) => (i, j)
                | _ => (0, 0)).2])
              rw [h3]
            · obtain ⟨bs, hPb, hpb⟩ := hP2.perm hstb.perm.symm
              have hasc2 := hPb.asc hsrt (hpb.nodup_iff.mp hnd)
              have hBs : Mk.Bs mn bs := fun q hq => hok q (hpb.mem_iff.mpr hq)
              have hbl : bs.length ≤ 169 := by rw [← hpb.length_eq, List.length_map]; exact hkl
              refine .inl ⟨p, _, rfl, SqL.of upd_same, fun q hq => ⟨by show 2 ≤ sizeLine; decide, fun r hr0 => ?_⟩⟩
              have x14 : Ext H13 (upd H13 p (.lst ys)) := .new hp
              have x15 := x14.trans (Ext.new (o := .tup ys) hq)
              have dfo : Dp K (upd (upd H13 p (.lst ys)) q (.tup ys)) (.ref fo) (.tuple (fs.map .int)) := .tup (SqT.of (x15.tup L12.f)) (dpAll_of_ints fs)
              have dbo : Dp K (upd (upd H13 p (.lst ys)) q (.tup ys)) (.ref q) (bordD bs) := .tup (SqT.of upd_same) (dpAll_ext x15 hPb.dp)
              refine k r fs bs _ ((L12.x.trans (.of x15)).trans (.new hr0)) ((L12.s.ext x15).ext (.new hr0)) ((L12.x.trans (.of x15)).free hr0) (dp_new hr0 (.cons dfo (.cons dbo .nil))) ⟨by omega, by omega, hfb, by rw [hfl]; exact hBs, hasc2⟩ (by omega)
end
end Wd

set_option Elab.async false
set_option linter.all false
set_option maxRecDepth 100000
set_option maxHeartbeats 4000000
namespace Wd
open PySem PySem.Spec PyProof.Rows L2 Bx Gx













































section
variable {P : Program} {w : World} {K : PySem.W.Frag} {mg : Str → Option Value} {base : Heap}
/-! ### check_head -/
def spCheckHead (K : PySem.W.Frag) : Sp := fun vs H Q _ => ∃ (l : V) (fs : List Int) (bd : PyData) (p : Nat), vs = [l, .int (p : Int)] ∧ Dp K H l (.tuple [.tuple (fs.map .int), bd]) ∧ fs.length ≤ 12 ∧ p < fs.length ∧ Q .non H
/-! ### hangs_together -/
def spHangsTog (K : PySem.W.Frag) (T1 : Addr) : Sp := fun vs H Q _ => ∃ (l : Addr) (lk : List Nat) (n m : Nat) (bs : List (Nat × Nat)), vs = [.ref l, .int (m : Int)] ∧ H l = some (.lst (vsN lk)) ∧ Mk.Lk n bs lk ∧ Mk.Bs n bs ∧ n ≤ 12 ∧ m < 2 ^ n ∧ 0 < m ∧ TabG H T1 ∧
  ∀ (b : Bool) H', Ext H H' → (∀ qs, Mk.Pcs bs m qs → b = decide (qs.length = 1)) → Q (.bl b) H'
theorem sc_hangs_together : FnScope ["links", "mask"] ["links", "mask"] (defScope st_hangs_together) := ⟨rfl, rfl, rfl, by decide +kernel, rfl, by decide +kernel, by decide +kernel⟩
theorem pcs_first {bs : List (Nat × Nat)} {m q r : Nat} (hq : m.testBit q = true) (hlow : ∀ p, p < q → m.testBit p = false) (hR : Mk.Rch bs m (2 ^ q) r) {qs : List Nat} (h : Mk.Pcs bs m qs) : r = m ↔ qs.length = 1 := by
  cases h with
  | nil => simp at hq
  | @cons _ q' p l hq' hlow' hR' hP =>
    have e := Mk.low_uniq hq hlow hq' hlow'
    subst e
    have e2 := hR.uniq hR'
    subst e2
    rw [List.length_cons]
    constructor
    · intro e
      rw [e, Nat.xor_self] at hP
      generalize hz : (0 : Nat) = z at hP
      cases hP with
      | nil => rfl
      | cons h1 _ _ _ =>
        rw [← hz, Nat.zero_testBit] at h1
        cases h1
    · intro e
      have h0 := hP.none (List.length_eq_zero_iff.mp (by omega))
      have h1 : (m ^^^ r) ^^^ r = m := by rw [Nat.xor_assoc, Nat.xor_self, Nat.xor_zero]
      rw [h0, Nat.zero_xor] at h1
      exact h1
theorem ok_hangs_together {f T1 : Addr} {fd : FuncData} (F : Fun K "hangs_together" "hangs_together" st_hangs_together f fd) (c1 : Cal P w K mg base 7 "reached" ["links", "start", "mask"] (spReached K T1)) : FnOk P w K mg base CX0 8 f fd ["links", "mask"] (spHangsTog K T1) := by
  refine F.ok sc_hangs_together (fun vs H Q E h => ?_) (fun cdv A outer s H vs Q E hr h => ?_)
  · obtain ⟨l, lk, n, m, bs, rfl, _⟩ := h
    rfl
  · obtain ⟨l, lk, n, m, bs, rfl, hl, L, hb, hn, hm, hm0, hT, k⟩ := h
    refine ⟨_, pss_one (ps_ret (pe_cmpR op_eq (pe_cal c1 hr rfl (pa_cons (pv 0) (pa_cons (pe_op op_and (pv 1) (pe_un un_neg (pv 1))) (pa_cons (pv 1) pa_nil)))) (pv 1) (nomark _))), ?_⟩
    obtain ⟨q, hq, hlow, hand⟩ := Mk.and_neg m hm0
    refine ⟨_, rfl, _, rfl, _, rfl, _, rfl, _, _, rfl, rfl, _, rfl, l, lk, n, 2 ^ q, m, bs, ?_, hl, L, hb, hn, hm, ?_, hT, fun r H3 x3 hR => ?_⟩
    · dsimp only [List.append_nil]
      rw [hand]
      rfl
    · intro z hz
      rw [Nat.testBit_two_pow, decide_eq_true_eq] at hz
      rw [← hz]
      exact hq
    · refine ⟨_, rfl, rfl, ?_⟩
      refine k _ H3 x3 fun qs hqs => ?_
      have := pcs_first hq hlow hR hqs
      by_cases e : r = m
      · rw [decide_eq_true (this.mp e)]
        exact decide_eq_true (by rw [e])
      · rw [decide_eq_false (fun z => e (this.mpr z))]
        exact decide_eq_false fun z => e (by have := V.int.inj z; omega)
theorem mask_pos {ps : List Nat} (ha : ps.Pairwise (· < ·)) (hne : ps ≠ []) : 0 < Mk.mask ps := by
  cases ps with
  | nil => exact absurd rfl hne
  | cons p r =>
    have h : (Mk.mask (p :: r)).testBit p = true := by rw [Mk.bit_mask ha]; simp
    refine Nat.pos_of_ne_zero fun z => ?_
    rw [z, Nat.zero_testBit] at h
    cases h
end
section
variable {P : Program} {w : World} {K : PySem.W.Frag} {mg : Str → Option Value} {base : Heap}
/-! ### folk_within -/
def folkOf (fs : List Int) (ps : List Nat) : Int := (ps.map fun p => fs.getD p 0).sum
def spFolkIn (K : PySem.W.Frag) (T1 : Addr) : Sp := fun vs H Q _ => ∃ (l v : V) (fs : List Int) (bd : PyData) (ps : List Nat), vs = [l, v] ∧ Dp K H l (.tuple [.tuple (fs.map .int), bd]) ∧ Dp K H v (lotD ps) ∧ (∀ p ∈ ps, p < fs.length) ∧ TabG H T1 ∧ ∀ H', Ext H H' → Q (.int (folkOf fs ps)) H'
theorem sc_folk_within : FnScope ["land", "lot"] ["land", "lot"] (defScope st_folk_within) := ⟨rfl, rfl, rfl, by decide +kernel, rfl, by decide +kernel, by decide +kernel⟩
theorem ok_folk_within {f c T1 : Addr} {fd : FuncData} (F : FunC K "folk_within" "folk_within" st_folk_within f fd c) (TB : TabB base mg c T1) (B : Bl mg) : FnOk P w K mg base CX0 4 f fd ["land", "lot"] (spFolkIn K T1) := by
  refine F.ok sc_folk_within (fun vs H Q E h => ?_) (fun A outer s H vs Q E hr h => ?_)
  · obtain ⟨l, v, fs, bd, ps, rfl, _⟩ := h
    rfl
  · obtain ⟨l, v, fs, bd, ps, rfl, hl, hd, hp, hT, k⟩ := h
    refine ⟨_, pss_one (ps_ret (pe_gsum (k := 0) (N := ["place", "land"]) (src := [none, some 0]) (vs := [0])
        ⟨fun B s H fp code hB => pg_name (i := 0) (by decide +kernel : (["place", "land"] : List Str).Nodup) rfl (Or.inl rfl), fun B s H fp code hB => pts_nil, fun B s H fp code hB => pe_ix (ix_tupK (K := K) rfl) (pe_ix (ix_tupK (K := K) rfl) (pv 1) pe_int (fun _ _ => rfl)) (pv 0) (fun _ _ => rfl)⟩
        (hr.mono (by decide)) rfl B.sum TB rfl (gOk (ND := ["land", "lot"]) (sc := defScope st_folk_within) (by decide +kernel)) (pi_tup (pv 1)))), ?_⟩
    obtain ⟨a, rfl, h1⟩ := dp_lot hd
    obtain ⟨al, xl, rfl, h2, h3⟩ := dp_tup hl
    cases h3 with
    | cons hf h4 =>
    obtain ⟨af, rfl, h5⟩ := dp_ints hf
    refine ⟨_, rfl, a, rfl, ⟨_, h1⟩, hT, fun H2 hT2 => ?_⟩
    have x2 : Ext H H2 := Ext.tabbed hT hT2
    refine g_sum (Ph := fun H4 => H4 = H2) (src_tup fun H4 e => by rw [e]; exact x2.sqT h1) (fun i => fs.getD (ps.getD i 0) 0) rfl (fun i H C hp2 hi k2 => ?_) fun H4 hp2 => ?_
    · subst hp2
      rw [getD_lot hi]
      rw [List.length_map] at hi
      have hm : ps.getD i 0 < fs.length := by
        rw [List.getD_eq_getElem?_getD, List.getElem?_eq_getElem hi]
        exact hp _ (List.getElem_mem hi)
      generalize ps.getD i 0 = pl at hm k2 ⊢
      have e : (fs.map V.int)[pl]? = some (V.int (fs.getD pl 0)) := by
        rw [List.getElem?_map, List.getElem?_eq_getElem hm, List.getD_eq_getElem?_getD, List.getElem?_eq_getElem hm]
        rfl
      exact ⟨rfl, _, rfl, al, _, _, _, rfl, rfl, x2.sqT h2, atI_nat (j := 0) rfl, _, rfl, af, _, _, _, rfl, rfl, x2.sqT h5, atI_nat e, k2 H rfl⟩
    · subst hp2
      rw [List.length_map, map_range_getD ps fun (p : Nat) => fs.getD p 0]
      exact k H4 x2
/-! ### pair_of -/
def spPairOf (K : PySem.W.Frag) : Sp := fun vs H Q _ => ∃ (a b : Nat), vs = [.int (a : Int), .int (b : Int)] ∧ ∀ p H', Ext H H' → H p = none → H' p = some (.tup [.int ((min a b : Nat) : Int), .int ((max a b : Nat) : Int)]) → Q (.ref p) H'
end
section
variable {P : Program} {w : World} {K : PySem.W.Frag} {mg : Str → Option Value} {base : Heap}
/-! ### ward_row -/
theorem vsN_len0 (l : List Nat) : (vsN l).length = l.length := List.length_map ..
theorem putK_le (kvs : List (L2.Key × V)) (k : L2.Key) (v : V) : (putK kvs k v).length ≤ kvs.length + 1 := by
  unfold putK
  split
  · rw [List.length_map]; omega
  · rw [List.length_append]; exact Nat.le_refl _
def planD (ws : List (List Nat)) : PyData := .tuple (ws.map lotD)
/-- wards: few, short, none with a place of another one -/
structure WardsOk (n : Nat) (ws : List (List Nat)) : Prop where
  few : ws.length ≤ 12
  lots : ∀ w ∈ ws, LotOk n w
  most : n ≤ 12
  apart : ∀ i j a b : Nat, ∀ u v, ws[i]? = some u → ws[j]? = some v → a ∈ u → b ∈ v → a = b → i = j
/-- a row tells for each place of the wards the index of its ward -/
def RowOf (ws : List (List Nat)) (kvs : List (L2.Key × V)) : Prop := ∀ (i : Nat) (u : List Nat) (p : Nat), ws[i]? = some u → p ∈ u → valV kvs (Sum.inl (p : Int) : L2.Key) = some (.int (i : Int))
def spWardRow (K : PySem.W.Frag) : Sp := fun vs H Q _ => ∃ (v : V) (ws : List (List Nat)) (n : Nat), vs = [v] ∧ Dp K H v (planD ws) ∧ WardsOk n ws ∧ ∀ d (kvs : List (L2.Key × V)) H', Ext H H' → H d = none → H' d = some (.dK kvs) → RowOf ws kvs → Q (.ref d) H'
theorem sc_ward_row : FnScope ["plan", "row", "k", "place"] ["plan"] (defScope st_ward_row) := ⟨rfl, rfl, rfl, by decide +kernel, rfl, by decide +kernel, by decide +kernel⟩
theorem ok_ward_row {f : Addr} {fd : FuncData} (F : Fun K "ward_row" "ward_row" st_ward_row f fd) (B : Bl mg) : FnOk P w K mg base CX0 1 f fd ["plan"] (spWardRow K) := by
  refine F.ok sc_ward_row (fun vs H Q E h => ?_) (fun cdv A outer s H vs Q E hr h => ?_)
  · obtain ⟨v, ws, n, rfl, _⟩ := h
    rfl
  · obtain ⟨v, ws, n, rfl, hv, W, k⟩ := h
    refine ⟨_, pss_cons (ps_set (i := 1) sc_ward_row.nd rfl (Or.inl rfl) pe_dnewK)
      (pss_cons (ps_for PassesOwn.never rfl (pi_range1 rfl B.range (pa_cons (pe_callB call_len (by rfl) B.len PySem.boot_len (pa_cons (pv 0) pa_nil)) pa_nil)) (pg_name (i := 2) sc_ward_row.nd rfl (Or.inl rfl))
        (pss_one (ps_for PassesOwn.never rfl (pi_tup (pe_ix ix_tup (pv 0) (pv 2) (fun _ _ => rfl))) (pg_name (i := 3) sc_ward_row.nd rfl (Or.inl rfl))
          (pss_one (ps_dput (hu_of hr) (pv 1) (pv 3) (pv 2) rfl)))))
      (pss_one (ps_ret (pv 1)))), ?_⟩
    obtain ⟨a, xs, rfl, h1, h2⟩ := dp_tup hv
    have hlen := dpAll_len h2
    rw [List.length_map] at hlen
    have hfew := W.few
    intro d hd
    have x1 : Ext H (upd H d (.dK [])) := .new hd
    have e1 : (upd H d (.dK [])) d = some (.dK []) := upd_same
    generalize upd H d (.dK []) = H1 at x1 e1 ⊢
    dsimp only [gName, tSeq, List.set, L2.start, List.map, List.length, List.replicate, List.append]
    refine ⟨_, rfl, _, xs.length, rfl, .inr ⟨_, x1.sqT h1, rfl⟩, _, rfl, by omega, by omega, for_range (lo := 0) (n := (xs.length : Int).toNat) (fun i σ H2 => ∃ (o2 o3 : Option V) (kvs : List (L2.Key × V)), σ = [some (.ref a), some (.ref d), o2, o3] ∧ Ext H H2 ∧ H2 d = some (.dK kvs) ∧ kvs.length ≤ 12 * i ∧ ∀ (j : Nat) (u : List Nat) (p : Nat), j < i → ws[j]? = some u → p ∈ u → valV kvs (Sum.inl (p : Int) : L2.Key) = some (.int (j : Int)))
      ⟨_, _, [], rfl, x1, e1, Nat.le_refl _, fun j u p hj => by omega⟩ ?_ ?_⟩
    · rintro i σ H2 hi ⟨o2, o3, kvs, rfl, x2, e2, hk, hrow⟩
      rw [Int.toNat_natCast] at hi
      rw [Int.zero_add]
      have hw := List.getElem?_eq_getElem (show i < ws.length by omega)
      have hmem := List.getElem_mem (show i < ws.length by omega)
      have lo := W.lots _ hmem
      have hm12 := W.most
      have hlw := lo.len
      obtain ⟨wv, hwv, hdw⟩ := dpAll_get h2 (i := i) (d := lotD ws[i]) (by rw [List.getElem?_map, hw]; rfl)
      obtain ⟨aw, rfl, hsw⟩ := dp_lot hdw
      refine ⟨_, rfl, _, rfl, a, _, _, _, rfl, rfl, x2.sqT h1, atI_nat hwv, aw, rfl, ⟨_, x2.sqT hsw⟩, for_tup (K := K) (a := aw) (xs := vsN ws[i]) (fun t σ H3 => ∃ (o3 : Option V) (kvs : List (L2.Key × V)), σ = [some (.ref a), some (.ref d), some (.int (i : Int)), o3] ∧ Ext H H3 ∧ H3 d = some (.dK kvs) ∧ kvs.length ≤ 12 * i + t ∧
        (∀ (j : Nat) (u : List Nat) (p : Nat), j < i → ws[j]? = some u → p ∈ u → valV kvs (Sum.inl (p : Int) : L2.Key) = some (.int (j : Int))) ∧ ∀ p, p ∈ ws[i].take t → valV kvs (Sum.inl (p : Int) : L2.Key) = some (.int (i : Int)))
        ⟨_, kvs, rfl, x2, e2, hk, hrow, fun p hp => by rw [List.take_zero] at hp; cases hp⟩ (fun t σ H3 _ ⟨_, _, _, x3, _⟩ => x3.sqT hsw) ?_ ?_⟩
      · rintro t x σ H3 hx ⟨o3, kvs, rfl, x3, e3, hk3, hrow3, hown⟩
        rw [List.getElem?_map] at hx
        cases eb : ws[i][t]? with
        | none => rw [eb] at hx; cases hx
        | some q =>
          rw [eb] at hx
          cases hx
          have ht : t < ws[i].length := (List.getElem?_eq_some_iff.mp eb).1
          have hq := List.mem_of_getElem? eb
          refine ⟨_, rfl, _, rfl, _, rfl, d, _, rfl, DPut.k (k := Sum.inl (q : Int)) e3 (small1000 (by omega)), ?_⟩
          refine ⟨_, putK kvs (Sum.inl (q : Int)) (.int (i : Int)), rfl, x3.write hd, upd_same, by have := putK_le kvs (Sum.inl (q : Int) : L2.Key) (V.int (i : Int)); omega, fun j u p hj hu hp => ?_, fun p hp => ?_⟩
          · rw [valV_put]
            by_cases z : (Sum.inl (p : Int) : L2.Key) = Sum.inl (q : Int)
            · injection z with z
              have := W.apart j i p q u _ hu hw hp hq (by omega)
              omega
            · rw [if_neg z]
              exact hrow3 j u p hj hu hp
          · rw [valV_put]
            by_cases z : (Sum.inl (p : Int) : L2.Key) = Sum.inl (q : Int)
            · rw [if_pos z]
            · rw [if_neg z]
              rw [List.take_add_one, eb] at hp
              rcases List.mem_append.mp hp with e | e
              · exact hown p e
              · exact absurd (by rw [List.mem_singleton.mp e]) z
      · rintro σ H3 ⟨o3, kvs, rfl, x3, e3, hk3, hrow3, hown⟩
        rw [vsN_len0] at hk3 hown
        rw [List.take_length] at hown
        refine ⟨_, _, kvs, rfl, x3, e3, by omega, fun j u p hj hu hp => ?_⟩
        by_cases z : j = i
        · subst z
          rw [hw] at hu
          cases hu
          exact hown p hp
        · exact hrow3 j u p (by omega) hu hp
    · rintro σ H2 ⟨o2, o3, kvs, rfl, x2, e2, hk, hrow⟩
      rw [Int.toNat_natCast] at hrow
      exact ⟨_, rfl, k d kvs H2 x2 hd e2 fun i u p hu hp => hrow i u p (by have := (List.getElem?_eq_some_iff.mp hu).1; omega) hu hp⟩
end
section
variable {P : Program} {w : World} {K : PySem.W.Frag} {mg : Str → Option Value} {base : Heap}
/-! ### whole_mask -/
def spWhole (K : PySem.W.Frag) : Sp := fun vs H Q _ => ∃ (l : V) (fs : List Int) (bd : PyData), vs = [l] ∧ Dp K H l (.tuple [.tuple (fs.map .int), bd]) ∧ fs.length ≤ 12 ∧ Q (.int ((2 ^ fs.length - 1 : Nat) : Int)) H
theorem sc_whole_mask : FnScope ["land"] ["land"] (defScope st_whole_mask) := ⟨rfl, rfl, rfl, by decide +kernel, rfl, by decide +kernel, by decide +kernel⟩
theorem ok_whole_mask {f : Addr} {fd : FuncData} (F : Fun K "whole_mask" "whole_mask" st_whole_mask f fd) (B : Bl mg) : FnOk P w K mg base CX0 1 f fd ["land"] (spWhole K) := by
  refine F.ok sc_whole_mask (fun vs H Q E h => ?_) (fun cdv A outer s H vs Q E hr h => ?_)
  · obtain ⟨l, fs, bd, rfl, _⟩ := h
    rfl
  · obtain ⟨l, fs, bd, rfl, hl, hn, k⟩ := h
    refine ⟨_, pss_one (ps_ret (pe_op op_sub (pe_op op_shl pe_int (pe_callB call_len (by rfl) B.len PySem.boot_len (pa_cons (pe_ix ix_tup (pv 0) pe_int (fun _ _ => rfl)) pa_nil))) pe_int)), ?_⟩
    obtain ⟨al, xl, rfl, h2, h3⟩ := dp_tup hl
    cases h3 with
    | cons hf h4 =>
    obtain ⟨af, rfl, h5⟩ := dp_ints hf
    refine ⟨_, rfl, al, _, _, _, rfl, rfl, h2, atI_nat (j := 0) rfl, _, fs.length, rfl, .inr ⟨_, h5, by simp⟩, _, _, rfl, rfl, ⟨by omega, by omega, by decide⟩, _, _, rfl, rfl, ?_⟩
    have e : (1 : Int) * 2 ^ ((fs.length : Nat) : Int).toNat - 1 = ((2 ^ fs.length - 1 : Nat) : Int) := by
      rw [Int.toNat_natCast, Int.one_mul]
      have h := Nat.two_pow_pos fs.length
      have h2 : ((2 : Int) ^ fs.length) = ((2 ^ fs.length : Nat) : Int) := by simp
      rw [h2]
      omega
    show Q (V.int ((1 : Int) * 2 ^ ((fs.length : Nat) : Int).toNat - 1)) H
    rw [e]
    exact k
end
section
variable {P : Program} {w : World} {K : PySem.W.Frag} {mg : Str → Option Value} {base : Heap}
/-! ### fault_of_plan: of a right plan -/
structure PlanOk (n : Nat) (bs : List (Nat × Nat)) (ws : List (List Nat)) : Prop where
  w : WardsOk n ws
  ne : ws ≠ []
  hang : ∀ u, u ∈ ws → ∃ l, Mk.Pcs bs (Mk.mask u) l ∧ l.length = 1
  asc : ws.Pairwise fun u v => u.headD 0 < v.headD 0
  all : ∀ p, p < n → ∃ u, u ∈ ws ∧ p ∈ u
theorem lexN_false {u v : List Nat} (hu : u ≠ []) (hv : v ≠ []) (h : v.headD 0 < u.headD 0) :
    Ob.lexAt (fun j => decide ((u.map fun (p : Nat) => (p : Int)).getD j 0 = (v.map fun (p : Nat) => (p : Int)).getD j 0)) (fun j => decide ((u.map fun (p : Nat) => (p : Int)).getD j 0 ≤ (v.map fun (p : Nat) => (p : Int)).getD j 0)) (decide ((u.map fun (p : Nat) => (p : Int)).length ≤ (v.map fun (p : Nat) => (p : Int)).length)) 0 (min (u.map fun (p : Nat) => (p : Int)).length (v.map fun (p : Nat) => (p : Int)).length) = false := by
  cases u with
  | nil => exact absurd rfl hu
  | cons a r =>
    cases v with
    | nil => exact absurd rfl hv
    | cons b s =>
      have hlt : b < a := h
      have em : min ((a :: r).map fun (p : Nat) => (p : Int)).length ((b :: s).map fun (p : Nat) => (p : Int)).length = min r.length s.length + 1 := by
        rw [List.length_map, List.length_map, List.length_cons, List.length_cons]
        omega
      rw [em]
      show (if decide ((a : Int) = (b : Int)) = true then _ else decide ((a : Int) ≤ (b : Int))) = false
      rw [decide_eq_false (show ¬ (a : Int) = (b : Int) by omega), if_neg Bool.false_ne_true]
      exact decide_eq_false (by omega)
def spFaultPlan (K : PySem.W.Frag) (T1 T2 T3 T4 : Addr) : Sp := fun vs H Q _ => ∃ (l v : V) (fs : List Int) (bs : List (Nat × Nat)) (ws : List (List Nat)), vs = [l, v] ∧ Dp K H l (landD fs bs) ∧ LandOk fs bs ∧ Dp K H v (planD ws) ∧ PlanOk fs.length bs ws ∧ Tabs [T1, T2, T3, T4] H ∧ ∀ H', Ext H H' → Q .non H'
theorem sc_fault_of_plan : FnScope ["land", "value", "links", "taken", "k", "ward"] ["land", "value"] (defScope st_fault_of_plan) := ⟨rfl, rfl, rfl, by decide +kernel, rfl, by decide +kernel, by decide +kernel⟩
theorem ok_fault_of_plan {f T1 T2 T3 T4 : Addr} {fd : FuncData} (F : Fun K "fault_of_plan" "fault_of_plan" st_fault_of_plan f fd) (B : Bl mg) (c1 : Cal P w K mg base 6 "is_lot" ["land", "value"] (spIsLot K T1 T2)) (c2 : Cal P w K mg base 4 "mask_of" ["lot"] (spMaskOf K T3))
    (c3 : Cal P w K mg base 1 "links_of" ["land"] (spLinksOf K)) (c4 : Cal P w K mg base 8 "hangs_together" ["links", "mask"] (spHangsTog K T4)) (c5 : Cal P w K mg base 1 "whole_mask" ["land"] (spWhole K)) : FnOk P w K mg base CX0 9 f fd ["land", "value"] (spFaultPlan K T1 T2 T3 T4) := by
  refine F.ok sc_fault_of_plan (fun vs H Q E h => ?_) (fun cdv A outer s H vs Q E hr h => ?_)
  · obtain ⟨l, v, fs, bs, ws, rfl, _⟩ := h
    rfl
  · obtain ⟨l, v, fs, bs, ws, rfl, hl, ok, hv, PO, hT, k⟩ := h
    have hT1 := hT T1 (by simp)
    have hT2 := hT T2 (by simp)
    have hT3 := hT T3 (by simp)
    have hT4 := hT T4 (by simp)
    have hr6 := hr.mono (j := 6) (by decide)
    have hr4 := hr.mono (j := 4) (by decide)
    have hr1 := hr.mono (j := 1) (by decide)
    refine ⟨_, pss_cons (ps_if (PW.pt (pw_or (pt_cmpR op_neTy (pe_callTy call_type1 rfl B.type (by decide +kernel) (pa_cons (pv 1) pa_nil)) (pe_bltn rfl B.tuple (by decide +kernel) (v := .ty "tuple") rfl) (nomark _))
        (pw_or1 (pt_cmpR op_eq (pe_callB call_len (by rfl) B.len PySem.boot_len (pa_cons (pv 1) pa_nil)) pe_int (nomark _))))) pss_never pss_nil)
      (pss_cons (ps_set (i := 2) sc_fault_of_plan.nd rfl (Or.inl rfl) (pe_cal c3 hr1 rfl (pa_cons (pv 0) pa_nil)))
      (pss_cons (ps_set (i := 3) sc_fault_of_plan.nd rfl (Or.inl rfl) pe_int)
      (pss_cons (ps_for PassesOwn.never rfl (pi_range1 rfl B.range (pa_cons (pe_callB call_len (by rfl) B.len PySem.boot_len (pa_cons (pv 1) pa_nil)) pa_nil)) (pg_name (i := 4) sc_fault_of_plan.nd rfl (Or.inl rfl))
        (pss_cons (ps_if (pt_not (pt_val (pe_cal c1 hr6 rfl (pa_cons (pv 0) (pa_cons (pe_ix ix_tup (pv 1) (pv 4) (fun _ _ => rfl)) pa_nil))) (by intro _; rfl))) pss_never pss_nil)
        (pss_cons (ps_set (i := 5) sc_fault_of_plan.nd rfl (Or.inl rfl) (pe_cal c2 hr4 rfl (pa_cons (pe_ix ix_tup (pv 1) (pv 4) (fun _ _ => rfl)) pa_nil)))
        (pss_cons (ps_if (PW.pt (pw_or (pt_truth (pe_op op_and (pv 5) (pv 3)) (by intro _; rfl)) (pw_or1 (pt_not (pt_val (pe_cal c4 hr rfl (pa_cons (pv 2) (pa_cons (pv 5) pa_nil))) (by intro _; rfl)))))) pss_never pss_nil)
        (pss_cons (ps_if (PW.pt (pw_and (pt_cmpR op_gt (pv 4) pe_int (nomark _)) (pw_and1 (pt_cmpR (op_leT hr.units0) (pe_ix ix_tup (pv 1) (pv 4) (fun _ _ => rfl)) (pe_ix ix_tup (pv 1) (pe_op op_sub (pv 4) pe_int) (fun _ _ => rfl)) (nomark _))))) pss_never pss_nil)
        (pss_one (ps_aug (i := 3) sc_fault_of_plan.nd rfl (Or.inl rfl) (pv 5) iop_or)))))))
      (pss_cons (ps_if (pt_cmpR op_ne (pv 3) (pe_cal c5 hr1 rfl (pa_cons (pv 0) pa_nil)) (nomark _)) pss_never pss_nil)
      (pss_one (ps_ret pe_non)))))), ?_⟩
    obtain ⟨a, xs, rfl, h1, h2⟩ := dp_tup hv
    have hlen := dpAll_len h2
    rw [List.length_map] at hlen
    have hfew := PO.w.few
    have h12 := ok.most
    have hpos : 0 < ws.length := List.length_pos_iff.mpr PO.ne
    refine ⟨_, rfl, _, "tuple", rfl, .tup h1, "tuple", "tuple", rfl, rfl, by decide, by decide, false, rfl, ?_⟩
    refine iteF ⟨_, rfl, _, xs.length, rfl, .inr ⟨_, h1, rfl⟩, rfl, _, rfl, ?_⟩
    rw [decide_eq_false (fun z => by have := V.int.inj z; omega)]
    refine iteF ?_
    refine ⟨_, rfl, l, fs, bs, rfl, hl, h12, ok.bord, fun q H2 lk x2 hq0 hq L => ?_⟩
    refine ⟨_, rfl, _, xs.length, rfl, .inr ⟨_, x2.sqT h1, rfl⟩, _, rfl, by omega, by omega, for_range (lo := 0) (n := (xs.length : Int).toNat) (fun i σ H3 => ∃ (T : Nat) (o4 o5 : Option V), σ = [some l, some (.ref a), some (.ref q), some (.int (T : Int)), o4, o5] ∧ Ext H2 H3 ∧ ∀ x, T.testBit x = true ↔ ∃ j u, j < i ∧ ws[j]? = some u ∧ x ∈ u)
      ⟨0, _, _, rfl, .refl _, fun x => ⟨fun h => by simp at h, fun ⟨j, u, hj, _⟩ => by omega⟩⟩ ?_ ?_⟩
    · rintro i σ H3 hi ⟨T, o4, o5, rfl, x3, hTb⟩
      rw [Int.toNat_natCast] at hi
      rw [Int.zero_add]
      have hiw : i < ws.length := by omega
      have hw := List.getElem?_eq_getElem hiw
      have hmem := List.getElem_mem hiw
      have lo := PO.w.lots _ hmem
      have hlw := lo.len
      obtain ⟨wv, hwv, hdw⟩ := dpAll_get h2 (i := i) (d := lotD ws[i]) (by rw [List.getElem?_map, hw]; rfl)
      have x23 := x2.trans x3
      refine ⟨_, rfl, _, rfl, _, rfl, a, _, _, _, rfl, rfl, x23.sqT h1, atI_nat hwv, l, wv, fs, _, ws[i], rfl, dp_ext x23 hl, by omega, dp_ext x23 hdw, by omega, x23.tabs _ hT1, x23.tabs _ hT2, fun H4 x4 => ⟨true, by rw [lo.is], iteF ?_⟩⟩
      have x24 := x23.trans x4
      refine ⟨_, rfl, _, rfl, a, _, _, _, rfl, rfl, x24.sqT h1, atI_nat hwv, wv, ws[i], rfl, dp_ext x24 hdw, fun p hp => by have := lo.lt p hp; omega, x24.tabs _ hT3, fun H5 x5 => ?_⟩
      have x25 := x24.trans x5
      have hbit := Mk.bit_mask lo.asc
      have hdis : Mk.mask ws[i] &&& T = 0 := Mk.eq_of_bits fun x => by
        rw [Nat.testBit_and, Bool.and_eq_true, hbit, decide_eq_true_eq, hTb, Nat.zero_testBit]
        constructor
        · rintro ⟨hx, j, u, hj, hu, hxu⟩
          have := PO.w.apart i j x x _ u hw hu hx hxu rfl
          omega
        · intro z; cases z
      have hand : Builtin.bitAnd ((Mk.mask ws[i] : Nat) : Int) (T : Int) = 0 := by rw [and_pp, hdis]; rfl
      dsimp only [gName, List.set, tSeq]
      -- ward & taken, hangs_together
      obtain ⟨lh, hlh, hlh1⟩ := PO.hang _ hmem
      have hq5 := ((x3.trans x4).trans x5).lst hq
      refine ⟨_, rfl, _, rfl, _, _, rfl, rfl, false, (by show TruV K (V.int (Builtin.bitAnd ((Mk.mask ws[i] : Nat) : Int) (T : Int))) H5 false; rw [hand]; rfl), ?_⟩
      refine iteF ?_
      refine ⟨_, rfl, _, rfl, q, lk, fs.length, Mk.mask ws[i], bs, rfl, hq5, L, ok.bord, h12, Mk.mask_lt lo.asc lo.lt, mask_pos lo.asc lo.ne, x25.tabs _ hT4, fun b H6 x6 hb => ?_⟩
      have eb := hb lh hlh
      rw [decide_eq_true hlh1] at eb
      subst eb
      have x26 := x25.trans x6
      refine ⟨true, rfl, iteF ?_⟩
      -- the sequence of the wards
      have fin : ∀ H7, Ext H6 H7 → ∃ (T2 : Nat) (u4 u5 : Option V), ([some l, some (.ref a), some (.ref q), some (.int ((T ||| Mk.mask ws[i] : Nat) : Int)), some (.int (i : Int)), some (.int ((Mk.mask ws[i] : Nat) : Int))] : L2.St) = [some l, some (.ref a), some (.ref q), some (.int (T2 : Int)), u4, u5] ∧ Ext H2 H7 ∧ ∀ x, T2.testBit x = true ↔ ∃ j u, j < i + 1 ∧ ws[j]? = some u ∧ x ∈ u := fun H7 x7 => by
        refine ⟨T ||| Mk.mask ws[i], _, _, rfl, ((x3.trans x4).trans (x5.trans x6)).trans x7, fun x => ?_⟩
        rw [Nat.testBit_or, Bool.or_eq_true, hTb, hbit, decide_eq_true_eq]
        constructor
        · rintro (⟨j, u, hj, hu, hx⟩ | hx)
          · exact ⟨j, u, by omega, hu, hx⟩
          · exact ⟨i, _, by omega, hw, hx⟩
        · rintro ⟨j, u, hj, hu, hx⟩
          by_cases z : j = i
          · subst z
            rw [hw] at hu
            cases hu
            exact .inr hx
          · exact .inl ⟨j, u, by omega, hu, hx⟩
      refine ⟨_, rfl, _, _, rfl, rfl, decide (0 < i), ?_, ?_⟩
      · show V.bl (decide ((0 : Int) < (i : Int))) = _
        congr 1
        apply decide_eq_decide.mpr
        omega
      by_cases hi0 : 0 < i
      · rw [decide_eq_true hi0]
        refine iteT ?_
        have hiw2 : i - 1 < ws.length := by omega
        have hw2 := List.getElem?_eq_getElem hiw2
        have lo2 := PO.w.lots _ (List.getElem_mem hiw2)
        obtain ⟨wv2, hwv2, hdw2⟩ := dpAll_get h2 (i := i - 1) (d := lotD ws[i - 1]) (by rw [List.getElem?_map, hw2]; rfl)
        obtain ⟨aw, rfl, hsw⟩ := dp_lot hdw
        obtain ⟨aw2, rfl, hsw2⟩ := dp_lot hdw2
        have hlt := List.pairwise_iff_getElem.mp PO.asc (i - 1) i hiw2 hiw (by omega)
        have ecast : ∀ u : List Nat, (u.map fun (p : Nat) => V.int (p : Int)) = (u.map fun (p : Nat) => (p : Int)).map V.int := fun u => by rw [List.map_map]; rfl
        have e1 : (i : Int) - 1 = ((i - 1 : Nat) : Int) := by omega
        refine ⟨_, rfl, _, rfl, a, _, _, _, rfl, rfl, x26.sqT h1, atI_nat hwv, _, rfl, _, rfl, _, _, rfl, rfl, a, _, _, _, rfl, rfl, x26.sqT h1, by rw [e1]; exact atI_nat hwv2, aw, aw2, ws[i].map fun (p : Nat) => (p : Int), ws[i - 1].map fun (p : Nat) => (p : Int), rfl, rfl, by rw [← ecast]; exact x26.sqT hsw, by rw [← ecast]; exact x26.sqT hsw2, false, ?_, iteF ?_⟩
        · congr 1
          exact lexN_false lo.ne lo2.ne hlt
        · refine ⟨_, rfl, _, rfl, _, _, rfl, rfl, ?_⟩
          dsimp only [List.set]
          rw [or_pp]
          exact fin H6 (.refl _)
      · rw [decide_eq_false hi0]
        refine iteF (iteF ?_)
        refine ⟨_, rfl, _, rfl, _, _, rfl, rfl, ?_⟩
        dsimp only [List.set]
        rw [or_pp]
        exact fin H6 (.refl _)
    · rintro σ H3 ⟨T, o4, o5, rfl, x3, hTb⟩
      rw [Int.toNat_natCast] at hTb
      have x23 := x2.trans x3
      refine ⟨_, rfl, _, rfl, l, fs, _, rfl, dp_ext x23 hl, h12, rfl, _, rfl, ?_⟩
      have hT9 : T = 2 ^ fs.length - 1 := Mk.eq_of_bits fun x => by
        rw [hTb, Nat.testBit_two_pow_sub_one, decide_eq_true_eq]
        constructor
        · rintro ⟨j, u, _, hu, hx⟩
          exact (PO.w.lots u (List.mem_of_getElem? hu)).lt x hx
        · intro hx
          obtain ⟨u, hu, hxu⟩ := PO.all x hx
          obtain ⟨j, hj, e⟩ := List.getElem_of_mem hu
          exact ⟨j, u, by omega, by rw [List.getElem?_eq_getElem hj, e], hxu⟩
      have e2 : (!decide (V.int (T : Int) = V.int ((2 ^ fs.length - 1 : Nat) : Int))) = false := by rw [hT9]; simp
      rw [e2]
      exact iteF (k H3 x23)
/-! ### check_plan -/
theorem sc_check_plan : FnScope ["land", "plan", "index"] ["land", "plan"] (defScope st_check_plan) := ⟨rfl, rfl, rfl, by decide +kernel, rfl, by decide +kernel, by decide +kernel⟩
theorem ok_check_plan {f T1 T2 T3 T4 : Addr} {fd : FuncData} (F : Fun K "check_plan" "check_plan" st_check_plan f fd) (c1 : Cal P w K mg base 9 "fault_of_plan" ["land", "value"] (spFaultPlan K T1 T2 T3 T4)) : FnOk P w K mg base CX0 10 f fd ["land", "plan"] (spFaultPlan K T1 T2 T3 T4) := by
  refine F.ok sc_check_plan (fun vs H Q E h => ?_) (fun cdv A outer s H vs Q E hr h => ?_)
  · obtain ⟨l, v, fs, bs, ws, rfl, _⟩ := h
    rfl
  · obtain ⟨l, v, fs, bs, ws, rfl, hl, ok, hv, PO, hT, k⟩ := h
    refine ⟨_, pss_cons (ps_set (i := 2) sc_check_plan.nd rfl (Or.inl rfl) (pe_cal c1 hr rfl (pa_cons (pv 0) (pa_cons (pv 1) pa_nil))))
      (pss_one (ps_if (pt_cmpR op_notN (pv 2) pe_non (nomark _)) pss_never pss_nil)), ?_⟩
    exact ⟨_, rfl, _, rfl, l, v, fs, bs, ws, rfl, hl, ok, hv, PO, hT, fun H2 x2 => ⟨_, rfl, rfl, false, rfl, iteF (k H2 x2)⟩⟩
end
section
variable {P : Program} {w : World} {K : PySem.W.Frag} {mg : Str → Option Value} {base : Heap}
/-! ### a drawn plan -/
theorem bit_r {r : List Nat} (h : r.Pairwise (· < ·)) (x : Nat) : (Mk.mask r).testBit x = true ↔ x ∈ r := by
  rw [Mk.bit_mask h, decide_eq_true_eq]
theorem planOk_of {n : Nat} {bs ks : List (Nat × Nat)} {rs : List (List Nat)} (hn : n ≤ 12) (hn0 : 0 < n) (hk : ∀ b ∈ ks, b ∈ bs) (hg : ∀ r ∈ rs, r.Pairwise (· < ·) ∧ ∀ x ∈ r, x ∈ List.range n) (hl : rs.length ≤ n) (hp : Mk.Pcs ks (Mk.mask (List.range n)) (rs.map Mk.mask)) : PlanOk n bs rs := by
  have D := hp.parted
  have hne : ∀ r ∈ rs, r ≠ [] := fun r hr e => by
    obtain ⟨x, hx, _⟩ := D.one _ (List.mem_map.mpr ⟨r, hr, rfl⟩)
    rw [bit_r (hg r hr).1, e] at hx
    cases hx
  have hlots : ∀ r ∈ rs, LotOk n r := fun r hr => ⟨hne r hr, fun p hp => List.mem_range.mp ((hg r hr).2 p hp), (hg r hr).1⟩
  have hap : ∀ i j (hi : i < rs.length) (hj : j < rs.length), i < j → ∀ x, x ∈ rs[i] → x ∈ rs[j] → False := fun i j hi hj hij x h1 h2 => by
    have hpw := List.pairwise_iff_getElem.mp D.apart i j (by rw [List.length_map]; exact hi) (by rw [List.length_map]; exact hj) hij
    rw [List.getElem_map, List.getElem_map] at hpw
    exact hpw x ((bit_r (hg _ (List.getElem_mem hi)).1 x).mpr h1) ((bit_r (hg _ (List.getElem_mem hj)).1 x).mpr h2)
  refine ⟨⟨by omega, hlots, hn, fun i j a b u v hu hv ha hb e => ?_⟩, fun e => ?_, fun u hu => ?_, ?_, fun p hp => ?_⟩
  · subst e
    obtain ⟨hi, rfl⟩ := List.getElem?_eq_some_iff.mp hu
    obtain ⟨hj, rfl⟩ := List.getElem?_eq_some_iff.mp hv
    rcases Nat.lt_trichotomy i j with z | z | z
    · exact (hap i j hi hj z a ha hb).elim
    · exact z
    · exact (hap j i hj hi z a hb ha).elim
  · obtain ⟨q, hq, _⟩ := (D.all 0).mp ((bit_r List.pairwise_lt_range 0).mpr (List.mem_range.mpr hn0))
    rw [e] at hq
    cases hq
  · obtain ⟨x, hx, hc⟩ := D.one _ (List.mem_map.mpr ⟨u, hu, rfl⟩)
    have ha := (hg u hu).1
    rw [bit_r ha] at hx
    refine ⟨_, Mk.pcs_one ha hx fun y hy => ?_, rfl⟩
    exact ((hc y ((bit_r ha y).mpr hy)).more hk).mono fun z hz => (bit_r ha z).mp hz
  · rw [List.pairwise_iff_getElem]
    intro i j hi hj hij
    have hpw := List.pairwise_iff_getElem.mp D.asc i j (by rw [List.length_map]; exact hi) (by rw [List.length_map]; exact hj) hij
    rw [List.getElem_map, List.getElem_map] at hpw
    obtain ⟨x, hx, hlt⟩ := hpw
    have a1 := (hg _ (List.getElem_mem hi)).1
    have a2 := (hg _ (List.getElem_mem hj)).1
    have n2 := hne _ (List.getElem_mem hj)
    rw [bit_r a1] at hx
    generalize rs[i] = u at *
    generalize rs[j] = v at *
    cases u with
    | nil => cases hx
    | cons p r =>
      cases v with
      | nil => exact absurd rfl n2
      | cons q s =>
        show p < q
        have h1 := hlt q ((bit_r a2 q).mpr List.mem_cons_self)
        rcases List.mem_cons.mp hx with e | e
        · omega
        · have := List.rel_of_pairwise_cons a1 e
          omega
  · obtain ⟨q, hq, hx⟩ := (D.all p).mp ((bit_r List.pairwise_lt_range p).mpr (List.mem_range.mpr hp))
    obtain ⟨r, hr, rfl⟩ := List.mem_map.mp hq
    exact ⟨r, hr, (bit_r (hg r hr).1 p).mp hx⟩
def spLPlan (K : PySem.W.Frag) : Sp := fun vs H Q _ => ∃ (sp gr : Addr) (l : V) (fs : List Int) (bs : List (Nat × Nat)), vs = [.ref sp, l] ∧ SpAt H sp gr ∧ Dp K H l (landD fs bs) ∧ LandOk fs bs ∧
  ∀ q (ws : List (List Nat)) H', ExtS [sp, gr] H H' → SpAt H' sp gr → H q = none → Dp K H' (.ref q) (planD ws) → PlanOk fs.length bs ws → Q (.ref q) H'
theorem sc_law_plan : FnScope ["spring", "land", "rarely", "kept", "border"] ["spring", "land"] (defScope st__law_plan) := ⟨rfl, rfl, rfl, by decide +kernel, rfl, by decide +kernel, by decide +kernel⟩
theorem ok_law_plan {f : Addr} {fd : FuncData} (F : Fun K "_law_plan" "_law_plan" st__law_plan f fd) (B : Bl mg) (c1 : Cal P w K mg base 1 "_law_drop" ["spring", "many"] (spDrop K)) (c2 : Cal P w K mg base 3 "_law_pieces" ["land", "lot"] (spLPieces K)) : FnOk P w K mg base CX0 4 f fd ["spring", "land"] (spLPlan K) := by
  refine F.ok sc_law_plan (fun vs H Q E h => ?_) (fun cdv A outer s H vs Q E hr h => ?_)
  · obtain ⟨sp, gr, l, fs, bs, rfl, _⟩ := h
    rfl
  · obtain ⟨sp, gr, l, fs, bs, rfl, S, hl, ok, k⟩ := h
    have hr1 := hr.mono (j := 1) (by decide)
    refine ⟨_, pss_cons (ps_set (i := 2) sc_law_plan.nd rfl (Or.inr rfl) (pe_op op_add pe_int (pe_cal c1 hr1 rfl (pa_cons (pv 0) (pa_cons pe_int pa_nil)))))
      (pss_cons (ps_set (i := 3) sc_law_plan.nd rfl (Or.inl rfl) (pe_tupleOf rfl B.tuple (pe_lc (own := [("border", 4)]) (g := gName 4) (by rfl) sc_law_plan.nd (pi_tup (pe_ix ix_tup (pv 1) pe_int (fun _ _ => rfl)))
          (blkOk_by (own := [("border", 4)]) (N := ["spring", "land", "rarely", "kept", "border"]) (sc := defScope st__law_plan) (by decide +kernel)) (fun _ _ _ _ _ => pg_name (i := 4) sc_law_plan.nd rfl (Or.inl rfl))
          (fun _ _ _ _ _ => pts_one (pt_cmpR op_gt (pe_cal c1 hr1 rfl (pa_cons (pv 0) (pa_cons (pe_op op_add (pv 2) pe_int) pa_nil))) pe_int (nomark _))) (fun _ _ _ _ _ => pv 4))))
      (pss_one (ps_ret (pe_cal c2 hr rfl (pa_cons (pe_tup (pa_cons (pe_ix ix_tup (pv 1) pe_int (fun _ _ => rfl)) (pa_cons (pv 3) pa_nil))) (pa_cons (pe_tupRg rfl rfl B.tuple (prg_1 rfl B.range (pe_callB call_len (by rfl) B.len PySem.boot_len (pa_cons (pe_ix ix_tup (pv 1) pe_int (fun _ _ => rfl)) pa_nil)))) pa_nil)))))), ?_⟩
    obtain ⟨a, af, vb, rfl, h1, h2, h3⟩ := dp_land hl
    obtain ⟨ab, xs, rfl, h4, h5⟩ := dp_tup h3
    have hxl := dpAll_len h5
    rw [List.length_map] at hxl
    have hbl := bs_len ok.most ok.bord ok.asc
    refine ⟨_, rfl, sp, gr, 4, rfl, S, by decide, by decide, fun ra H1 hra x1 S1 => ⟨_, _, rfl, rfl, ?_⟩⟩
    dsimp only [gName, tSeq, List.set, L2.start, List.map, List.length, List.replicate, List.append]
    rw [show (1 : Int) + (ra : Int) = ((1 + ra : Nat) : Int) from by omega]
    have hrr : 1 + ra ≤ 10 := by omega
    generalize 1 + ra = rr at hrr ⊢
    refine ⟨_, rfl, a, _, _, _, rfl, rfl, x1.sqT h1, atI_nat (j := 1) rfl, ab, rfl, ⟨_, x1.sqT h4⟩, fun D hD => ?_⟩
    have hDn := S1.notin hD
    refine lc_tup (K := K) (a := ab) (xs := xs) (fun i H2 => ∃ (as : List V) (ks : List (Nat × Nat)), H2 D = some (.lst as) ∧ as.length ≤ i ∧ DpAll K H2 as (ks.map fun (b : Nat × Nat) => .tuple [.int (b.1 : Int), .int (b.2 : Int)]) ∧ (∀ b ∈ ks, b ∈ bs) ∧ SpAt H2 sp gr ∧ ExtS [sp, gr] H H2)
      ⟨[], [], upd_same, Nat.le_refl _, .nil, (fun b hb => by cases hb), S1.ext (.new hD), x1.trans (.new hD)⟩ (fun i H2 _ ⟨_, _, _, _, _, _, _, x2⟩ => x2.sqT h4) (fun i y H2 hy ⟨as, ks, e2, hal, hda, hks, S2, x2⟩ => ?_) (fun H2 ⟨as, ks, e2, hal, hda, hks, S2, x2⟩ => ?_)
    · have hi : i < bs.length := by
        have := (List.getElem?_eq_some_iff.mp hy).1
        omega
      obtain ⟨dy, hdy, hpy⟩ := dpAll_get' h5 hy
      rw [List.getElem?_map, List.getElem?_eq_getElem hi] at hdy
      have hdy := (Option.some.inj hdy).symm
      subst hdy
      have e3 : (rr : Int) + 1 = ((rr + 1 : Nat) : Int) := by omega
      refine ⟨rfl, _, rfl, _, rfl, _, _, rfl, rfl, sp, gr, rr + 1, by show [V.ref sp, V.int ((rr : Int) + 1)] = _; rw [e3], S2, by omega, by omega, fun z H3 hz x3 S3 => ⟨_, _, rfl, rfl, _, rfl, ?_⟩⟩
      have nl : noLs (ks.map fun (b : Nat × Nat) => PyData.tuple [.int (b.1 : Int), .int (b.2 : Int)]) = true := noLs_map _ (fun _ => rfl) ks
      have hda3 := dpAll_extS x3 nl hda
      have e23 := x3.lst hDn e2
      refine ite2 (fun _ => ?_) (fun _ => ⟨as, ks, e23, by omega, hda3, hks, S3, x2.trans x3⟩)
      have x4 : ExtS [D] H3 (upd H3 D (.lst (as ++ [y]))) := (ExtS.refl [D] H3).write (.inr ⟨by simp, _, e23⟩)
      refine ⟨_, rfl, as, e23, small1000 (by omega), as ++ [y], ks ++ [bs[i]], upd_same, by rw [List.length_append]; exact Nat.add_le_add_right hal 1, ?_, fun b hb => ?_, S3.upd (fun z => hDn (by simp [z])) (fun z => hDn (by simp [z])), (x2.trans x3).write (.inl (x1.free hD))⟩
      · rw [List.map_append]
        refine dpAll_app (dpAll_extS x4 nl hda3) (.cons (dp_extS x4 rfl (dp_extS (x2.trans x3) rfl hpy)) .nil)
      · rcases List.mem_append.mp hb with e | e
        · exact hks b e
        · rw [List.mem_singleton.mp e]
          exact List.getElem_mem hi
    · refine .inl ⟨D, _, rfl, SqL.of e2, fun q hq => ?_⟩
      have x3 : ExtS [sp, gr] H (upd H2 q (.tup as)) := x2.trans (.new hq)
      have S3 : SpAt (upd H2 q (.tup as)) sp gr := S2.ext (.new hq)
      have hkd : Dp K (upd H2 q (.tup as)) (.ref q) (bordD ks) := dp_new hq hda
      have hqf := x2.free hq
      generalize upd H2 q (.tup as) = H3 at x3 S3 hkd ⊢
      refine ⟨_, rfl, a, _, _, _, rfl, rfl, x3.sqT h1, atI_nat (j := 0) rfl, _, rfl, by show 2 ≤ sizeLine; decide, fun t ht => ?_⟩
      have x4 : ExtS [sp, gr] H (upd H3 t (.tup [.ref af, .ref q])) := x3.trans (.new ht)
      have hland : Dp K (upd H3 t (.tup [.ref af, .ref q])) (.ref t) (landD fs ks) := dp_new ht (.cons (.tup (x3.sqT h2) (dpAll_of_ints fs)) (.cons hkd .nil))
      have S4 : SpAt (upd H3 t (.tup [.ref af, .ref q])) sp gr := S3.ext (.new ht)
      generalize upd H3 t (.tup [.ref af, .ref q]) = H4 at x4 hland S4 ⊢
      refine ⟨_, rfl, a, _, _, _, rfl, rfl, x4.sqT h1, atI_nat (j := 0) rfl, _, fs.length, rfl, .inr ⟨_, x4.sqT h2, by simp⟩, _, rfl, ⟨by decide, by decide, by have := ok.most; omega, by have := ok.most; omega, by have := ok.most; omega⟩, fun r hr0 => ?_⟩
      rw [rgV_nat]
      have x5 : Ext H4 (upd H4 r (.tup (vsN (List.range fs.length)))) := .new hr0
      refine ⟨.ref t, r, fs, ks, List.range fs.length, rfl, dp_ext x5 hland, ok.most, fun b hb => ok.bord b (hks b hb), SqT.of upd_same, fun x hx => List.mem_range.mp hx, List.pairwise_lt_range, fun q2 H6 rs x6 hq20 hrs hgood hrl hpcs => ?_⟩
      have x7 := (x4.trans (.of x5)).trans (ExtS.of x6)
      rw [List.length_range] at hrl
      exact k q2 rs H6 x7 ((S4.ext x5).ext x6) ((x4.trans (.of x5)).free hq20) hrs (planOk_of ok.most (by have := ok.few; omega) hks hgood hrl hpcs)
end
end Wd

set_option Elab.async false
set_option linter.all false
set_option maxRecDepth 100000
set_option maxHeartbeats 4000000
namespace Wd
open PySem PySem.Spec PyProof.Rows L2 Bx Gx













































section
variable {P : Program} {w : World} {K : PySem.W.Frag} {mg : Str → Option Value} {base : Heap}
/-! ### folk_of, cut_borders, ward_of -/
def ownOf (ws : List (List Nat)) (p : Nat) : Nat := ws.findIdx fun u => decide (p ∈ u)
theorem own_get {n : Nat} {bs : List (Nat × Nat)} {ws : List (List Nat)} (PO : PlanOk n bs ws) {p : Nat} (hp : p < n) : ∃ u, ws[ownOf ws p]? = some u ∧ p ∈ u := by
  obtain ⟨u, hu, hpu⟩ := PO.all p hp
  have h1 : ownOf ws p < ws.length := List.findIdx_lt_length_of_exists ⟨u, hu, decide_eq_true hpu⟩
  refine ⟨ws[ownOf ws p], List.getElem?_eq_getElem h1, ?_⟩
  have := List.findIdx_getElem (xs := ws) (p := fun u => decide (p ∈ u)) (w := h1)
  exact of_decide_eq_true this
theorem row_own {n : Nat} {bs : List (Nat × Nat)} {ws : List (List Nat)} (PO : PlanOk n bs ws) {kvs : List (L2.Key × V)} (R : RowOf ws kvs) (p : Nat) (hp : p < n) : valV kvs (Sum.inl (p : Int) : L2.Key) = some (.int (ownOf ws p : Int)) := by
  obtain ⟨u, h1, h2⟩ := own_get PO hp
  exact R _ u p h1 h2
def spFolkOf (K : PySem.W.Frag) (T1 T2 T5 : Addr) : Sp := fun vs H Q _ => ∃ (l v : V) (fs : List Int) (bs : List (Nat × Nat)) (ps : List Nat), vs = [l, v] ∧ Dp K H l (landD fs bs) ∧ LandOk fs bs ∧ Dp K H v (lotD ps) ∧ LotOk fs.length ps ∧ Tabs [T1, T2, T5] H ∧ ∀ H', Ext H H' → Q (.int (folkOf fs ps)) H'
def spCutB (K : PySem.W.Frag) (T1 T2 T3 T4 T6 : Addr) : Sp := fun vs H Q _ => ∃ (l v : V) (fs : List Int) (bs : List (Nat × Nat)) (ws : List (List Nat)), vs = [l, v] ∧ Dp K H l (landD fs bs) ∧ LandOk fs bs ∧ Dp K H v (planD ws) ∧ PlanOk fs.length bs ws ∧ Tabs [T1, T2, T3, T4, T6] H ∧
  ∀ q H', Ext H H' → H q = none → Dp K H' (.ref q) (bordD (bs.filter fun b => decide (ownOf ws b.1 ≠ ownOf ws b.2))) → Q (.ref q) H'
theorem tabs4 {T1 T2 T3 T4 T6 : Addr} {H : Hp} (t : Tabs [T1, T2, T3, T4, T6] H) : Tabs [T1, T2, T3, T4] H := fun Pt hPt => t Pt (by
  simp only [List.mem_cons, List.mem_nil_iff, or_false] at hPt ⊢
  rcases hPt with e | e | e | e <;> simp [e])
def spWardOf (K : PySem.W.Frag) (T1 T2 T3 T4 : Addr) : Sp := fun vs H Q _ => ∃ (l v : V) (fs : List Int) (bs : List (Nat × Nat)) (ws : List (List Nat)) (p : Nat), vs = [l, v, .int (p : Int)] ∧ Dp K H l (landD fs bs) ∧ LandOk fs bs ∧ Dp K H v (planD ws) ∧ PlanOk fs.length bs ws ∧ p < fs.length ∧ Tabs [T1, T2, T3, T4] H ∧
  ∀ H', Ext H H' → Q (.int (ownOf ws p : Int)) H'
/-! ### spread -/
def sizesOf (fs : List Int) (ws : List (List Nat)) : List Int := ws.map (folkOf fs)
def spSpread (K : PySem.W.Frag) (T1 T2 T3 T4 T5 : Addr) : Sp := fun vs H Q _ => ∃ (l v : V) (fs : List Int) (bs : List (Nat × Nat)) (ws : List (List Nat)), vs = [l, v] ∧ Dp K H l (landD fs bs) ∧ LandOk fs bs ∧ Dp K H v (planD ws) ∧ PlanOk fs.length bs ws ∧ Tabs [T1, T2, T3, T4, T5] H ∧
  ∀ (m1 m2 : Int) H', Ext H H' → m1 ∈ sizesOf fs ws → (∀ x ∈ sizesOf fs ws, x ≤ m1) → m2 ∈ sizesOf fs ws → (∀ x ∈ sizesOf fs ws, m2 ≤ x) → Q (.int (m1 - m2)) H'
end
section
variable {P : Program} {w : World} {K : PySem.W.Frag} {mg : Str → Option Value} {base : Heap}
/-! ### the ward of each place -/
theorem noL_lot (l : List Nat) : noL (lotD l) = true := noLs_map _ (fun _ => rfl) l
theorem noL_plan (ws : List (List Nat)) : noL (planD ws) = true := noLs_map _ noL_lot ws
def ones (n : Nat) : List (List Nat) := (List.range n).map fun p => [p]
theorem ones_get {n i : Nat} {u : List Nat} (h : (ones n)[i]? = some u) : i < n ∧ u = [i] := by
  have hi : i < n := by
    have := (List.getElem?_eq_some_iff.mp h).1
    rwa [ones, List.length_map, List.length_range] at this
  rw [ones, List.getElem?_map, List.getElem?_eq_getElem (by rw [List.length_range]; exact hi), List.getElem_range] at h
  exact ⟨hi, (Option.some.inj h).symm⟩
theorem ones_mem {n : Nat} {u : List Nat} (h : u ∈ ones n) : ∃ p, p < n ∧ u = [p] := by
  obtain ⟨p, hp, rfl⟩ := List.mem_map.mp h
  exact ⟨p, List.mem_range.mp hp, rfl⟩
theorem ones_ok {n : Nat} (bs : List (Nat × Nat)) (h0 : 0 < n) (hn : n ≤ 12) : PlanOk n bs (ones n) := by
  refine ⟨⟨by rw [ones, List.length_map, List.length_range]; exact hn, fun u hu => ?_, hn, fun i j a b u v hu hv ha hb e => ?_⟩, fun e => ?_, fun u hu => ?_, ?_, fun p hp => ⟨[p], List.mem_map.mpr ⟨p, List.mem_range.mpr hp, rfl⟩, by simp⟩⟩
  · obtain ⟨p, hp, rfl⟩ := ones_mem hu
    exact ⟨(fun z => nomatch z), fun x hx => by rw [List.mem_singleton.mp hx]; exact hp, List.pairwise_singleton _ _⟩
  · obtain ⟨_, rfl⟩ := ones_get hu
    obtain ⟨_, rfl⟩ := ones_get hv
    rw [← List.mem_singleton.mp ha, ← List.mem_singleton.mp hb]
    exact e
  · have := congrArg List.length e
    rw [ones, List.length_map, List.length_range, List.length_nil] at this
    omega
  · obtain ⟨p, hp, rfl⟩ := ones_mem hu
    refine ⟨_, Mk.pcs_one (p := p) (List.pairwise_singleton _ _) List.mem_cons_self fun x hx => ?_, rfl⟩
    rw [List.mem_singleton.mp hx]
    exact .refl List.mem_cons_self
  · rw [ones, List.pairwise_map]
    exact List.pairwise_lt_range
def ownL (n : Nat) (ws : List (List Nat)) : List Nat := (List.range n).map (ownOf ws)
theorem ownL_get {n p : Nat} (ws : List (List Nat)) (hp : p < n) : (vsN (ownL n ws))[p]? = some (.int (ownOf ws p : Int)) := by
  have hl : p < (ownL n ws).length := by rw [ownL, List.length_map, List.length_range]; exact hp
  rw [vsN_at hl]
  simp [ownL]
theorem own_first {n p : Nat} {bs : List (Nat × Nat)} {ws : List (List Nat)} (PO : PlanOk n bs ws) (hp : p < n) : (vsN ((List.range ws.length).filter fun k => decide (p ∈ ws.getD k [])))[0]? = some (.int (ownOf ws p : Int)) := by
  obtain ⟨u, h1, h2⟩ := own_get PO hp
  have hlt := (List.getElem?_eq_some_iff.mp h1).1
  have hm : ownOf ws p ∈ (List.range ws.length).filter fun k => decide (p ∈ ws.getD k []) := by
    rw [List.mem_filter, List.mem_range, decide_eq_true_eq, List.getD_eq_getElem?_getD, h1]
    exact ⟨hlt, h2⟩
  cases e : (List.range ws.length).filter fun k => decide (p ∈ ws.getD k []) with
  | nil => rw [e] at hm; cases hm
  | cons q r =>
    have hq : q ∈ (List.range ws.length).filter fun k => decide (p ∈ ws.getD k []) := by rw [e]; exact List.mem_cons_self
    rw [List.mem_filter, List.mem_range, decide_eq_true_eq, List.getD_eq_getElem?_getD, List.getElem?_eq_getElem (by simpa using (List.mem_filter.mp (by rw [e]; exact List.mem_cons_self : q ∈ (List.range ws.length).filter fun k => decide (p ∈ ws.getD k []))).1)] at hq
    have := PO.w.apart q (ownOf ws p) p p _ u (List.getElem?_eq_getElem hq.1) h1 hq.2 h2 rfl
    subst this
    rfl
end
section
variable {P : Program} {w : World} {K : PySem.W.Frag} {mg : Str → Option Value} {base : Heap}
open TL
/-! ### pictures by arcs, sign by sign -/
/-- the sign at a place of a border's row -/
def arcC (own : Nat → Nat) (b : Nat × Nat) (at_ : Nat) : Nat := if at_ = 2 * b.1 ∨ at_ = 2 * b.2 then 43 else if 2 * b.1 < at_ ∧ at_ < 2 * b.2 then (if own b.1 = own b.2 then 45 else 61) else 46
def arcL (n : Nat) (own : Nat → Nat) (b : Nat × Nat) : List Nat := (List.range (2 * n - 1)).map (arcC own b)
def arcS (n : Nat) (own : Nat → Nat) (b : Nat × Nat) : Str := ⟨(arcL n own b).toArray⟩
def letS (own : Nat → Nat) (p : Nat) : Str := ⟨#[97 + own p]⟩
def rowS (n : Nat) (own : Nat → Nat) : Str := Str.join " " ((List.range n).map (letS own))
def arcsL (n : Nat) (own : Nat → Nat) (bs : List (Nat × Nat)) : List Str := bs.map (arcS n own) ++ [rowS n own]
theorem flat_one (c : Nat) : ∀ k : Nat, (List.replicate k [c]).flatten = List.replicate k c
  | 0 => rfl
  | k + 1 => by rw [List.replicate_succ, List.flatten_cons, flat_one c k, List.replicate_succ]; rfl
theorem flat_two (c : Nat) : ∀ k : Nat, (List.replicate k [c, c]).flatten = List.replicate (2 * k) c
  | 0 => rfl
  | k + 1 => by
    rw [List.replicate_succ, List.flatten_cons, flat_two c k, show 2 * (k + 1) = 2 * k + 1 + 1 from by omega, List.replicate_succ, List.replicate_succ]
    rfl
theorem arc_eq {n : Nat} {own : Nat → Nat} {b : Nat × Nat} (h1 : b.1 < b.2) (h2 : b.2 < n) :
    List.replicate (2 * b.1) 46 ++ [43] ++ List.replicate (2 * (b.2 - b.1) - 1) (if own b.1 = own b.2 then 45 else 61) ++ [43] ++ List.replicate (2 * (n - 1 - b.2)) 46 = arcL n own b := by
  refine List.ext_getElem? fun i => ?_
  unfold arcL
  rw [List.getElem?_map]
  by_cases hi : i < 2 * n - 1
  · rw [List.getElem?_range hi]
    show _ = some (arcC own b i)
    unfold arcC
    simp only [List.getElem?_append, List.length_append, List.length_replicate, List.length_cons, List.length_nil, List.getElem?_replicate]
    by_cases c1 : i < 2 * b.1
    · have g1 : i < 2 * b.1 + (0 + 1) + (2 * (b.2 - b.1) - 1) + (0 + 1) := by omega
      have g2 : i < 2 * b.1 + (0 + 1) + (2 * (b.2 - b.1) - 1) := by omega
      have g3 : i < 2 * b.1 + (0 + 1) := by omega
      have g4 : ¬ (i = 2 * b.1 ∨ i = 2 * b.2) := by omega
      have g5 : ¬ (2 * b.1 < i ∧ i < 2 * b.2) := by omega
      rw [if_pos g1, if_pos g2, if_pos g3, if_pos c1, if_pos c1, if_neg g4, if_neg g5]
    · by_cases c2 : i = 2 * b.1
      · have g1 : i < 2 * b.1 + (0 + 1) + (2 * (b.2 - b.1) - 1) + (0 + 1) := by omega
        have g2 : i < 2 * b.1 + (0 + 1) + (2 * (b.2 - b.1) - 1) := by omega
        have g3 : i < 2 * b.1 + (0 + 1) := by omega
        have g4 : i - 2 * b.1 = 0 := by omega
        rw [if_pos g1, if_pos g2, if_pos g3, if_neg c1, if_pos (.inl c2), g4]
        rfl
      · by_cases c3 : i < 2 * b.2
        · have g1 : i < 2 * b.1 + (0 + 1) + (2 * (b.2 - b.1) - 1) + (0 + 1) := by omega
          have g2 : i < 2 * b.1 + (0 + 1) + (2 * (b.2 - b.1) - 1) := by omega
          have g3 : ¬ i < 2 * b.1 + (0 + 1) := by omega
          have g4 : ¬ (i = 2 * b.1 ∨ i = 2 * b.2) := by omega
          have g5 : 2 * b.1 < i ∧ i < 2 * b.2 := by omega
          have g6 : i - (2 * b.1 + (0 + 1)) < 2 * (b.2 - b.1) - 1 := by omega
          rw [if_pos g1, if_pos g2, if_neg g3, if_pos g6, if_neg g4, if_pos g5]
        · by_cases c4 : i = 2 * b.2
          · have g1 : i < 2 * b.1 + (0 + 1) + (2 * (b.2 - b.1) - 1) + (0 + 1) := by omega
            have g2 : ¬ i < 2 * b.1 + (0 + 1) + (2 * (b.2 - b.1) - 1) := by omega
            have g4 : i - (2 * b.1 + (0 + 1) + (2 * (b.2 - b.1) - 1)) = 0 := by omega
            rw [if_pos g1, if_neg g2, if_pos (.inr c4), g4]
            rfl
          · have g1 : ¬ i < 2 * b.1 + (0 + 1) + (2 * (b.2 - b.1) - 1) + (0 + 1) := by omega
            have g4 : ¬ (i = 2 * b.1 ∨ i = 2 * b.2) := by omega
            have g5 : ¬ (2 * b.1 < i ∧ i < 2 * b.2) := by omega
            have g6 : i - (2 * b.1 + (0 + 1) + (2 * (b.2 - b.1) - 1) + (0 + 1)) < 2 * (n - 1 - b.2) := by omega
            rw [if_neg g1, if_pos g6, if_neg g4, if_neg g5]
  · have z : (List.range (2 * n - 1))[i]? = none := List.getElem?_eq_none (by rw [List.length_range]; omega)
    rw [z, List.getElem?_eq_none]
    · rfl
    · simp only [List.length_append, List.length_replicate, List.length_cons, List.length_nil]
      omega
theorem tl_arcS (n : Nat) (own : Nat → Nat) (b : Nat × Nat) : tl (arcS n own b) = arcL n own b := rfl
theorem arcL_len (n : Nat) (own : Nat → Nat) (b : Nat × Nat) : (arcL n own b).length = 2 * n - 1 := by rw [arcL, List.length_map, List.length_range]
/-- the letters of the wards -/
structure Lets (mg : Str → Option Value) : Prop where
  ex : ∃ t, mg "LETTERS" = some (.str "abcdefghijkl" t)
theorem let_at {k : Nat} (h : k < 12) : ("abcdefghijkl" : Str).cps.toList[k]? = some (97 + k) := by
  have : ∀ k, k < 12 → ("abcdefghijkl" : Str).cps.toList[k]? = some (97 + k) := by decide +kernel
  exact this k h
theorem own_lt {n p : Nat} {bs : List (Nat × Nat)} {ws : List (List Nat)} (PO : PlanOk n bs ws) (hp : p < n) : ownOf ws p < 12 := by
  obtain ⟨u, h1, _⟩ := own_get PO hp
  have := (List.getElem?_eq_some_iff.mp h1).1
  have := PO.w.few
  omega
theorem dpAll_strs {H : Hp} : ∀ ss : List Str, DpAll K H (ss.map V.str) (ss.map PyData.str)
  | [] => .nil
  | s :: ss => .cons (.str s) (dpAll_strs ss)
theorem join_len {s : Str} : ∀ {ys : List Str} {m : Nat}, (∀ y ∈ ys, y.length ≤ m) → (ys.map (·.length)).sum ≤ ys.length * m
  | [], m, _ => by simp
  | y :: ys, m, h => by
    have h1 := h y List.mem_cons_self
    have h2 := join_len (s := s) (ys := ys) fun z hz => h z (List.mem_cons_of_mem _ hz)
    rw [List.map_cons, List.sum_cons, List.length_cons, Nat.succ_mul]
    omega
end
end Wd

set_option Elab.async false
set_option linter.all false
set_option maxRecDepth 100000
set_option maxHeartbeats 4000000
namespace Wd
open PySem PySem.Spec PyProof.Rows L2 Bx Gx













































section
variable {P : Program} {w : World} {K : PySem.W.Frag} {mg : Str → Option Value} {base : Heap}
open TL
/-! ### the law's own owners and arcs -/
def spOwners (K : PySem.W.Frag) : Sp := fun vs H Q _ => ∃ (l v : V) (fs : List Int) (bs : List (Nat × Nat)) (ws : List (List Nat)), vs = [l, v] ∧ Dp K H l (landD fs bs) ∧ LandOk fs bs ∧ Dp K H v (planD ws) ∧ PlanOk fs.length bs ws ∧
  ∀ q H', Ext H H' → H q = none → H' q = some (.lst (vsN (ownL fs.length ws))) → Q (.ref q) H'
abbrev owN : List Str := ["land", "plan", "place", "k"]
theorem sc_law_owners : FnScope owN ["land", "plan"] (defScope st__law_owners) := ⟨rfl, rfl, rfl, by decide +kernel, rfl, by decide +kernel, by decide +kernel⟩
abbrev scOwn : Scope := { kind := .function, names := [(".0", .local), ("place", .cell), ("range", .globalImplicit), ("len", .globalImplicit), ("plan", .cell)], isGenerator := false, isCoroutine := false, more := [] }
theorem ok_law_owners {f : Addr} {fd : FuncData} (F : Fun K "_law_owners" "_law_owners" st__law_owners f fd) (B : Bl mg) : FnOk P w K mg base CX0 1 f fd ["land", "plan"] (spOwners K) := by
  refine F.ok sc_law_owners (fun vs H Q E h => ?_) (fun cdv A outer s H vs Q E hr h => ?_)
  · obtain ⟨l, v, fs, bs, ws, rfl, _⟩ := h
    rfl
  · obtain ⟨l, v, fs, bs, ws, rfl, hl, ok, hv, po, k⟩ := h
    have nd := sc_law_owners.nd
    refine ⟨_, pss_one (ps_ret (pe_lc (own := [("place", 2)]) (g := gName 2) (by rfl) nd (pi_range1 rfl B.range (pa_cons (pe_callB call_len (by rfl) B.len PySem.boot_len (pa_cons (pe_ix ix_tup (pv 0) pe_int (fun _ _ => rfl)) pa_nil)) pa_nil))
        (blkOk_by (own := [("place", 2)]) (N := owN) (sc := defScope st__law_owners) (by decide +kernel))
        (fun _ _ _ _ _ => pg_name (i := 2) nd rfl (Or.inr rfl)) (fun _ _ _ _ _ => pts_nil)
        (fun _ _ _ _ _ => pe_ix (ix_lstK (K := K) rfl) (pe_lc (own := [("k", 3)]) (g := gName 3) (by rfl) nd (pi_range1 rfl B.range (pa_cons (pe_callB (call_lenK (K := K) rfl) (by rfl) B.len PySem.boot_len (pa_cons (pv 1) pa_nil)) pa_nil))
          (blkOk_by (own := [("k", 3)]) (N := owN) (sc := scOwn) (by decide +kernel)) (fun _ _ _ _ _ => pg_name (i := 3) nd rfl (Or.inl rfl))
          (fun _ _ _ _ _ => pts_one (pt_cmpR (op_inK (K := K) rfl) (pv 2) (pe_ix (ix_tupK (K := K) rfl) (pv 1) (pv 3) (fun _ _ => rfl)) (by rfl))) (fun _ _ _ _ _ => pv 3)) pe_int (fun _ _ => rfl)))), ?_⟩
    have h12 := ok.most
    obtain ⟨a, af, vb, rfl, h1, h2, h3⟩ := dp_land hl
    obtain ⟨ap, xp, rfl, hp1, hp2⟩ := dp_tup hv
    have hxp := dpAll_len hp2
    rw [List.length_map] at hxp
    have hwf := po.w.few
    refine ⟨_, rfl, a, _, _, _, rfl, rfl, h1, atI_nat (j := 0) rfl, _, fs.length, rfl, .inr ⟨_, h2, by simp⟩, _, rfl, by omega, by omega, fun D hD => ?_⟩
    refine lc_range (lo := 0) (n := (fs.length : Int).toNat) (fun u H11 => H11 D = some (.lst (vsN (ownL u ws))) ∧ Ext H H11) ⟨upd_same, .new hD⟩ (fun u H11 hu ⟨e11, x11⟩ => ?_) (fun H11 ⟨e11, x11⟩ => ?_)
    · rw [Int.toNat_natCast] at hu
      rw [Int.zero_add]
      refine ⟨rfl, ?_⟩
      dsimp only [tYes]
      rw [if_pos rfl]
      refine ⟨_, rfl, _, xp.length, rfl, .inr ⟨_, x11.sqT hp1, rfl⟩, _, rfl, by omega, by omega, fun D2 hD2 => ?_⟩
      refine lc_range (lo := 0) (n := (xp.length : Int).toNat) (fun j H12 => H12 D2 = some (.lst (vsN ((List.range j).filter fun k => decide (u ∈ ws.getD k [])))) ∧ Ext H11 H12) ⟨upd_same, .new hD2⟩ (fun j H12 hj ⟨e12, x12⟩ => ?_) fun H12 ⟨e12, x12⟩ => ?_
      · rw [Int.toNat_natCast] at hj
        rw [Int.zero_add]
        have hjw : j < ws.length := by omega
        obtain ⟨vw, hvw, hdw⟩ := dpAll_get hp2 (i := j) (d := lotD ws[j]) (by rw [List.getElem?_map, List.getElem?_eq_getElem hjw]; rfl)
        obtain ⟨aw, rfl, hsw⟩ := dp_lot hdw
        have egd : ws.getD j [] = ws[j] := by rw [List.getD_eq_getElem?_getD, List.getElem?_eq_getElem hjw]; rfl
        have x12' := x11.trans x12
        refine ⟨rfl, _, rfl, _, rfl, _, rfl, ap, _, _, _, rfl, rfl, x12'.sqT hp1, atI_nat hvw, aw, _, rfl, .inr (x12'.sqT hsw), rfl, flat_vsN _, ?_⟩
        have hl12 := List.length_filter_le (fun k => decide (u ∈ ws.getD k [])) (List.range j)
        rw [List.length_range] at hl12
        refine ⟨_, rfl, ?_⟩
        show if (if false = true then !inV _ _ else inV _ _) = true then _ else _
        rw [if_neg Bool.false_ne_true, inV_vsN, List.range_succ, filt_snoc (fun k => decide (u ∈ ws.getD k [])), egd]
        refine ite2 (fun z => ?_) (fun z => ?_)
        · rw [if_pos z]
          refine ⟨_, rfl, _, e12, by rw [vsN_len0]; exact small1000 (by omega), ?_, x12.write hD2⟩
          rw [upd_same]
          show _ = some (HO.lst (List.map _ (_ ++ _)))
          rw [List.map_append]
          rfl
        · rw [if_neg z, List.append_nil]
          exact ⟨e12, x12⟩
      · rw [Int.toNat_natCast, hxp] at e12
        refine ⟨D2, _, 0, _, rfl, rfl, SqL.of e12, atI_nat (j := 0) (own_first po hu), _, x12.lst e11, by rw [vsN_len0, ownL, List.length_map, List.length_range]; exact small1000 (by omega), ?_, (x11.trans x12).write hD⟩
        rw [upd_same, show ownL (u + 1) ws = ownL u ws ++ [ownOf ws u] by rw [ownL, ownL, List.range_succ, List.map_append]; rfl]
        show _ = some (HO.lst (List.map _ (_ ++ _)))
        rw [List.map_append]
        rfl
    · rw [Int.toNat_natCast] at e11
      exact k D _ x11 hD e11
theorem inV_ints (m : Int) (l : List Int) : inV (.int m) (l.map V.int) = decide (m ∈ l) := by
  unfold inV
  rw [List.any_map]
  induction l with
  | nil => rfl
  | cons x r ih =>
    rw [List.any_cons, ih]
    have e : ((fun y => eqV y (.int m)) ∘ V.int) x = decide (m = x) := by
      show (x == m) = _
      by_cases h : m = x
      · subst h; simp
      · rw [decide_eq_false h]
        simp
        exact fun z => h z.symm
    rw [e]
    by_cases h : m = x
    · simp [h]
    · simp [h]
def spLArcs (K : PySem.W.Frag) : Sp := fun vs H Q _ => ∃ (l v : V) (fs : List Int) (bs : List (Nat × Nat)) (ws : List (List Nat)), vs = [l, v] ∧ Dp K H l (landD fs bs) ∧ LandOk fs bs ∧ Dp K H v (planD ws) ∧ PlanOk fs.length bs ws ∧
  ∀ q H', Ext H H' → H q = none → H' q = some (.tup ((arcsL fs.length (ownOf ws) bs).map V.str)) → Q (.ref q) H'
abbrev laN : List Str := ["land", "plan", "own", "many", "rows", "i", "j", "row", "at", "k"]
theorem arcL_take {n : Nat} {own : Nat → Nat} {b : Nat × Nat} {t : Nat} (h : t < 2 * n - 1) : (arcL n own b).take (t + 1) = (arcL n own b).take t ++ [arcC own b t] := by
  rw [List.take_add_one]
  congr 1
  rw [arcL, List.getElem?_map, List.getElem?_range h]
  rfl
end
section
variable {P : Program} {w : World} {K : PySem.W.Frag} {mg : Str → Option Value} {base : Heap}
open TL
/-! ### pictures by squares and bars, sign by sign -/
def sqC (own : Nat → Nat) (bs : List (Nat × Nat)) (one other : Nat) : Nat := if one = other then 97 + own one else if Mk.adj bs one other = true then (if own one = own other then 45 else 35) else 46
def sqL (n : Nat) (own : Nat → Nat) (bs : List (Nat × Nat)) (one : Nat) : List Nat := (List.range n).map (sqC own bs one)
def sqS (n : Nat) (own : Nat → Nat) (bs : List (Nat × Nat)) (one : Nat) : Str := ⟨(sqL n own bs one).toArray⟩
def squareL (n : Nat) (own : Nat → Nat) (bs : List (Nat × Nat)) : List Str := (List.range n).map (sqS n own bs)
def barC (wide folk most : Int) (k : Nat) : Nat := if 0 < most ∧ ((k : Int) + 1) * most ≤ wide * folk then 35 else if (k : Int) * most < wide * folk then 43 else 46
def barL (wide : Nat) (folk most : Int) : List Nat := (List.range wide).map (barC wide folk most)
def barS (wide : Nat) (folk most : Int) : Str := ⟨(barL wide folk most).toArray⟩
def spSign (K : PySem.W.Frag) : Sp := fun vs H Q _ => ∃ (l : V) (d : Addr) (fs : List Int) (bs : List (Nat × Nat)) (kvs : List (L2.Key × V)) (own : Nat → Nat) (one other : Nat), vs = [l, .ref d, .int (one : Int), .int (other : Int)] ∧ Dp K H l (landD fs bs) ∧ H d = some (.dK kvs) ∧
  (∀ p, p < fs.length → valV kvs (Sum.inl (p : Int) : L2.Key) = some (.int (own p : Int))) ∧ (∀ p, p < fs.length → own p < 12) ∧ one < fs.length ∧ other < fs.length ∧ ∀ H', Ext H H' → Q (.str ⟨#[sqC own bs one other]⟩) H'
theorem sc_sign_of : FnScope ["land", "row", "one", "other"] ["land", "row", "one", "other"] (defScope st_sign_of) := ⟨rfl, rfl, rfl, by decide +kernel, rfl, by decide +kernel, by decide +kernel⟩
theorem ok_sign_of {f : Addr} {fd : FuncData} (F : Fun K "sign_of" "sign_of" st_sign_of f fd) (B : Bl mg) (LT : Lets mg) : FnOk P w K mg base CX0 1 f fd ["land", "row", "one", "other"] (spSign K) := by
  refine F.ok sc_sign_of (fun vs H Q E h => ?_) (fun cdv A outer s H vs Q E hr h => ?_)
  · obtain ⟨l, d, fs, bs, kvs, own, one, other, rfl, _⟩ := h
    rfl
  · obtain ⟨l, d, fs, bs, kvs, own, one, other, rfl, hl, hd, hrow, h12, h1, h2, k⟩ := h
    obtain ⟨tL, eL⟩ := LT.ex
    have nd := sc_sign_of.nd
    refine ⟨_, pss_cons (ps_if (pt_cmpR op_eq (pv 2) (pv 3) (nomark _)) (pss_one (ps_ret (pe_ix ix_str (pe_glob rfl eL (v := .str "abcdefghijkl") ⟨_, rfl⟩) (pe_dget (hu_of hr) (pv 1) (pv 2) (fun _ _ => rfl)) (fun _ _ => rfl)))) pss_nil)
      (pss_cons (ps_if (pt_cmpR (op_notInDTK (K := K) rfl (u65 hr)) (pe_tup (pa_cons (pe_callB (call_min2 rfl) (by rfl) B.min (by decide +kernel) (pa_cons (pv 2) (pa_cons (pv 3) pa_nil))) (pa_cons (pe_callB (call_max2 rfl) (by rfl) B.max (by decide +kernel) (pa_cons (pv 2) (pa_cons (pv 3) pa_nil))) pa_nil))) (pe_ix (ix_tupK (K := K) rfl) (pv 0) pe_int (fun _ _ => rfl)) (by rfl))
        (pss_one (ps_ret pe_str)) pss_nil)
      (pss_one (ps_ret (pe_ifExp (pt_cmpR op_eq (pe_dget (hu_of hr) (pv 1) (pv 2) (fun _ _ => rfl)) (pe_dget (hu_of hr) (pv 1) (pv 3) (fun _ _ => rfl)) (nomark _)) pe_str pe_str)))), ?_⟩
    obtain ⟨a, af, vb, rfl, hl1, hl2, hl3⟩ := dp_land hl
    have v1 := hrow one h1
    have v2 := hrow other h2
    refine ⟨_, rfl, _, rfl, rfl, _, rfl, ?_⟩
    refine ite2 (fun z => ?_) (fun z => ?_)
    · have z2 : one = other := by
        have := V.int.inj (of_decide_eq_true z)
        omega
      have e : sqC own bs one other = 97 + own one := by unfold sqC; rw [if_pos z2]
      rw [e] at k
      exact ⟨_, rfl, _, rfl, d, _, rfl, by rw [← v1]; exact DGet.k (k := Sum.inl (one : Int)) hd, _, _, 97 + own one, rfl, rfl, by decide +kernel, atI_nat (let_at (h12 _ h1)), k H (.refl H)⟩
    · have z2 : ¬ one = other := fun e => by
        rw [e, decide_eq_true rfl] at z
        exact z rfl
      dsimp only [tSeq]
      refine ⟨_, rfl, _, rfl, _, _, rfl, _, rfl, _, rfl, _, _, rfl, by show 2 ≤ sizeLine; decide, fun t ht => ?_⟩
      have x3 : Ext H (upd H t (.tup [.int (if (other : Int) < (one : Int) then (other : Int) else (one : Int)), .int (if (other : Int) > (one : Int) then (other : Int) else (one : Int))])) := .new ht
      refine ⟨_, rfl, a, _, _, _, rfl, rfl, x3.sqT hl1, atI_nat (j := 1) rfl, .tuple [.int (if (other : Int) < (one : Int) then (other : Int) else (one : Int)), .int (if (other : Int) > (one : Int) then (other : Int) else (one : Int))], _, dp_new ht (.cons (.int _) (.cons (.int _) .nil)), dp_ext x3 hl3, (sh_pair 0 _ _).shaped (by decide), (sh_bord 0 bs).shaped (by decide), _, rfl, ?_⟩
      rw [Bool.true_xor, any_adj bs one other]
      by_cases c : Mk.adj bs one other = true
      · rw [c]
        refine iteF ?_
        have hd3 : (upd H t (.tup [.int (if (other : Int) < (one : Int) then (other : Int) else (one : Int)), .int (if (other : Int) > (one : Int) then (other : Int) else (one : Int))])) d = some (.dK kvs) := x3.keep _ _ hd fun z => z
        refine ⟨_, rfl, _, rfl, d, _, rfl, by rw [← v1]; exact DGet.k (k := Sum.inl (one : Int)) hd3, _, rfl, _, rfl, d, _, rfl, by rw [← v2]; exact DGet.k (k := Sum.inl (other : Int)) hd3, rfl, _, rfl, ?_⟩
        refine ite2 (fun y => ?_) (fun y => ?_)
        · have y2 : own one = own other := by
            have := V.int.inj (of_decide_eq_true y)
            omega
          have e : sqC own bs one other = 45 := by unfold sqC; rw [if_neg z2, if_pos c, if_pos y2]
          have k2 := k _ x3
          rw [e] at k2
          exact k2
        · have y2 : ¬ own one = own other := fun e => by
            rw [e, decide_eq_true rfl] at y
            exact y rfl
          have e : sqC own bs one other = 35 := by unfold sqC; rw [if_neg z2, if_pos c, if_neg y2]
          have k2 := k _ x3
          rw [e] at k2
          exact k2
      · have e : sqC own bs one other = 46 := by unfold sqC; rw [if_neg z2, if_neg c]
        rw [Bool.not_eq_true] at c
        rw [c]
        refine iteT ?_
        have k2 := k _ x3
        rw [e] at k2
        exact k2
def spBar (K : PySem.W.Frag) : Sp := fun vs H Q _ => ∃ (folk most : Int) (wide : Nat), vs = [.int folk, .int most, .int (wide : Int)] ∧ wide ≤ 100 ∧ (0 ≤ most ∧ most ≤ 100000000) ∧ (0 ≤ folk ∧ folk ≤ 100000000) ∧ Q (.str (barS wide folk most)) H
abbrev boN : List Str := ["folk", "most", "wide", "signs", "k"]
theorem sc_bar_of : FnScope boN ["folk", "most", "wide"] (defScope st_bar_of) := ⟨rfl, rfl, rfl, by decide +kernel, rfl, by decide +kernel, by decide +kernel⟩
theorem ok_bar_of {f : Addr} {fd : FuncData} (F : Fun K "bar_of" "bar_of" st_bar_of f fd) (B : Bl mg) : FnOk P w K mg base CX0 1 f fd ["folk", "most", "wide"] (spBar K) := by
  refine F.ok sc_bar_of (fun vs H Q E h => ?_) (fun cdv A outer s H vs Q E hr h => ?_)
  · obtain ⟨folk, most, wide, rfl, _⟩ := h
    rfl
  · obtain ⟨folk, most, wide, rfl, hw, hm, hf, k⟩ := h
    have nd := sc_bar_of.nd
    refine ⟨_, pss_cons (ps_set (i := 3) nd rfl (Or.inl rfl) pe_str)
      (pss_cons (ps_for PassesOwn.never rfl (pi_range1 rfl B.range (pa_cons (pv 2) pa_nil)) (pg_name (i := 4) nd rfl (Or.inl rfl))
        (pss_one (ps_if (PW.pt (pw_and (pt_cmpR op_gt (pv 1) pe_int (nomark _)) (pw_and1 (pt_cmpR op_ge (pe_op op_mul (pv 2) (pv 0)) (pe_op op_mul (pe_op op_add (pv 4) pe_int) (pv 1)) (nomark _)))))
          (pss_one (ps_aug (i := 3) nd rfl (Or.inl rfl) pe_str iop_add_str))
          (pss_one (ps_if (pt_cmpR op_gt (pe_op op_mul (pv 2) (pv 0)) (pe_op op_mul (pv 4) (pv 1)) (nomark _))
            (pss_one (ps_aug (i := 3) nd rfl (Or.inl rfl) pe_str iop_add_str))
            (pss_one (ps_aug (i := 3) nd rfl (Or.inl rfl) pe_str iop_add_str)))))))
      (pss_one (ps_ret (pv 3)))), ?_⟩
    have hwI : ((wide : Int) : Int) ≤ 100 := by omega
    refine ⟨_, rfl, _, rfl, by omega, by omega, ?_⟩
    refine for_range (lo := 0) (n := ((wide : Int)).toNat) (fun j σ H4 => ∃ (u : Str) (o4 : Option V), σ = [some (.int folk), some (.int most), some (.int (wide : Int)), some (.str u), o4] ∧ H4 = H ∧ tl u = (barL wide folk most).take j)
      ⟨_, _, rfl, rfl, by rw [List.take_zero]; decide +kernel⟩ ?_ ?_
    · rintro j σ H4 hj ⟨u, o4, rfl, rfl, hu⟩
      rw [Int.toNat_natCast] at hj
      rw [Int.zero_add]
      have hul : u.length ≤ 100 := by
        rw [str_len, hu, List.length_take]
        omega
      have htk : (barL wide folk most).take (j + 1) = (barL wide folk most).take j ++ [barC wide folk most j] := by
        rw [List.take_add_one]
        congr 1
        rw [barL, List.getElem?_map, List.getElem?_range hj]
        rfl
      have one : ∀ (z : Str), tl z = [barC wide folk most j] → tl (u ++ z) = (barL wide folk most).take (j + 1) ∧ u.length + z.length ≤ sizeLine := fun z hz => by
        refine ⟨by rw [tl_append, hu, hz, htk], ?_⟩
        have : z.length = 1 := by rw [str_len, hz]; rfl
        rw [sizeLine_eq]
        omega
      refine ⟨_, rfl, _, _, rfl, rfl, _, rfl, ?_⟩
      by_cases c0 : 0 < most
      · rw [decide_eq_true c0]
        refine iteT ?_
        refine ⟨_, rfl, _, rfl, _, _, rfl, rfl, .inl ⟨by omega, by omega⟩, _, rfl, _, _, rfl, rfl, _, rfl, _, _, rfl, rfl, .inl ⟨by omega, by omega⟩, _, _, rfl, rfl, _, rfl, ?_⟩
        refine ite2 (fun y => ?_) (fun y => ?_)
        · have y := of_decide_eq_true y
          obtain ⟨g1, g2⟩ := one "#" (by unfold barC; rw [if_pos ⟨c0, y⟩]; decide +kernel)
          exact ⟨_, rfl, _, _, rfl, rfl, g2, _, _, rfl, rfl, g1⟩
        · have z : ¬ (0 < most ∧ ((j : Int) + 1) * most ≤ (wide : Int) * folk) := fun e => y (decide_eq_true e.2)
          clear y
          refine ⟨_, rfl, _, rfl, _, _, rfl, rfl, .inl ⟨by omega, by omega⟩, _, rfl, _, rfl, _, _, rfl, rfl, .inl ⟨by omega, by omega⟩, _, _, rfl, rfl, _, rfl, ?_⟩
          refine ite2 (fun y => ?_) (fun y => ?_)
          · have y := of_decide_eq_true y
            obtain ⟨g1, g2⟩ := one "+" (by unfold barC; rw [if_neg z, if_pos y]; decide +kernel)
            exact ⟨_, rfl, _, _, rfl, rfl, g2, _, _, rfl, rfl, g1⟩
          · have y : ¬ _ := fun e => y (decide_eq_true e)
            obtain ⟨g1, g2⟩ := one "." (by unfold barC; rw [if_neg z, if_neg y]; decide +kernel)
            exact ⟨_, rfl, _, _, rfl, rfl, g2, _, _, rfl, rfl, g1⟩
      · rw [decide_eq_false c0]
        refine iteF ?_
        have z : ¬ (0 < most ∧ ((j : Int) + 1) * most ≤ (wide : Int) * folk) := fun e => c0 e.1
        refine ⟨_, rfl, _, rfl, _, _, rfl, rfl, .inl ⟨by omega, by omega⟩, _, rfl, _, rfl, _, _, rfl, rfl, .inl ⟨by omega, by omega⟩, _, _, rfl, rfl, _, rfl, ?_⟩
        refine ite2 (fun y => ?_) (fun y => ?_)
        · have y := of_decide_eq_true y
          obtain ⟨g1, g2⟩ := one "+" (by unfold barC; rw [if_neg z, if_pos y]; decide +kernel)
          exact ⟨_, rfl, _, _, rfl, rfl, g2, _, _, rfl, rfl, g1⟩
        · have y : ¬ _ := fun e => y (decide_eq_true e)
          obtain ⟨g1, g2⟩ := one "." (by unfold barC; rw [if_neg z, if_neg y]; decide +kernel)
          exact ⟨_, rfl, _, _, rfl, rfl, g2, _, _, rfl, rfl, g1⟩
    · rintro σ H4 ⟨u, o4, rfl, rfl, hu⟩
      rw [Int.toNat_natCast] at hu
      have e : u = barS wide folk most := ext_tl (by
        rw [hu, List.take_of_length_le (by rw [barL, List.length_map, List.length_range]; exact Nat.le_refl _)]
        rfl)
      subst e
      exact ⟨_, rfl, k⟩
end
end Wd

set_option Elab.async false
set_option linter.all false
set_option maxRecDepth 100000
set_option maxHeartbeats 4000000
namespace Wd
open PySem PySem.Spec PyProof.Rows L2 Bx Gx













































section
variable {P : Program} {w : World} {K : PySem.W.Frag} {mg : Str → Option Value} {base : Heap}
open TL
/-! ### check_count, square -/
def spCount (K : PySem.W.Frag) : Sp := fun vs H Q _ => ∃ (i lo hi : Int), vs = [.int i, .int lo, .int hi] ∧ (lo ≤ i ∧ i ≤ hi) ∧ Q .non H
theorem sc_check_count : FnScope ["count", "low", "high"] ["count", "low", "high"] (defScope st_check_count) := ⟨rfl, rfl, rfl, by decide +kernel, rfl, by decide +kernel, by decide +kernel⟩
theorem ok_check_count {f : Addr} {fd : FuncData} (F : Fun K "check_count" "check_count" st_check_count f fd) (c1 : Cal P w K mg base 1 "is_integer" ["value", "low", "high"] (spIsInteger K)) : FnOk P w K mg base CX0 2 f fd ["count", "low", "high"] (spCount K) := by
  refine F.ok sc_check_count (fun vs H Q E h => ?_) (fun cdv A outer s H vs Q E hr h => ?_)
  · obtain ⟨i, lo, hi, rfl, _⟩ := h
    rfl
  · obtain ⟨i, lo, hi, rfl, hi, k⟩ := h
    refine ⟨_, pss_one (ps_if (pt_not (pt_val (pe_cal c1 hr rfl (pa_cons (pv 0) (pa_cons (pv 1) (pa_cons (pv 2) pa_nil)))))) pss_never pss_nil), ?_⟩
    refine ⟨_, rfl, _, rfl, _, rfl, _, .int i, lo, _, rfl, .int i, ?_⟩
    refine ⟨_, rfl, ?_⟩
    have e : isIntD lo (show Int from _) (.int i) = true := decide_eq_true hi
    rw [e]
    exact iteF k
def spSquare (K : PySem.W.Frag) (T1 T2 T3 T4 : Addr) : Sp := fun vs H Q _ => ∃ (l v : V) (fs : List Int) (bs : List (Nat × Nat)) (ws : List (List Nat)), vs = [l, v] ∧ Dp K H l (landD fs bs) ∧ LandOk fs bs ∧ Dp K H v (planD ws) ∧ PlanOk fs.length bs ws ∧ Tabs [T1, T2, T3, T4] H ∧
  ∀ q H', Ext H H' → H q = none → H' q = some (.tup ((squareL fs.length (ownOf ws) bs).map V.str)) → Q (.ref q) H'
abbrev squN : List Str := ["land", "plan", "row", "many", "lines", "one", "other"]
theorem sc_square : FnScope squN ["land", "plan"] (defScope st_square) := ⟨rfl, rfl, rfl, by decide +kernel, rfl, by decide +kernel, by decide +kernel⟩
theorem join_ones (l : List Nat) : Txt.join "" (l.map fun c => (⟨#[c]⟩ : Str)) = ⟨l.toArray⟩ := by
  refine ext_tl ?_
  rw [join_eq, tl_join]
  have e : tl "" = [] := by decide +kernel
  rw [e]
  induction l with
  | nil => rfl
  | cons c r ih =>
    cases r with
    | nil => rfl
    | cons d r' =>
      have ih : joinL [] (((d :: r').map fun c => (⟨#[c]⟩ : Str)).map tl) = d :: r' := ih
      show joinL [] ([c] :: ((d :: r').map fun c => (⟨#[c]⟩ : Str)).map tl) = c :: d :: r'
      have e2 : joinL [] ([c] :: ((d :: r').map fun c => (⟨#[c]⟩ : Str)).map tl) = [c] ++ ([] ++ joinL [] (((d :: r').map fun c => (⟨#[c]⟩ : Str)).map tl)) := rfl
      rw [e2, ih]
      rfl
theorem ok_square {f T1 T2 T3 T4 : Addr} {fd : FuncData} (F : Fun K "square" "square" st_square f fd) (B : Bl mg) (c1 : Cal P w K mg base 5 "check_land" ["land"] (spFaultLand K)) (c2 : Cal P w K mg base 10 "check_plan" ["land", "plan"] (spFaultPlan K T1 T2 T3 T4)) (c3 : Cal P w K mg base 1 "ward_row" ["plan"] (spWardRow K))
    (c4 : Cal P w K mg base 1 "sign_of" ["land", "row", "one", "other"] (spSign K)) : FnOk P w K mg base CX0 11 f fd ["land", "plan"] (spSquare K T1 T2 T3 T4) := by
  refine F.ok sc_square (fun vs H Q E h => ?_) (fun cdv A outer s H vs Q E hr h => ?_)
  · obtain ⟨l, v, fs, bs, ws, rfl, _⟩ := h
    rfl
  · obtain ⟨l, v, fs, bs, ws, rfl, hl, ok, hv, PO, hT, k⟩ := h
    have hr1 := hr.mono (j := 1) (by decide)
    have nd := sc_square.nd
    refine ⟨_, pss_cons (ps_expr (pe_cal c1 (hr.mono (by decide)) rfl (pa_cons (pv 0) pa_nil))) (pss_cons (ps_expr (pe_cal c2 hr rfl (pa_cons (pv 0) (pa_cons (pv 1) pa_nil))))
      (pss_cons (ps_set (i := 2) nd rfl (Or.inr rfl) (pe_cal c3 hr1 rfl (pa_cons (pv 1) pa_nil)))
      (pss_cons (ps_set (i := 3) nd rfl (Or.inl rfl) (pe_callB call_len (by rfl) B.len PySem.boot_len (pa_cons (pe_ix ix_tup (pv 0) pe_int (fun _ _ => rfl)) pa_nil)))
      (pss_cons (ps_set (i := 4) nd rfl (Or.inl rfl) (pe_lst pa_nil))
      (pss_cons (ps_for PassesOwn.never rfl (pi_range1 rfl B.range (pa_cons (pv 3) pa_nil)) (pg_name (i := 5) nd rfl (Or.inr rfl))
        (pss_one (ps_expr (pe_bm PySem.F.plainAttrs_list PySem.F.slot_list_append PySem.F.type_list_append mt_append (pv 4) (pa_cons (pe_join pe_str
          (pe_lc (own := [("other", 6)]) (g := gName 6) (by rfl) nd (pi_range1 rfl B.range (pa_cons (pv 3) pa_nil)) (blkOk_by (own := [("other", 6)]) (N := squN) (sc := defScope st_square) (by decide +kernel))
            (fun _ _ _ _ _ => pg_name (i := 6) nd rfl (Or.inl rfl)) (fun _ _ _ _ _ => pts_nil)
            (fun _ _ _ _ _ => pe_cal c4 hr1 rfl (pa_cons (pv 0) (pa_cons (pv 2) (pa_cons (pv 5) (pa_cons (pv 6) pa_nil))))))) pa_nil)))))
      (pss_one (ps_ret (pe_tupleOf rfl B.tuple (pv 4))))))))), ?_⟩
    have h12 := ok.most
    have h2' := ok.few
    refine ⟨_, rfl, _, fs, bs, rfl, hl, ok, ?_⟩
    refine ⟨_, rfl, _, rfl, l, v, fs, bs, ws, rfl, hl, ok, hv, PO, hT, fun H1 x1 => ?_⟩
    refine ⟨_, rfl, v, ws, fs.length, rfl, dp_ext x1 hv, PO.w, fun d kvs H2 x2 hd0 hd R => ?_⟩
    have hrow := row_own PO R
    obtain ⟨a, af, vb, rfl, hl1, hl2, hl3⟩ := dp_land hl
    have x02 := x1.trans x2
    refine ⟨_, rfl, a, _, _, _, rfl, rfl, x02.sqT hl1, atI_nat (j := 0) rfl, _, fs.length, rfl, .inr ⟨_, x02.sqT hl2, by simp⟩, Nat.zero_le _, fun ql hql => ?_⟩
    have x3 : Ext H (upd H2 ql (.lst [])) := x02.trans (.new hql)
    have hqlH := x02.free hql
    have hd3 : (upd H2 ql (.lst [])) d = some (.dK kvs) := by rw [upd_ne (ne_of_none hd hql)]; exact hd
    have hdql : d ≠ ql := ne_of_none hd hql
    refine ⟨_, rfl, _, rfl, by omega, by omega, ?_⟩
    refine for_range (lo := 0) (n := (fs.length : Int).toNat) (fun i σ H4 => ∃ o5 : Option V, σ = [some (.ref a), some v, some (.ref d), some (.int (fs.length : Int)), some (.ref ql), o5, none] ∧ Ext H H4 ∧ H4 d = some (.dK kvs) ∧ H4 ql = some (.lst (((List.range i).map (sqS fs.length (ownOf ws) bs)).map V.str)))
      ⟨_, rfl, x3, hd3, upd_same⟩ ?_ ?_
    · rintro i σ H4 hi ⟨o5, rfl, x4, hd4, hq4⟩
      rw [Int.toNat_natCast] at hi
      rw [Int.zero_add]
      refine ⟨_, rfl, .inl ⟨rfl, _, SqL.of hq4⟩, ⟨_, rfl⟩, _, rfl, _, rfl, by omega, by omega, fun D hD => ?_⟩
      refine lc_range (lo := 0) (n := (fs.length : Int).toNat) (fun j H5 => H5 D = some (.lst ((((List.range j).map (sqC (ownOf ws) bs i)).map fun c => (⟨#[c]⟩ : Str)).map V.str)) ∧ Ext H4 H5) ⟨upd_same, .new hD⟩ (fun j H5 hj ⟨e5, x5⟩ => ?_) fun H5 ⟨e5, x5⟩ => ?_
      · rw [Int.toNat_natCast] at hj
        rw [Int.zero_add]
        refine ⟨rfl, ?_⟩
        dsimp only [tYes]
        rw [if_pos rfl]
        have hd5 : H5 d = some (.dK kvs) := x5.keep _ _ hd4 fun z => z
        refine ⟨_, rfl, _, rfl, _, rfl, _, rfl, .ref a, d, fs, bs, kvs, ownOf ws, i, j, rfl, dp_ext (x4.trans x5) hl, hd5, hrow, (fun p hp => own_lt PO hp), hi, hj, fun H6 x6 => ?_⟩
        refine ⟨_, x6.lst e5, by simp only [List.length_map, List.length_range]; exact small1000 (by omega), ?_, (x5.trans x6).write hD⟩
        rw [upd_same, List.range_succ, List.map_append, List.map_append, List.map_append]
        rfl
      · rw [Int.toNat_natCast] at e5
        refine ⟨"", D, _, rfl, rfl, .inl (SqL.of e5), ?_, ?_⟩
        · have := join_len (s := "") (ys := ((List.range fs.length).map (sqC (ownOf ws) bs i)).map fun c => (⟨#[c]⟩ : Str)) (m := 1) fun y hy => by
            obtain ⟨p, _, rfl⟩ := List.mem_map.mp hy
            exact Nat.le_refl 1
          have e1 : ("" : Str).length = 0 := by decide +kernel
          rw [e1]
          simp only [List.length_map, List.length_range] at this ⊢
          omega
        rw [join_ones]
        refine ⟨ql, _, _, rfl, rfl, x5.lst hq4, by simp only [List.length_map, List.length_range]; exact small1000 (by omega), ?_⟩
        refine ⟨_, rfl, (x4.trans x5).write hqlH, by rw [upd_ne hdql]; exact x5.keep _ _ hd4 fun z => z, ?_⟩
        rw [upd_same, List.range_succ, List.map_append, List.map_append]
        rfl
    · rintro σ H4 ⟨o5, rfl, x4, hd4, hq4⟩
      rw [Int.toNat_natCast] at hq4
      exact ⟨_, rfl, .inl ⟨ql, _, rfl, SqL.of hq4, fun q hq => k q _ (x4.trans (.new hq)) (x4.free hq) upd_same⟩⟩
end
end Wd

set_option Elab.async false
set_option linter.all false
set_option maxRecDepth 100000
set_option maxHeartbeats 4000000
namespace Wd
open PySem PySem.Spec PyProof.Rows L2 Bx Gx













































section
variable {P : Program} {w : World} {K : PySem.W.Frag} {mg : Str → Option Value} {base : Heap}
open TL
/-! ### bars -/
/-- the widest picture -/
structure Wide (mg : Str → Option Value) : Prop where
  ex : ∃ t, mg "MOST_WIDE" = some (.int 100 t)
def barR (wide : Nat) (folk most : Int) (k : Nat) : Str := ⟨([97 + k, 32] ++ barL wide folk most).toArray⟩
def barsL (fs : List Int) (ws : List (List Nat)) (wide : Nat) (most : Int) : List Str := (List.range ws.length).map fun k => barR wide ((sizesOf fs ws).getD k 0) most k
theorem folk_bd {fs : List Int} (hf : ∀ f ∈ fs, 0 ≤ f ∧ f ≤ 1000000) : ∀ {ps : List Nat}, (∀ p ∈ ps, p < fs.length) → 0 ≤ folkOf fs ps ∧ folkOf fs ps ≤ ps.length * 1000000
  | [], _ => ⟨Int.le_refl 0, Int.le_refl 0⟩
  | p :: r, h => by
    have ih := folk_bd hf (ps := r) fun q hq => h q (List.mem_cons_of_mem _ hq)
    have hp := h p List.mem_cons_self
    have h1 := hf _ (List.getElem_mem hp)
    have e : folkOf fs (p :: r) = fs[p] + folkOf fs r := by
      show fs.getD p 0 + _ = _
      rw [List.getD_eq_getElem?_getD, List.getElem?_eq_getElem hp]
      rfl
    rw [e, List.length_cons]
    push_cast
    omega
theorem size_bd {fs : List Int} {bs : List (Nat × Nat)} {ws : List (List Nat)} (ok : LandOk fs bs) (PO : PlanOk fs.length bs ws) : ∀ x ∈ sizesOf fs ws, 0 ≤ x ∧ x ≤ 12000000 := fun x hx => by
  obtain ⟨u, hu, rfl⟩ := List.mem_map.mp hx
  have lo := PO.w.lots u hu
  have h1 := folk_bd ok.folk lo.lt
  have h2 := asc_len lo.asc lo.lt
  have := ok.most
  omega
def spBars (K : PySem.W.Frag) (T1 T2 T3 T4 T5 T6 : Addr) : Sp := fun vs H Q _ => ∃ (l v : V) (fs : List Int) (bs : List (Nat × Nat)) (ws : List (List Nat)) (wide : Nat), vs = [l, v, .int (wide : Int)] ∧ Dp K H l (landD fs bs) ∧ LandOk fs bs ∧ Dp K H v (planD ws) ∧ PlanOk fs.length bs ws ∧ (1 ≤ wide ∧ wide ≤ 100) ∧ Tabs [T1, T2, T3, T4, T5, T6] H ∧
  ∀ m q H', Ext H H' → H q = none → m ∈ sizesOf fs ws → (∀ x ∈ sizesOf fs ws, x ≤ m) → H' q = some (.tup ((barsL fs ws wide m).map V.str)) → Q (.ref q) H'
abbrev barN : List Str := ["land", "plan", "wide", "ward", "folk", "most"]
theorem sc_bars : FnScope barN ["land", "plan", "wide"] (defScope st_bars) := ⟨rfl, rfl, rfl, by decide +kernel, rfl, by decide +kernel, by decide +kernel⟩
theorem ok_bars {f c T1 T2 T3 T4 T5 T6 : Addr} {fd : FuncData} (F : FunC K "bars" "bars" st_bars f fd c) (TB : TabB base mg c T6) (B : Bl mg) (LT : Lets mg) (WD : Wide mg) (c1 : Cal P w K mg base 5 "check_land" ["land"] (spFaultLand K)) (c2 : Cal P w K mg base 10 "check_plan" ["land", "plan"] (spFaultPlan K T1 T2 T3 T4)) (c3 : Cal P w K mg base 2 "check_count" ["count", "low", "high"] (spCount K))
    (c4 : Cal P w K mg base 4 "folk_within" ["land", "lot"] (spFolkIn K T5)) (c5 : Cal P w K mg base 1 "bar_of" ["folk", "most", "wide"] (spBar K)) : FnOk P w K mg base CX0 11 f fd ["land", "plan", "wide"] (spBars K T1 T2 T3 T4 T5 T6) := by
  refine F.ok sc_bars (fun vs H Q E h => ?_) (fun A outer s H vs Q E hr h => ?_)
  · obtain ⟨l, v, fs, bs, ws, wide, rfl, _⟩ := h
    rfl
  · obtain ⟨l, v, fs, bs, ws, wide, rfl, hl, ok, hv, PO, hw, hT, k⟩ := h
    obtain ⟨tL, eL⟩ := LT.ex
    obtain ⟨tW, eW⟩ := WD.ex
    have hr2 := hr.mono (j := 2) (by decide)
    have hr4 := hr.mono (j := 4) (by decide)
    have nd := sc_bars.nd
    refine ⟨_, pss_cons (ps_expr (pe_cal c1 (hr.mono (by decide)) rfl (pa_cons (pv 0) pa_nil))) (pss_cons (ps_expr (pe_cal c2 hr rfl (pa_cons (pv 0) (pa_cons (pv 1) pa_nil))))
      (pss_cons (ps_expr (pe_cal c3 hr2 rfl (pa_cons (pv 2) (pa_cons pe_int (pa_cons (pe_glob rfl eW (v := .int 100) ⟨_, rfl⟩) pa_nil)))))
      (pss_cons (ps_set (i := 4) nd rfl (Or.inr rfl) (pe_lc (own := [("ward", 3)]) (g := gName 3) (by rfl) nd (pi_tup (pv 1)) (blkOk_by (own := [("ward", 3)]) (N := barN) (sc := defScope st_bars) (by decide +kernel))
        (fun _ _ _ _ _ => pg_name (i := 3) nd rfl (Or.inl rfl)) (fun _ _ _ _ _ => pts_nil) (fun _ _ _ _ _ => pe_cal c4 hr4 rfl (pa_cons (pv 0) (pa_cons (pv 3) pa_nil)))))
      (pss_cons (ps_set (i := 5) nd rfl (Or.inr rfl) (pe_callB (cr_max rfl) (by rfl) B.max (by decide +kernel) (pa_cons (pv 4) pa_nil)))
      (pss_one (ps_ret (pe_gtup (k := 2) (N := ["k", "folk", "most", "wide"]) (src := [none, some 4, some 5, some 2]) (vs := [0])
          ⟨fun B s H fp code hB => pg_name (i := 0) (by decide +kernel : (["k", "folk", "most", "wide"] : List Str).Nodup) rfl (Or.inl rfl), fun B s H fp code hB => pts_nil,
           fun B s H fp code hB => pe_op op_add_str (pe_op op_add_str (pe_ix ix_str (pe_glob rfl eL (v := .str "abcdefghijkl") ⟨_, rfl⟩) (pv 0) (fun _ _ => rfl)) pe_str)
             (pe_cal c5 (hB.deeper _ |>.mono (by decide)) rfl (pa_cons (pe_ix (ix_lstK (K := K) rfl) (pv 1) (pv 0) (fun _ _ => rfl)) (pa_cons (pv 2) (pa_cons (pv 3) pa_nil))))⟩
          (hr.mono (by decide)) rfl B.tuple TB rfl (gOk (ND := barN) (sc := defScope st_bars) (by decide +kernel)) (pi_range1 rfl B.range (pa_cons (pe_callB call_len (by rfl) B.len PySem.boot_len (pa_cons (pv 1) pa_nil)) pa_nil))))))))), ?_⟩
    have hfew := PO.w.few
    have hpos : 0 < ws.length := List.length_pos_iff.mpr PO.ne
    obtain ⟨a, xs, rfl, h1, h2⟩ := dp_tup hv
    have hlen := dpAll_len h2
    rw [List.length_map] at hlen
    refine ⟨_, rfl, _, fs, bs, rfl, hl, ok, ?_⟩
    refine ⟨_, rfl, _, rfl, l, .ref a, fs, bs, ws, rfl, hl, ok, hv, PO, (fun Pt hPt => hT Pt (by simp at hPt ⊢; rcases hPt with h | h | h | h <;> simp [h])), fun H1 x1 => ?_⟩
    refine ⟨_, rfl, _, _, _, rfl, by omega, ?_⟩
    refine ⟨_, rfl, a, rfl, ⟨_, x1.sqT h1⟩, fun D hD => ?_⟩
    refine lc_tup (K := K) (a := a) (xs := xs) (fun i H2 => H2 D = some (.lst ((sizesOf fs (ws.take i)).map V.int)) ∧ Ext H1 H2) ⟨upd_same, .new hD⟩ (fun i H2 _ ⟨_, x2⟩ => (x1.trans x2).sqT h1) (fun i y H2 hy ⟨e2, x2⟩ => ?_) (fun H2 ⟨e2, x2⟩ => ?_)
    · have hi : i < ws.length := by
        have := (List.getElem?_eq_some_iff.mp hy).1
        omega
      obtain ⟨dy, hdy, hpy⟩ := dpAll_get' h2 hy
      rw [List.getElem?_map, List.getElem?_eq_getElem hi] at hdy
      have hdy := (Option.some.inj hdy).symm
      subst hdy
      have lo := PO.w.lots _ (List.getElem_mem hi)
      refine ⟨rfl, ?_⟩
      dsimp only [tYes]
      rw [if_pos rfl]
      have x12 := x1.trans x2
      refine ⟨_, rfl, _, rfl, l, y, fs, _, ws[i], rfl, dp_ext x12 hl, dp_ext x12 hpy, lo.lt, x12.tabs _ (hT T5 (by simp)), fun H3 x3 => ?_⟩
      refine ⟨_, x3.lst e2, ?_, ?_, (x2.trans x3).write hD⟩
      · have e : sizesOf fs (ws.take i) = (ws.take i).map (folkOf fs) := rfl
        rw [e, List.length_map, List.length_map, List.length_take]
        exact small1000 (by omega)
      · rw [upd_same, List.take_add_one, List.getElem?_eq_getElem hi]
        show _ = some (HO.lst (List.map _ (List.map _ (_ ++ _))))
        rw [List.map_append, List.map_append]
        rfl
    · rw [hlen, List.take_length] at e2
      have hl1 : (sizesOf fs ws).length = ws.length := by
        show (ws.map _).length = _
        rw [List.length_map]
      refine ⟨_, rfl, D, sizesOf fs ws, rfl, SqL.of e2, by omega, fun m hm hle => ?_⟩
      have bd := size_bd ok PO
      have bm := bd m hm
      have x12 := x1.trans x2
      refine ⟨_, rfl, _, xs.length, rfl, .inr ⟨_, x12.sqT h1, rfl⟩, _, rfl, by omega, by omega, x12.tabs _ (hT T6 (by simp)), fun H5 hT5 => ?_⟩
      have x5 : Ext H2 H5 := Ext.tabbed (x12.tabs _ (hT T6 (by simp))) hT5
      have x15 := x12.trans x5
      have e5 : H5 D = some (.lst ((sizesOf fs ws).map V.int)) := x5.lst e2
      have eN : ((xs.length : Nat) : Int).toNat = ws.length := by rw [Int.toNat_natCast, hlen]
      rw [eN]
      refine g_tupF (Pw := fun i ys H6 => H6 = H5 ∧ ys = ((List.range i).map fun k => barR wide ((sizesOf fs ws).getD k 0) m k).map V.str) (fun _ _ => src_range) (Nat.le_of_lt (small1000 (by omega))) (fun _ => rfl) ⟨rfl, rfl⟩
        (fun i ys H6 ⟨_, e⟩ => by rw [e, List.length_map, List.length_map, List.length_range]; exact Nat.le_refl _) (fun i ys H6 C hp6 hi k2 => ?_) fun ys H6 hp6 p hp => ?_
      · obtain ⟨e1, ey⟩ := hp6
        subst e1
        have hi2 : i < (sizesOf fs ws).length := by omega
        have hb := bd _ (List.getElem_mem hi2)
        have eg : (sizesOf fs ws).getD i 0 = (sizesOf fs ws)[i] := by rw [List.getD_eq_getElem?_getD, List.getElem?_eq_getElem hi2]; rfl
        have egv : ((sizesOf fs ws).map V.int)[i]? = some (.int (sizesOf fs ws)[i]) := by rw [List.getElem?_map, List.getElem?_eq_getElem hi2]; rfl
        have l1 : (⟨#[97 + i]⟩ : Str).length = 1 := rfl
        have l2 : (" " : Str).length = 1 := by decide +kernel
        have l3 : (barS wide (sizesOf fs ws)[i] m).length ≤ 100 := by
          rw [str_len]
          show (barL _ _ _).length ≤ 100
          rw [barL, List.length_map, List.length_range]
          exact hw.2
        have len_add : ∀ x y : Str, (x ++ y).length = x.length + y.length := fun x y => by rw [str_len, tl_append, List.length_append, ← str_len, ← str_len]
        refine ⟨_, rfl, _, _, 97 + i, rfl, by show V.int _ = _; rw [Int.zero_add], by decide +kernel, atI_nat (let_at (by omega)), _, _, rfl, rfl, by rw [l1, l2]; decide, ?_⟩
        refine ⟨_, rfl, _, rfl, D, _, _, _, rfl, by show V.int _ = _; rw [Int.zero_add], SqL.of e5, atI_nat egv, _, rfl, _, rfl, _, m, wide, rfl, hw.2, ⟨bm.1, by omega⟩, ⟨hb.1, by omega⟩, _, _, rfl, rfl, by rw [len_add, l1, l2, sizeLine_eq]; omega, k2 _ H6 ⟨rfl, ?_⟩⟩
        rw [ey, List.range_succ, List.map_append, List.map_append]
        congr 1
        show [V.str _] = [V.str _]
        congr 2
        refine ext_tl ?_
        show _ = tl (barR wide ((sizesOf fs ws).getD i 0) m i)
        rw [tl_append, tl_append, eg]
        have e1 : tl " " = [32] := by decide +kernel
        rw [e1]
        rfl
      · obtain ⟨e1, ey⟩ := hp6
        subst e1
        subst ey
        exact k m p _ (x15.trans (.new hp)) (x15.free hp) hm hle upd_same
end
end Wd

set_option Elab.async false
set_option linter.all false
set_option maxRecDepth 100000
set_option maxHeartbeats 4000000
namespace Wd
open PySem PySem.Spec PyProof.Rows L2 Bx Gx













































section
variable {P : Program} {w : World} {K : PySem.W.Frag} {mg : Str → Option Value} {base : Heap}
open TL
/-! ### listed -/
def listR (k : Nat) (folk : Int) (u : List Nat) : Str := ⟨([97 + k, 32] ++ tl (nTx folk) ++ [32, 58, 32] ++ joinL [32] (u.map fun p : Nat => tl (nTx (p : Int)))).toArray⟩
def listedL (fs : List Int) (ws : List (List Nat)) : List Str := (List.range ws.length).map fun k => listR k (folkOf fs (ws.getD k [])) (ws.getD k [])
theorem log2_lt {i : Int} {m k : Nat} (h : 0 ≤ i ∧ i ≤ m) (hm : m < 2 ^ k) (hk : 0 < k) : i.natAbs.log2 < k := by
  by_cases z : i.natAbs = 0
  · rw [z]; exact hk
  · exact (Nat.log2_lt z).mpr (by omega)
def spListed (K : PySem.W.Frag) (T1 T2 T3 T4 T5 T6 : Addr) : Sp := fun vs H Q _ => ∃ (l v : V) (fs : List Int) (bs : List (Nat × Nat)) (ws : List (List Nat)), vs = [l, v] ∧ Dp K H l (landD fs bs) ∧ LandOk fs bs ∧ Dp K H v (planD ws) ∧ PlanOk fs.length bs ws ∧ Tabs [T1, T2, T3, T4, T5, T6] H ∧
  ∀ q H', Ext H H' → H q = none → H' q = some (.tup ((listedL fs ws).map V.str)) → Q (.ref q) H'
abbrev lisN : List Str := ["land", "plan", "rows", "k", "places"]
theorem sc_listed : FnScope lisN ["land", "plan"] (defScope st_listed) := ⟨rfl, rfl, rfl, by decide +kernel, rfl, by decide +kernel, by decide +kernel⟩
theorem ok_listed {f c T1 T2 T3 T4 T5 T6 : Addr} {fd : FuncData} (F : FunC K "listed" "listed" st_listed f fd c) (TB : TabB base mg c T6) (B : Bl mg) (LT : Lets mg) (c1 : Cal P w K mg base 5 "check_land" ["land"] (spFaultLand K)) (c2 : Cal P w K mg base 10 "check_plan" ["land", "plan"] (spFaultPlan K T1 T2 T3 T4))
    (c4 : Cal P w K mg base 4 "folk_within" ["land", "lot"] (spFolkIn K T5)) : FnOk P w K mg base CX0 11 f fd ["land", "plan"] (spListed K T1 T2 T3 T4 T5 T6) := by
  refine F.ok sc_listed (fun vs H Q E h => ?_) (fun A outer s H vs Q E hr h => ?_)
  · obtain ⟨l, v, fs, bs, ws, rfl, _⟩ := h
    rfl
  · obtain ⟨l, v, fs, bs, ws, rfl, hl, ok, hv, PO, hT, k⟩ := h
    obtain ⟨tL, eL⟩ := LT.ex
    have hr4 := hr.mono (j := 4) (by decide)
    have nd := sc_listed.nd
    refine ⟨_, pss_cons (ps_expr (pe_cal c1 (hr.mono (by decide)) rfl (pa_cons (pv 0) pa_nil))) (pss_cons (ps_expr (pe_cal c2 hr rfl (pa_cons (pv 0) (pa_cons (pv 1) pa_nil))))
      (pss_cons (ps_set (i := 2) nd rfl (Or.inl rfl) (pe_lst pa_nil))
      (pss_cons (ps_for PassesOwn.never rfl (pi_range1 rfl B.range (pa_cons (pe_callB call_len (by rfl) B.len PySem.boot_len (pa_cons (pv 1) pa_nil)) pa_nil)) (pg_name (i := 3) nd rfl (Or.inl rfl))
        (pss_cons (ps_set (i := 4) nd rfl (Or.inl rfl) (pe_gjoin (k := 0) (N := ["place"]) (src := [none]) (vs := [0])
            ⟨fun B s H fp code hB => pg_name (i := 0) (by decide +kernel : (["place"] : List Str).Nodup) rfl (Or.inl rfl), fun B s H fp code hB => pts_nil, fun Br s H fp code hB => pe_callTy call_str_int rfl B.str (by decide +kernel) (pa_cons (pv 0) pa_nil)⟩
            (hr.mono (by decide)) pe_str TB rfl (gOk (ND := lisN) (sc := defScope st_listed) (by decide +kernel)) (pi_tup (pe_ix ix_tup (pv 1) (pv 3) (fun _ _ => rfl)))))
        (pss_one (ps_expr (pe_bm PySem.F.plainAttrs_list PySem.F.slot_list_append PySem.F.type_list_append mt_append (pv 2) (pa_cons
          (pe_joined (.cons (pe_fmt (pe_ix ix_str (pe_glob rfl eL (v := .str "abcdefghijkl") ⟨_, rfl⟩) (pv 3) (fun _ _ => rfl))) (.cons pe_str (.cons (pe_fmt (pe_cal c4 hr4 rfl (pa_cons (pv 0) (pa_cons (pe_ix ix_tup (pv 1) (pv 3) (fun _ _ => rfl)) pa_nil))))
            (.cons pe_str (.cons (pe_fmt (pv 4)) .nil)))))) pa_nil))))))
      (pss_one (ps_ret (pe_tupleOf rfl B.tuple (pv 2))))))), ?_⟩
    have hfew := PO.w.few
    obtain ⟨a, xs, rfl, h1, h2⟩ := dp_tup hv
    have hlen := dpAll_len h2
    rw [List.length_map] at hlen
    refine ⟨_, rfl, _, fs, bs, rfl, hl, ok, ?_⟩
    refine ⟨_, rfl, _, rfl, l, .ref a, fs, bs, ws, rfl, hl, ok, hv, PO, (fun Pt hPt => hT Pt (by simp at hPt ⊢; rcases hPt with h | h | h | h <;> simp [h])), fun H1 x1 => ?_⟩
    refine ⟨Nat.zero_le _, fun ql hql => ?_⟩
    have x3 : Ext H (upd H1 ql (.lst [])) := x1.trans (.new hql)
    have hqlH := x1.free hql
    refine ⟨_, rfl, _, xs.length, rfl, .inr ⟨_, x3.sqT h1, rfl⟩, _, rfl, by omega, by omega, ?_⟩
    refine for_range (lo := 0) (n := (xs.length : Int).toNat) (fun i σ H4 => ∃ o3 o4 : Option V, σ = [some l, some (.ref a), some (.ref ql), o3, o4] ∧ Ext H H4 ∧ H4 ql = some (.lst (((List.range i).map fun k => listR k (folkOf fs (ws.getD k [])) (ws.getD k [])).map V.str)))
      ⟨_, _, rfl, x3, upd_same⟩ ?_ ?_
    · rintro i σ H4 hi ⟨o3, o4, rfl, x4, hq4⟩
      rw [Int.toNat_natCast] at hi
      rw [Int.zero_add]
      have hi : i < ws.length := by omega
      have egd : ws.getD i [] = ws[i] := by rw [List.getD_eq_getElem?_getD, List.getElem?_eq_getElem hi]; rfl
      obtain ⟨vw, hvw, hdw⟩ := dpAll_get h2 (i := i) (d := lotD ws[i]) (by rw [List.getElem?_map, List.getElem?_eq_getElem hi]; rfl)
      obtain ⟨aw, rfl, hsw⟩ := dp_lot hdw
      have lo := PO.w.lots _ (List.getElem_mem hi)
      rw [← egd] at lo hdw hsw
      generalize hu : ws.getD i [] = u at lo hdw hsw egd
      have hul := asc_len lo.asc lo.lt
      have h12 := ok.most
      have hT4 := x4.tabs _ (hT T6 (by simp))
      dsimp only [gName, tSeq]
      refine ⟨" ", rfl, _, rfl, _, rfl, a, _, _, _, rfl, rfl, x4.sqT h1, atI_nat hvw, aw, rfl, ⟨_, x4.sqT hsw⟩, hT4, fun H5 hT5 => ?_⟩
      have x5 : Ext H4 H5 := Ext.tabbed hT4 hT5
      have x45 := x4.trans x5
      have hp12 : ∀ p ∈ u, p < 12 := fun p hp => by have := lo.lt p hp; omega
      refine g_tupF (Pw := fun j ys H6 => H6 = H5 ∧ ys = ((u.take j).map fun p : Nat => nTx (p : Int)).map V.str) (fun _ _ => src_tup fun H6 e => by rw [e.1]; exact x45.sqT hsw) (by rw [vsN_len0]; exact Nat.le_of_lt (small1000 (by omega))) (fun _ => rfl) ⟨rfl, rfl⟩
        (fun j ys H6 ⟨_, e⟩ => by rw [e, List.length_map, List.length_map, List.length_take]; omega) (fun j ys H6 C hp6 hj k2 => ?_) fun ys H6 hp6 => ?_
      · obtain ⟨e1, ey⟩ := hp6
        subst e1
        rw [vsN_len0] at hj
        have hgi : (vsN u).getD j .non = .int ((u[j] : Nat) : Int) := by
          rw [List.getD_eq_getElem?_getD, vsN_at hj]
          rfl
        have := hp12 _ (List.getElem_mem hj)
        refine ⟨_, rfl, _, congrArg (fun v => [v]) hgi, log2_lt (m := 12) (k := 1920) (by omega) (by decide +kernel) (by decide), k2 _ H6 ⟨rfl, ?_⟩⟩
        rw [ey, List.take_add_one, List.getElem?_eq_getElem hj, List.map_append, List.map_append]
        rfl
      · obtain ⟨e1, ey⟩ := hp6
        subst e1
        rw [vsN_len0, List.take_length] at ey
        have hny : ∀ y ∈ u.map (fun p : Nat => nTx (p : Int)), y.length ≤ 3 := fun y hy => by
          obtain ⟨p, hp, rfl⟩ := List.mem_map.mp hy
          have := hp12 p hp
          exact nTx_len (k := 2) (by decide) (by omega)
        have hjl := join_len (s := " ") (m := 3) hny
        have l2 : (" " : Str).length = 1 := by decide +kernel
        rw [List.length_map] at hjl
        refine ⟨_, ey, by rw [l2, List.length_map]; omega, ?_⟩
        dsimp only [gName, tSeq, List.set]
        have hq6 := x5.lst hq4
        have jb : (Txt.join " " (u.map fun p : Nat => nTx (p : Int))).length ≤ 100 := by
          have := StrLaws.join_length_le " " (u.map fun p : Nat => nTx (p : Int))
          rw [← join_eq, l2, List.length_map] at this
          omega
        have l1 : (⟨#[97 + i]⟩ : Str).length = 1 := rfl
        have l4 : (" : " : Str).length = 3 := by decide +kernel
        have l0 : Str.empty.length = 0 := rfl
        have fb := folk_bd ok.folk lo.lt
        have fl : (nTx (folkOf fs u)).length ≤ 10 := nTx_len (k := 9) (by decide) (by omega)
        have len_add : ∀ x y : Str, (x ++ y).length = x.length + y.length := fun x y => by rw [str_len, tl_append, List.length_append, ← str_len, ← str_len]
        refine ⟨_, rfl, .inl ⟨rfl, _, SqL.of hq6⟩, ?_⟩
        refine ⟨_, rfl, _, _, 97 + i, rfl, rfl, by decide +kernel, atI_nat (let_at (by omega)), .inl ⟨_, rfl, by rw [l1]; decide, _, rfl, by rw [len_add, l0, l1]; decide, ?_⟩⟩
        refine ⟨_, rfl, by rw [len_add, len_add, l0, l1, l2]; decide, ?_⟩
        refine ⟨_, rfl, _, rfl, _, rfl, a, _, _, _, rfl, rfl, x45.sqT h1, atI_nat hvw, l, .ref aw, fs, _, u, rfl, dp_ext x45 hl, dp_ext x45 hdw, lo.lt, x45.tabs _ (hT T5 (by simp)), fun H7 x7 => .inr ⟨_, rfl, log2_lt (m := 12000000) (k := 1920) (by omega) (by decide +kernel) (by decide), _, rfl, ?_, ?_⟩⟩
        · show (_ ++ nTx (folkOf fs u)).length ≤ _
          rw [len_add, len_add, len_add, l0, l1, l2, sizeLine_eq]
          omega
        show tJs _ (Str.empty ++ (⟨#[97 + i]⟩ : Str) ++ " " ++ nTx (folkOf fs u)) _ _ _
        refine ⟨_, rfl, by rw [len_add, len_add, len_add, len_add, l0, l1, l2, l4, sizeLine_eq]; omega, ?_⟩
        refine ⟨_, rfl, .inl ⟨_, rfl, by rw [sizeLine_eq]; omega, _, rfl, by rw [len_add, len_add, len_add, len_add, len_add, l0, l1, l2, l4, sizeLine_eq]; omega, ?_⟩⟩
        have ex : Str.empty ++ (⟨#[97 + i]⟩ : Str) ++ " " ++ nTx (folkOf fs u) ++ " : " ++ Txt.join " " (u.map fun p : Nat => nTx (p : Int)) = listR i (folkOf fs u) u := ext_tl (by
          have e1 : tl " " = [32] := by decide +kernel
          have e2 : tl " : " = [32, 58, 32] := by decide +kernel
          rw [join_eq, tl_append, tl_append, tl_append, tl_append, tl_append, tl_join, e1, e2, List.map_map]
          rfl)
        rw [ex]
        refine ⟨ql, _, _, rfl, rfl, x7.lst hq6, by simp only [List.length_map, List.length_range]; exact small1000 (by omega), ?_⟩
        refine ⟨_, _, rfl, (x45.trans x7).write hqlH, ?_⟩
        rw [upd_same, List.range_succ, List.map_append, List.map_append]
        show _ = some (HO.lst (_ ++ [V.str (listR i (folkOf fs (ws.getD i [])) (ws.getD i []))]))
        rw [hu]
    · rintro σ H4 ⟨o3, o4, rfl, x4, hq4⟩
      rw [Int.toNat_natCast, hlen] at hq4
      exact ⟨_, rfl, .inl ⟨ql, _, rfl, SqL.of hq4, fun q hq => k q _ (x4.trans (.new hq)) (x4.free hq) upd_same⟩⟩
end
end Wd

set_option Elab.async false
set_option linter.all false
set_option maxRecDepth 100000
set_option maxHeartbeats 4000000
namespace Wd
open PySem PySem.Spec PyProof.Rows L2 Bx Gx













































section
variable {P : Program} {w : World} {K : PySem.W.Frag} {mg : Str → Option Value} {base : Heap}
open TL
/-! ### the law's own squares -/
def spLSquare (K : PySem.W.Frag) : Sp := fun vs H Q _ => ∃ (l v : V) (fs : List Int) (bs : List (Nat × Nat)) (ws : List (List Nat)), vs = [l, v] ∧ Dp K H l (landD fs bs) ∧ LandOk fs bs ∧ Dp K H v (planD ws) ∧ PlanOk fs.length bs ws ∧
  ∀ q H', Ext H H' → H q = none → H' q = some (.tup ((squareL fs.length (ownOf ws) bs).map V.str)) → Q (.ref q) H'
abbrev lsqN : List Str := ["land", "plan", "own", "rows", "one", "row", "other"]
theorem sc_law_square : FnScope lsqN ["land", "plan"] (defScope st__law_square) := ⟨rfl, rfl, rfl, by decide +kernel, rfl, by decide +kernel, by decide +kernel⟩
theorem adj_sym (bs : List (Nat × Nat)) (a b : Nat) : Mk.adj bs a b = Mk.adj bs b a := by
  unfold Mk.adj
  rw [Nat.min_comm, Nat.max_comm]
theorem near_mem (n : Nat) (bs : List (Nat × Nat)) {one other : Nat} (h : other < n) : decide (other ∈ nearL n bs one) = Mk.adj bs one other := by
  rw [adj_sym bs one other]
  by_cases z : Mk.adj bs other one = true
  · rw [z, decide_eq_true]
    exact List.mem_filter.mpr ⟨List.mem_range.mpr h, z⟩
  · rw [Bool.not_eq_true] at z
    rw [z, decide_eq_false]
    intro e
    have := (List.mem_filter.mp e).2
    rw [z] at this
    cases this
theorem ok_law_square {f : Addr} {fd : FuncData} (F : Fun K "_law_square" "_law_square" st__law_square f fd) (B : Bl mg) (c1 : Cal P w K mg base 1 "_law_owners" ["land", "plan"] (spOwners K)) (c2 : Cal P w K mg base 1 "_law_near" ["land", "place"] (spNear K)) : FnOk P w K mg base CX0 2 f fd ["land", "plan"] (spLSquare K) := by
  refine F.ok sc_law_square (fun vs H Q E h => ?_) (fun cdv A outer s H vs Q E hr h => ?_)
  · obtain ⟨l, v, fs, bs, ws, rfl, _⟩ := h
    rfl
  · obtain ⟨l, v, fs, bs, ws, rfl, hl, ok, hv, PO, k⟩ := h
    have nd := sc_law_square.nd
    refine ⟨_, pss_cons (ps_par (i := 2) (j := 3) (by rfl) nd rfl rfl (by decide) rfl rfl (pa_cons (pe_cal c1 hr rfl (pa_cons (pv 0) (pa_cons (pv 1) pa_nil))) (pa_cons (pe_lst pa_nil) pa_nil)) (by rfl))
      (pss_cons (ps_for PassesOwn.never rfl (pi_range1 rfl B.range (pa_cons (pe_callB call_len (by rfl) B.len PySem.boot_len (pa_cons (pe_ix ix_tup (pv 0) pe_int (fun _ _ => rfl)) pa_nil)) pa_nil)) (pg_name (i := 4) nd rfl (Or.inl rfl))
        (pss_cons (ps_set (i := 5) nd rfl (Or.inl rfl) pe_str)
        (pss_cons (ps_for PassesOwn.never rfl (pi_range1 rfl B.range (pa_cons (pe_callB call_len (by rfl) B.len PySem.boot_len (pa_cons (pe_ix ix_tup (pv 0) pe_int (fun _ _ => rfl)) pa_nil)) pa_nil)) (pg_name (i := 6) nd rfl (Or.inl rfl))
          (pss_one (ps_if (pt_cmpR op_eq (pv 4) (pv 6) (nomark _))
            (pss_one (ps_set (i := 5) nd rfl (Or.inl rfl) (pe_op op_add_str (pv 5) (pe_ix ix_str pe_str (pe_ix ix_list (pv 2) (pv 4) (fun _ _ => rfl)) (fun _ _ => rfl)))))
            (pss_one (ps_if (pt_cmpR op_in_seq (pv 6) (pe_cal c2 hr rfl (pa_cons (pv 0) (pa_cons (pv 4) pa_nil))) (by rfl))
              (pss_one (ps_set (i := 5) nd rfl (Or.inl rfl) (pe_op op_add_str (pv 5) (pe_ix ix_str pe_str (pe_callTy call_int1 rfl B.int (by decide +kernel) (pa_cons (pe_cmpR op_ne (pe_ix ix_list (pv 2) (pv 4) (fun _ _ => rfl)) (pe_ix ix_list (pv 2) (pv 6) (fun _ _ => rfl)) (nomark _)) pa_nil)) (fun _ _ => rfl)))))
              (pss_one (ps_set (i := 5) nd rfl (Or.inl rfl) (pe_op op_add_str (pv 5) pe_str))))))))
        (pss_one (ps_expr (pe_bm PySem.F.plainAttrs_list PySem.F.slot_list_append PySem.F.type_list_append mt_append (pv 3) (pa_cons (pv 5) pa_nil)))))))
      (pss_one (ps_ret (pe_tupleOf rfl B.tuple (pv 3))))), ?_⟩
    have h12 := ok.most
    obtain ⟨a, af, vb, rfl, h1, h2, h3⟩ := dp_land hl
    refine ⟨_, rfl, _, rfl, .ref a, v, fs, bs, ws, rfl, hl, ok, hv, PO, fun qo H1 x1 hqo0 hqo => ⟨Nat.zero_le _, fun ql hql => ⟨_, _, rfl, ?_⟩⟩⟩
    have x2 : Ext H (upd H1 ql (.lst [])) := x1.trans (.new hql)
    have hqlH := x1.free hql
    have hne : qo ≠ ql := ne_of_none hqo hql
    have hqo2 : (upd H1 ql (.lst [])) qo = some (.lst (vsN (ownL fs.length ws))) := by rw [upd_ne hne]; exact hqo
    refine ⟨_, rfl, a, _, _, _, rfl, rfl, x2.sqT h1, atI_nat (j := 0) rfl, _, fs.length, rfl, .inr ⟨_, x2.sqT h2, by simp⟩, _, rfl, by omega, by omega, ?_⟩
    refine for_range (lo := 0) (n := (fs.length : Int).toNat) (fun i σ H2 => ∃ o4 o5 o6 : Option V, σ = [some (.ref a), some v, some (.ref qo), some (.ref ql), o4, o5, o6] ∧ Ext H H2 ∧ H2 qo = some (.lst (vsN (ownL fs.length ws))) ∧ H2 ql = some (.lst (((List.range i).map (sqS fs.length (ownOf ws) bs)).map V.str)))
      ⟨_, _, _, rfl, x2, hqo2, upd_same⟩ ?_ ?_
    · rintro i σ H2 hi ⟨o4, o5, o6, rfl, x3, hqo3, hq3⟩
      rw [Int.toNat_natCast] at hi
      rw [Int.zero_add]
      refine ⟨_, rfl, a, _, _, _, rfl, rfl, x3.sqT h1, atI_nat (j := 0) rfl, _, fs.length, rfl, .inr ⟨_, x3.sqT h2, by simp⟩, _, rfl, by omega, by omega, ?_⟩
      refine for_range (lo := 0) (n := (fs.length : Int).toNat) (fun j σ H4 => ∃ (u : Str) (o6 : Option V), σ = [some (.ref a), some v, some (.ref qo), some (.ref ql), some (.int (i : Int)), some (.str u), o6] ∧ Ext H2 H4 ∧ tl u = (sqL fs.length (ownOf ws) bs i).take j)
        ⟨_, _, rfl, .refl _, by rw [List.take_zero]; decide +kernel⟩ ?_ ?_
      · rintro j σ H4 hj ⟨u, o6', rfl, x4, hu⟩
        rw [Int.toNat_natCast] at hj
        rw [Int.zero_add]
        have hul : u.length ≤ 24 := by
          rw [str_len, hu, List.length_take]
          omega
        have htk : (sqL fs.length (ownOf ws) bs i).take (j + 1) = (sqL fs.length (ownOf ws) bs i).take j ++ [sqC (ownOf ws) bs i j] := by
          rw [List.take_add_one]
          congr 1
          rw [sqL, List.getElem?_map, List.getElem?_range hj]
          rfl
        have one : ∀ (z : Str), tl z = [sqC (ownOf ws) bs i j] → tl (u ++ z) = (sqL fs.length (ownOf ws) bs i).take (j + 1) ∧ u.length + z.length ≤ sizeLine := fun z hz => by
          refine ⟨by rw [tl_append, hu, hz, htk], ?_⟩
          have : z.length = 1 := by rw [str_len, hz]; rfl
          rw [sizeLine_eq]
          omega
        have hqo4 := x4.lst hqo3
        refine ⟨_, rfl, _, rfl, rfl, _, rfl, ?_⟩
        refine ite2 (fun z => ?_) (fun z => ?_)
        · have z2 : i = j := by
            have := V.int.inj (of_decide_eq_true z)
            omega
          obtain ⟨g1, g2⟩ := one ⟨#[97 + ownOf ws i]⟩ (by unfold sqC; rw [if_pos z2])
          exact ⟨_, rfl, _, rfl, _, rfl, qo, _, _, _, rfl, rfl, SqL.of hqo4, atI_nat (ownL_get ws hi), _, _, 97 + ownOf ws i, rfl, rfl, by decide +kernel, atI_nat (let_at (own_lt PO hi)), _, _, rfl, rfl, g2, _, _, rfl, x4, g1⟩
        · have z2 : ¬ i = j := fun e => by
            rw [e, decide_eq_true rfl] at z
            exact z rfl
          refine ⟨_, rfl, _, rfl, _, rfl, .ref a, fs, bs, i, rfl, dp_ext (x3.trans x4) hl, h12, fun qn H5 x5 hqn0 hqn => ?_⟩
          have hqo5 := x5.lst hqo4
          refine ⟨qn, _, rfl, .inl (SqL.of hqn), rfl, flat_vsN _, _, rfl, ?_⟩
          show if (if false = true then !inV _ _ else inV _ _) = true then _ else _
          rw [if_neg (show ¬ false = true from Bool.false_ne_true), inV_vsN, near_mem fs.length bs hj]
          refine ite2 (fun y => ?_) (fun y => ?_)
          · refine ⟨_, rfl, _, rfl, _, rfl, qo, _, _, _, rfl, rfl, SqL.of hqo5, atI_nat (ownL_get ws hi), _, rfl, _, rfl, qo, _, _, _, rfl, rfl, SqL.of hqo5, atI_nat (ownL_get ws hj), rfl, .inr ⟨_, rfl, ?_⟩⟩
            by_cases c : ownOf ws i = ownOf ws j
            · obtain ⟨g1, g2⟩ := one ⟨#[45]⟩ (by unfold sqC; rw [if_neg z2, if_pos y, if_pos c])
              refine ⟨_, _, 45, rfl, rfl, by decide +kernel, ?_, _, _, rfl, rfl, g2, _, _, rfl, x4.trans x5, g1⟩
              simp only [c]
              decide +kernel
            · obtain ⟨g1, g2⟩ := one ⟨#[35]⟩ (by unfold sqC; rw [if_neg z2, if_pos y, if_neg c])
              refine ⟨_, _, 35, rfl, rfl, by decide +kernel, ?_, _, _, rfl, rfl, g2, _, _, rfl, x4.trans x5, g1⟩
              have c2 : ¬ (ownOf ws i : Int) = (ownOf ws j : Int) := by omega
              simp [c2]
              decide +kernel
          · obtain ⟨g1, g2⟩ := one "." (by unfold sqC; rw [if_neg z2, if_neg y]; decide +kernel)
            exact ⟨_, rfl, _, _, rfl, rfl, g2, _, _, rfl, x4.trans x5, g1⟩
      · rintro σ H4 ⟨u, o6', rfl, x4, hu⟩
        rw [Int.toNat_natCast] at hu
        have e : u = sqS fs.length (ownOf ws) bs i := ext_tl (by
          rw [hu, List.take_of_length_le (by rw [sqL, List.length_map, List.length_range]; exact Nat.le_refl _)]
          rfl)
        subst e
        refine ⟨_, rfl, .inl ⟨rfl, _, SqL.of (x4.lst hq3)⟩, _, rfl, ql, _, _, rfl, rfl, x4.lst hq3, by simp only [List.length_map, List.length_range]; exact small1000 (by omega), ?_⟩
        refine ⟨_, _, _, rfl, (x3.trans x4).write hqlH, by rw [upd_ne hne]; exact x4.lst hqo3, ?_⟩
        rw [upd_same, List.range_succ, List.map_append, List.map_append]
        rfl
    · rintro σ H4 ⟨o4, o5, o6, rfl, x4, hqo4, hq4⟩
      rw [Int.toNat_natCast] at hq4
      exact ⟨_, rfl, .inl ⟨ql, _, rfl, SqL.of hq4, fun q hq => k q _ (x4.trans (.new hq)) (x4.free hq) upd_same⟩⟩
end
end Wd

set_option Elab.async false
set_option linter.all false
set_option maxRecDepth 100000
set_option maxHeartbeats 4000000
namespace Wd
open PySem PySem.Spec PyProof.Rows L2 Bx Gx













































section
variable {P : Program} {w : World} {K : PySem.W.Frag} {mg : Str → Option Value} {base : Heap}
open TL
/-! ### the law's own bars -/
theorem max_ex : ∀ {ns : List Int}, 0 < ns.length → ∃ m, m ∈ ns ∧ ∀ y ∈ ns, y ≤ m
  | [x], _ => ⟨x, List.mem_cons_self, fun y hy => by rw [List.mem_singleton.mp hy]; exact Int.le_refl _⟩
  | x :: y :: r, _ => by
    obtain ⟨m, hm, hle⟩ := max_ex (ns := y :: r) (by simp)
    by_cases c : x ≤ m
    · exact ⟨m, List.mem_cons_of_mem _ hm, fun z hz => by
        rcases List.mem_cons.mp hz with e | e
        · rw [e]; exact c
        · exact hle z e⟩
    · exact ⟨x, List.mem_cons_self, fun z hz => by
        rcases List.mem_cons.mp hz with e | e
        · rw [e]; exact Int.le_refl _
        · have := hle z e
          omega⟩
  | [], h => by cases h
theorem max_one {ns : List Int} {m m' : Int} (h : m ∈ ns) (k : ∀ y ∈ ns, y ≤ m) (h' : m' ∈ ns) (k' : ∀ y ∈ ns, y ≤ m') : m = m' := by
  have := k _ h'
  have := k' _ h
  omega
def barsN (ns : List Int) (wide : Nat) (most : Int) : List Str := (List.range ns.length).map fun k => barR wide (ns.getD k 0) most k
def spLBars (K : PySem.W.Frag) : Sp := fun vs H Q _ => ∃ (a : Addr) (ns : List Int) (wide : Nat), vs = [.ref a, .int (wide : Int)] ∧ SqL K H a (ns.map V.int) ∧ 0 < ns.length ∧ ns.length ≤ 12 ∧ (∀ x ∈ ns, 0 ≤ x ∧ x ≤ 12000000) ∧ wide ≤ 100 ∧
  ∀ m q H', Ext H H' → H q = none → m ∈ ns → (∀ x ∈ ns, x ≤ m) → H' q = some (.tup ((barsN ns wide m).map V.str)) → Q (.ref q) H'
abbrev lbN : List Str := ["sizes", "wide", "rows", "k", "row", "top", "at", "level"]
theorem sc_law_bars : FnScope lbN ["sizes", "wide"] (defScope st__law_bars) := ⟨rfl, rfl, rfl, by decide +kernel, rfl, by decide +kernel, by decide +kernel⟩
theorem ok_law_bars {f : Addr} {fd : FuncData} (F : Fun K "_law_bars" "_law_bars" st__law_bars f fd) (B : Bl mg) : FnOk P w K mg base CX0 1 f fd ["sizes", "wide"] (spLBars K) := by
  refine F.ok sc_law_bars (fun vs H Q E h => ?_) (fun cdv A outer s H vs Q E hr h => ?_)
  · obtain ⟨a, ns, wide, rfl, _⟩ := h
    rfl
  · obtain ⟨a, ns, wide, rfl, ha, hn0, hn, bd, hw, k⟩ := h
    have nd := sc_law_bars.nd
    refine ⟨_, pss_cons (ps_set (i := 2) nd rfl (Or.inl rfl) (pe_lst pa_nil))
      (pss_cons (ps_for PassesOwn.never rfl (pi_range1 rfl B.range (pa_cons (pe_callB call_len (by rfl) B.len PySem.boot_len (pa_cons (pv 0) pa_nil)) pa_nil)) (pg_name (i := 3) nd rfl (Or.inl rfl))
        (pss_cons (ps_par (i := 4) (j := 5) (by rfl) nd rfl rfl (by decide) rfl rfl (pa_cons (pe_op op_add_str (pe_ix ix_str pe_str (pv 3) (fun _ _ => rfl)) pe_str) (pa_cons (pe_callB (cr_max rfl) (by rfl) B.max (by decide +kernel) (pa_cons (pv 0) pa_nil)) pa_nil)) (by rfl))
        (pss_cons (ps_for PassesOwn.never rfl (pi_range1 rfl B.range (pa_cons (pv 1) pa_nil)) (pg_name (i := 6) nd rfl (Or.inl rfl))
          (pss_cons (ps_set (i := 7) nd rfl (Or.inl rfl) (pe_op op_mul (pv 1) (pe_ix ix_list (pv 0) (pv 3) (fun _ _ => rfl))))
          (pss_one (ps_set (i := 4) nd rfl (Or.inl rfl) (pe_op op_add_str (pv 4)
            (pe_ifExp (PW.pt (pw_and (pt_cmpR op_gt (pv 5) pe_int (nomark _)) (pw_and1 (pt_cmpR op_ge (pv 7) (pe_op op_mul (pe_op op_add (pv 6) pe_int) (pv 5)) (nomark _))))) pe_str
              (pe_ifExp (PW.pt (pw_and (pt_cmpR op_gt (pv 7) (pe_op op_mul (pv 6) (pv 5)) (nomark _)) (pw_and1 (pt_cmpR op_gt (pv 5) pe_int (nomark _))))) pe_str pe_str)))))))
        (pss_one (ps_expr (pe_bm PySem.F.plainAttrs_list PySem.F.slot_list_append PySem.F.type_list_append mt_append (pv 2) (pa_cons (pv 4) pa_nil)))))))
      (pss_one (ps_ret (pe_tupleOf rfl B.tuple (pv 2))))), ?_⟩
    obtain ⟨m0, hm0, hle0⟩ := max_ex hn0
    have bm := bd m0 hm0
    refine ⟨Nat.zero_le _, fun ql hql => ?_⟩
    have x2 : Ext H (upd H ql (.lst [])) := .new hql
    have l2 : (" " : Str).length = 1 := by decide +kernel
    have sp1 : tl " " = [32] := by decide +kernel
    refine ⟨_, rfl, _, ns.length, rfl, .inl ⟨_, x2.sqL ha, by simp⟩, _, rfl, by omega, by omega, ?_⟩
    refine for_range (lo := 0) (n := (ns.length : Int).toNat) (fun i σ H2 => ∃ o3 o4 o5 o6 o7 : Option V, σ = [some (.ref a), some (.int (wide : Int)), some (.ref ql), o3, o4, o5, o6, o7] ∧ Ext H H2 ∧ H2 ql = some (.lst (((List.range i).map fun k => barR wide (ns.getD k 0) m0 k).map V.str)))
      ⟨_, _, _, _, _, rfl, x2, upd_same⟩ ?_ ?_
    · rintro i σ H2 hi ⟨o3, o4, o5, o6, o7, rfl, x3, hq3⟩
      rw [Int.toNat_natCast] at hi
      rw [Int.zero_add]
      have egv : (ns.map V.int)[i]? = some (.int ns[i]) := by rw [List.getElem?_map, List.getElem?_eq_getElem hi]; rfl
      have eg : ns.getD i 0 = ns[i] := by rw [List.getD_eq_getElem?_getD, List.getElem?_eq_getElem hi]; rfl
      have hb := bd _ (List.getElem_mem hi)
      have hbm := hle0 _ (List.getElem_mem hi)
      have l1 : (⟨#[97 + i]⟩ : Str).length = 1 := rfl
      refine ⟨_, rfl, _, _, 97 + i, rfl, rfl, by decide +kernel, atI_nat (let_at (by omega)), _, _, rfl, rfl, by rw [l1, l2]; decide, _, rfl, a, ns, rfl, x3.sqL ha, hn0, fun m hm hle => ⟨_, _, rfl, ?_⟩⟩
      obtain rfl := max_one hm0 hle0 hm hle
      refine ⟨_, rfl, _, rfl, by omega, by omega, ?_⟩
      refine for_range (lo := 0) (n := ((wide : Int)).toNat) (fun j σ H4 => ∃ (u : Str) (o6 o7 : Option V), σ = [some (.ref a), some (.int (wide : Int)), some (.ref ql), some (.int (i : Int)), some (.str u), some (.int m0), o6, o7] ∧ H4 = H2 ∧ tl u = [97 + i, 32] ++ (barL wide ns[i] m0).take j)
        ⟨_, _, _, rfl, rfl, by rw [List.take_zero, tl_append, sp1]; rfl⟩ ?_ ?_
      · rintro j σ H4 hj ⟨u, o6', o7', rfl, rfl, hu⟩
        rw [Int.toNat_natCast] at hj
        rw [Int.zero_add]
        have hul : u.length ≤ 200 := by
          rw [str_len, hu, List.length_append, List.length_take]
          show 2 + _ ≤ 200
          omega
        have htk : (barL wide ns[i] m0).take (j + 1) = (barL wide ns[i] m0).take j ++ [barC wide ns[i] m0 j] := by
          rw [List.take_add_one]
          congr 1
          rw [barL, List.getElem?_map, List.getElem?_range hj]
          rfl
        have one : ∀ (z : Str), tl z = [barC wide ns[i] m0 j] → tl (u ++ z) = [97 + i, 32] ++ (barL wide ns[i] m0).take (j + 1) ∧ u.length + z.length ≤ sizeLine := fun z hz => by
          refine ⟨by rw [tl_append, hu, hz, htk, List.append_assoc], ?_⟩
          have : z.length = 1 := by rw [str_len, hz]; rfl
          rw [sizeLine_eq]
          omega
        refine ⟨_, rfl, _, rfl, _, rfl, a, _, _, _, rfl, rfl, x3.sqL ha, atI_nat egv, _, _, rfl, rfl, .inl ⟨by omega, by omega⟩, ?_⟩
        dsimp only [gName, tSeq, List.set]
        refine ⟨_, rfl, ?_⟩
        refine ⟨_, rfl, _, _, rfl, rfl, _, rfl, ?_⟩
        by_cases c0 : 0 < m0
        · rw [decide_eq_true c0]
          refine iteT ?_
          refine ⟨_, rfl, _, rfl, _, _, rfl, rfl, _, rfl, _, _, rfl, rfl, .inl ⟨by omega, by omega⟩, _, _, rfl, rfl, _, rfl, ?_⟩
          refine ite2 (fun y => ?_) (fun y => ?_)
          · have y := of_decide_eq_true y
            obtain ⟨g1, g2⟩ := one "#" (by unfold barC; rw [if_pos ⟨c0, y⟩]; decide +kernel)
            exact ⟨_, _, rfl, rfl, g2, _, _, _, rfl, rfl, g1⟩
          · have z : ¬ (0 < m0 ∧ ((j : Int) + 1) * m0 ≤ (wide : Int) * ns[i]) := fun e => y (decide_eq_true e.2)
            clear y
            refine ⟨_, rfl, _, rfl, _, rfl, _, _, rfl, rfl, .inl ⟨by omega, by omega⟩, _, _, rfl, rfl, _, rfl, ?_⟩
            by_cases c1 : (j : Int) * m0 < (wide : Int) * ns[i]
            · rw [decide_eq_true c1]
              refine iteT ⟨_, rfl, _, _, rfl, rfl, _, rfl, ?_⟩
              rw [decide_eq_true c0]
              obtain ⟨g1, g2⟩ := one "+" (by unfold barC; rw [if_neg z, if_pos c1]; decide +kernel)
              exact iteT ⟨_, _, rfl, rfl, g2, _, _, _, rfl, rfl, g1⟩
            · rw [decide_eq_false c1]
              obtain ⟨g1, g2⟩ := one "." (by unfold barC; rw [if_neg z, if_neg c1]; decide +kernel)
              exact iteF ⟨_, _, rfl, rfl, g2, _, _, _, rfl, rfl, g1⟩
        · rw [decide_eq_false c0]
          refine iteF ?_
          have z : ¬ (0 < m0 ∧ ((j : Int) + 1) * m0 ≤ (wide : Int) * ns[i]) := fun e => c0 e.1
          have em : m0 = 0 := by omega
          have en : ns[i] = 0 := by omega
          have c1 : ¬ (j : Int) * m0 < (wide : Int) * ns[i] := by rw [em, en, Int.mul_zero, Int.mul_zero]; omega
          refine ⟨_, rfl, _, rfl, _, rfl, _, _, rfl, rfl, .inl ⟨by omega, by omega⟩, _, _, rfl, rfl, _, rfl, ?_⟩
          rw [decide_eq_false c1]
          obtain ⟨g1, g2⟩ := one "." (by unfold barC; rw [if_neg z, if_neg c1]; decide +kernel)
          exact iteF ⟨_, _, rfl, rfl, g2, _, _, _, rfl, rfl, g1⟩
      · rintro σ H4 ⟨u, o6', o7', rfl, rfl, hu⟩
        rw [Int.toNat_natCast] at hu
        have e : u = barR wide (ns.getD i 0) m0 i := ext_tl (by
          rw [hu, List.take_of_length_le (by rw [barL, List.length_map, List.length_range]; exact Nat.le_refl _), eg]
          rfl)
        subst e
        refine ⟨_, rfl, .inl ⟨rfl, _, SqL.of hq3⟩, _, rfl, ql, _, _, rfl, rfl, hq3, by simp only [List.length_map, List.length_range]; exact small1000 (by omega), ?_⟩
        refine ⟨_, _, _, _, _, rfl, x3.write hql, ?_⟩
        rw [upd_same, List.range_succ, List.map_append, List.map_append]
        rfl
    · rintro σ H4 ⟨o3, o4, o5, o6, o7, rfl, x4, hq4⟩
      rw [Int.toNat_natCast] at hq4
      exact ⟨_, rfl, .inl ⟨ql, _, rfl, SqL.of hq4, fun q hq => k m0 q _ (x4.trans (.new hq)) (x4.free hq) hm0 hle0 upd_same⟩⟩
end
end Wd

set_option Elab.async false
set_option linter.all false
set_option maxRecDepth 100000
set_option maxHeartbeats 4000000
namespace Wd
open PySem PySem.Spec PyProof.Rows L2 Bx Gx













































section
variable {P : Program} {w : World} {K : PySem.W.Frag} {mg : Str → Option Value} {base : Heap}
open TL
/-! ### the law -/
abbrev lawN : List Str := ["script", "spring", "turn", "land", "every", "place", "plan", "ward", "sizes", "wide", "due", "k"]
theorem sc_law : FnScope lawN ["script"] (defScope st_law) := ⟨rfl, rfl, rfl, by decide +kernel, rfl, by decide +kernel, by decide +kernel⟩
abbrev scSizes : Scope := { kind := .function, names := [(".0", .local), ("ward", .local), ("sum", .globalImplicit), ("land", .cell)], isGenerator := false, isCoroutine := false, more := [] }
abbrev scRow : Scope := { kind := .function, names := [(".0", .local), ("k", .local), ("str", .globalImplicit), ("plan", .cell), ("sizes", .cell)], isGenerator := false, isCoroutine := false, more := [] }
def spLaw (K : PySem.W.Frag) (ts : List Addr) : Sp := fun vs H Q _ => ∃ (a : Addr) (ns : List Int), vs = [.ref a] ∧ SqL K H a (ns.map V.int) ∧ ns.length ≤ 63 ∧ Tabs ts H ∧ ∀ H', Q (.bl true) H'
/-- some pictures -/
def picD (ss : List Str) : PyData := .tuple (ss.map .str)
theorem pic_fine {ss : List Str} (h : ∀ s ∈ ss, PyData.strOk s = true) (hl : ss.length ≤ 500) : Sh 2 (picD ss) ∧ smD (picD ss) = true := by
  refine ⟨.tup fun d hd => ?_, ?_⟩
  · obtain ⟨s, hs, rfl⟩ := List.mem_map.mp hd
    exact ⟨by simp [PyData.canLay0, h s hs], by simp [PyData.depth]⟩
  · have h : ∀ l : List Str, smDs (l.map PyData.str) = true := fun l => by
      induction l with
      | nil => rfl
      | cons p r ih => rw [List.map_cons, smDs, ih]; rfl
    show smD (.tuple _) = true
    rw [smD, h, List.length_map, decide_eq_true hl]
    rfl
theorem dp_pic {H : Hp} {q : Addr} {ss : List Str} (h : H q = some (.tup (ss.map V.str))) : Dp K H (.ref q) (picD ss) := .tup (SqT.of h) (dpAll_strs ss)
theorem joinL_mem {c x : Nat} : ∀ {ls : List (List Nat)}, x ∈ joinL [c] ls → x = c ∨ ∃ l ∈ ls, x ∈ l
  | [], h => by cases h
  | [p], h => .inr ⟨p, List.mem_cons_self, h⟩
  | p :: q :: r, h => by
    have h : x ∈ p ++ ([c] ++ joinL [c] (q :: r)) := h
    rcases List.mem_append.mp h with z | z
    · exact .inr ⟨p, List.mem_cons_self, z⟩
    · rcases List.mem_append.mp z with y | y
      · exact .inl (List.mem_singleton.mp y)
      · rcases joinL_mem y with e | ⟨l, hl, e⟩
        · exact .inl e
        · exact .inr ⟨l, List.mem_cons_of_mem _ hl, e⟩
theorem fine_sq {n : Nat} {bs : List (Nat × Nat)} {ws : List (List Nat)} (PO : PlanOk n bs ws) (hn : n ≤ 12) : Sh 2 (picD (squareL n (ownOf ws) bs)) ∧ smD (picD (squareL n (ownOf ws) bs)) = true :=
  pic_fine (fun s hs => by
    obtain ⟨i, hi, rfl⟩ := List.mem_map.mp hs
    refine strOk_list fun x hx => ?_
    obtain ⟨j, hj, rfl⟩ := List.mem_map.mp hx
    have := own_lt PO (List.mem_range.mp hi)
    unfold sqC
    split
    · omega
    · split
      · split <;> omega
      · omega) (by rw [squareL, List.length_map, List.length_range]; omega)
theorem fine_bars {fs : List Int} {ws : List (List Nat)} {wide : Nat} {m : Int} (h : ws.length ≤ 12) : Sh 2 (picD (barsL fs ws wide m)) ∧ smD (picD (barsL fs ws wide m)) = true :=
  pic_fine (fun s hs => by
    obtain ⟨i, hi, rfl⟩ := List.mem_map.mp hs
    have hi := List.mem_range.mp hi
    refine strOk_list fun x hx => ?_
    rcases List.mem_append.mp hx with z | z
    · simp only [List.mem_cons, List.not_mem_nil, or_false] at z
      omega
    · obtain ⟨j, hj, rfl⟩ := List.mem_map.mp z
      unfold barC
      split
      · omega
      · split <;> omega) (by rw [barsL, List.length_map, List.length_range]; omega)
theorem fine_list {fs : List Int} {ws : List (List Nat)} (h : ws.length ≤ 12) : Sh 2 (picD (listedL fs ws)) ∧ smD (picD (listedL fs ws)) = true :=
  pic_fine (fun s hs => by
    obtain ⟨i, hi, rfl⟩ := List.mem_map.mp hs
    have hi := List.mem_range.mp hi
    refine strOk_list fun x hx => ?_
    rcases List.mem_append.mp hx with z | z
    · rcases List.mem_append.mp z with z | z
      · rcases List.mem_append.mp z with z | z
        · simp only [List.mem_cons, List.not_mem_nil, or_false] at z
          omega
        · exact strOk_mem (strOk_num _) z
      · simp only [List.mem_cons, List.not_mem_nil, or_false] at z
        omega
    · rcases joinL_mem z with e | ⟨l, hl, e⟩
      · omega
      · obtain ⟨p, _, rfl⟩ := List.mem_map.mp hl
        exact strOk_mem (strOk_num _) e) (by rw [listedL, List.length_map, List.length_range]; omega)
theorem list_eq {k : Nat} {folk : Int} {u : List Nat} (hu : u ≠ []) : Txt.join " " ([(⟨#[97 + k]⟩ : Str), nTx folk, ":"] ++ u.map fun p : Nat => nTx (p : Int)) = listR k folk u := by
  refine ext_tl ?_
  rw [join_eq, tl_join]
  have e1 : tl " " = [32] := by decide +kernel
  have e2 : tl ":" = [58] := by decide +kernel
  rw [e1]
  cases u with
  | nil => exact absurd rfl hu
  | cons p r =>
    show [97 + k] ++ ([32] ++ (tl (nTx folk) ++ ([32] ++ (tl ":" ++ ([32] ++ joinL [32] (((p :: r).map fun p : Nat => nTx (p : Int)).map tl)))))) = [97 + k, 32] ++ tl (nTx folk) ++ [32, 58, 32] ++ joinL [32] ((p :: r).map fun p : Nat => tl (nTx (p : Int)))
    rw [e2, List.map_map]
    simp only [List.append_assoc]
    rfl
theorem bars_eq (fs : List Int) (ws : List (List Nat)) (wide : Nat) (m : Int) : barsN (sizesOf fs ws) wide m = barsL fs ws wide m := by
  unfold barsN barsL
  rw [sizesOf, List.length_map]
theorem cr_sumK {X : Cx} {K : PySem.W.Frag} (h : X.K = K) (hc : X.calm = true) : CallR X (.builtin "sum") (L2.rSum K) := h ▸ cr_sum hc
theorem ok_law {f T1 T2 T3 T4 T5 T6 T7 : Addr} {fd : FuncData} (F : Fun K "law" "law" st_law f fd) (B : Bl mg) (c1 : Cal P w K mg base 1 "_law_spring" ["script"] (spSpring K)) (c2 : Cal P w K mg base 1 "_law_drop" ["spring", "many"] (spDrop K)) (c3 : Cal P w K mg base 3 "_law_land" ["spring", "places"] (spLand K)) (c4 : Cal P w K mg base 4 "_law_plan" ["spring", "land"] (spLPlan K))
    (c5 : Cal P w K mg base 3 "_law_pieces" ["land", "lot"] (spLPieces K)) (ca : Cal P w K mg base 6 "_law_alike" ["found", "due"] (spAlike K 4)) (cd1 : Cal P w K mg base 2 "_law_square" ["land", "plan"] (spLSquare K)) (cd2 : Cal P w K mg base 1 "_law_bars" ["sizes", "wide"] (spLBars K))
    (s1 : Cal P w K mg base 11 "square" ["land", "plan"] (spSquare K T1 T2 T3 T4)) (s2 : CalK P w K mg base 11 "square" ["land", "plan"] ["plan", "land"] swp (spSquare K T1 T2 T3 T4))
    (b1 : Cal P w K mg base 11 "bars" ["land", "plan", "wide"] (spBars K T1 T2 T3 T4 T5 T6)) (b2 : CalK P w K mg base 11 "bars" ["land", "plan", "wide"] ["wide", "plan", "land"] rev3 (spBars K T1 T2 T3 T4 T5 T6))
    (l1 : Cal P w K mg base 11 "listed" ["land", "plan"] (spListed K T1 T2 T3 T4 T5 T7)) (l2 : CalK P w K mg base 11 "listed" ["land", "plan"] ["plan", "land"] swp (spListed K T1 T2 T3 T4 T5 T7)) :
    FnOk P w K mg base CX0 12 f fd ["script"] (spLaw K [T1, T2, T3, T4, T5, T6, T7]) := by
  refine F.ok sc_law (fun vs H Q E h => ?_) (fun cdv A outer s H vs Q E hr h => ?_)
  · obtain ⟨a, ns, rfl, _⟩ := h
    rfl
  · obtain ⟨a, ns, rfl, hS, hlen, hT, k⟩ := h
    have hr1 := hr.mono (j := 1) (by decide)
    have hr2 := hr.mono (j := 2) (by decide)
    have hr3 := hr.mono (j := 3) (by decide)
    have hr4 := hr.mono (j := 4) (by decide)
    have hr6 := hr.mono (j := 6) (by decide)
    have nd := sc_law.nd
    refine ⟨_, pss_cons (ps_set (i := 1) nd rfl (Or.inl rfl) (pe_cal c1 hr1 rfl (pa_cons (pv 0) pa_nil)))
      (pss_cons (ps_for PassesOwn.never rfl (pi_range1 rfl B.range (pa_cons pe_int pa_nil)) (pg_name (i := 2) nd rfl (Or.inl rfl))
        (pss_cons (ps_set (i := 3) nd rfl (Or.inr rfl) (pe_cal c3 hr3 rfl (pa_cons (pv 1) (pa_cons pe_int pa_nil))))
        (pss_cons (ps_set (i := 4) nd rfl (Or.inl rfl) (pe_tupRg rfl rfl B.tuple (prg_1 rfl B.range (pe_callB call_len (by rfl) B.len PySem.boot_len (pa_cons (pe_ix ix_tup (pv 3) pe_int (fun _ _ => rfl)) pa_nil)))))
        (pss_one (ps_for PassesOwn.never rfl (pi_list (pe_lst (pa_cons (pe_cal c4 hr4 rfl (pa_cons (pv 1) (pa_cons (pv 3) pa_nil)))
              (pa_cons (pe_cal c5 hr3 rfl (pa_cons (pv 3) (pa_cons (pv 4) pa_nil)))
              (pa_cons (pe_tupleOf rfl B.tuple (pe_lc (own := [("place", 5)]) (g := gName 5) (by rfl) nd (pi_tup (pv 4)) (blkOk_by (own := [("place", 5)]) (N := lawN) (sc := defScope st_law) (by decide +kernel))
                (fun _ _ _ _ _ => pg_name (i := 5) nd rfl (Or.inl rfl)) (fun _ _ _ _ _ => pts_nil) (fun _ _ _ _ _ => pe_tup (pa_cons (pv 5) pa_nil)))) pa_nil))))) (pg_name (i := 6) nd rfl (Or.inr rfl))
          (pss_cons (ps_set (i := 8) nd rfl (Or.inr rfl) (pe_lc (own := [("ward", 7)]) (g := gName 7) (by rfl) nd (pi_tup (pv 6)) (blkOk_by (own := [("ward", 7)]) (N := lawN) (sc := defScope st_law) (by decide +kernel))
              (fun _ _ _ _ _ => pg_name (i := 7) nd rfl (Or.inl rfl)) (fun _ _ _ _ _ => pts_nil)
              (fun _ _ _ _ _ => pe_callB (cr_sumK (K := K) rfl (by rfl)) (by rfl) B.sum (by decide +kernel) (pa_cons (pe_lc (own := [("place", 5)]) (g := gName 5) (by rfl) nd (pi_tupK (K := K) rfl (pv 7)) (blkOk_by (own := [("place", 5)]) (N := lawN) (sc := scSizes) (by decide +kernel))
                (fun _ _ _ _ _ => pg_name (i := 5) nd rfl (Or.inl rfl)) (fun _ _ _ _ _ => pts_nil) (fun _ _ _ _ _ => pe_ix (ix_tupK (K := K) rfl) (pe_ix (ix_tupK (K := K) rfl) (pv 3) pe_int (fun _ _ => rfl)) (pv 5) (fun _ _ => rfl))) pa_nil))))
          (pss_cons (ps_set (i := 9) nd rfl (Or.inl rfl) (pe_ix ix_list (pe_lst (pa_cons pe_int (pa_cons pe_int (pa_cons (pe_op op_add pe_int (pe_cal c2 hr1 rfl (pa_cons (pv 1) (pa_cons pe_int pa_nil)))) (pa_cons (pe_op op_add pe_int (pe_cal c2 hr1 rfl (pa_cons (pv 1) (pa_cons pe_int pa_nil)))) pa_nil)))))
              (pe_cal c2 hr1 rfl (pa_cons (pv 1) (pa_cons pe_int pa_nil))) (fun _ _ => rfl)))
          (pss_cons (ps_set (i := 10) nd rfl (Or.inl rfl) (pe_lst (pa_cons (pe_cal cd1 hr2 rfl (pa_cons (pv 3) (pa_cons (pv 6) pa_nil))) (pa_cons (pe_cal cd2 hr1 rfl (pa_cons (pv 8) (pa_cons (pv 9) pa_nil))) pa_nil))))
          (pss_cons (ps_expr (pe_bm PySem.F.plainAttrs_list PySem.F.slot_list_append PySem.F.type_list_append mt_append (pv 10) (pa_cons
              (pe_tupleOf rfl B.tuple (pe_lc (own := [("k", 11)]) (g := gName 11) (by rfl) nd (pi_range1 rfl B.range (pa_cons (pe_callB call_len (by rfl) B.len PySem.boot_len (pa_cons (pv 6) pa_nil)) pa_nil)) (blkOk_by (own := [("k", 11)]) (N := lawN) (sc := defScope st_law) (by decide +kernel))
                (fun _ _ _ _ _ => pg_name (i := 11) nd rfl (Or.inl rfl)) (fun _ _ _ _ _ => pts_nil)
                (fun _ _ _ _ _ => pe_joinK (K := K) rfl pe_str (pe_op op_cat (pe_lst (pa_cons (pe_ix ix_str pe_str (pv 11) (fun _ _ => rfl)) (pa_cons (pe_callTy call_str_int rfl B.str (by decide +kernel) (pa_cons (pe_ix (ix_lstK (K := K) rfl) (pv 8) (pv 11) (fun _ _ => rfl)) pa_nil)) (pa_cons pe_str pa_nil))))
                  (pe_lc (own := [("place", 5)]) (g := gName 5) (by rfl) nd (pi_tupK (K := K) rfl (pe_ix (ix_tupK (K := K) rfl) (pv 6) (pv 11) (fun _ _ => rfl))) (blkOk_by (own := [("place", 5)]) (N := lawN) (sc := scRow) (by decide +kernel))
                    (fun _ _ _ _ _ => pg_name (i := 5) nd rfl (Or.inl rfl)) (fun _ _ _ _ _ => pts_nil) (fun _ _ _ _ _ => pe_callTy call_str_int rfl B.str (by decide +kernel) (pa_cons (pv 5) pa_nil))))))) pa_nil)))
          (pss_cons (ps_if (pt_not (pt_val (pe_cal ca hr6 rfl (pa_cons (pe_lst (pa_cons (pe_cal s1 hr rfl (pa_cons (pv 3) (pa_cons (pv 6) pa_nil))) (pa_cons (pe_cal b1 hr rfl (pa_cons (pv 3) (pa_cons (pv 6) (pa_cons (pv 9) pa_nil)))) (pa_cons (pe_cal l1 hr rfl (pa_cons (pv 3) (pa_cons (pv 6) pa_nil))) pa_nil))))
              (pa_cons (pv 10) pa_nil))) (by intro _; rfl))) pss_never pss_nil)
          (pss_one (ps_if (pt_not (pt_val (pe_cal ca hr6 rfl (pa_cons (pe_lst (pa_cons (pe_calK s2 hr rfl (pk_cons (pv 6) (pk_cons (pv 3) pk_nil))) (pa_cons (pe_calK b2 hr rfl (pk_cons (pv 9) (pk_cons (pv 6) (pk_cons (pv 3) pk_nil)))) (pa_cons (pe_calK l2 hr rfl (pk_cons (pv 6) (pk_cons (pv 3) pk_nil))) pa_nil))))
              (pa_cons (pv 10) pa_nil))) (by intro _; rfl))) pss_never pss_nil))))))))))))
      (pss_one (ps_ret pe_bl))), ?_⟩
    refine ⟨_, rfl, a, ns, rfl, hS, hlen, fun sp gr H1 x1 S1 hsp0 hgr0 => ?_⟩
    have T1' : Tabs [T1, T2, T3, T4, T5, T6, T7] H1 := hT.ext x1
    clear hS hT x1 hsp0 hgr0
    refine ⟨_, rfl, by decide, by decide, for_range (lo := 0) (n := (5 : Int).toNat) (fun i σ H2 => ∃ o2 o3 o4 o5 o6 o7 o8 o9 o10 o11 : Option V, σ = [some (.ref a), some (.ref sp), o2, o3, o4, o5, o6, o7, o8, o9, o10, o11] ∧ SpAt H2 sp gr ∧ Tabs [T1, T2, T3, T4, T5, T6, T7] H2)
      ⟨_, _, _, _, _, _, _, _, _, _, rfl, S1, T1'⟩ ?_ ?_⟩
    · clear S1 T1'
      rintro i σ H2 hi ⟨o2, o3, o4, o5, o6, o7, o8, o9, o10, o11, rfl, S2, T2'⟩
      refine ⟨_, rfl, sp, gr, 12, rfl, S2, by decide, by decide, fun ld fs bs H3 x3 S3 hld0 hld ok hfs => ?_⟩
      dsimp only [gName, tSeq, List.set]
      have T3' : Tabs [T1, T2, T3, T4, T5, T6, T7] H3 := fun Pt hPt => x3.tabs Pt (T2' Pt hPt)
      clear hld0 x3 S2 T2'
      obtain ⟨al, af, vb, eal, hl1, hl2, hl3⟩ := dp_land hld
      injection eal with eal
      subst eal
      have hn2 := ok.few
      have hn12 := ok.most
      refine ⟨_, rfl, ld, _, _, _, rfl, rfl, hl1, atI_nat (j := 0) rfl, _, fs.length, rfl, .inr ⟨_, hl2, by simp⟩, _, rfl, ⟨by decide, by decide, by omega, by omega, by omega⟩, fun ev hev => ?_⟩
      rw [rgV_nat]
      dsimp only [gName, tSeq, List.set]
      have x4 : Ext H3 (upd H3 ev (.tup (vsN (List.range fs.length)))) := .new hev
      have S4 := S3.ext x4
      have hev4 : (upd H3 ev (.tup (vsN (List.range fs.length)))) ev = some (.tup (vsN (List.range fs.length))) := upd_same
      have T4' := T3'.ext x4
      have hld4 := dp_ext x4 hld
      have hl24 := x4.sqT hl2
      have hl14 := x4.sqT hl1
      clear hld hl1 hl2 S3 T3' hl3
      generalize upd H3 ev (.tup (vsN (List.range fs.length))) = H4 at S4 hev4 T4' hld4 hl14 hl24 ⊢
      have nlo := noL_land fs bs
      -- the plans
      refine ⟨_, rfl, _, rfl, sp, gr, .ref ld, fs, bs, rfl, S4, hld4, ok, fun q1 ws1 H9 x9 S9 hq10 hq1 po1 => ?_⟩
      have hev9 := x9.tup hev4
      have hod9 := dp_extS x9 nlo hld4
      refine ⟨_, rfl, _, rfl, .ref ld, ev, fs, bs, List.range fs.length, rfl, hod9, hn12, ok.bord, SqT.of hev9, (fun x hx => List.mem_range.mp hx), List.pairwise_lt_range, fun q3 H12 rs x12 hq30 hq3 hgood hrl hpcs => ?_⟩
      rw [List.length_range] at hrl
      have po3 : PlanOk fs.length bs rs := planOk_of hn12 (by omega) (fun b hb => hb) hgood hrl hpcs
      have hev12 := x12.tup hev9
      refine ⟨_, rfl, ev, rfl, ⟨_, SqT.of hev12⟩, fun D hD => ?_⟩
      refine lc_tup (K := K) (a := ev) (xs := vsN (List.range fs.length)) (fun u H10 => ∃ as : List V, H10 D = some (.lst as) ∧ DpAll K H10 as ((ones u).map lotD) ∧ Ext H12 H10) ⟨[], upd_same, .nil, .new hD⟩ (fun u H10 _ ⟨_, _, _, x10⟩ => SqT.of (x10.tup hev12)) (fun u y' H10 hy' ⟨as, e10, hA, x10⟩ => ?_) (fun H10 ⟨as, e10, hA, x10⟩ => ?_)
      · have hu : u < fs.length := by
          have := (List.getElem?_eq_some_iff.mp hy').1
          rwa [vsN_len0, List.length_range] at this
        have ey : y' = .int (u : Int) := by
          rw [vsN_at (show u < (List.range fs.length).length by rw [List.length_range]; exact hu), List.getElem_range] at hy'
          exact (Option.some.inj hy').symm
        subst ey
        have hal := dpAll_len hA
        rw [List.length_map, ones, List.length_map, List.length_range] at hal
        refine ⟨rfl, ?_⟩
        dsimp only [tYes]
        rw [if_pos rfl]
        refine ⟨_, rfl, by show 1 ≤ sizeLine; decide, fun p hp => ⟨as, (Ext.new hp).lst e10, small1000 (by omega), as ++ [.ref p], upd_same, ?_, (x10.trans (.new hp)).write hD⟩⟩
        rw [show ones (u + 1) = ones u ++ [[u]] by rw [ones, ones, List.range_succ, List.map_append]; rfl, List.map_append]
        have hpD : p ≠ D := (ne_of_none e10 hp).symm
        have xd : ExtS [D] H10 (upd (upd H10 p (.tup [.int (u : Int)])) D (.lst (as ++ [.ref p]))) := (ExtS.new hp).write (.inr ⟨by simp, _, e10⟩)
        have nlm : noLs ((ones u).map lotD) = true := noLs_map lotD noL_lot (ones u)
        refine dpAll_app (dpAll_extS xd nlm hA) (.cons ?_ .nil)
        exact .tup (SqT.of (by rw [upd_ne hpD]; exact upd_same)) (dpAll_lot [u])
      rw [vsN_len0, List.length_range] at hA
      refine .inl ⟨D, _, rfl, SqL.of e10, fun q2 hq2 => ?_⟩
      have x11 : Ext H12 (upd H10 q2 (.tup as)) := x10.trans (.new hq2)
      have hp2 : Dp K (upd H10 q2 (.tup as)) (.ref q2) (planD (ones fs.length)) := dp_new hq2 hA
      have S11 := (S9.ext x12).ext x11
      have hod11 := dp_ext (x12.trans x11) hod9
      have hq1' := dp_ext (x12.trans x11) hq1
      have hq3' := dp_ext x11 hq3
      have T11 : Tabs [T1, T2, T3, T4, T5, T6, T7] (upd H10 q2 (.tup as)) := fun Pt hPt => (x12.trans x11).tabs Pt (x9.tabs Pt (T4' Pt hPt))
      have hl111 := (x12.trans x11).sqT (x9.sqT hl14)
      have hl211 := (x12.trans x11).sqT (x9.sqT hl24)
      clear hA e10 x10 S9 T4' hld4 hq1 hq3 hod9 hpcs hgood hev12 hev9 hev4 hl14 hl24
      generalize upd H10 q2 (.tup as) = H11 at hp2 hq1' hq3' hod11 S11 T11 hl111 hl211 ⊢
      refine ⟨by show 3 ≤ sizeLine; decide, fun qp hqp => ?_⟩
      have x13 : Ext H11 (upd H11 qp (.lst [.ref q1, .ref q3, .ref q2])) := .new hqp
      have plans : ∀ y' ∈ ([.ref q1, .ref q3, .ref q2] : List V), ∃ ws, Dp K (upd H11 qp (.lst [.ref q1, .ref q3, .ref q2])) y' (planD ws) ∧ PlanOk fs.length bs ws := fun y' hy' => by
        simp only [List.mem_cons, List.not_mem_nil, or_false] at hy'
        rcases hy' with rfl | rfl | rfl
        · exact ⟨_, dp_ext x13 hq1', po1⟩
        · exact ⟨_, dp_ext x13 hq3', po3⟩
        · exact ⟨_, dp_ext x13 hp2, ones_ok bs (by omega) hn12⟩
      have hqpn : qp ∉ [sp, gr] := S11.notin hqp
      have hqp13 : (upd H11 qp (.lst [.ref q1, .ref q3, .ref q2])) qp = some (.lst [.ref q1, .ref q3, .ref q2]) := upd_same
      have hod13 := dp_ext x13 hod11
      have S13 := S11.ext x13
      have T13 := T11.ext x13
      have hl113 := x13.sqT hl111
      have hl213 := x13.sqT hl211
      clear hod11 S11 T11 hl111 hl211
      generalize upd H11 qp (.lst [.ref q1, .ref q3, .ref q2]) = H13 at plans hqp13 hod13 S13 T13 hl113 hl213 ⊢
      refine ⟨qp, rfl, ⟨_, SqL.of hqp13⟩, for_list (K := K) (a := qp) (xs := [.ref q1, .ref q3, .ref q2]) (fun t σ H14 => ∃ p2 p5 p6 p7 p8 p9 p10 p11 : Option V, σ = [some (.ref a), some (.ref sp), p2, some (.ref ld), some (.ref ev), p5, p6, p7, p8, p9, p10, p11] ∧ ExtS [sp, gr] H13 H14 ∧ SpAt H14 sp gr)
        ⟨_, _, _, _, _, _, _, _, rfl, .refl _ _, S13⟩ (fun t σ H14 _ ⟨_, _, _, _, _, _, _, _, _, x, _⟩ => SqL.of (x.lst hqpn hqp13)) ?_ ?_⟩
      · rintro t' y' σ H14 hy' ⟨r2, r5, r6, r7, r8, r9, r10, r11, rfl, x14, S14⟩
        obtain ⟨ws, hpl, po⟩ := plans y' (List.mem_of_getElem? hy')
        have hod14 := dp_extS x14 nlo hod13
        have hpl14 := dp_extS x14 (noL_plan ws) hpl
        have T14 : Tabs [T1, T2, T3, T4, T5, T6, T7] H14 := fun Pt hPt => x14.tabs Pt (T13 Pt hPt)
        have hl114 := x14.sqT hl113
        have hl214 := x14.sqT hl213
        obtain ⟨ap, xp, rfl, hp1, hp2'⟩ := dp_tup hpl14
        have hxp := dpAll_len hp2'
        rw [List.length_map] at hxp
        have hfew := po.w.few
        have hpos : 0 < ws.length := List.length_pos_iff.mpr po.ne
        -- sizes
        refine ⟨_, rfl, ap, rfl, ⟨_, hp1⟩, fun D4 hD4 => ?_⟩
        refine lc_tup (K := K) (a := ap) (xs := xp) (fun u H16 => H16 D4 = some (.lst ((sizesOf fs (ws.take u)).map V.int)) ∧ Ext H14 H16) ⟨by rw [List.take_zero]; exact upd_same, .new hD4⟩ (fun u H16 _ ⟨_, x16⟩ => x16.sqT hp1) (fun u y H16 hy ⟨e16, x16⟩ => ?_) (fun H16 ⟨e16, x16⟩ => ?_)
        · have hu : u < ws.length := by
            have := (List.getElem?_eq_some_iff.mp hy).1
            omega
          obtain ⟨dy, hdy, hpy⟩ := dpAll_get' hp2' hy
          rw [List.getElem?_map, List.getElem?_eq_getElem hu] at hdy
          have hdy := (Option.some.inj hdy).symm
          subst hdy
          obtain ⟨aw, rfl, hsw⟩ := dp_lot hpy
          have lo := po.w.lots _ (List.getElem_mem hu)
          have etk : sizesOf fs (ws.take (u + 1)) = sizesOf fs (ws.take u) ++ [folkOf fs ws[u]] := by
            rw [sizesOf, sizesOf, List.take_add_one, List.getElem?_eq_getElem hu, List.map_append]
            rfl
          have hsl : (sizesOf fs (ws.take u)).length ≤ u := by
            rw [sizesOf, List.length_map, List.length_take]
            exact Nat.min_le_left _ _
          have lolt := lo.lt
          have lole := asc_len lo.asc lo.lt
          generalize ws[u] = wd at *
          refine ⟨rfl, ?_⟩
          dsimp only [tYes]
          rw [if_pos rfl]
          refine ⟨_, rfl, aw, rfl, ⟨_, x16.sqT hsw⟩, fun D5 hD5 => ?_⟩
          refine lc_tup (K := K) (a := aw) (xs := vsN wd) (fun v H17 => H17 D5 = some (.lst (((wd.take v).map fun p => fs.getD p 0).map V.int)) ∧ Ext H16 H17) ⟨by rw [List.take_zero]; exact upd_same, .new hD5⟩ (fun v H17 _ ⟨_, x17⟩ => (x16.trans x17).sqT hsw) (fun v y H17 hy2 ⟨e17, x17⟩ => ?_) (fun H17 ⟨e17, x17⟩ => ?_)
          · rw [List.getElem?_map] at hy2
            cases eb : wd[v]? with
            | none => rw [eb] at hy2; cases hy2
            | some pl =>
              rw [eb] at hy2
              cases hy2
              have hpl' := lolt pl (List.mem_of_getElem? eb)
              have hv' := (List.getElem?_eq_some_iff.mp eb).1
              have ef : (fs.map V.int)[pl]? = some (V.int (fs.getD pl 0)) := by
                rw [List.getElem?_map, List.getElem?_eq_getElem hpl', List.getD_eq_getElem?_getD, List.getElem?_eq_getElem hpl']
                rfl
              refine ⟨rfl, ?_⟩
              dsimp only [tYes]
              rw [if_pos rfl]
              have x9'' := x16.trans x17
              refine ⟨_, rfl, ld, _, _, _, rfl, rfl, x9''.sqT hl114, atI_nat (j := 0) rfl, _, rfl, af, _, _, _, rfl, rfl, x9''.sqT hl214, atI_nat ef, _, e17, by rw [List.length_map, List.length_map, List.length_take]; exact small1000 (by omega), ?_, x17.write hD5⟩
              rw [upd_same, List.take_add_one, eb, List.map_append, List.map_append]
              rfl
          · rw [vsN_len0, List.take_length] at e17
            refine ⟨D5, _, rfl, SqL.of e17, _, x17.lst e16, by rw [List.length_map]; exact small1000 (by omega), ?_, (x16.trans x17).write hD4⟩
            rw [upd_same, etk, List.map_append]
            rfl
        rw [hxp, List.take_length] at e16
        dsimp only [gName, tSeq, List.set]
        have hDn : D4 ∉ [sp, gr] := S14.notin hD4
        have S16 := S14.ext x16
        -- wide
        refine ⟨_, rfl, sp, gr, 12, rfl, S16, by decide, by decide, fun n1 H17 hn1 x17 S17 => ⟨_, _, rfl, rfl, ?_⟩⟩
        refine ⟨_, rfl, sp, gr, 100, rfl, S17, by decide, by decide, fun n2 H18 hn2' x18 S18 => ⟨_, _, rfl, rfl, ?_⟩⟩
        refine ⟨by show 4 ≤ sizeLine; decide, fun lw hlw => ?_⟩
        have xw := Ext.new (o := .lst [.int 1, .int 100, .int (1 + (n1 : Int)), .int (1 + (n2 : Int))]) hlw
        refine ⟨_, rfl, sp, gr, 4, rfl, S18.ext xw, by decide, by decide, fun n4 H19 hn4 x19 S19 => ?_⟩
        have hlw19 := x19.lst (S18.notin hlw) (upd_same (H := H18) (a := lw) (o := .lst [.int 1, .int 100, .int (1 + (n1 : Int)), .int (1 + (n2 : Int))]))
        obtain ⟨wide, hwide, hpick⟩ : ∃ wide : Nat, (1 ≤ wide ∧ wide ≤ 100) ∧ ([.int 1, .int 100, .int (1 + (n1 : Int)), .int (1 + (n2 : Int))] : List V)[n4]? = some (.int (wide : Int)) := by
          match n4, hn4 with
          | 0, _ => exact ⟨1, by decide, rfl⟩
          | 1, _ => exact ⟨100, by decide, rfl⟩
          | 2, _ => exact ⟨1 + n1, by omega, by rw [Int.natCast_add]; rfl⟩
          | 3, _ => exact ⟨1 + n2, by omega, by rw [Int.natCast_add]; rfl⟩
        refine ⟨lw, _, _, _, rfl, rfl, SqL.of hlw19, atI_nat hpick, ?_⟩
        dsimp only [gName, tSeq, List.set]
        have x1619 : ExtS [sp, gr] H16 H19 := x17.trans (x18.trans ((ExtS.of xw).trans x19))
        have x1419 : ExtS [sp, gr] H14 H19 := (ExtS.of x16).trans x1619
        have hsz := x1619.lst hDn e16
        have hod19 := dp_extS x1419 nlo hod14
        have hpl19 := dp_extS x1419 (noL_plan ws) hpl14
        have T19 : Tabs [T1, T2, T3, T4, T5, T6, T7] H19 := fun Pt hPt => x1419.tabs Pt (T14 Pt hPt)
        have x1319 := x14.trans x1419
        have hp119 := x1419.sqT hp1
        clear hlw19 xw x17 x18 x19 S16 S17 S18 S14 hod14 hpl14 T14 x1619 e16 hD4 hDn hl114 hl214
        -- due
        have bd := size_bd ok po
        have hsl : (sizesOf fs ws).length = ws.length := by rw [sizesOf, List.length_map]
        refine ⟨_, rfl, _, rfl, .ref ld, .ref ap, fs, bs, ws, rfl, hod19, ok, hpl19, po, fun qs H20 x20 _ hqs => ?_⟩
        refine ⟨_, rfl, _, rfl, D4, sizesOf fs ws, wide, rfl, SqL.of (x20.lst hsz), by omega, by omega, bd, hwide.2, fun m qb H21 x21 _ hm hle hqb => ?_⟩
        refine ⟨by show 2 ≤ sizeLine; decide, fun qd hqd => ?_⟩
        dsimp only [gName, tSeq, List.set]
        have x22 : Ext H19 (upd H21 qd (.lst [.ref qs, .ref qb])) := (x20.trans x21).trans (.new hqd)
        have hqdF : H19 qd = none := (x20.trans x21).free hqd
        have hqd22 : (upd H21 qd (.lst [.ref qs, .ref qb])) qd = some (.lst [.ref qs, .ref qb]) := upd_same
        have hqs22 := (x21.trans (Ext.new (o := .lst [.ref qs, .ref qb]) hqd)).tup hqs
        have hqb22 := (Ext.new (o := .lst [.ref qs, .ref qb]) hqd).tup hqb
        clear hqs hqb hqd x20 x21
        generalize upd H21 qd (.lst [.ref qs, .ref qb]) = H22 at x22 hqd22 hqs22 hqb22 ⊢
        refine ⟨_, rfl, .inl ⟨rfl, _, SqL.of hqd22⟩, _, rfl, _, xp.length, rfl, .inr ⟨_, x22.sqT hp119, rfl⟩, _, rfl, by omega, by omega, fun D6 hD6 => ?_⟩
        refine lc_range (lo := 0) (n := (xp.length : Int).toNat) (fun j H23 => H23 D6 = some (.lst (((List.range j).map fun k => listR k (folkOf fs (ws.getD k [])) (ws.getD k [])).map V.str)) ∧ Ext H22 H23) ⟨upd_same, .new hD6⟩ (fun j H23 hj ⟨e23, x23⟩ => ?_) fun H23 ⟨e23, x23⟩ => ?_
        · rw [Int.toNat_natCast] at hj
          rw [Int.zero_add]
          have hj : j < ws.length := by omega
          have egd : ws.getD j [] = ws[j] := by rw [List.getD_eq_getElem?_getD, List.getElem?_eq_getElem hj]; rfl
          obtain ⟨vw, hvw, hdw⟩ := dpAll_get hp2' (i := j) (d := lotD ws[j]) (by rw [List.getElem?_map, List.getElem?_eq_getElem hj]; rfl)
          obtain ⟨aw, rfl, hsw⟩ := dp_lot hdw
          have lo := po.w.lots _ (List.getElem_mem hj)
          have hne : ws[j] ≠ [] := lo.ne
          have lolt := lo.lt
          have lole := asc_len lo.asc lo.lt
          have egv : ((sizesOf fs ws).map V.int)[j]? = some (.int (folkOf fs ws[j])) := by rw [sizesOf, List.map_map, List.getElem?_map, List.getElem?_eq_getElem hj]; rfl
          have fb := bd (folkOf fs ws[j]) (by rw [sizesOf]; exact List.mem_map.mpr ⟨_, List.getElem_mem hj, rfl⟩)
          have hsz23 := (x22.trans x23).lst hsz
          have hsw23 := (x22.trans x23).sqT (x1419.sqT hsw)
          have hp123 := (x22.trans x23).sqT hp119
          rw [← egd] at hdw hsw23 hne lolt lole egv fb
          generalize hu : ws.getD j [] = u at hdw hsw23 hne lolt lole egv fb
          have l1 : (⟨#[97 + j]⟩ : Str).length = 1 := rfl
          have l2 : (" " : Str).length = 1 := by decide +kernel
          have l4 : (":" : Str).length = 1 := by decide +kernel
          have fl : (nTx (folkOf fs u)).length ≤ 10 := nTx_len (k := 9) (by decide) (by omega)
          have hp12 : ∀ p ∈ u, p < 12 := fun p hp => by have := lolt p hp; omega
          refine ⟨rfl, ?_⟩
          dsimp only [tYes]
          rw [if_pos rfl]
          refine ⟨⟨_, rfl⟩, ?_⟩
          refine ⟨_, rfl, _, _, 97 + j, rfl, rfl, by decide +kernel, atI_nat (let_at (by omega)), ?_⟩
          refine ⟨_, rfl, _, rfl, D4, _, _, _, rfl, rfl, SqL.of hsz23, atI_nat egv, _, rfl, log2_lt (m := 12000000) (k := 1920) (by omega) (by decide +kernel) (by decide), ?_⟩
          refine ⟨by show 3 ≤ sizeLine; decide, fun qL hqL => ?_⟩
          show _
          have x24 := Ext.new (o := .lst [.str ⟨#[97 + j]⟩, .str (nTx (folkOf fs u)), .str ":"]) hqL
          refine ⟨_, rfl, _, rfl, ap, _, _, _, rfl, rfl, x24.sqT hp123, atI_nat hvw, aw, rfl, ⟨_, x24.sqT hsw23⟩, fun D7 hD7 => ?_⟩
          refine lc_tup (K := K) (a := aw) (xs := vsN u) (fun t H25 => H25 D7 = some (.lst (((u.take t).map fun p : Nat => nTx (p : Int)).map V.str)) ∧ Ext (upd H23 qL (.lst [.str ⟨#[97 + j]⟩, .str (nTx (folkOf fs u)), .str ":"])) H25) ⟨by rw [List.take_zero]; exact upd_same, .new hD7⟩ (fun t H25 _ ⟨_, x25⟩ => (x24.trans x25).sqT hsw23) (fun t y H25 hy2 ⟨e25, x25⟩ => ?_) (fun H25 ⟨e25, x25⟩ => ?_)
          · rw [List.getElem?_map] at hy2
            cases eb : u[t]? with
            | none => rw [eb] at hy2; cases hy2
            | some pl =>
              rw [eb] at hy2
              cases hy2
              have hpl' := hp12 pl (List.mem_of_getElem? eb)
              have hv' := (List.getElem?_eq_some_iff.mp eb).1
              refine ⟨rfl, ?_⟩
              dsimp only [tYes]
              rw [if_pos rfl]
              refine ⟨_, rfl, _, rfl, log2_lt (m := 12) (k := 1920) (by omega) (by decide +kernel) (by decide), _, e25, by rw [List.length_map, List.length_map, List.length_take]; exact small1000 (by omega), ?_, x25.write hD7⟩
              rw [upd_same, List.take_add_one, eb, List.map_append, List.map_append]
              rfl
          · rw [vsN_len0, List.take_length] at e25
            refine ⟨qL, D7, _, _, rfl, rfl, x25.lst upd_same, e25, by rw [List.length_map, List.length_map, sizeLine_eq]; show 3 + _ ≤ _; omega, fun z hz => ?_⟩
            have hny : ∀ y ∈ u.map (fun p : Nat => nTx (p : Int)), y.length ≤ 3 := fun y hy => by
              obtain ⟨p, hp, rfl⟩ := List.mem_map.mp hy
              have := hp12 p hp
              exact nTx_len (k := 2) (by decide) (by omega)
            have hjl := join_len (s := " ") (m := 3) hny
            rw [List.length_map] at hjl
            have x26 := (x24.trans x25).trans (Ext.new (o := .lst (([.str ⟨#[97 + j]⟩, .str (nTx (folkOf fs u)), .str ":"] : List V) ++ (u.map fun p : Nat => nTx (p : Int)).map V.str)) hz)
            refine ⟨" ", z, [(⟨#[97 + j]⟩ : Str), nTx (folkOf fs u), ":"] ++ u.map (fun p : Nat => nTx (p : Int)), rfl, rfl, .inl (SqL.of upd_same), ?_, ?_⟩
            · rw [List.map_append, List.sum_append, List.length_append, List.length_map, l2]
              have e3 : (([(⟨#[97 + j]⟩ : Str), nTx (folkOf fs u), ":"]).map (·.length)).sum = 1 + ((nTx (folkOf fs u)).length + (1 + 0)) := by
                show (⟨#[97 + j]⟩ : Str).length + ((nTx (folkOf fs u)).length + ((":" : Str).length + 0)) = _
                rw [l1, l4]
              rw [e3]
              show _ + (3 + _) * 1 ≤ _
              omega
            · rw [list_eq hne]
              refine ⟨_, x26.lst e23, by simp only [List.length_map, List.length_range]; exact small1000 (by omega), ?_, (x23.trans x26).write hD6⟩
              rw [upd_same, List.range_succ, List.map_append, List.map_append]
              show _ = some (HO.lst (_ ++ [V.str (listR j (folkOf fs (ws.getD j [])) (ws.getD j []))]))
              rw [hu]
        rw [Int.toNat_natCast, hxp] at e23
        refine .inl ⟨D6, _, rfl, SqL.of e23, fun ql hql => ?_⟩
        have x24 := x23.trans (Ext.new (o := .tup (((List.range ws.length).map fun k => listR k (folkOf fs (ws.getD k [])) (ws.getD k [])).map V.str)) hql)
        have hql24 : (upd H23 ql (.tup (((List.range ws.length).map fun k => listR k (folkOf fs (ws.getD k [])) (ws.getD k [])).map V.str))) ql = some (.tup ((listedL fs ws).map V.str)) := upd_same
        have hqd24 := x24.lst hqd22
        have hqs24 := x24.tup hqs22
        have hqb24 := x24.tup hqb22
        clear e23 x23 hql hqd22 hqs22 hqb22
        generalize upd H23 ql (.tup (((List.range ws.length).map fun k => listR k (folkOf fs (ws.getD k [])) (ws.getD k [])).map V.str)) = H24 at x24 hql24 hqd24 hqs24 hqb24 ⊢
        refine ⟨qd, _, _, rfl, rfl, hqd24, by show 2 < sizeLine; decide, ?_⟩
        have x1926 : Ext H19 (upd H24 qd (.lst ([.ref qs, .ref qb] ++ [.ref ql]))) := (x22.trans x24).write hqdF
        have keepT : ∀ {q : Addr} {xs : List V}, H24 q = some (.tup xs) → (upd H24 qd (.lst ([.ref qs, .ref qb] ++ [.ref ql]))) q = some (.tup xs) := fun {q xs} e => by
          rw [upd_ne (fun z => by rw [z, hqd24] at e; cases e)]
          exact e
        have hqs26 := keepT hqs24
        have hqb26 := keepT hqb24
        rw [bars_eq] at hqb26
        have hql26 := keepT hql24
        have hqd26 : (upd H24 qd (.lst ([.ref qs, .ref qb] ++ [.ref ql]))) qd = some (.lst [.ref qs, .ref qb, .ref ql]) := upd_same
        clear hqs24 hqb24 hql24 hqd24 x22 x24 keepT
        generalize upd H24 qd (.lst ([.ref qs, .ref qb] ++ [.ref ql])) = H26 at x1926 hqs26 hqb26 hql26 hqd26 ⊢
        have hod26 := dp_ext x1926 hod19
        have hpl26 := dp_ext x1926 hpl19
        have T26 := T19.ext x1926
        have ss : ∀ {Hx : Hp}, Tabs [T1, T2, T3, T4, T5, T6, T7] Hx → Tabs [T1, T2, T3, T4] Hx ∧ Tabs [T1, T2, T3, T4, T5, T6] Hx ∧ Tabs [T1, T2, T3, T4, T5, T7] Hx := fun {Hx} T =>
          ⟨fun Pt h => T Pt (by simp at h ⊢; rcases h with h | h | h | h <;> simp [h]), fun Pt h => T Pt (by simp at h ⊢; rcases h with h | h | h | h | h | h <;> simp [h]), fun Pt h => T Pt (by simp at h ⊢; rcases h with h | h | h | h | h | h <;> simp [h])⟩
        have w12 : ws.length ≤ 12 := by omega
        obtain ⟨f1, f2⟩ := fine_sq po hn12
        obtain ⟨f3, f4⟩ := fine_bars (fs := fs) (wide := wide) (m := m) w12
        obtain ⟨f5, f6⟩ := fine_list (fs := fs) w12
        have g3 : Sh 3 (.list [picD (squareL fs.length (ownOf ws) bs), picD (barsL fs ws wide m), picD (listedL fs ws)]) := .lst fun e he => by
          simp only [List.mem_cons, List.not_mem_nil, or_false] at he
          rcases he with rfl | rfl | rfl
          · exact f1
          · exact f3
          · exact f5
        have g4 : smD (.list [picD (squareL fs.length (ownOf ws) bs), picD (barsL fs ws wide m), picD (listedL fs ws)]) = true := by simp [smD, smDs, f2, f4, f6]
        have due : ∀ {Hx : Hp}, Ext H26 Hx → Dp K Hx (.ref qd) (.list [picD (squareL fs.length (ownOf ws) bs), picD (barsL fs ws wide m), picD (listedL fs ws)]) := fun {Hx} x =>
          .lst (SqL.of (x.lst hqd26)) (.cons (dp_pic (x.tup hqs26)) (.cons (dp_pic (x.tup hqb26)) (.cons (dp_pic (x.tup hql26)) .nil)))
        refine ⟨_, rfl, _, rfl, .ref ld, .ref ap, fs, bs, ws, rfl, hod26, ok, hpl26, po, (ss T26).1, fun qa H27 x27 _ hqa => ?_⟩
        refine ⟨_, rfl, _, rfl, _, rfl, .ref ld, .ref ap, fs, bs, ws, wide, rfl, dp_ext x27 hod26, ok, dp_ext x27 hpl26, po, hwide, (ss (T26.ext x27)).2.1, fun m2 qc H28 x28 _ hm2 hle2 hqc => ?_⟩
        obtain rfl := max_one hm hle hm2 hle2
        have x2628 := x27.trans x28
        refine ⟨_, rfl, _, rfl, .ref ld, .ref ap, fs, bs, ws, rfl, dp_ext x2628 hod26, ok, dp_ext x2628 hpl26, po, (ss (T26.ext x2628)).2.2, fun qe H29 x29 _ hqe => ?_⟩
        refine ⟨by show 3 ≤ sizeLine; decide, fun lf hlf => ⟨_, rfl, ?_⟩⟩
        have z1 := Ext.new (o := .lst [.ref qa, .ref qc, .ref qe]) hlf
        have x2630 := (x2628.trans x29).trans z1
        refine ⟨.ref lf, .ref qd, _, rfl, .lst (SqL.of upd_same) (.cons (dp_ext ((x28.trans x29).trans z1) (dp_pic hqa)) (.cons (dp_ext (x29.trans z1) (dp_pic hqc)) (.cons (dp_ext z1 (dp_pic hqe)) .nil))), due x2630, g3.lay, g4, by have := g3.dep; omega, fun H31 x31 => ⟨true, rfl, iteF ?_⟩⟩
        have x2631 := x2630.trans x31
        clear hlf z1 hqa hqc hqe x27 x28 x29 x2628 x2630 x31
        have hod31 := dp_ext x2631 hod26
        have hpl31 := dp_ext x2631 hpl26
        have T31 := T26.ext x2631
        dsimp only [tSeq]
        refine ⟨_, rfl, _, rfl, .ref ld, .ref ap, fs, bs, ws, rfl, hod31, ok, hpl31, po, (ss T31).1, fun qa H27 x27 _ hqa => ?_⟩
        refine ⟨_, rfl, _, rfl, _, rfl, .ref ld, .ref ap, fs, bs, ws, wide, rfl, dp_ext x27 hod31, ok, dp_ext x27 hpl31, po, hwide, (ss (T31.ext x27)).2.1, fun m2 qc H28 x28 _ hm2 hle2 hqc => ?_⟩
        obtain rfl := max_one hm hle hm2 hle2
        have x2628 := x27.trans x28
        refine ⟨_, rfl, _, rfl, .ref ld, .ref ap, fs, bs, ws, rfl, dp_ext x2628 hod31, ok, dp_ext x2628 hpl31, po, (ss (T31.ext x2628)).2.2, fun qe H29 x29 _ hqe => ?_⟩
        refine ⟨by show 3 ≤ sizeLine; decide, fun lf hlf => ⟨_, rfl, ?_⟩⟩
        have z1 := Ext.new (o := .lst [.ref qa, .ref qc, .ref qe]) hlf
        have x2630 := x2631.trans ((x2628.trans x29).trans z1)
        refine ⟨.ref lf, .ref qd, _, rfl, .lst (SqL.of upd_same) (.cons (dp_ext ((x28.trans x29).trans z1) (dp_pic hqa)) (.cons (dp_ext (x29.trans z1) (dp_pic hqc)) (.cons (dp_ext z1 (dp_pic hqe)) .nil))), due x2630, g3.lay, g4, by have := g3.dep; omega, fun H32 x32 => ⟨true, rfl, iteF ?_⟩⟩
        exact ⟨_, _, _, _, _, _, _, _, rfl, x1319.trans (.of ((x1926.trans x2630).trans x32)), S19.ext ((x1926.trans x2630).trans x32)⟩
      · rintro σ H14 ⟨r2, r5, r6, r7, r8, r9, r10, r11, rfl, x14, S14⟩
        exact ⟨_, _, _, _, _, _, _, _, _, _, rfl, S14, fun Pt hPt => x14.tabs Pt (T13 Pt hPt)⟩
    · rintro σ H3 ⟨o2, o3, o4, o5, o6, o7, o8, o9, o10, o11, rfl, S3, T3'⟩
      exact k H3
end
end Wd

set_option Elab.async false
set_option linter.all false
set_option maxRecDepth 100000
set_option maxHeartbeats 4000000
namespace Wd
open PySem PySem.Spec PyProof.Rows L2 Bx Gx













































/-! ### the head -/
theorem funC_of {K : PySem.W.Frag} {x qual : Str} {st : Stmt} {p : Str × Option Str} {fd : FuncData} (F : FunD K x qual (defArgs st) (defBody st) (defScope st) [] [] (He.fAd K p) fd) : FunC K x qual st (He.fAd K p) fd (He.codeOf K p) := by
  obtain ⟨oc, od, dV, kV, doc, pm, an, cdv, ct, osl, e, l, c, hd, _⟩ := F.ex
  rcases hd with ⟨_, e2⟩ | ⟨e2, _⟩
  · subst e2
    obtain ⟨c0, rfl⟩ := He.codeIn_ref c
    have ec : He.codeOf K p = c0 := He.codeOf_eq l (by rw [e])
    rw [ec]
    exact ⟨⟨oc, od, kV, doc, pm, an, ct, osl, e, l, c⟩, F.kp⟩
  · exact absurd rfl e2
theorem kb_swp {K : PySem.W.Frag} {x qual : Str} {st : Stmt} {f : Addr} {fd : FuncData} {a b : Str} (F : Fun K x qual st f fd)
    (h : ∀ (kV doc pm : Value) (an : Option Addr) (cdv ct : Value) (u v : Value), bindArgs (PySem.W.fnOf x qual (defArgs st) (defBody st) (defScope st) .none kV doc pm an cdv ct) ⟨[], [(b, v), (a, u)]⟩ = pure [(a, u), (b, v)]) : KBinds K fd [a, b] [b, a] swp swp := by
  obtain ⟨oc, od, kV, doc, pm, an, cdv, ct, osl, rfl, lk, hc⟩ := F.ex
  refine ⟨fun s us ws _ hl => ?_, swp_rel⟩
  match us, ws, hl with
  | [], [v, u], _ => exact .of_eq (h kV doc pm an cdv ct u v)
  | [], [], hl => cases hl
  | [], [_], hl => cases hl
  | [], _ :: _ :: _ :: _, hl => cases hl
  | _ :: _, _, hl => cases hl

theorem kb_rev3 {K : PySem.W.Frag} {x qual : Str} {st : Stmt} {f : Addr} {fd : FuncData} {a b c : Str} (F : Fun K x qual st f fd)
    (h : ∀ (kV doc pm : Value) (an : Option Addr) (cdv ct : Value) (u v z : Value), bindArgs (PySem.W.fnOf x qual (defArgs st) (defBody st) (defScope st) .none kV doc pm an cdv ct) ⟨[], [(c, z), (b, v), (a, u)]⟩ = pure [(a, u), (b, v), (c, z)]) : KBinds K fd [a, b, c] [c, b, a] rev3 rev3 := by
  obtain ⟨oc, od, kV, doc, pm, an, cdv, ct, osl, rfl, lk, hc⟩ := F.ex
  refine ⟨fun s us ws hu hl => ?_, rev3_rel⟩
  match us, ws, hl with
  | [], [z, v, u], _ => exact .of_eq (h kV doc pm an cdv ct u v z)
  | [], [], hl => cases hl
  | [], [_], hl => cases hl
  | [], [_, _], hl => cases hl
  | [], _ :: _ :: _ :: _ :: _, hl => cases hl
  | _ :: _, _, hl => cases hl

def d_is_integer : He.DefD := ⟨("is_integer", none), "is_integer", "is_integer", defArgs st_is_integer, defBody st_is_integer, defScope st_is_integer, [], []⟩
def d_is_place : He.DefD := ⟨("is_place", none), "is_place", "is_place", defArgs st_is_place, defBody st_is_place, defScope st_is_place, [], []⟩
def d_is_ascending : He.DefD := ⟨("is_ascending", none), "is_ascending", "is_ascending", defArgs st_is_ascending, defBody st_is_ascending, defScope st_is_ascending, [], []⟩
def d_is_lot : He.DefD := ⟨("is_lot", none), "is_lot", "is_lot", defArgs st_is_lot, defBody st_is_lot, defScope st_is_lot, [], []⟩
def d_mask_of : He.DefD := ⟨("mask_of", none), "mask_of", "mask_of", defArgs st_mask_of, defBody st_mask_of, defScope st_mask_of, [], []⟩
def d_lot_of : He.DefD := ⟨("lot_of", none), "lot_of", "lot_of", defArgs st_lot_of, defBody st_lot_of, defScope st_lot_of, [], []⟩
def d_whole_mask : He.DefD := ⟨("whole_mask", none), "whole_mask", "whole_mask", defArgs st_whole_mask, defBody st_whole_mask, defScope st_whole_mask, [], []⟩
def d_links_of : He.DefD := ⟨("links_of", none), "links_of", "links_of", defArgs st_links_of, defBody st_links_of, defScope st_links_of, [], []⟩
def d_reached : He.DefD := ⟨("reached", none), "reached", "reached", defArgs st_reached, defBody st_reached, defScope st_reached, [], []⟩
def d_hangs_together : He.DefD := ⟨("hangs_together", none), "hangs_together", "hangs_together", defArgs st_hangs_together, defBody st_hangs_together, defScope st_hangs_together, [], []⟩
def d_is_border : He.DefD := ⟨("is_border", none), "is_border", "is_border", defArgs st_is_border, defBody st_is_border, defScope st_is_border, [], []⟩
def d_fault_of_folk : He.DefD := ⟨("fault_of_folk", none), "fault_of_folk", "fault_of_folk", defArgs st_fault_of_folk, defBody st_fault_of_folk, defScope st_fault_of_folk, [], []⟩
def d_fault_of_borders : He.DefD := ⟨("fault_of_borders", none), "fault_of_borders", "fault_of_borders", defArgs st_fault_of_borders, defBody st_fault_of_borders, defScope st_fault_of_borders, [], []⟩
def d_fault_of_land : He.DefD := ⟨("fault_of_land", none), "fault_of_land", "fault_of_land", defArgs st_fault_of_land, defBody st_fault_of_land, defScope st_fault_of_land, [], []⟩
def d_fault_of_plan : He.DefD := ⟨("fault_of_plan", none), "fault_of_plan", "fault_of_plan", defArgs st_fault_of_plan, defBody st_fault_of_plan, defScope st_fault_of_plan, [], []⟩
def d_check_land : He.DefD := ⟨("check_land", none), "check_land", "check_land", defArgs st_check_land, defBody st_check_land, defScope st_check_land, [], []⟩
def d_check_plan : He.DefD := ⟨("check_plan", none), "check_plan", "check_plan", defArgs st_check_plan, defBody st_check_plan, defScope st_check_plan, [], []⟩
def d_check_count : He.DefD := ⟨("check_count", none), "check_count", "check_count", defArgs st_check_count, defBody st_check_count, defScope st_check_count, [], []⟩
def d_folk_within : He.DefD := ⟨("folk_within", none), "folk_within", "folk_within", defArgs st_folk_within, defBody st_folk_within, defScope st_folk_within, [], []⟩
def d_ward_row : He.DefD := ⟨("ward_row", none), "ward_row", "ward_row", defArgs st_ward_row, defBody st_ward_row, defScope st_ward_row, [], []⟩
def d_sign_of : He.DefD := ⟨("sign_of", none), "sign_of", "sign_of", defArgs st_sign_of, defBody st_sign_of, defScope st_sign_of, [], []⟩
def d_bar_of : He.DefD := ⟨("bar_of", none), "bar_of", "bar_of", defArgs st_bar_of, defBody st_bar_of, defScope st_bar_of, [], []⟩
def d_square : He.DefD := ⟨("square", none), "square", "square", defArgs st_square, defBody st_square, defScope st_square, [], []⟩
def d_bars : He.DefD := ⟨("bars", none), "bars", "bars", defArgs st_bars, defBody st_bars, defScope st_bars, [], []⟩
def d_listed : He.DefD := ⟨("listed", none), "listed", "listed", defArgs st_listed, defBody st_listed, defScope st_listed, [], []⟩
def d__law_spring : He.DefD := ⟨("_law_spring", none), "_law_spring", "_law_spring", defArgs st__law_spring, defBody st__law_spring, defScope st__law_spring, [], []⟩
def d__law_drop : He.DefD := ⟨("_law_drop", none), "_law_drop", "_law_drop", defArgs st__law_drop, defBody st__law_drop, defScope st__law_drop, [], []⟩
def d__law_kinds : He.DefD := ⟨("_law_kinds", none), "_law_kinds", "_law_kinds", defArgs st__law_kinds, defBody st__law_kinds, defScope st__law_kinds, [], []⟩
def d__law_alike : He.DefD := ⟨("_law_alike", none), "_law_alike", "_law_alike", defArgs st__law_alike, defBody st__law_alike, defScope st__law_alike, [], []⟩
def d__law_order : He.DefD := ⟨("_law_order", none), "_law_order", "_law_order", defArgs st__law_order, defBody st__law_order, defScope st__law_order, [], []⟩
def d__law_land : He.DefD := ⟨("_law_land", none), "_law_land", "_law_land", defArgs st__law_land, defBody st__law_land, defScope st__law_land, [], []⟩
def d__law_near : He.DefD := ⟨("_law_near", none), "_law_near", "_law_near", defArgs st__law_near, defBody st__law_near, defScope st__law_near, [], []⟩
def d__law_reached : He.DefD := ⟨("_law_reached", none), "_law_reached", "_law_reached", defArgs st__law_reached, defBody st__law_reached, defScope st__law_reached, [], []⟩
def d__law_pieces : He.DefD := ⟨("_law_pieces", none), "_law_pieces", "_law_pieces", defArgs st__law_pieces, defBody st__law_pieces, defScope st__law_pieces, [], []⟩
def d__law_plan : He.DefD := ⟨("_law_plan", none), "_law_plan", "_law_plan", defArgs st__law_plan, defBody st__law_plan, defScope st__law_plan, [], []⟩
def d__law_owners : He.DefD := ⟨("_law_owners", none), "_law_owners", "_law_owners", defArgs st__law_owners, defBody st__law_owners, defScope st__law_owners, [], []⟩
def d__law_square : He.DefD := ⟨("_law_square", none), "_law_square", "_law_square", defArgs st__law_square, defBody st__law_square, defScope st__law_square, [], []⟩
def d__law_bars : He.DefD := ⟨("_law_bars", none), "_law_bars", "_law_bars", defArgs st__law_bars, defBody st__law_bars, defScope st__law_bars, [], []⟩
def d_law : He.DefD := ⟨("law", none), "law", "law", defArgs st_law, defBody st_law, defScope st_law, [], []⟩
def fnl : List He.DefD := [d_is_integer, d_is_place, d_is_ascending, d_is_lot, d_mask_of, d_lot_of, d_whole_mask, d_links_of, d_reached, d_hangs_together, d_is_border, d_fault_of_folk, d_fault_of_borders, d_fault_of_land, d_fault_of_plan, d_check_land, d_check_plan, d_check_count, d_folk_within, d_ward_row, d_sign_of, d_bar_of, d_square, d_bars, d_listed, d__law_spring, d__law_drop, d__law_kinds, d__law_alike, d__law_order, d__law_land, d__law_near, d__law_reached, d__law_pieces, d__law_plan, d__law_owners, d__law_square, d__law_bars, d_law]
def fal : List He.Fa := [.glo "is_integer", .glo "is_place", .glo "is_ascending", .glo "is_lot", .glo "mask_of", .glo "lot_of", .glo "whole_mask", .glo "links_of", .glo "reached", .glo "hangs_together", .glo "is_border", .glo "fault_of_folk", .glo "fault_of_borders", .glo "fault_of_land", .glo "fault_of_plan", .glo "check_land", .glo "check_plan", .glo "check_count", .glo "folk_within", .glo "ward_row", .glo "sign_of", .glo "bar_of", .glo "square", .glo "bars", .glo "listed", .glo "_law_spring", .glo "_law_drop", .glo "_law_kinds", .glo "_law_alike", .glo "_law_order", .glo "_law_land", .glo "_law_near", .glo "_law_reached", .glo "_law_pieces", .glo "_law_plan", .glo "_law_owners", .glo "_law_square", .glo "_law_bars", .glo "law", .free "type", .free "len", .free "all", .free "sum", .free "tuple", .free "list", .free "range", .free "int", .free "bool", .free "str", .free "min", .free "max", .free "sorted", .free "isinstance", .free "set", .int "FEWEST_PLACES" 2, .int "MOST_PLACES" 12, .int "MOST_FOLK" 1000000, .int "MOST_WIDE" 100, .str "LETTERS" "abcdefghijkl"]
def tfl : List He.Defn := [("is_lot", none), ("is_ascending", none), ("mask_of", none), ("lot_of", none), ("folk_within", none), ("bars", none), ("listed", none)]
theorem facts {l : PySem.W.OpenLaw} {w : World} {K : PySem.W.Frag} {h : Heap} {mg : Str → Option Value} {f : Addr} (X : K.In h) (G : h.Ns mainGlobals mg) (hfa : mg ("law" : Str) = some (.ref f)) (c : He.SaysX fal fnl [] tfl (fun _ => true) w h K) :
    LamX.LawAtS l w K CX0 12 63 "script" mg f h := by
  obtain ⟨e0, D0'⟩ := c.t.d.def_ 0 (d := d_is_integer) rfl
  have D0 : FunD K "is_integer" "is_integer" (defArgs st_is_integer) (defBody st_is_integer) (defScope st_is_integer) [] [] (He.fAd K ("is_integer", none)) e0 := D0'
  have g0 := He.glo_ok X G (c.t.d.fact 0 (f := .glo "is_integer") rfl)
  have b0 := D0.bindsN (ps := ["value", "low", "high"]) fun _ _ _ _ _ _ us hl => match us, hl with | [_, _, _], _ => rfl
  have F0 := He5.fun_of D0
  obtain ⟨e1, D1'⟩ := c.t.d.def_ 1 (d := d_is_place) rfl
  have D1 : FunD K "is_place" "is_place" (defArgs st_is_place) (defBody st_is_place) (defScope st_is_place) [] [] (He.fAd K ("is_place", none)) e1 := D1'
  have g1 := He.glo_ok X G (c.t.d.fact 1 (f := .glo "is_place") rfl)
  have b1 := D1.bindsN (ps := ["land", "value"]) fun _ _ _ _ _ _ us hl => match us, hl with | [_, _], _ => rfl
  have F1 := He5.fun_of D1
  obtain ⟨e2, D2'⟩ := c.t.d.def_ 2 (d := d_is_ascending) rfl
  have D2 : FunD K "is_ascending" "is_ascending" (defArgs st_is_ascending) (defBody st_is_ascending) (defScope st_is_ascending) [] [] (He.fAd K ("is_ascending", none)) e2 := D2'
  have g2 := He.glo_ok X G (c.t.d.fact 2 (f := .glo "is_ascending") rfl)
  have b2 := D2.bindsN (ps := ["row"]) fun _ _ _ _ _ _ us hl => match us, hl with | [_], _ => rfl
  have F2 := He5.fun_of D2
  obtain ⟨e3, D3'⟩ := c.t.d.def_ 3 (d := d_is_lot) rfl
  have D3 : FunD K "is_lot" "is_lot" (defArgs st_is_lot) (defBody st_is_lot) (defScope st_is_lot) [] [] (He.fAd K ("is_lot", none)) e3 := D3'
  have g3 := He.glo_ok X G (c.t.d.fact 3 (f := .glo "is_lot") rfl)
  have b3 := D3.bindsN (ps := ["land", "value"]) fun _ _ _ _ _ _ us hl => match us, hl with | [_, _], _ => rfl
  have F3 := He5.fun_of D3
  obtain ⟨e4, D4'⟩ := c.t.d.def_ 4 (d := d_mask_of) rfl
  have D4 : FunD K "mask_of" "mask_of" (defArgs st_mask_of) (defBody st_mask_of) (defScope st_mask_of) [] [] (He.fAd K ("mask_of", none)) e4 := D4'
  have g4 := He.glo_ok X G (c.t.d.fact 4 (f := .glo "mask_of") rfl)
  have b4 := D4.bindsN (ps := ["lot"]) fun _ _ _ _ _ _ us hl => match us, hl with | [_], _ => rfl
  have F4 := He5.fun_of D4
  obtain ⟨e5, D5'⟩ := c.t.d.def_ 5 (d := d_lot_of) rfl
  have D5 : FunD K "lot_of" "lot_of" (defArgs st_lot_of) (defBody st_lot_of) (defScope st_lot_of) [] [] (He.fAd K ("lot_of", none)) e5 := D5'
  have g5 := He.glo_ok X G (c.t.d.fact 5 (f := .glo "lot_of") rfl)
  have b5 := D5.bindsN (ps := ["mask"]) fun _ _ _ _ _ _ us hl => match us, hl with | [_], _ => rfl
  have F5 := He5.fun_of D5
  obtain ⟨e6, D6'⟩ := c.t.d.def_ 6 (d := d_whole_mask) rfl
  have D6 : FunD K "whole_mask" "whole_mask" (defArgs st_whole_mask) (defBody st_whole_mask) (defScope st_whole_mask) [] [] (He.fAd K ("whole_mask", none)) e6 := D6'
  have g6 := He.glo_ok X G (c.t.d.fact 6 (f := .glo "whole_mask") rfl)
  have b6 := D6.bindsN (ps := ["land"]) fun _ _ _ _ _ _ us hl => match us, hl with | [_], _ => rfl
  have F6 := He5.fun_of D6
  obtain ⟨e7, D7'⟩ := c.t.d.def_ 7 (d := d_links_of) rfl
  have D7 : FunD K "links_of" "links_of" (defArgs st_links_of) (defBody st_links_of) (defScope st_links_of) [] [] (He.fAd K ("links_of", none)) e7 := D7'
  have g7 := He.glo_ok X G (c.t.d.fact 7 (f := .glo "links_of") rfl)
  have b7 := D7.bindsN (ps := ["land"]) fun _ _ _ _ _ _ us hl => match us, hl with | [_], _ => rfl
  have F7 := He5.fun_of D7
  obtain ⟨e8, D8'⟩ := c.t.d.def_ 8 (d := d_reached) rfl
  have D8 : FunD K "reached" "reached" (defArgs st_reached) (defBody st_reached) (defScope st_reached) [] [] (He.fAd K ("reached", none)) e8 := D8'
  have g8 := He.glo_ok X G (c.t.d.fact 8 (f := .glo "reached") rfl)
  have b8 := D8.bindsN (ps := ["links", "start", "mask"]) fun _ _ _ _ _ _ us hl => match us, hl with | [_, _, _], _ => rfl
  have F8 := He5.fun_of D8
  obtain ⟨e9, D9'⟩ := c.t.d.def_ 9 (d := d_hangs_together) rfl
  have D9 : FunD K "hangs_together" "hangs_together" (defArgs st_hangs_together) (defBody st_hangs_together) (defScope st_hangs_together) [] [] (He.fAd K ("hangs_together", none)) e9 := D9'
  have g9 := He.glo_ok X G (c.t.d.fact 9 (f := .glo "hangs_together") rfl)
  have b9 := D9.bindsN (ps := ["links", "mask"]) fun _ _ _ _ _ _ us hl => match us, hl with | [_, _], _ => rfl
  have F9 := He5.fun_of D9
  obtain ⟨e10, D10'⟩ := c.t.d.def_ 10 (d := d_is_border) rfl
  have D10 : FunD K "is_border" "is_border" (defArgs st_is_border) (defBody st_is_border) (defScope st_is_border) [] [] (He.fAd K ("is_border", none)) e10 := D10'
  have g10 := He.glo_ok X G (c.t.d.fact 10 (f := .glo "is_border") rfl)
  have b10 := D10.bindsN (ps := ["value", "many"]) fun _ _ _ _ _ _ us hl => match us, hl with | [_, _], _ => rfl
  have F10 := He5.fun_of D10
  obtain ⟨e11, D11'⟩ := c.t.d.def_ 11 (d := d_fault_of_folk) rfl
  have D11 : FunD K "fault_of_folk" "fault_of_folk" (defArgs st_fault_of_folk) (defBody st_fault_of_folk) (defScope st_fault_of_folk) [] [] (He.fAd K ("fault_of_folk", none)) e11 := D11'
  have g11 := He.glo_ok X G (c.t.d.fact 11 (f := .glo "fault_of_folk") rfl)
  have b11 := D11.bindsN (ps := ["folk"]) fun _ _ _ _ _ _ us hl => match us, hl with | [_], _ => rfl
  have F11 := He5.fun_of D11
  obtain ⟨e12, D12'⟩ := c.t.d.def_ 12 (d := d_fault_of_borders) rfl
  have D12 : FunD K "fault_of_borders" "fault_of_borders" (defArgs st_fault_of_borders) (defBody st_fault_of_borders) (defScope st_fault_of_borders) [] [] (He.fAd K ("fault_of_borders", none)) e12 := D12'
  have g12 := He.glo_ok X G (c.t.d.fact 12 (f := .glo "fault_of_borders") rfl)
  have b12 := D12.bindsN (ps := ["borders", "many"]) fun _ _ _ _ _ _ us hl => match us, hl with | [_, _], _ => rfl
  have F12 := He5.fun_of D12
  obtain ⟨e13, D13'⟩ := c.t.d.def_ 13 (d := d_fault_of_land) rfl
  have D13 : FunD K "fault_of_land" "fault_of_land" (defArgs st_fault_of_land) (defBody st_fault_of_land) (defScope st_fault_of_land) [] [] (He.fAd K ("fault_of_land", none)) e13 := D13'
  have g13 := He.glo_ok X G (c.t.d.fact 13 (f := .glo "fault_of_land") rfl)
  have b13 := D13.bindsN (ps := ["value"]) fun _ _ _ _ _ _ us hl => match us, hl with | [_], _ => rfl
  have F13 := He5.fun_of D13
  obtain ⟨e14, D14'⟩ := c.t.d.def_ 14 (d := d_fault_of_plan) rfl
  have D14 : FunD K "fault_of_plan" "fault_of_plan" (defArgs st_fault_of_plan) (defBody st_fault_of_plan) (defScope st_fault_of_plan) [] [] (He.fAd K ("fault_of_plan", none)) e14 := D14'
  have g14 := He.glo_ok X G (c.t.d.fact 14 (f := .glo "fault_of_plan") rfl)
  have b14 := D14.bindsN (ps := ["land", "value"]) fun _ _ _ _ _ _ us hl => match us, hl with | [_, _], _ => rfl
  have F14 := He5.fun_of D14
  obtain ⟨e15, D15'⟩ := c.t.d.def_ 15 (d := d_check_land) rfl
  have D15 : FunD K "check_land" "check_land" (defArgs st_check_land) (defBody st_check_land) (defScope st_check_land) [] [] (He.fAd K ("check_land", none)) e15 := D15'
  have g15 := He.glo_ok X G (c.t.d.fact 15 (f := .glo "check_land") rfl)
  have b15 := D15.bindsN (ps := ["land"]) fun _ _ _ _ _ _ us hl => match us, hl with | [_], _ => rfl
  have F15 := He5.fun_of D15
  obtain ⟨e16, D16'⟩ := c.t.d.def_ 16 (d := d_check_plan) rfl
  have D16 : FunD K "check_plan" "check_plan" (defArgs st_check_plan) (defBody st_check_plan) (defScope st_check_plan) [] [] (He.fAd K ("check_plan", none)) e16 := D16'
  have g16 := He.glo_ok X G (c.t.d.fact 16 (f := .glo "check_plan") rfl)
  have b16 := D16.bindsN (ps := ["land", "plan"]) fun _ _ _ _ _ _ us hl => match us, hl with | [_, _], _ => rfl
  have F16 := He5.fun_of D16
  obtain ⟨e17, D17'⟩ := c.t.d.def_ 17 (d := d_check_count) rfl
  have D17 : FunD K "check_count" "check_count" (defArgs st_check_count) (defBody st_check_count) (defScope st_check_count) [] [] (He.fAd K ("check_count", none)) e17 := D17'
  have g17 := He.glo_ok X G (c.t.d.fact 17 (f := .glo "check_count") rfl)
  have b17 := D17.bindsN (ps := ["count", "low", "high"]) fun _ _ _ _ _ _ us hl => match us, hl with | [_, _, _], _ => rfl
  have F17 := He5.fun_of D17
  obtain ⟨e18, D18'⟩ := c.t.d.def_ 18 (d := d_folk_within) rfl
  have D18 : FunD K "folk_within" "folk_within" (defArgs st_folk_within) (defBody st_folk_within) (defScope st_folk_within) [] [] (He.fAd K ("folk_within", none)) e18 := D18'
  have g18 := He.glo_ok X G (c.t.d.fact 18 (f := .glo "folk_within") rfl)
  have b18 := D18.bindsN (ps := ["land", "lot"]) fun _ _ _ _ _ _ us hl => match us, hl with | [_, _], _ => rfl
  have F18 := He5.fun_of D18
  obtain ⟨e19, D19'⟩ := c.t.d.def_ 19 (d := d_ward_row) rfl
  have D19 : FunD K "ward_row" "ward_row" (defArgs st_ward_row) (defBody st_ward_row) (defScope st_ward_row) [] [] (He.fAd K ("ward_row", none)) e19 := D19'
  have g19 := He.glo_ok X G (c.t.d.fact 19 (f := .glo "ward_row") rfl)
  have b19 := D19.bindsN (ps := ["plan"]) fun _ _ _ _ _ _ us hl => match us, hl with | [_], _ => rfl
  have F19 := He5.fun_of D19
  obtain ⟨e20, D20'⟩ := c.t.d.def_ 20 (d := d_sign_of) rfl
  have D20 : FunD K "sign_of" "sign_of" (defArgs st_sign_of) (defBody st_sign_of) (defScope st_sign_of) [] [] (He.fAd K ("sign_of", none)) e20 := D20'
  have g20 := He.glo_ok X G (c.t.d.fact 20 (f := .glo "sign_of") rfl)
  have b20 := D20.bindsN (ps := ["land", "row", "one", "other"]) fun _ _ _ _ _ _ us hl => match us, hl with | [_, _, _, _], _ => rfl
  have F20 := He5.fun_of D20
  obtain ⟨e21, D21'⟩ := c.t.d.def_ 21 (d := d_bar_of) rfl
  have D21 : FunD K "bar_of" "bar_of" (defArgs st_bar_of) (defBody st_bar_of) (defScope st_bar_of) [] [] (He.fAd K ("bar_of", none)) e21 := D21'
  have g21 := He.glo_ok X G (c.t.d.fact 21 (f := .glo "bar_of") rfl)
  have b21 := D21.bindsN (ps := ["folk", "most", "wide"]) fun _ _ _ _ _ _ us hl => match us, hl with | [_, _, _], _ => rfl
  have F21 := He5.fun_of D21
  obtain ⟨e22, D22'⟩ := c.t.d.def_ 22 (d := d_square) rfl
  have D22 : FunD K "square" "square" (defArgs st_square) (defBody st_square) (defScope st_square) [] [] (He.fAd K ("square", none)) e22 := D22'
  have g22 := He.glo_ok X G (c.t.d.fact 22 (f := .glo "square") rfl)
  have b22 := D22.bindsN (ps := ["land", "plan"]) fun _ _ _ _ _ _ us hl => match us, hl with | [_, _], _ => rfl
  have F22 := He5.fun_of D22
  obtain ⟨e23, D23'⟩ := c.t.d.def_ 23 (d := d_bars) rfl
  have D23 : FunD K "bars" "bars" (defArgs st_bars) (defBody st_bars) (defScope st_bars) [] [] (He.fAd K ("bars", none)) e23 := D23'
  have g23 := He.glo_ok X G (c.t.d.fact 23 (f := .glo "bars") rfl)
  have b23 := D23.bindsN (ps := ["land", "plan", "wide"]) fun _ _ _ _ _ _ us hl => match us, hl with | [_, _, _], _ => rfl
  have F23 := He5.fun_of D23
  obtain ⟨e24, D24'⟩ := c.t.d.def_ 24 (d := d_listed) rfl
  have D24 : FunD K "listed" "listed" (defArgs st_listed) (defBody st_listed) (defScope st_listed) [] [] (He.fAd K ("listed", none)) e24 := D24'
  have g24 := He.glo_ok X G (c.t.d.fact 24 (f := .glo "listed") rfl)
  have b24 := D24.bindsN (ps := ["land", "plan"]) fun _ _ _ _ _ _ us hl => match us, hl with | [_, _], _ => rfl
  have F24 := He5.fun_of D24
  obtain ⟨e25, D25'⟩ := c.t.d.def_ 25 (d := d__law_spring) rfl
  have D25 : FunD K "_law_spring" "_law_spring" (defArgs st__law_spring) (defBody st__law_spring) (defScope st__law_spring) [] [] (He.fAd K ("_law_spring", none)) e25 := D25'
  have g25 := He.glo_ok X G (c.t.d.fact 25 (f := .glo "_law_spring") rfl)
  have b25 := D25.bindsN (ps := ["script"]) fun _ _ _ _ _ _ us hl => match us, hl with | [_], _ => rfl
  have F25 := He5.fun_of D25
  obtain ⟨e26, D26'⟩ := c.t.d.def_ 26 (d := d__law_drop) rfl
  have D26 : FunD K "_law_drop" "_law_drop" (defArgs st__law_drop) (defBody st__law_drop) (defScope st__law_drop) [] [] (He.fAd K ("_law_drop", none)) e26 := D26'
  have g26 := He.glo_ok X G (c.t.d.fact 26 (f := .glo "_law_drop") rfl)
  have b26 := D26.bindsN (ps := ["spring", "many"]) fun _ _ _ _ _ _ us hl => match us, hl with | [_, _], _ => rfl
  have F26 := He5.fun_of D26
  obtain ⟨e27, D27'⟩ := c.t.d.def_ 27 (d := d__law_kinds) rfl
  have D27 : FunD K "_law_kinds" "_law_kinds" (defArgs st__law_kinds) (defBody st__law_kinds) (defScope st__law_kinds) [] [] (He.fAd K ("_law_kinds", none)) e27 := D27'
  have g27 := He.glo_ok X G (c.t.d.fact 27 (f := .glo "_law_kinds") rfl)
  have b27 := D27.bindsN (ps := ["thing"]) fun _ _ _ _ _ _ us hl => match us, hl with | [_], _ => rfl
  have F27 := He5.fun_of D27
  obtain ⟨e28, D28'⟩ := c.t.d.def_ 28 (d := d__law_alike) rfl
  have D28 : FunD K "_law_alike" "_law_alike" (defArgs st__law_alike) (defBody st__law_alike) (defScope st__law_alike) [] [] (He.fAd K ("_law_alike", none)) e28 := D28'
  have g28 := He.glo_ok X G (c.t.d.fact 28 (f := .glo "_law_alike") rfl)
  have b28 := D28.bindsN (ps := ["found", "due"]) fun _ _ _ _ _ _ us hl => match us, hl with | [_, _], _ => rfl
  have F28 := He5.fun_of D28
  obtain ⟨e29, D29'⟩ := c.t.d.def_ 29 (d := d__law_order) rfl
  have D29 : FunD K "_law_order" "_law_order" (defArgs st__law_order) (defBody st__law_order) (defScope st__law_order) [] [] (He.fAd K ("_law_order", none)) e29 := D29'
  have g29 := He.glo_ok X G (c.t.d.fact 29 (f := .glo "_law_order") rfl)
  have b29 := D29.bindsN (ps := ["spring", "many"]) fun _ _ _ _ _ _ us hl => match us, hl with | [_, _], _ => rfl
  have F29 := He5.fun_of D29
  obtain ⟨e30, D30'⟩ := c.t.d.def_ 30 (d := d__law_land) rfl
  have D30 : FunD K "_law_land" "_law_land" (defArgs st__law_land) (defBody st__law_land) (defScope st__law_land) [] [] (He.fAd K ("_law_land", none)) e30 := D30'
  have g30 := He.glo_ok X G (c.t.d.fact 30 (f := .glo "_law_land") rfl)
  have b30 := D30.bindsN (ps := ["spring", "places"]) fun _ _ _ _ _ _ us hl => match us, hl with | [_, _], _ => rfl
  have F30 := He5.fun_of D30
  obtain ⟨e31, D31'⟩ := c.t.d.def_ 31 (d := d__law_near) rfl
  have D31 : FunD K "_law_near" "_law_near" (defArgs st__law_near) (defBody st__law_near) (defScope st__law_near) [] [] (He.fAd K ("_law_near", none)) e31 := D31'
  have g31 := He.glo_ok X G (c.t.d.fact 31 (f := .glo "_law_near") rfl)
  have b31 := D31.bindsN (ps := ["land", "place"]) fun _ _ _ _ _ _ us hl => match us, hl with | [_, _], _ => rfl
  have F31 := He5.fun_of D31
  obtain ⟨e32, D32'⟩ := c.t.d.def_ 32 (d := d__law_reached) rfl
  have D32 : FunD K "_law_reached" "_law_reached" (defArgs st__law_reached) (defBody st__law_reached) (defScope st__law_reached) [] [] (He.fAd K ("_law_reached", none)) e32 := D32'
  have g32 := He.glo_ok X G (c.t.d.fact 32 (f := .glo "_law_reached") rfl)
  have b32 := D32.bindsN (ps := ["land", "lot", "place"]) fun _ _ _ _ _ _ us hl => match us, hl with | [_, _, _], _ => rfl
  have F32 := He5.fun_of D32
  obtain ⟨e33, D33'⟩ := c.t.d.def_ 33 (d := d__law_pieces) rfl
  have D33 : FunD K "_law_pieces" "_law_pieces" (defArgs st__law_pieces) (defBody st__law_pieces) (defScope st__law_pieces) [] [] (He.fAd K ("_law_pieces", none)) e33 := D33'
  have g33 := He.glo_ok X G (c.t.d.fact 33 (f := .glo "_law_pieces") rfl)
  have b33 := D33.bindsN (ps := ["land", "lot"]) fun _ _ _ _ _ _ us hl => match us, hl with | [_, _], _ => rfl
  have F33 := He5.fun_of D33
  obtain ⟨e34, D34'⟩ := c.t.d.def_ 34 (d := d__law_plan) rfl
  have D34 : FunD K "_law_plan" "_law_plan" (defArgs st__law_plan) (defBody st__law_plan) (defScope st__law_plan) [] [] (He.fAd K ("_law_plan", none)) e34 := D34'
  have g34 := He.glo_ok X G (c.t.d.fact 34 (f := .glo "_law_plan") rfl)
  have b34 := D34.bindsN (ps := ["spring", "land"]) fun _ _ _ _ _ _ us hl => match us, hl with | [_, _], _ => rfl
  have F34 := He5.fun_of D34
  obtain ⟨e35, D35'⟩ := c.t.d.def_ 35 (d := d__law_owners) rfl
  have D35 : FunD K "_law_owners" "_law_owners" (defArgs st__law_owners) (defBody st__law_owners) (defScope st__law_owners) [] [] (He.fAd K ("_law_owners", none)) e35 := D35'
  have g35 := He.glo_ok X G (c.t.d.fact 35 (f := .glo "_law_owners") rfl)
  have b35 := D35.bindsN (ps := ["land", "plan"]) fun _ _ _ _ _ _ us hl => match us, hl with | [_, _], _ => rfl
  have F35 := He5.fun_of D35
  obtain ⟨e36, D36'⟩ := c.t.d.def_ 36 (d := d__law_square) rfl
  have D36 : FunD K "_law_square" "_law_square" (defArgs st__law_square) (defBody st__law_square) (defScope st__law_square) [] [] (He.fAd K ("_law_square", none)) e36 := D36'
  have g36 := He.glo_ok X G (c.t.d.fact 36 (f := .glo "_law_square") rfl)
  have b36 := D36.bindsN (ps := ["land", "plan"]) fun _ _ _ _ _ _ us hl => match us, hl with | [_, _], _ => rfl
  have F36 := He5.fun_of D36
  obtain ⟨e37, D37'⟩ := c.t.d.def_ 37 (d := d__law_bars) rfl
  have D37 : FunD K "_law_bars" "_law_bars" (defArgs st__law_bars) (defBody st__law_bars) (defScope st__law_bars) [] [] (He.fAd K ("_law_bars", none)) e37 := D37'
  have g37 := He.glo_ok X G (c.t.d.fact 37 (f := .glo "_law_bars") rfl)
  have b37 := D37.bindsN (ps := ["sizes", "wide"]) fun _ _ _ _ _ _ us hl => match us, hl with | [_, _], _ => rfl
  have F37 := He5.fun_of D37
  obtain ⟨e38, D38'⟩ := c.t.d.def_ 38 (d := d_law) rfl
  have D38 : FunD K "law" "law" (defArgs st_law) (defBody st_law) (defScope st_law) [] [] (He.fAd K ("law", none)) e38 := D38'
  have g38 := He.glo_ok X G (c.t.d.fact 38 (f := .glo "law") rfl)
  have b38 := D38.bindsN (ps := ["script"]) fun _ _ _ _ _ _ us hl => match us, hl with | [_], _ => rfl
  have F38 := He5.fun_of D38
  have B : Bl mg := ⟨He.free_ok X G (c.t.d.fact 39 (f := .free "type") rfl), He.free_ok X G (c.t.d.fact 40 (f := .free "len") rfl), He.free_ok X G (c.t.d.fact 41 (f := .free "all") rfl), He.free_ok X G (c.t.d.fact 42 (f := .free "sum") rfl), He.free_ok X G (c.t.d.fact 43 (f := .free "tuple") rfl), He.free_ok X G (c.t.d.fact 44 (f := .free "list") rfl), He.free_ok X G (c.t.d.fact 45 (f := .free "range") rfl), He.free_ok X G (c.t.d.fact 46 (f := .free "int") rfl), He.free_ok X G (c.t.d.fact 47 (f := .free "bool") rfl), He.free_ok X G (c.t.d.fact 48 (f := .free "str") rfl), He.free_ok X G (c.t.d.fact 49 (f := .free "min") rfl), He.free_ok X G (c.t.d.fact 50 (f := .free "max") rfl), He.free_ok X G (c.t.d.fact 51 (f := .free "sorted") rfl), He.free_ok X G (c.t.d.fact 52 (f := .free "isinstance") rfl), He.free_ok X G (c.t.d.fact 53 (f := .free "set") rfl)⟩
  have N : Nums mg := ⟨He.int_ok X G (c.t.d.fact 54 (f := .int "FEWEST_PLACES" 2) rfl), He.int_ok X G (c.t.d.fact 55 (f := .int "MOST_PLACES" 12) rfl), He.int_ok X G (c.t.d.fact 56 (f := .int "MOST_FOLK" 1000000) rfl)⟩
  have NX0 := He.int_ok X G (c.t.d.fact 57 (f := .int "MOST_WIDE" 100) rfl)
  have XS0 := He.str_ok X G (c.t.d.fact 58 (f := .str "LETTERS" "abcdefghijkl") rfl)
  have LT : Lets mg := ⟨XS0⟩
  have WD : Wide mg := ⟨NX0⟩
  cases hfa.symm.trans g38
  have CF0 := funC_of D3
  have CF1 := funC_of D2
  have CF2 := funC_of D4
  have CF3 := funC_of D5
  have CF4 := funC_of D18
  have CF5 := funC_of D23
  have CF6 := funC_of D24
  have mem : ∀ i (p : He.Defn), tfl[i]? = some p → p ∈ tfl := fun i p e => List.mem_of_getElem? e
  refine ⟨_, tfl.map (He.cT K), spLaw K [(He.cT K ("is_lot", none)).2, (He.cT K ("is_ascending", none)).2, (He.cT K ("mask_of", none)).2, (He.cT K ("lot_of", none)).2, (He.cT K ("folk_within", none)).2, (He.cT K ("bars", none)).2, (He.cT K ("listed", none)).2], fun p hp => ?_, fun p hp => ?_, fun p hp => ?_, fun s u => FunD.bindsA D38 (ps := ["script"]) (fun _ _ _ _ _ _ us hl => match us, hl with | [_], _ => rfl) s [u] rfl, fun H a ns hl _ hH hS => ?_, fun base hb hg hTB => ?_⟩
  · obtain ⟨q, hq, rfl⟩ := List.mem_map.mp hp
    exact c.empty q hq
  · obtain ⟨q, hq, rfl⟩ := List.mem_map.mp hp
    exact c.out q hq
  · obtain ⟨q, hq, rfl⟩ := List.mem_map.mp hp
    exact PySem.W.codeHd_of_K X (c.hd q hq)
  · have hz : ∀ q, q ∈ tfl → Gx.TabG H (He.cT K q).2 := fun q hq => ⟨#[], hH _ (List.mem_map.mpr ⟨q, hq, rfl⟩), by first | exact trivial | simp [GxR.TriplesOk] | simp⟩
    refine ⟨a, ns, rfl, hS, hl, fun Pt hPt => ?_, fun _ => rfl⟩
    simp only [List.mem_cons, List.mem_nil_iff, or_false] at hPt
    rcases hPt with e | e | e | e | e | e | e <;> rw [e] <;> exact hz _ (by simp [tfl])
  · have tb : ∀ q, q ∈ tfl → TabB base mg (He.cT K q).1 (He.cT K q).2 := fun q hq => hTB _ (List.mem_map.mpr ⟨q, hq, rfl⟩)
    have TB0 := tb ("is_lot", none) (by simp [tfl])
    have TB1 := tb ("is_ascending", none) (by simp [tfl])
    have TB2 := tb ("mask_of", none) (by simp [tfl])
    have TB3 := tb ("lot_of", none) (by simp [tfl])
    have TB4 := tb ("folk_within", none) (by simp [tfl])
    have TB5 := tb ("bars", none) (by simp [tfl])
    have TB6 := tb ("listed", none) (by simp [tfl])
    have ci : Cal l.prog w K mg base 1 "is_integer" _ _ := ⟨_, _, ok_is_integer F0 B, g0, D0.kp, b0⟩
    have cp : Cal l.prog w K mg base 2 "is_place" _ _ := ⟨_, _, ok_is_place F1 B ci, g1, D1.kp, b1⟩
    have ca : Cal l.prog w K mg base 4 "is_ascending" _ _ := ⟨_, _, ok_is_ascending CF1 TB1 B, g2, D2.kp, b2⟩
    have cl : Cal l.prog w K mg base 6 "is_lot" _ _ := ⟨_, _, ok_is_lot CF0 TB0 B cp ca, g3, D3.kp, b3⟩
    have cm : Cal l.prog w K mg base 4 "mask_of" _ _ := ⟨_, _, ok_mask_of CF2 TB2 B, g4, D4.kp, b4⟩
    have clo : Cal l.prog w K mg base 6 "lot_of" _ _ := ⟨_, _, ok_lot_of CF3 TB3 B, g5, D5.kp, b5⟩
    have cw : Cal l.prog w K mg base 1 "whole_mask" _ _ := ⟨_, _, ok_whole_mask F6 B, g6, D6.kp, b6⟩
    have clk : Cal l.prog w K mg base 1 "links_of" _ _ := ⟨_, _, ok_links_of F7 B, g7, D7.kp, b7⟩
    have cre : Cal l.prog w K mg base 7 "reached" _ _ := ⟨_, _, ok_reached F8 B clo, g8, D8.kp, b8⟩
    have cht : Cal l.prog w K mg base 8 "hangs_together" _ _ := ⟨_, _, ok_hangs_together F9 cre, g9, D9.kp, b9⟩
    have cib : Cal l.prog w K mg base 2 "is_border" _ _ := ⟨_, _, ok_is_border F10 B ci, g10, D10.kp, b10⟩
    have cff : Cal l.prog w K mg base 2 "fault_of_folk" _ _ := ⟨_, _, ok_fault_of_folk F11 B N ci, g11, D11.kp, b11⟩
    have cfb : Cal l.prog w K mg base 3 "fault_of_borders" _ _ := ⟨_, _, ok_fault_of_borders F12 B cib, g12, D12.kp, b12⟩
    have cfl : Cal l.prog w K mg base 4 "fault_of_land" _ _ := ⟨_, _, ok_fault_of_land F13 B cff cfb, g13, D13.kp, b13⟩
    have cfp : Cal l.prog w K mg base 9 "fault_of_plan" _ _ := ⟨_, _, ok_fault_of_plan F14 B cl cm clk cht cw, g14, D14.kp, b14⟩
    have ckl : Cal l.prog w K mg base 5 "check_land" _ _ := ⟨_, _, ok_check_land F15 cfl, g15, D15.kp, b15⟩
    have ckp : Cal l.prog w K mg base 10 "check_plan" _ _ := ⟨_, _, ok_check_plan F16 cfp, g16, D16.kp, b16⟩
    have ckc : Cal l.prog w K mg base 2 "check_count" _ _ := ⟨_, _, ok_check_count F17 ci, g17, D17.kp, b17⟩
    have cfw : Cal l.prog w K mg base 4 "folk_within" _ _ := ⟨_, _, ok_folk_within CF4 TB4 B, g18, D18.kp, b18⟩
    have cwr : Cal l.prog w K mg base 1 "ward_row" _ _ := ⟨_, _, ok_ward_row F19 B, g19, D19.kp, b19⟩
    have csg : Cal l.prog w K mg base 1 "sign_of" _ _ := ⟨_, _, ok_sign_of F20 B LT, g20, D20.kp, b20⟩
    have cbo : Cal l.prog w K mg base 1 "bar_of" _ _ := ⟨_, _, ok_bar_of F21 B, g21, D21.kp, b21⟩
    have sq1 : Cal l.prog w K mg base 11 "square" _ _ := ⟨_, _, ok_square F22 B ckl ckp cwr csg, g22, D22.kp, b22⟩
    have sq2 : CalK l.prog w K mg base 11 "square" ["land", "plan"] ["plan", "land"] swp _ := ⟨_, _, ok_square F22 B ckl ckp cwr csg, g22, D22.kp, kb_swp F22 fun _ _ _ _ _ _ _ _ => rfl⟩
    have ba1 : Cal l.prog w K mg base 11 "bars" _ _ := ⟨_, _, ok_bars CF5 TB5 B LT WD ckl ckp ckc cfw cbo, g23, D23.kp, b23⟩
    have ba2 : CalK l.prog w K mg base 11 "bars" ["land", "plan", "wide"] ["wide", "plan", "land"] rev3 _ := ⟨_, _, ok_bars CF5 TB5 B LT WD ckl ckp ckc cfw cbo, g23, D23.kp, kb_rev3 F23 fun _ _ _ _ _ _ _ _ _ => rfl⟩
    have li1 : Cal l.prog w K mg base 11 "listed" _ _ := ⟨_, _, ok_listed CF6 TB6 B LT ckl ckp cfw, g24, D24.kp, b24⟩
    have li2 : CalK l.prog w K mg base 11 "listed" ["land", "plan"] ["plan", "land"] swp _ := ⟨_, _, ok_listed CF6 TB6 B LT ckl ckp cfw, g24, D24.kp, kb_swp F24 fun _ _ _ _ _ _ _ _ => rfl⟩
    have csp : Cal l.prog w K mg base 1 "_law_spring" _ _ := ⟨_, _, ok_law_spring F25 B, g25, D25.kp, b25⟩
    have cdr : Cal l.prog w K mg base 1 "_law_drop" _ _ := ⟨_, _, ok_law_drop F26 B, g26, D26.kp, b26⟩
    have cki : Cal l.prog w K mg base 1 "_law_kinds" _ _ := ⟨_, _, ok_law_kinds F27 B, g27, D27.kp, b27⟩
    have cal : Cal l.prog w K mg base 6 "_law_alike" _ _ := ⟨_, _, ok_law_alike F28 B g28 b28 cki 4, g28, D28.kp, b28⟩
    have cor : Cal l.prog w K mg base 2 "_law_order" _ _ := ⟨_, _, ok_law_order F29 B cdr, g29, D29.kp, b29⟩
    have cln : Cal l.prog w K mg base 3 "_law_land" _ _ := ⟨_, _, ok_law_land F30 B cdr cor, g30, D30.kp, b30⟩
    have cne : Cal l.prog w K mg base 1 "_law_near" _ _ := ⟨_, _, ok_law_near F31 B, g31, D31.kp, b31⟩
    have clr : Cal l.prog w K mg base 2 "_law_reached" _ _ := ⟨_, _, ok_law_reached F32 B cne, g32, D32.kp, b32⟩
    have clp : Cal l.prog w K mg base 3 "_law_pieces" _ _ := ⟨_, _, ok_law_pieces F33 B clr, g33, D33.kp, b33⟩
    have cpl : Cal l.prog w K mg base 4 "_law_plan" _ _ := ⟨_, _, ok_law_plan F34 B cdr clp, g34, D34.kp, b34⟩
    have cow : Cal l.prog w K mg base 1 "_law_owners" _ _ := ⟨_, _, ok_law_owners F35 B, g35, D35.kp, b35⟩
    have cls : Cal l.prog w K mg base 2 "_law_square" _ _ := ⟨_, _, ok_law_square F36 B cow cne, g36, D36.kp, b36⟩
    have clb : Cal l.prog w K mg base 1 "_law_bars" _ _ := ⟨_, _, ok_law_bars F37 B, g37, D37.kp, b37⟩
    exact ok_law F38 B csp cdr cln cpl clp cal cls clb sq1 sq2 ba1 ba2 li1 li2
end Wd

set_option Elab.async false
set_option linter.all false
set_option maxRecDepth 100000
set_option maxHeartbeats 4000000
namespace Wd
open PySem PySem.Spec PyProof.Rows L2 Bx Gx













































/-! ### the run of the top -/
abbrev R : PySem.W.OpenRow := PySem.W.OpenLaw.row PySem.Challenge.rw_wardsdrawn_k07_squares_bars_and_lists
abbrev hk : PySem.W.Hook := He.hookX 6 fal fnl [] tfl (fun _ => true)
def ob (s : PySem.W.SharedT) : He.AlX := He.obsX 6 fal fnl [] tfl (fun _ => true) (HandSHeadRun.getT s)
theorem ob_eq (s : PySem.W.SharedT) : ob s = hk.obs s.abs := He.obsX_eq (HandSHeadRun.getT_eq s)
def names : List PySem.Str := ([("WardError" : PySem.Str), ("InvalidCount" : PySem.Str), ("InvalidLand" : PySem.Str), ("InvalidPlan" : PySem.Str), ("FEWEST_PLACES" : PySem.Str), ("MOST_PLACES" : PySem.Str), ("MOST_FOLK" : PySem.Str), ("is_integer" : PySem.Str)] : List PySem.Str) ++ ([("is_ascending" : PySem.Str), ("is_place" : PySem.Str), ("is_lot" : PySem.Str), ("mask_of" : PySem.Str), ("lot_of" : PySem.Str), ("whole_mask" : PySem.Str), ("links_of" : PySem.Str), ("reached" : PySem.Str)] : List PySem.Str) ++ ([("hangs_together" : PySem.Str), ("fault_of_land" : PySem.Str), ("fault_of_folk" : PySem.Str), ("fault_of_borders" : PySem.Str), ("is_border" : PySem.Str), ("fault_of_plan" : PySem.Str), ("check_land" : PySem.Str), ("check_plan" : PySem.Str)] : List PySem.Str) ++ ([("check_count" : PySem.Str), ("folk_within" : PySem.Str), ("ward_row" : PySem.Str), ("LETTERS" : PySem.Str), ("MOST_WIDE" : PySem.Str), ("square" : PySem.Str), ("bars" : PySem.Str), ("listed" : PySem.Str)] : List PySem.Str) ++ ([("sign_of" : PySem.Str), ("bar_of" : PySem.Str), ("_law_spring" : PySem.Str), ("_law_drop" : PySem.Str), ("_law_kinds" : PySem.Str), ("_law_alike" : PySem.Str), ("_law_land" : PySem.Str), ("_law_order" : PySem.Str)] : List PySem.Str) ++ ([("_law_near" : PySem.Str), ("_law_reached" : PySem.Str), ("_law_pieces" : PySem.Str), ("_law_plan" : PySem.Str), ("_law_some" : PySem.Str), ("_law_owners" : PySem.Str), ("_law_square" : PySem.Str), ("_law_bars" : PySem.Str)] : List PySem.Str)
theorem run (w : World) : HandSHeadRun.RunEq R (PySem.W.view R.prog [53]) hk ob 6000 names w := by
  intro os
  kernel_rfl
end Wd
open PySem PySem.W PySem.Calls PyProof.Rows
set_option maxHeartbeats 0
theorem PySem.Challenge.cw_wardsdrawn_k07_squares_bars_and_lists_holds : PySem.Challenge.rw_wardsdrawn_k07_squares_bars_and_lists.Holds := by
  w_on; o_law
  refine HandSHeadRun.head_any (r := OpenLaw.row PySem.Challenge.rw_wardsdrawn_k07_squares_bars_and_lists) (q := view (OpenLaw.row PySem.Challenge.rw_wardsdrawn_k07_squares_bars_and_lists).prog [53]) (H := Wd.hk) (ob := Wd.ob) (M := 6000) (loose := Wd.names) (d := HandSHeadRun.topDef (OpenLaw.row PySem.Challenge.rw_wardsdrawn_k07_squares_bars_and_lists).prog 53) (kwd := []) Wd.ob_eq
    (by kernel_rfl) (fun s => by kernel_rfl) Wd.run (by kernel_rfl) (by kernel_rfl) (by kernel_rfl) (by rfl) (by first | assumption | decide +kernel) (by decide +kernel) ⟨rfl, rfl, rfl, rfl, rfl, by decide +kernel⟩ ?hw ?hc
  case hw => w_witness2
  case hc =>
    refine LamX.walk_ofTsE (l := PySem.Challenge.rw_wardsdrawn_k07_squares_bars_and_lists) (n := 63) (k := 12) (x := "script") (CX := fun _ => L2.CX0) rfl (by decide) (by kernel_rfl) ⟨rfl, by decide, by decide⟩ ?F (fun _ _ _ _ _ z => z)
    intro w mg fa h Y G hmg0
    obtain ⟨K, KX, c⟩ := Y
    have hmg : mg ("law" : PySem.Str) = some (.ref fa) := by
      have e : (HandSHeadRun.topDef (OpenLaw.row PySem.Challenge.rw_wardsdrawn_k07_squares_bars_and_lists).prog 53).name = ("law" : PySem.Str) := by kernel_rfl
      rw [← e]
      exact hmg0
    exact ⟨K, KX, Wd.facts KX G hmg c⟩
namespace Wd
end Wd
